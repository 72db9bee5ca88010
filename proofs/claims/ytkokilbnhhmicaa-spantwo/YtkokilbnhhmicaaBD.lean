/- A part of the proof: contracts of the functions that the statements reach. -/
import Derived.Test.YtkokilbnhhmicaaRows
import Derived.Test.YtkokilbnhhmicaaBA
import Derived.Test.YtkokilbnhhmicaaBB
import Derived.Test.YtkokilbnhhmicaaBC
import Derived.Laws.IdiomCopy
import Derived.Deep.AppendLies
import Derived.Deep.LoopGhost

/- Contract of the reference's Shift. -/
namespace Go.Proofs.Ytkokilbnhhmicaa
open Go.RowKit Go.Sort Go.Proofs.Ytkokilbnhhmicaa.Bo
set_option linter.unusedVariables false

set_option maxRecDepth 100000 in
set_option maxHeartbeats 1000000 in
theorem rshift_any (s a d : Int) (w : World) (ha : I64 a) (hd : I64 d) :
    Calls Try.prog 66 #[.agg #[.int .i64 s, .int .i64 a], .int .i64 d] w fun e w' => e = .returned (.tuple #[.agg #[.int .i64 (sd (shk (key s a) d)), .int .i64 (pa (shk (key s a) d))], .bool (shb (key s a) d)]) ∧ Below w.heap.size w w' := by
  have hk := key_ky s a ha
  have HC := Lib.hid (fun W => rcanon_any s a W ha)
  have hT0 : Two w.heap.size s a 0 0 ((w.alloc (.cells #[.int .i64 s, .int .i64 a] 23)).alloc (.cells #[.int .i64 0, .int .i64 0] 23)) := ⟨heap_alloc2_old _ _ _, heap_alloc2_new _ _ _⟩
  have hL : Below w.heap.size w ((w.alloc (.cells #[.int .i64 s, .int .i64 a] 23)).alloc (.cells #[.int .i64 0, .int .i64 0] 23)) := ((Below.refl _ _).alloc (Nat.le_refl _) _).alloc (by simp) _
  have HT := Lib.hid hT0
  clear hT0
  generalize key s a = k at *
  clear ha
  rcases ky_cases k hk with ⟨hk1, h1, h2⟩ | ⟨hk1, h1, h2⟩ | ⟨g1, g2, h1, h2⟩
  · rw [h1, h2] at HC
    have HE := Lib.hid (sh_end k d (.inl hk1))
    have HF : Hid (sd k = (-1) ∧ pa k = 0) := ⟨h1, h2⟩
    clear h1 h2 hk hk1
    go_enter Try.func66, Try.ntmps66
    go_wp2_with fail
    refine (HC.out _).mono ?_
    rintro e w1 ⟨rfl, hB1⟩
    have hT1 := HT.out.below hB1
    have hT2 := hT1.put0 (-1) 0
    have hL1 := ((bt hL hB1).setCell (p := ⟨w.heap.size, 0, none⟩) (by simp) (.int .i64 (-1))).setCell (p := ⟨w.heap.size, 1, none⟩) (by simp) (.int .i64 0)
    obtain ⟨c1, c2, c3, c4, c5, c6, c7, c8⟩ := hT1.cells
    have HT2 := Lib.hid hT2
    obtain ⟨f1, f2, f3, f4, f5, f6, f7, f8⟩ := hT2.cells
    clear hT1 hT2 hB1
    obtain ⟨_, _, d3, d4, _, _, _, _⟩ := (HT2.out.put1 (-1) 0).cells
    have hL9 := (hL1.setCell (p := ⟨w.heap.size + 1, 0, none⟩) (by simp) (.int .i64 (-1))).setCell (p := ⟨w.heap.size + 1, 1, none⟩) (by simp) (.int .i64 0)
    go_wp2_with fail
    refine bodyPost_ret (v := .tuple #[.agg #[.int .i64 (-1), .int .i64 0], .bool true]) (by simp [results, Try.results66, go_sem, d3, d4]) rfl ?_
    exact ⟨ret_cb (by rw [HE.out.1]; exact HF.out.1.symm) (by rw [HE.out.1]; exact HF.out.2.symm) HE.out.2.symm, hL9⟩
  · rw [h1, h2] at HC
    have HE := Lib.hid (sh_end k d (.inr hk1))
    have HF : Hid (sd k = 1 ∧ pa k = 0) := ⟨h1, h2⟩
    clear h1 h2 hk hk1
    go_enter Try.func66, Try.ntmps66
    go_wp2_with fail
    refine (HC.out _).mono ?_
    rintro e w1 ⟨rfl, hB1⟩
    have hT1 := HT.out.below hB1
    have hT2 := hT1.put0 1 0
    have hL1 := ((bt hL hB1).setCell (p := ⟨w.heap.size, 0, none⟩) (by simp) (.int .i64 1)).setCell (p := ⟨w.heap.size, 1, none⟩) (by simp) (.int .i64 0)
    obtain ⟨c1, c2, c3, c4, c5, c6, c7, c8⟩ := hT1.cells
    have HT2 := Lib.hid hT2
    obtain ⟨f1, f2, f3, f4, f5, f6, f7, f8⟩ := hT2.cells
    clear hT1 hT2 hB1
    obtain ⟨_, _, d3, d4, _, _, _, _⟩ := (HT2.out.put1 1 0).cells
    have hL9 := (hL1.setCell (p := ⟨w.heap.size + 1, 0, none⟩) (by simp) (.int .i64 1)).setCell (p := ⟨w.heap.size + 1, 1, none⟩) (by simp) (.int .i64 0)
    go_wp2_with fail
    refine bodyPost_ret (v := .tuple #[.agg #[.int .i64 1, .int .i64 0], .bool true]) (by simp [results, Try.results66, go_sem, d3, d4]) rfl ?_
    exact ⟨ret_cb (by rw [HE.out.1]; exact HF.out.1.symm) (by rw [HE.out.1]; exact HF.out.2.symm) HE.out.2.symm, hL9⟩
  · have hi : I64 k := by unfold I64; omega
    rw [h1, h2] at HC
    have HK := Lib.hid hi
    have HD := Lib.hid hd
    clear hd h1 h2 hk
    by_cases hin : -9223372036854775808 < k + d ∧ k + d < 9223372036854775808
    · have hI : clamp (k + d) = k + d := clamp_in _ (by unfold I64; omega)
      have HE := Lib.hid (sh_in k d g1 g2 hin)
      have t2 : (k + d == -9223372036854775808) = false := beq_eq_false_iff_ne.2 (by omega)
      have t3 : -9223372036854775808 < k + d := hin.1
      have t4 : k + d < 9223372036854775808 := hin.2
      have HI := Lib.hid hI
      clear hin hI
      go_enter Try.func66, Try.ntmps66
      go_wp2_with fail
      refine (HC.out _).mono ?_
      rintro e w1 ⟨rfl, hB1⟩
      have hT1 := HT.out.below hB1
      have hT2 := hT1.put0 0 k
      have hL1 := ((bt hL hB1).setCell (p := ⟨w.heap.size, 0, none⟩) (by simp) (.int .i64 0)).setCell (p := ⟨w.heap.size, 1, none⟩) (by simp) (.int .i64 k)
      obtain ⟨c1, c2, c3, c4, c5, c6, c7, c8⟩ := hT1.cells
      have HT2 := Lib.hid hT2
      obtain ⟨f1, f2, f3, f4, f5, f6, f7, f8⟩ := hT2.cells
      clear hT1 hT2 hB1
      go_wp2_with fail
      generalize (w1.setCell ⟨w.heap.size, 0, none⟩ (.int .i64 0)).setCell ⟨w.heap.size, 1, none⟩ (.int .i64 k) = X at *
      clear c1 c2 c3 c4 c5 c6 c7 c8 f1 f2 f3 f4 f5 f6 f7 f8
      refine (of_big _ _ HK.out).mono ?_
      rintro e y1 ⟨V1, rfl, hV1, hB1⟩
      have HV1 := Lib.hid hV1
      clear hV1
      go_wp2_with fail
      refine (of_big _ _ HD.out).mono ?_
      rintro e y2 ⟨V2, rfl, hV2, hB2⟩
      have HV2 := Lib.hid hV2
      clear hV2
      go_wp2_with fail
      refine (plus_any _ _ _ _ _ _ _ (HV1.out.below hB2) HV2.out (by omega) (by omega)).mono ?_
      rintro e y3 ⟨V3, rfl, hV3, hB3⟩
      have HV3 := Lib.hid hV3
      obtain ⟨s1, v1, xs1, rfl, hs1, hd1, ok1, hl1, hz1, h01⟩ := hV3
      obtain ⟨a1, n1, c1, rfl⟩ := slice_of_dg hd1
      clear hs1 hd1 ok1 hl1 hz1 h01
      have hB4 : Below y3.heap.size y3 (y3.alloc (.cells #[.int .i64 s1, .slice a1 n1 c1] 68)) := (Below.refl _ _).alloc (Nat.le_refl _) _
      have hm := heap_alloc_new y3 (.cells #[.int .i64 s1, .slice a1 n1 c1] 68)
      have HV4 := Lib.hid (HV3.out.below hB4)
      have HB := bt (bt (bt hB1 hB2) hB3) hB4
      have HM := Lib.hid hm
      have HT4 := Lib.hid (HT2.out.below HB)
      have hL4 := bt hL1 HB
      clear hm HV1 HV2 HV3 hB1 hB2 hB3 hB4 HB hL1 HT2
      go_wp2_with fail
      generalize y3.alloc (.cells #[.int .i64 s1, .slice a1 n1 c1] 68) = y4 at *
      refine (is_big _ _ _ _ HV4.out (by omega)).mono ?_
      rintro e y5 ⟨rfl, hB5⟩
      have hm5 := (hB5.block _ (lt_of_block HM.out)).trans HM.out
      obtain ⟨m1, m2, _, _⟩ := two_cells hm5
      have HM5 := Lib.hid hm5
      have HV5 := Lib.hid (HV4.out.below hB5)
      have HT5 := Lib.hid (HT4.out.below hB5)
      have hL5 := bt hL4 hB5
      clear hm5 hB5 HM HV4 HT4 hL4
      rw [decide_eq_true HI.out]
      go_wp2_with fail
      refine (end_big _ _ _ _ HV5.out (by omega)).mono ?_
      rw [HI.out]
      rintro e y6 ⟨rfl, hB6⟩
      go_wp2_with fail
      refine (rleast_any _).mono ?_
      rintro e y7 ⟨rfl, hB7⟩
      have hB8 := bt hB6 hB7
      obtain ⟨n1', n2', _, _⟩ := two_cells ((hB8.block _ (lt_of_block HM5.out)).trans HM5.out)
      have HV6 := Lib.hid (HV5.out.below hB8)
      have HT2 := Lib.hid (HT5.out.below hB8)
      have hL1 := bt hL5 hB8
      clear hB6 hB7 hB8 HV5 HT5 hL5 m1 m2
      go_wp2_with fail
      refine (end_big _ _ _ _ HV6.out (by omega)).mono ?_
      rw [HI.out]
      rintro e y9 ⟨rfl, hB9⟩
      replace HT2 := Lib.hid (HT2.out.below hB9)
      replace hL1 := bt hL1 hB9
      clear hB9 n1' n2' HV6
      obtain ⟨c1, c2, c3, c4, c5, c6, c7, c8⟩ := HT2.out.cells
      obtain ⟨_, _, d3, d4, _, _, _, _⟩ := (HT2.out.put1 0 (k + d)).cells
      have hL9 := (hL1.setCell (p := ⟨w.heap.size + 1, 0, none⟩) (by simp) (.int .i64 0)).setCell (p := ⟨w.heap.size + 1, 1, none⟩) (by simp) (.int .i64 (k + d))
      go_wp2_with fail
      refine bodyPost_ret (v := .tuple #[.agg #[.int .i64 0, .int .i64 (k + d)], .bool true]) (by simp [results, Try.results66, go_sem, d3, d4]) rfl ?_
      exact ⟨ret_cb (by rw [HE.out.1, sd_mid _ (by omega) (by omega)]) (by rw [HE.out.1, pa_mid _ (by omega) (by omega)]) HE.out.2.symm, hL9⟩
    · have HE := Lib.hid (sh_out k d g1 g2 hin)
      have HZ : Hid (0 = sd (shk k d) ∧ 0 = pa (shk k d)) := by rw [HE.out.1]; exact ⟨(sd_mid 0 (by decide) (by decide)).symm, (pa_mid 0 (by decide) (by decide)).symm⟩
      by_cases hI : clamp (k + d) = k + d
      · have hq : clamp (k + d) = -9223372036854775808 := by have := clamp_i64 (k + d); unfold I64 at this; omega
        have HI := Lib.hid hI
        have HQ := Lib.hid hq
        clear hin hI hq
        go_enter Try.func66, Try.ntmps66
        go_wp2_with fail
        refine (HC.out _).mono ?_
        rintro e w1 ⟨rfl, hB1⟩
        have hT1 := HT.out.below hB1
        have hT2 := hT1.put0 0 k
        have hL1 := ((bt hL hB1).setCell (p := ⟨w.heap.size, 0, none⟩) (by simp) (.int .i64 0)).setCell (p := ⟨w.heap.size, 1, none⟩) (by simp) (.int .i64 k)
        obtain ⟨c1, c2, c3, c4, c5, c6, c7, c8⟩ := hT1.cells
        have HT2 := Lib.hid hT2
        obtain ⟨f1, f2, f3, f4, f5, f6, f7, f8⟩ := hT2.cells
        clear hT1 hT2 hB1
        go_wp2_with fail
        generalize (w1.setCell ⟨w.heap.size, 0, none⟩ (.int .i64 0)).setCell ⟨w.heap.size, 1, none⟩ (.int .i64 k) = X at *
        clear c1 c2 c3 c4 c5 c6 c7 c8 f1 f2 f3 f4 f5 f6 f7 f8
        refine (of_big _ _ HK.out).mono ?_
        rintro e y1 ⟨V1, rfl, hV1, hB1⟩
        have HV1 := Lib.hid hV1
        clear hV1
        go_wp2_with fail
        refine (of_big _ _ HD.out).mono ?_
        rintro e y2 ⟨V2, rfl, hV2, hB2⟩
        have HV2 := Lib.hid hV2
        clear hV2
        go_wp2_with fail
        refine (plus_any _ _ _ _ _ _ _ (HV1.out.below hB2) HV2.out (by omega) (by omega)).mono ?_
        rintro e y3 ⟨V3, rfl, hV3, hB3⟩
        have HV3 := Lib.hid hV3
        obtain ⟨s1, v1, xs1, rfl, hs1, hd1, ok1, hl1, hz1, h01⟩ := hV3
        obtain ⟨a1, n1, c1, rfl⟩ := slice_of_dg hd1
        clear hs1 hd1 ok1 hl1 hz1 h01
        have hB4 : Below y3.heap.size y3 (y3.alloc (.cells #[.int .i64 s1, .slice a1 n1 c1] 68)) := (Below.refl _ _).alloc (Nat.le_refl _) _
        have hm := heap_alloc_new y3 (.cells #[.int .i64 s1, .slice a1 n1 c1] 68)
        have HV4 := Lib.hid (HV3.out.below hB4)
        have HB := bt (bt (bt hB1 hB2) hB3) hB4
        have HM := Lib.hid hm
        have HT4 := Lib.hid (HT2.out.below HB)
        have hL4 := bt hL1 HB
        clear hm HV1 HV2 HV3 hB1 hB2 hB3 hB4 HB hL1 HT2
        go_wp2_with fail
        generalize y3.alloc (.cells #[.int .i64 s1, .slice a1 n1 c1] 68) = y4 at *
        refine (is_big _ _ _ _ HV4.out (by omega)).mono ?_
        rintro e y5 ⟨rfl, hB5⟩
        have hm5 := (hB5.block _ (lt_of_block HM.out)).trans HM.out
        obtain ⟨m1, m2, _, _⟩ := two_cells hm5
        have HM5 := Lib.hid hm5
        have HV5 := Lib.hid (HV4.out.below hB5)
        have HT5 := Lib.hid (HT4.out.below hB5)
        have hL5 := bt hL4 hB5
        clear hm5 hB5 HM HV4 HT4 hL4
        rw [decide_eq_true HI.out]
        go_wp2_with fail
        refine (end_big _ _ _ _ HV5.out (by omega)).mono ?_
        rw [HQ.out]
        rintro e y6 ⟨rfl, hB6⟩
        go_wp2_with fail
        refine (rleast_any _).mono ?_
        rintro e y7 ⟨rfl, hB7⟩
        have hB8 := bt hB6 hB7
        obtain ⟨n1', n2', _, _⟩ := two_cells ((hB8.block _ (lt_of_block HM5.out)).trans HM5.out)
        have HV6 := Lib.hid (HV5.out.below hB8)
        have HT2 := Lib.hid (HT5.out.below hB8)
        have hL1 := bt hL5 hB8
        clear hB6 hB7 hB8 HV5 HT5 hL5 m1 m2
        obtain ⟨c1, c2, c3, c4, c5, c6, c7, c8⟩ := HT2.out.cells
        obtain ⟨_, _, d3, d4, _, _, _, _⟩ := (HT2.out.put1 0 0).cells
        have hL9 := (hL1.setCell (p := ⟨w.heap.size + 1, 0, none⟩) (by simp) (.int .i64 0)).setCell (p := ⟨w.heap.size + 1, 1, none⟩) (by simp) (.int .i64 0)
        go_wp2_with fail
        refine bodyPost_ret (v := .tuple #[.agg #[.int .i64 0, .int .i64 0], .bool false]) (by simp [results, Try.results66, go_sem, d3, d4]) rfl ?_
        exact ⟨ret_cb HZ.out.1 HZ.out.2 HE.out.2.symm, hL9⟩
      · have HI := Lib.hid hI
        clear hin hI
        go_enter Try.func66, Try.ntmps66
        go_wp2_with fail
        refine (HC.out _).mono ?_
        rintro e w1 ⟨rfl, hB1⟩
        have hT1 := HT.out.below hB1
        have hT2 := hT1.put0 0 k
        have hL1 := ((bt hL hB1).setCell (p := ⟨w.heap.size, 0, none⟩) (by simp) (.int .i64 0)).setCell (p := ⟨w.heap.size, 1, none⟩) (by simp) (.int .i64 k)
        obtain ⟨c1, c2, c3, c4, c5, c6, c7, c8⟩ := hT1.cells
        have HT2 := Lib.hid hT2
        obtain ⟨f1, f2, f3, f4, f5, f6, f7, f8⟩ := hT2.cells
        clear hT1 hT2 hB1
        go_wp2_with fail
        generalize (w1.setCell ⟨w.heap.size, 0, none⟩ (.int .i64 0)).setCell ⟨w.heap.size, 1, none⟩ (.int .i64 k) = X at *
        clear c1 c2 c3 c4 c5 c6 c7 c8 f1 f2 f3 f4 f5 f6 f7 f8
        refine (of_big _ _ HK.out).mono ?_
        rintro e y1 ⟨V1, rfl, hV1, hB1⟩
        have HV1 := Lib.hid hV1
        clear hV1
        go_wp2_with fail
        refine (of_big _ _ HD.out).mono ?_
        rintro e y2 ⟨V2, rfl, hV2, hB2⟩
        have HV2 := Lib.hid hV2
        clear hV2
        go_wp2_with fail
        refine (plus_any _ _ _ _ _ _ _ (HV1.out.below hB2) HV2.out (by omega) (by omega)).mono ?_
        rintro e y3 ⟨V3, rfl, hV3, hB3⟩
        have HV3 := Lib.hid hV3
        obtain ⟨s1, v1, xs1, rfl, hs1, hd1, ok1, hl1, hz1, h01⟩ := hV3
        obtain ⟨a1, n1, c1, rfl⟩ := slice_of_dg hd1
        clear hs1 hd1 ok1 hl1 hz1 h01
        have hB4 : Below y3.heap.size y3 (y3.alloc (.cells #[.int .i64 s1, .slice a1 n1 c1] 68)) := (Below.refl _ _).alloc (Nat.le_refl _) _
        have hm := heap_alloc_new y3 (.cells #[.int .i64 s1, .slice a1 n1 c1] 68)
        have HV4 := Lib.hid (HV3.out.below hB4)
        have HB := bt (bt (bt hB1 hB2) hB3) hB4
        have HM := Lib.hid hm
        have HT4 := Lib.hid (HT2.out.below HB)
        have hL4 := bt hL1 HB
        clear hm HV1 HV2 HV3 hB1 hB2 hB3 hB4 HB hL1 HT2
        go_wp2_with fail
        generalize y3.alloc (.cells #[.int .i64 s1, .slice a1 n1 c1] 68) = y4 at *
        refine (is_big _ _ _ _ HV4.out (by omega)).mono ?_
        rintro e y5 ⟨rfl, hB5⟩
        have hm5 := (hB5.block _ (lt_of_block HM.out)).trans HM.out
        obtain ⟨m1, m2, _, _⟩ := two_cells hm5
        have HM5 := Lib.hid hm5
        have HV5 := Lib.hid (HV4.out.below hB5)
        have HT5 := Lib.hid (HT4.out.below hB5)
        have hL5 := bt hL4 hB5
        clear hm5 hB5 HM HV4 HT4 hL4
        rw [decide_eq_false HI.out]
        have HT2 := HT5
        have hL1 := hL5
        clear m1 m2
        obtain ⟨c1, c2, c3, c4, c5, c6, c7, c8⟩ := HT2.out.cells
        obtain ⟨_, _, d3, d4, _, _, _, _⟩ := (HT2.out.put1 0 0).cells
        have hL9 := (hL1.setCell (p := ⟨w.heap.size + 1, 0, none⟩) (by simp) (.int .i64 0)).setCell (p := ⟨w.heap.size + 1, 1, none⟩) (by simp) (.int .i64 0)
        go_wp2_with fail
        refine bodyPost_ret (v := .tuple #[.agg #[.int .i64 0, .int .i64 0], .bool false]) (by simp [results, Try.results66, go_sem, d3, d4]) rfl ?_
        exact ⟨ret_cb HZ.out.1 HZ.out.2 HE.out.2.symm, hL9⟩
end Go.Proofs.Ytkokilbnhhmicaa

/- The walk of the law CutBetween. -/
namespace Go.Proofs.Ytkokilbnhhmicaa
open Go.RowKit Go.Sort Go.Proofs.Ytkokilbnhhmicaa.Bo
set_option linter.unusedVariables false

theorem ahead_b (n : Int) (hn : I64 n) (w : World) : Calls Try.prog 63 #[.int .i64 n] w fun e w' => e = .returned (.agg #[.int .i64 (sd n), .int .i64 (pa n)]) ∧ Below w.heap.size w w' := (ahead_any n w hn).mono fun _ _ h => ⟨h.1, h.2.1⟩
theorem behind_b (n : Int) (hn : I64 n) (w : World) : Calls Try.prog 64 #[.int .i64 n] w fun e w' => e = .returned (.agg #[.int .i64 (sd (n + 1)), .int .i64 (pa (n + 1))]) ∧ Below w.heap.size w w' := (behind_any n w hn).mono fun _ _ h => ⟨h.1, h.2.1⟩
theorem next_b (s a : Int) (w : World) (ha : I64 a) : Calls Try.prog 60 #[.agg #[.int .i64 s, .int .i64 a]] w fun e w' => e = .returned (.tuple #[.int .i64 (nx (key s a)), .bool (nxb (key s a))]) ∧ Below w.heap.size w w' := (next_any s a w ha).mono fun _ _ h => ⟨h.1, h.2.1⟩
theorem prev_b (s a : Int) (w : World) (ha : I64 a) : Calls Try.prog 61 #[.agg #[.int .i64 s, .int .i64 a]] w fun e w' => e = .returned (.tuple #[.int .i64 (pv (key s a)), .bool (pvb (key s a))]) ∧ Below w.heap.size w w' := (prev_any s a w ha).mono fun _ _ h => ⟨h.1, h.2.1⟩
theorem ky_of_i64 (n : Int) (h : I64 n) : Ky n ∧ Ky (n + 1) := by unfold I64 at h; unfold Ky; omega

end Go.Proofs.Ytkokilbnhhmicaa

/- The walk of the law CutNumbers. -/
namespace Go.Proofs.Ytkokilbnhhmicaa
open Go.RowKit Go.Sort Go.Proofs.Ytkokilbnhhmicaa.Bo
set_option linter.unusedVariables false

theorem neq_cut (s a t b : Int) (w : World) : Sem.run Try.prog (binOp .neq 23 (.agg #[.int .i64 s, .int .i64 a]) (.agg #[.int .i64 t, .int .i64 b])) w = .ok (.bool (!(s == t && a == b))) w := by
  have hS : Try.prog.underlying 23 = some (.struct (Try.prog.fieldsOf 23)) := by kernel_rfl
  have hp : Try.prog.stoodInHeld 23 = false := by kernel_rfl
  have u3 := Try.underlying3
  have u2 := Try.underlying2
  rw [run_neq_struct, show (10000 : Nat) = 9999 + 1 from rfl, run_equalIn_agg w 9999 23 _ _ hS hp]
  simp only [Program.fieldsOf, Try.underlying23]
  go_simp
  by_cases h1 : s = t <;> by_cases h2 : a = b <;> simp [h1, h2]
theorem right_key (k : Int) (hk : Ky k) (w : World) : Calls Try.prog 59 #[.agg #[.int .i64 (sd k), .int .i64 (pa k)]] w fun e w' => e = .returned (.bool true) ∧ Below w.heap.size w w' := by
  have h := right_any (sd k) (pa k) w (pa_i64 k hk)
  rw [key_back k hk] at h
  simp only [beq_self_eq_true, Bool.and_self] at h
  exact h.mono fun _ _ h => ⟨h.1, h.2.1⟩

end Go.Proofs.Ytkokilbnhhmicaa

/- The walk of the law CutShifts. -/
namespace Go.Proofs.Ytkokilbnhhmicaa
open Go.RowKit Go.Sort Go.Proofs.Ytkokilbnhhmicaa.Bo
set_option linter.unusedVariables false

/-- A box stays where it is. -/
theorem box_on {w w' : World} {b : Nat} {o : Obj} (h : w.heap[b]? = some o) (hb : Below w.heap.size w w') : w'.heap[b]? = some o := (hb.block _ (lt_of_block h)).trans h
theorem box_new {w w' : World} (o : Obj) (hb : Below (w.alloc o).heap.size (w.alloc o) w') : w'.heap[w.heap.size]? = some o := box_on (heap_alloc_new w o) hb
theorem below_new (w : World) (o : Obj) : Below w.heap.size w (w.alloc o) := (Below.refl _ _).alloc (Nat.le_refl _) _

end Go.Proofs.Ytkokilbnhhmicaa

/- Contracts of cut.Least and cut.Greatest. -/
namespace Go.Proofs.Ytkokilbnhhmicaa
open Go.RowKit Go.Sort Go.Proofs.Ytkokilbnhhmicaa.Bo
set_option linter.unusedVariables false

/-- A slice of cuts that holds cs. -/
def CRow (w : World) (a : Option Addr) (cs : List (Int × Int)) : Prop :=
  0 < cs.length → ∃ b off, a = some ⟨b, off, none⟩ ∧ ∀ (j : Nat) (h : j < cs.length), w.cell? ⟨b, off + j * 2, none⟩ = some (.int .i64 cs[j].1) ∧ w.cell? ⟨b, off + j * 2 + 1, none⟩ = some (.int .i64 cs[j].2)
theorem CRow.below {w w' : World} {a : Option Addr} {cs : List (Int × Int)} (h : CRow w a cs) (hb : Below w.heap.size w w') : CRow w' a cs := by
  intro hp
  obtain ⟨b, off, e, hc⟩ := h hp
  refine ⟨b, off, e, fun j hj => ?_⟩
  obtain ⟨h1, h2⟩ := hc j hj
  exact ⟨(hb.cell (p := ⟨b, off + j * 2, none⟩) (World.block_lt_of_cell? w _ h1)).trans h1, (hb.cell (p := ⟨b, off + j * 2 + 1, none⟩) (World.block_lt_of_cell? w _ h2)).trans h2⟩

def kOf (c : Int × Int) : Int := key c.1 c.2
def leastK (cs : List (Int × Int)) : Int := (cs.map kOf).foldl klow 9223372036854775808
def greatK (cs : List (Int × Int)) : Int := (cs.map kOf).foldl khigh (-9223372036854775808)

theorem foldK_ky (f : Int → Int → Int) (hf : ∀ k l, f k l = k ∨ f k l = l) : ∀ (cs : List (Int × Int)) (m : Int), Ky m → (∀ c ∈ cs, I64 c.2) → Ky ((cs.map kOf).foldl f m)
  | [], m, h, _ => h
  | c :: l, m, h, hz => by
    refine foldK_ky f hf l _ ?_ (fun d hd => hz d (List.mem_cons_of_mem _ hd))
    rcases hf m (kOf c) with e | e
    · rw [e]; exact h
    · rw [e]; exact key_ky _ _ (hz c (List.mem_cons_self ..))
theorem klow_or (k l : Int) : klow k l = k ∨ klow k l = l := by unfold klow; split <;> simp
theorem khigh_or (k l : Int) : khigh k l = k ∨ khigh k l = l := by unfold khigh; split <;> simp
theorem leastK_ky (cs : List (Int × Int)) (hz : ∀ c ∈ cs, I64 c.2) : Ky (leastK cs) := foldK_ky klow klow_or cs _ ⟨by decide, by decide⟩ hz
theorem greatK_ky (cs : List (Int × Int)) (hz : ∀ c ∈ cs, I64 c.2) : Ky (greatK cs) := foldK_ky khigh khigh_or cs _ ⟨by decide, by decide⟩ hz
theorem leastK_snoc (cs : List (Int × Int)) (c : Int × Int) : leastK (cs ++ [c]) = klow (leastK cs) (kOf c) := by unfold leastK; rw [List.map_append, List.foldl_append]; rfl
theorem greatK_snoc (cs : List (Int × Int)) (c : Int × Int) : greatK (cs ++ [c]) = khigh (greatK cs) (kOf c) := by unfold greatK; rw [List.map_append, List.foldl_append]; rfl

set_option maxRecDepth 100000 in
set_option maxHeartbeats 2000000 in
theorem least_any (a : Option Addr) (cap : Nat) (cs : List (Int × Int)) (w : World) (hz : ∀ c ∈ cs, I64 c.2) (hr : CRow w a cs) (hl : cs.length ≤ 100000) :
    Calls Try.prog 46 #[.slice a cs.length cap] w fun e w' => e = .returned (.agg #[.int .i64 (sd (leastK cs)), .int .i64 (pa (leastK cs))]) ∧ Below w.heap.size w w' := by
  have HR := Lib.hid hr
  have HZ := Lib.hid hz
  clear hr hz
  go_enter Try.func46, Try.ntmps46
  go_wp2_with fail
  refine (last_b _).mono ?_
  rintro e x1 ⟨rfl, hB1⟩
  have hL1 := bt (bt (below_new w (.cells #[.int .i64 0, .int .i64 0] 23)) hB1) (below_new x1 (.cells #[.int .i64 1, .int .i64 0] 23))
  have R1 := Lib.hid (box_on (box_new _ hB1) (below_new x1 (.cells #[.int .i64 1, .int .i64 0] 23)))
  have A1 := Lib.hid (heap_alloc_new x1 (.cells #[.int .i64 1, .int .i64 0] 23))
  have hx1 : w.heap.size < x1.heap.size := lt_of_block (box_new _ hB1)
  clear hB1
  go_wp2_with fail
  go_loopw [9] (fun i wr => ∃ j : Nat, i = .int .i64 (j : Int) ∧ j ≤ cs.length ∧ wr.heap[w.heap.size]? = some (.cells #[.int .i64 0, .int .i64 0] 23 (0, 0)) ∧
      wr.heap[x1.heap.size]? = some (.cells #[.int .i64 (sd (leastK (cs.take j))), .int .i64 (pa (leastK (cs.take j)))] 23 (0, 0)) ∧ Below w.heap.size w wr) (fun i _ => cs.length - (intOf i).toNat)
  case atStart => exact ⟨0, rfl, Nat.zero_le _, R1.out, A1.out, hL1⟩
  case round =>
    obtain ⟨j, rfl, hj, hR, hA, hBr⟩ := hrel
    have hkm := leastK_ky (cs.take j) (fun c hc => HZ.out c (List.mem_of_mem_take hc))
    by_cases hlt : j < cs.length
    · obtain ⟨b, off, rfl, hcell⟩ := (HR.out.below hBr) (by omega)
      obtain ⟨hc1, hc2⟩ := hcell j hlt
      have hi : I64 cs[j].2 := HZ.out _ (List.getElem_mem hlt)
      have HE : Hid (leastK (cs.take (j + 1)) = klow (leastK (cs.take j)) (kOf cs[j])) := by
        show _ = _
        rw [List.take_succ_eq_append_getElem hlt, leastK_snoc]
      clear hcell
      obtain ⟨M, hM⟩ : ∃ M, M = leastK (cs.take j) := ⟨_, rfl⟩
      rw [← hM] at hkm hA HE
      have HM := Lib.hid hM
      clear hM
      obtain ⟨v, hv⟩ : ∃ v, kcmp (key cs[j].1 cs[j].2) (key (sd M) (pa M)) = v := ⟨_, rfl⟩
      have HCMP := Lib.hid (fun W => compare_b cs[j].1 cs[j].2 (sd M) (pa M) v hv hi (pa_i64 M hkm) W)
      have HCAN := Lib.hid (fun W => canon_b cs[j].1 cs[j].2 hi W)
      rw [key_back M hkm] at hv
      have HV : Hid (kcmp (kOf cs[j]) M = v) := hv
      have HS : Hid (∃ sk pk, sk = sd (kOf cs[j]) ∧ pk = pa (kOf cs[j])) := ⟨_, _, rfl, rfl⟩
      obtain ⟨sk, pk, hsk, hpk⟩ := HS.out
      rw [show key cs[j].1 cs[j].2 = kOf cs[j] from rfl, ← hsk, ← hpk] at HCAN
      have HSK := Lib.hid (And.intro hsk hpk)
      obtain ⟨sm, pm, hsm, hpm⟩ : ∃ sm pm, sm = sd M ∧ pm = pa M := ⟨_, _, rfl, rfl⟩
      rw [← hsm, ← hpm] at hA HCMP
      have HSM := Lib.hid (And.intro hsm hpm)
      have hxr : w.heap.size < wr.heap.size := lt_of_block hR
      have hxa : x1.heap.size < wr.heap.size := lt_of_block hA
      have HRB := Lib.hid hR
      have HAB := Lib.hid hA
      obtain ⟨m1, m2, _, _⟩ := two_cells hA
      clear hv hkm hi hsk hpk hsm hpm HS hR hA
      generalize hcj : cs[j] = cj at *
      obtain ⟨cs1, cs2⟩ := cj
      have HCJ := Lib.hid hcj
      clear hcj
      simp only at hc1 hc2 HCMP HCAN
      go_wp2_with fail
      refine (HCMP.out _).mono ?_
      rintro e y1 ⟨rfl, hB1⟩
      have hB2 := bt (below_new wr (.cells #[.int .i64 cs1, .int .i64 cs2] 23)) hB1
      have hb1 := box_new _ hB1
      have hR2 := box_on HRB.out hB2
      have hA2 := box_on HAB.out hB2
      obtain ⟨n1, n2, _, _⟩ := two_cells hb1
      by_cases hq : kOf (cs1, cs2) < M
      · have hv1 : v = -1 := by rw [← HV.out]; exact kcmp_lt _ _ hq
        subst hv1
        have HQ : Hid (klow M (kOf (cs1, cs2)) = kOf (cs1, cs2)) := by unfold klow; show _ = _; rw [if_pos hq]
        clear hq hb1 hB1
        go_wp2_with fail
        refine (HCAN.out _).mono ?_
        rintro e y2 ⟨rfl, hB3⟩
        have hR3 := box_on hR2 hB3
        have hA3 := box_on hA2 hB3
        obtain ⟨o1, o2, o3, o4⟩ := two_cells hA3
        have hA4 := two_put (p := .int .i64 sk) (q := .int .i64 pk) hA3
        have hL4 := ((bt (bt hBr hB2) hB3).setCell (p := ⟨x1.heap.size, 0, none⟩) (by show _ ≤ x1.heap.size; omega) (.int .i64 sk)).setCell (p := ⟨x1.heap.size, 1, none⟩) (by show _ ≤ x1.heap.size; omega) (.int .i64 pk)
        have hR4 : ((y2.setCell ⟨x1.heap.size, 0, none⟩ (.int .i64 sk)).setCell ⟨x1.heap.size, 1, none⟩ (.int .i64 pk)).heap[w.heap.size]? = some (.cells #[.int .i64 0, .int .i64 0] 23 (0, 0)) := by
          rw [heap_setCell_other _ _ _ _ (by show _ ≠ x1.heap.size; omega), heap_setCell_other _ _ _ _ (by show _ ≠ x1.heap.size; omega)]; exact hR3
        have HF := Lib.hid (And.intro hR4 (And.intro hA4 hL4))
        clear hR2 hA2 hR3 hA3 hB2 hB3 hR4 hA4 hL4 n1 n2 m1 m2
        go_wp2_with fail
        go_roundw
        case rel =>
          refine ⟨j + 1, by go_num, by omega, HF.out.1, ?_, HF.out.2.2⟩
          rw [HE.out, HQ.out, ← HSK.out.1, ← HSK.out.2]
          exact HF.out.2.1
        case measure => simp [intOf]; omega
      · have hv1 : decide (v < 0) = false := decide_eq_false (by rw [← HV.out]; unfold kcmp; split <;> (try split) <;> omega)
        have HQ : Hid (klow M (kOf (cs1, cs2)) = M) := by unfold klow; show _ = _; rw [if_neg hq]
        have HF := Lib.hid (And.intro hR2 (And.intro hA2 (bt hBr hB2)))
        clear hq hb1 hB1 hR2 hA2 hB2 m1 m2 HV
        go_wp2_with fail
        go_roundw
        case rel =>
          refine ⟨j + 1, by go_num, by omega, HF.out.1, ?_, HF.out.2.2⟩
          have h9 := HF.out.2.1
          rw [HSM.out.1, HSM.out.2] at h9
          rw [HE.out, HQ.out]
          exact h9
        case measure => simp [intOf]; omega
    · obtain rfl : j = cs.length := by omega
      rw [List.take_length] at hA hkm
      obtain ⟨sm, pm, hsm, hpm⟩ : ∃ sm pm, sm = sd (leastK cs) ∧ pm = pa (leastK cs) := ⟨_, _, rfl, rfl⟩
      rw [← hsm, ← hpm] at hA
      have HSM := Lib.hid (And.intro hsm hpm)
      obtain ⟨m1, m2, _, _⟩ := two_cells hA
      obtain ⟨r1, r2, r3, r4⟩ := two_cells hR
      obtain ⟨q1, q2, _, _⟩ := two_cells (two_put (p := .int .i64 sm) (q := .int .i64 pm) hR)
      have hL9 := (hBr.setCell (p := ⟨w.heap.size, 0, none⟩) (by simp) (.int .i64 sm)).setCell (p := ⟨w.heap.size, 1, none⟩) (by simp) (.int .i64 pm)
      clear hkm hsm hpm hA hR
      go_wp2_with fail
      refine bodyPost_ret (v := .agg #[.int .i64 sm, .int .i64 pm]) (by simp [results, Try.results46, go_sem, q1, q2]) rfl ?_
      exact ⟨ret_cut HSM.out.1 HSM.out.2, hL9⟩

set_option maxRecDepth 100000 in
set_option maxHeartbeats 2000000 in
theorem greatest_any (a : Option Addr) (cap : Nat) (cs : List (Int × Int)) (w : World) (hz : ∀ c ∈ cs, I64 c.2) (hr : CRow w a cs) (hl : cs.length ≤ 100000) :
    Calls Try.prog 45 #[.slice a cs.length cap] w fun e w' => e = .returned (.agg #[.int .i64 (sd (greatK cs)), .int .i64 (pa (greatK cs))]) ∧ Below w.heap.size w w' := by
  have HR := Lib.hid hr
  have HZ := Lib.hid hz
  clear hr hz
  go_enter Try.func45, Try.ntmps45
  go_wp2_with fail
  refine (first_b _).mono ?_
  rintro e x1 ⟨rfl, hB1⟩
  have hL1 := bt (bt (below_new w (.cells #[.int .i64 0, .int .i64 0] 23)) hB1) (below_new x1 (.cells #[.int .i64 (-1), .int .i64 0] 23))
  have R1 := Lib.hid (box_on (box_new _ hB1) (below_new x1 (.cells #[.int .i64 (-1), .int .i64 0] 23)))
  have A1 := Lib.hid (heap_alloc_new x1 (.cells #[.int .i64 (-1), .int .i64 0] 23))
  have hx1 : w.heap.size < x1.heap.size := lt_of_block (box_new _ hB1)
  clear hB1
  go_wp2_with fail
  go_loopw [9] (fun i wr => ∃ j : Nat, i = .int .i64 (j : Int) ∧ j ≤ cs.length ∧ wr.heap[w.heap.size]? = some (.cells #[.int .i64 0, .int .i64 0] 23 (0, 0)) ∧
      wr.heap[x1.heap.size]? = some (.cells #[.int .i64 (sd (greatK (cs.take j))), .int .i64 (pa (greatK (cs.take j)))] 23 (0, 0)) ∧ Below w.heap.size w wr) (fun i _ => cs.length - (intOf i).toNat)
  case atStart => exact ⟨0, rfl, Nat.zero_le _, R1.out, A1.out, hL1⟩
  case round =>
    obtain ⟨j, rfl, hj, hR, hA, hBr⟩ := hrel
    have hkm := greatK_ky (cs.take j) (fun c hc => HZ.out c (List.mem_of_mem_take hc))
    by_cases hlt : j < cs.length
    · obtain ⟨b, off, rfl, hcell⟩ := (HR.out.below hBr) (by omega)
      obtain ⟨hc1, hc2⟩ := hcell j hlt
      have hi : I64 cs[j].2 := HZ.out _ (List.getElem_mem hlt)
      have HE : Hid (greatK (cs.take (j + 1)) = khigh (greatK (cs.take j)) (kOf cs[j])) := by
        show _ = _
        rw [List.take_succ_eq_append_getElem hlt, greatK_snoc]
      clear hcell
      obtain ⟨M, hM⟩ : ∃ M, M = greatK (cs.take j) := ⟨_, rfl⟩
      rw [← hM] at hkm hA HE
      have HM := Lib.hid hM
      clear hM
      obtain ⟨v, hv⟩ : ∃ v, kcmp (key cs[j].1 cs[j].2) (key (sd M) (pa M)) = v := ⟨_, rfl⟩
      have HCMP := Lib.hid (fun W => compare_b cs[j].1 cs[j].2 (sd M) (pa M) v hv hi (pa_i64 M hkm) W)
      have HCAN := Lib.hid (fun W => canon_b cs[j].1 cs[j].2 hi W)
      rw [key_back M hkm] at hv
      have HV : Hid (kcmp (kOf cs[j]) M = v) := hv
      have HS : Hid (∃ sk pk, sk = sd (kOf cs[j]) ∧ pk = pa (kOf cs[j])) := ⟨_, _, rfl, rfl⟩
      obtain ⟨sk, pk, hsk, hpk⟩ := HS.out
      rw [show key cs[j].1 cs[j].2 = kOf cs[j] from rfl, ← hsk, ← hpk] at HCAN
      have HSK := Lib.hid (And.intro hsk hpk)
      obtain ⟨sm, pm, hsm, hpm⟩ : ∃ sm pm, sm = sd M ∧ pm = pa M := ⟨_, _, rfl, rfl⟩
      rw [← hsm, ← hpm] at hA HCMP
      have HSM := Lib.hid (And.intro hsm hpm)
      have hxr : w.heap.size < wr.heap.size := lt_of_block hR
      have hxa : x1.heap.size < wr.heap.size := lt_of_block hA
      have HRB := Lib.hid hR
      have HAB := Lib.hid hA
      obtain ⟨m1, m2, _, _⟩ := two_cells hA
      clear hv hkm hi hsk hpk hsm hpm HS hR hA
      generalize hcj : cs[j] = cj at *
      obtain ⟨cs1, cs2⟩ := cj
      have HCJ := Lib.hid hcj
      clear hcj
      simp only at hc1 hc2 HCMP HCAN
      go_wp2_with fail
      refine (HCMP.out _).mono ?_
      rintro e y1 ⟨rfl, hB1⟩
      have hB2 := bt (below_new wr (.cells #[.int .i64 cs1, .int .i64 cs2] 23)) hB1
      have hb1 := box_new _ hB1
      have hR2 := box_on HRB.out hB2
      have hA2 := box_on HAB.out hB2
      obtain ⟨n1, n2, _, _⟩ := two_cells hb1
      by_cases hq : M < kOf (cs1, cs2)
      · have hv1 : v = 1 := by rw [← HV.out]; exact kcmp_gt _ _ hq
        subst hv1
        have HQ : Hid (khigh M (kOf (cs1, cs2)) = kOf (cs1, cs2)) := by unfold khigh; show _ = _; rw [if_pos hq]
        clear hq hb1 hB1
        go_wp2_with fail
        refine (HCAN.out _).mono ?_
        rintro e y2 ⟨rfl, hB3⟩
        have hR3 := box_on hR2 hB3
        have hA3 := box_on hA2 hB3
        obtain ⟨o1, o2, o3, o4⟩ := two_cells hA3
        have hA4 := two_put (p := .int .i64 sk) (q := .int .i64 pk) hA3
        have hL4 := ((bt (bt hBr hB2) hB3).setCell (p := ⟨x1.heap.size, 0, none⟩) (by show _ ≤ x1.heap.size; omega) (.int .i64 sk)).setCell (p := ⟨x1.heap.size, 1, none⟩) (by show _ ≤ x1.heap.size; omega) (.int .i64 pk)
        have hR4 : ((y2.setCell ⟨x1.heap.size, 0, none⟩ (.int .i64 sk)).setCell ⟨x1.heap.size, 1, none⟩ (.int .i64 pk)).heap[w.heap.size]? = some (.cells #[.int .i64 0, .int .i64 0] 23 (0, 0)) := by
          rw [heap_setCell_other _ _ _ _ (by show _ ≠ x1.heap.size; omega), heap_setCell_other _ _ _ _ (by show _ ≠ x1.heap.size; omega)]; exact hR3
        have HF := Lib.hid (And.intro hR4 (And.intro hA4 hL4))
        clear hR2 hA2 hR3 hA3 hB2 hB3 hR4 hA4 hL4 n1 n2 m1 m2
        go_wp2_with fail
        go_roundw
        case rel =>
          refine ⟨j + 1, by go_num, by omega, HF.out.1, ?_, HF.out.2.2⟩
          rw [HE.out, HQ.out, ← HSK.out.1, ← HSK.out.2]
          exact HF.out.2.1
        case measure => simp [intOf]; omega
      · have hv1 : decide (0 < v) = false := decide_eq_false (by rw [← HV.out]; unfold kcmp; split <;> (try split) <;> omega)
        have HQ : Hid (khigh M (kOf (cs1, cs2)) = M) := by unfold khigh; show _ = _; rw [if_neg hq]
        have HF := Lib.hid (And.intro hR2 (And.intro hA2 (bt hBr hB2)))
        clear hq hb1 hB1 hR2 hA2 hB2 m1 m2 HV
        go_wp2_with fail
        go_roundw
        case rel =>
          refine ⟨j + 1, by go_num, by omega, HF.out.1, ?_, HF.out.2.2⟩
          have h9 := HF.out.2.1
          rw [HSM.out.1, HSM.out.2] at h9
          rw [HE.out, HQ.out]
          exact h9
        case measure => simp [intOf]; omega
    · obtain rfl : j = cs.length := by omega
      rw [List.take_length] at hA hkm
      obtain ⟨sm, pm, hsm, hpm⟩ : ∃ sm pm, sm = sd (greatK cs) ∧ pm = pa (greatK cs) := ⟨_, _, rfl, rfl⟩
      rw [← hsm, ← hpm] at hA
      have HSM := Lib.hid (And.intro hsm hpm)
      obtain ⟨m1, m2, _, _⟩ := two_cells hA
      obtain ⟨r1, r2, r3, r4⟩ := two_cells hR
      obtain ⟨q1, q2, _, _⟩ := two_cells (two_put (p := .int .i64 sm) (q := .int .i64 pm) hR)
      have hL9 := (hBr.setCell (p := ⟨w.heap.size, 0, none⟩) (by simp) (.int .i64 sm)).setCell (p := ⟨w.heap.size, 1, none⟩) (by simp) (.int .i64 pm)
      clear hkm hsm hpm hA hR
      go_wp2_with fail
      refine bodyPost_ret (v := .agg #[.int .i64 sm, .int .i64 pm]) (by simp [results, Try.results45, go_sem, q1, q2]) rfl ?_
      exact ⟨ret_cut HSM.out.1 HSM.out.2, hL9⟩
end Go.Proofs.Ytkokilbnhhmicaa

/- A row of cuts in a block of its own; the contract of slices.Compact over it. -/
namespace Go.Proofs.Ytkokilbnhhmicaa
open Go.RowKit Go.Sort Go.Proofs.Ytkokilbnhhmicaa.Bo
set_option linter.unusedVariables false

/-- A block of cap cuts. -/
def Blk (w : World) (g cap : Nat) : Prop := ∃ cur, w.heap[g]? = some (.cells cur 23 (0, 0)) ∧ cur.size = cap * 2
theorem Blk.lt {w : World} {g cap : Nat} (h : Blk w g cap) : g < w.heap.size := by obtain ⟨_, h, _⟩ := h; exact lt_of_block h
theorem Blk.cell {w : World} {g cap : Nat} (h : Blk w g cap) (i : Nat) (hi : i < cap * 2) : ∃ v, w.cell? ⟨g, i, none⟩ = some v := by
  obtain ⟨cur, h, hs⟩ := h
  exact ⟨cur[i]'(by omega), (cell_of_row _ _ i _ _ _ h).trans (Array.getElem?_eq_getElem (by omega))⟩
theorem Blk.free {w : World} {g cap : Nat} (h : Blk w g cap) (i : Nat) : w.frozen? ⟨g, i, none⟩ = false := by
  obtain ⟨cur, h, hs⟩ := h
  exact frozen_of_row _ _ i _ _ h
theorem Blk.set {w : World} {g cap : Nat} (h : Blk w g cap) (i : Nat) (v : Value) : Blk (w.setCell ⟨g, i, none⟩ v) g cap := by
  obtain ⟨cur, h, hs⟩ := h
  exact ⟨_, heap_setCell_same _ _ _ _ _ _ h, by simpa using hs⟩
theorem Blk.on {w w' : World} {g cap : Nat} (h : Blk w g cap) (hb : w'.heap[g]? = w.heap[g]?) : Blk w' g cap := by
  obtain ⟨cur, h, hs⟩ := h
  exact ⟨cur, hb.trans h, hs⟩
/-- The block's first cuts are those of the keys ks. -/
def RowAt (w : World) (g cap : Nat) (ks : List Int) : Prop :=
  Blk w g cap ∧ ks.length ≤ cap ∧ ∀ (j : Nat) (h : j < ks.length), w.cell? ⟨g, j * 2, none⟩ = some (.int .i64 (sd ks[j])) ∧ w.cell? ⟨g, j * 2 + 1, none⟩ = some (.int .i64 (pa ks[j]))
theorem RowAt.on {w w' : World} {g cap : Nat} {ks : List Int} (h : RowAt w g cap ks) (hb : w'.heap[g]? = w.heap[g]?) : RowAt w' g cap ks := by
  refine ⟨h.1.on hb, h.2.1, fun j hj => ?_⟩
  rw [World.cell?_of_block (w := w) (a := ⟨g, j * 2, none⟩) hb, World.cell?_of_block (w := w) (a := ⟨g, j * 2 + 1, none⟩) hb]
  exact h.2.2 j hj
theorem RowAt.below {w w' : World} {g cap : Nat} {ks : List Int} (h : RowAt w g cap ks) (hb : Below w.heap.size w w') : RowAt w' g cap ks := h.on (hb.block _ h.1.lt)
/-- One cut is put over another one. -/
theorem RowAt.put {w : World} {g cap : Nat} {ks : List Int} (h : RowAt w g cap ks) (i : Nat) (hi : i < ks.length) (k : Int) :
    RowAt ((w.setCell ⟨g, i * 2, none⟩ (.int .i64 (sd k))).setCell ⟨g, i * 2 + 1, none⟩ (.int .i64 (pa k))) g cap (ks.set i k) := by
  obtain ⟨hb, hl, hc⟩ := h
  refine ⟨(hb.set _ _).set _ _, by simpa using hl, fun j hj => ?_⟩
  have hj' : j < ks.length := by simpa using hj
  obtain ⟨v1, hv1⟩ := hb.cell (i * 2) (by omega)
  obtain ⟨v2, hv2⟩ := (hb.set (i * 2) (.int .i64 (sd k))).cell (i * 2 + 1) (by omega)
  by_cases e : i = j
  · subst e
    rw [List.getElem_set_self]
    refine ⟨?_, World.cell?_setCell_same _ _ _ hv2⟩
    rw [World.cell?_setCell_other _ _ _ _ (by simp)]
    exact World.cell?_setCell_same _ _ _ hv1
  · rw [List.getElem_set_ne e]
    have n1 : i * 2 + 1 ≠ j * 2 := by omega
    have n2 : i * 2 ≠ j * 2 := by omega
    have n3 : i * 2 + 1 ≠ j * 2 + 1 := by omega
    have n4 : i * 2 ≠ j * 2 + 1 := by omega
    rw [World.cell?_setCell_other _ _ _ _ (by simp <;> omega), World.cell?_setCell_other _ _ _ _ (by simp <;> omega), World.cell?_setCell_other _ _ _ _ (by simp <;> omega), World.cell?_setCell_other _ _ _ _ (by simp <;> omega)]
    exact hc j hj'
theorem RowAt.take {w : World} {g cap : Nat} {ks : List Int} (h : RowAt w g cap ks) (n : Nat) (hn : n ≤ ks.length) : RowAt w g cap (ks.take n) := by
  obtain ⟨hb, hl, hc⟩ := h
  refine ⟨hb, by rw [List.length_take]; omega, fun j hj => ?_⟩
  rw [List.getElem_take]
  exact hc j (by rw [List.length_take] at hj; omega)
theorem below_setCells (B g : Nat) (hB : B ≤ g) : ∀ (vs : List Value) (o : Nat) (w w0 : World), Below B w0 w → Below B w0 (w.setCells g o vs)
  | [], _, _, _, h => h
  | v :: r, o, w, w0, h => below_setCells B g hB r (o + 1) _ w0 (h.setCell hB v)
theorem blk_setCells (g cap : Nat) : ∀ (vs : List Value) (o : Nat) (w : World), Blk w g cap → Blk (w.setCells g o vs) g cap
  | [], _, _, h => h
  | v :: r, o, w, h => blk_setCells g cap r (o + 1) _ (h.set o v)
theorem RowAt.clear {w : World} {g cap : Nat} {ks : List Int} (h : RowAt w g cap ks) (vs : List Value) (o : Nat) (ho : ks.length * 2 ≤ o) : RowAt (w.setCells g o vs) g cap ks := by
  obtain ⟨hb, hl, hc⟩ := h
  refine ⟨blk_setCells g cap vs o w hb, hl, fun j hj => ?_⟩
  rw [World.cell?_setCells_out g vs o w _ (fun _ _ => .inl (by show j * 2 < o; omega)), World.cell?_setCells_out g vs o w _ (fun _ _ => .inl (by show j * 2 + 1 < o; omega))]
  exact hc j hj

/-- clear of n cuts in a block. -/
theorem run_clear_cuts (w : World) (ty : TypeId) (g o n c cap : Nat) (hn : 0 < n) (hb : Blk w g cap) (ho : o + n * 2 ≤ cap * 2) :
    (Builtin.clear_ #[61] ty #[.slice (some ⟨g, o, none⟩) n c]).run Try.prog w = .ok (.tuple #[]) (w.setCells g o (List.replicate (n * 2) (.int .i64 0))) := by
  have hzc : (Builtin.zeroCells (Value.agg #[.int .i64 0, .int .i64 0]).cells n).toList = List.replicate (n * 2) (.int .i64 0) := by
    show (Builtin.zeroCells #[.int .i64 0, .int .i64 0] n).toList = _
    simp [Builtin.zeroCells]
    apply List.ext_getElem
    · simp
    · intro i h1 h2
      simp
      rcases Nat.mod_two_eq_zero_or_one i with e | e <;> simp [e]
  have hst := run_storeCells_cells (P := Try.prog) g o (List.replicate (n * 2) (.int .i64 0)) 0 w
    (by intro j hj; simp at hj; obtain ⟨v, hv⟩ := hb.cell (o + 0 + j) (by omega); rw [hv]; rfl) (fun j _ => hb.free _) (by intro v hv'; rw [List.eq_of_mem_replicate hv']; rfl)
  simp only [Nat.add_zero] at hst
  obtain ⟨m, rfl⟩ : ∃ m, n = m + 1 := ⟨n - 1, by omega⟩
  simp [Builtin.clear_, run_underlying Try.underlying61, hzc, hst]
end Go.Proofs.Ytkokilbnhhmicaa

/- The contract of slices.Compact over a row of cuts. -/
namespace Go.Proofs.Ytkokilbnhhmicaa
open Go.RowKit Go.Sort Go.Proofs.Ytkokilbnhhmicaa.Bo
set_option linter.unusedVariables false

/-- Two keys: one, or told apart by a side or by a number. -/
theorem ky_apart (x y : Int) (hx : Ky x) (hy : Ky y) : x = y ∨ (x ≠ y ∧ (sd x == sd y) = false) ∨ (x ≠ y ∧ sd x = sd y ∧ (pa x == pa y) = false) := by
  by_cases h : x = y
  · exact .inl h
  · by_cases h1 : sd x = sd y
    · exact .inr (.inr ⟨h, h1, beq_eq_false_iff_ne.2 fun h2 => h (ky_inj x y hx hy h1 h2)⟩)
    · exact .inr (.inl ⟨h, beq_eq_false_iff_ne.2 h1⟩)
theorem row_regrown {w : World} {g cap : Nat} {ks : List Int} (h : RowAt w g cap ks) (j : Nat) (hj : j < ks.length) :
    (∀ d os, (grow (redrawn w d) os).cell? ⟨g, j * 2, none⟩ = some (.int .i64 (sd ks[j]))) ∧ (∀ d os, (grow (redrawn w d) os).cell? ⟨g, j * 2 + 1, none⟩ = some (.int .i64 (pa ks[j]))) :=
  ⟨cell_regrown (h.2.2 j hj).1, cell_regrown (h.2.2 j hj).2⟩
theorem below_any {B : Nat} {a b c : World} (h : Below B a b) (hB : B ≤ b.heap.size) (h2 : Below b.heap.size b c) : Below B a c := h.trans (h2.mono hB)

end Go.Proofs.Ytkokilbnhhmicaa

/- slices.SortFunc by cut.Compare over a row of cuts. -/
namespace Go.Proofs.Ytkokilbnhhmicaa
open Go.RowKit Go.Sort Go.Shelf Go.Proofs.Ytkokilbnhhmicaa.Bo
set_option linter.unusedVariables false

/-- A key, with the word that it is one. -/
abbrev KY := {k : Int // Ky k}
instance : Inhabited KY := ⟨⟨0, by decide, by decide⟩⟩
def encK (x : KY) : List Value := [.int .i64 (sd x.1), .int .i64 (pa x.1)]
def cfK (x y : KY) : Int := kcmp x.1 y.1
theorem ltK (x y : KY) : ltOf cfK x y = decide (x.1 < y.1) := by
  unfold ltOf cfK kcmp
  by_cases h : x.1 < y.1
  · simp [h]
  · by_cases h2 : y.1 < x.1 <;> simp [h, h2]
theorem swoK : SWO (ltOf cfK) where
  irrefl x := by rw [ltK]; simp
  trans x y z h1 h2 := by rw [ltK] at *; simp at *; omega
  ntrans x y z h1 h2 := by rw [ltK] at *; simp at *; omega

theorem cmpLaysK (blk off size : Nat) (w : World) : CmpLays Try.prog 71 #[] encK 2 cfK blk off size w := by
  intro m os dk _ x y
  have h := compare_any (sd x.1) (pa x.1) (sd y.1) (pa y.1) (sortWorldK encK 2 w blk off m dk os) (pa_i64 _ x.2) (pa_i64 _ y.2)
  rw [key_back _ x.2, key_back _ y.2] at h
  exact h.mono fun _ _ h => ⟨h.1, h.2.grown⟩

/-- The row as the sort's kit holds it. -/
theorem holds_row {w : World} {g cap : Nat} {ks : List Int} (h : RowAt w g cap ks) (d : Array KY) (hd : d.toList.map (·.1) = ks) : HoldsK encK 2 w g 0 d := by
  have hl : d.size = ks.length := by rw [← hd]; simp
  intro j hj
  rw [size_flatK] at hj
  rw [get_flatK _ _ _ _ hj]
  have hq : j / 2 < ks.length := by omega
  have hc := h.2.2 (j / 2) hq
  have e : (d[j / 2]!).1 = ks[j / 2] := by
    rw [getElem!_pos d (j / 2) (by omega)]
    have : (d.toList.map (·.1))[j / 2]'(by simp; omega) = ks[j / 2] := by simp only [hd]
    simpa using this
  refine ⟨?_, h.1.free _⟩
  rcases Nat.mod_two_eq_zero_or_one j with e2 | e2
  · rw [e2, show 0 + j = j / 2 * 2 by omega, hc.1, ← e]; rfl
  · rw [e2, show 0 + j = j / 2 * 2 + 1 by omega, hc.2, ← e]; rfl
theorem row_holds {w : World} {g cap : Nat} {ks : List Int} (d : Array KY) (hd : d.toList.map (·.1) = ks) (hb : Blk w g cap) (hl : ks.length ≤ cap) (h : HoldsK encK 2 w g 0 d) : RowAt w g cap ks := by
  have hs : d.size = ks.length := by rw [← hd]; simp
  refine ⟨hb, hl, fun j hj => ?_⟩
  have e : (d[j]!).1 = ks[j] := by
    rw [getElem!_pos d j (by omega)]
    have : (d.toList.map (·.1))[j]'(by simp; omega) = ks[j] := by simp only [hd]
    simpa using this
  have c0 := (h.cell (i := j) (c := 0) (by omega) (by omega)).1
  have c1 := (h.cell (i := j) (c := 1) (by omega) (by omega)).1
  rw [Nat.zero_add, Nat.add_zero] at c0
  rw [Nat.zero_add] at c1
  rw [c0, c1, ← e]
  exact ⟨rfl, rfl⟩
theorem blk_sorted {w : World} {g cap : Nat} (h : Blk w g cap) (m : Nat) (d : Array KY) (os : Array Obj) : Blk (sortWorldK encK 2 w g 0 m d os) g cap := by
  obtain ⟨cur, h1, h2⟩ := h
  refine ⟨putCells id 0 (flatK encK 2 d) cur, ?_, by simp [putCells, h2]⟩
  unfold sortWorldK putRowK putRow mapBlock grow
  rw [Array.getElem?_append_left (by simp; exact lt_of_block h1)]
  simp only [Array.getElem?_modify, if_true, heap_ahead, h1]
  rfl
theorem below_sorted {w : World} {B g : Nat} (hB : B ≤ g) (hg : g < w.heap.size) (m : Nat) (d : Array KY) (os : Array Obj) : Go.RowKit.Below B w (sortWorldK encK 2 w g 0 m d os) := by
  refine ⟨rfl, rfl, rfl, ?_, fun k hk => ?_⟩
  · unfold sortWorldK; rw [size_grow]; simp [putRowK]
  · unfold sortWorldK putRowK putRow mapBlock grow
    rw [Array.getElem?_append_left (by simp; omega)]
    simp only [Array.getElem?_modify, heap_ahead]
    rw [if_neg (by omega)]

end Go.Proofs.Ytkokilbnhhmicaa

/- The contract of cut.Sort. -/
namespace Go.Proofs.Ytkokilbnhhmicaa
open Go.RowKit Go.Sort Go.Proofs.Ytkokilbnhhmicaa.Bo
set_option linter.unusedVariables false

/-- The cells of the right cuts of these. -/
def flatC (cs : List (Int × Int)) : List Value := cs.flatMap fun c => [.int .i64 (sd (kOf c)), .int .i64 (pa (kOf c))]
theorem flatC_len (cs : List (Int × Int)) : (flatC cs).length = cs.length * 2 := by
  unfold flatC
  induction cs with
  | nil => rfl
  | cons a l ih => rw [List.flatMap_cons, List.length_append, ih]; simp; omega
theorem flatC_snoc (cs : List (Int × Int)) (c : Int × Int) : flatC (cs ++ [c]) = flatC cs ++ [.int .i64 (sd (kOf c)), .int .i64 (pa (kOf c))] := by
  unfold flatC; rw [List.flatMap_append]; simp
theorem flatC_get (cs : List (Int × Int)) (j : Nat) (hj : j < cs.length) : (flatC cs)[j * 2]? = some (.int .i64 (sd (kOf cs[j]))) ∧ (flatC cs)[j * 2 + 1]? = some (.int .i64 (pa (kOf cs[j]))) := by
  induction cs generalizing j with
  | nil => simp at hj
  | cons a l ih =>
    cases j with
    | zero => exact ⟨rfl, rfl⟩
    | succ j =>
      have := ih j (by simpa using hj)
      unfold flatC at *
      rw [List.flatMap_cons]
      rw [show (j + 1) * 2 = j * 2 + 2 by omega]
      simpa [List.getElem?_append] using this
theorem own_on {w w' : World} {base : Nat} {e : TypeId} {size : Nat} {v : Value} {n : Nat} {xs : List Value} (h : w.ownsRow base e size v n xs) (hb : Go.RowKit.Below w.heap.size w w') : w'.ownsRow base e size v n xs := by
  obtain ⟨h1, h2⟩ := h
  refine ⟨h1, ?_⟩
  rcases h2 with h2 | ⟨g, cap, cur, hv, hg, hh, r⟩
  · exact .inl h2
  · exact .inr ⟨g, cap, cur, hv, hg, (hb.block _ (lt_of_block hh)).trans hh, r⟩
theorem row_of_own2 {w : World} {base g cap n : Nat} {cs : List (Int × Int)} (h : w.ownsRow base 23 2 (.slice (some ⟨g, 0, none⟩) n cap) n (flatC cs)) (hn : n = cs.length) : RowAt w g cap (cs.map kOf) ∧ base ≤ g ∧ cap ≤ maxLen := by
  rcases h.2 with ⟨h1, _⟩ | ⟨g', cap', cur, h1, hb, hh, hnc, hcm, hcs, htake⟩
  · cases h1
  · injection h1 with e1 e2 e3
    injection e1 with e1
    injection e1 with e1
    subst e1 e3
    refine ⟨⟨⟨cur, hh, hcs⟩, by rw [List.length_map]; omega, fun j hj => ?_⟩, hb, hcm⟩
    rw [List.length_map] at hj
    obtain ⟨f1, f2⟩ := flatC_get cs j hj
    rw [← htake, List.getElem?_take, if_pos (by omega)] at f1 f2
    rw [List.getElem_map]
    exact ⟨(cell_of_row _ _ _ _ _ _ hh).trans (by simpa using f1), (cell_of_row _ _ _ _ _ _ hh).trans (by simpa using f2)⟩
theorem one_two (a b : Int) : ∀ u ∈ ([.int .i64 a, .int .i64 b] : List Value), u.oneCell' = true := by
  intro u hu
  simp at hu
  rcases hu with rfl | rfl <;> rfl
theorem Try.infoCut : (Try.prog.info? 23).map (fun i => (i.zero, i.size, i.bytes)) = some (some (.agg #[.int .i64 0, .int .i64 0]), 2, 16) := by kernel_rfl

end Go.Proofs.Ytkokilbnhhmicaa

/- What the reference's sort does, on keys. -/
namespace Go.Proofs.Ytkokilbnhhmicaa.Bo
/-- The last key of a row; below all keys, if there is none. -/
def lb (os : List Int) : Int := (os.getLast?).getD (-9223372036854775809)
theorem lb_nil : lb [] = -9223372036854775809 := rfl
theorem lb_snoc (os : List Int) (m : Int) : lb (os ++ [m]) = m := by unfold lb; simp
theorem lb_get (os : List Int) (h : 0 < os.length) : lb os = os[os.length - 1] := by
  unfold lb
  rw [List.getLast?_eq_some_getLast (by intro e; rw [e] at h; simp at h), List.getLast_eq_getElem]
  rfl
/-- What has been put: rising keys of ks, all of those up to the last one. -/
def Put (ks os : List Int) : Prop := Up os ∧ (∀ x ∈ os, x ∈ ks) ∧ (∀ x ∈ ks, x ≤ lb os → x ∈ os)
theorem put_nil (ks : List Int) (h : ∀ k ∈ ks, Ky k) : Put ks [] := by
  refine ⟨List.Pairwise.nil, by simp, fun x hx h2 => ?_⟩
  have := h x hx
  unfold Ky at this
  rw [lb_nil] at h2
  omega
theorem up_lb (os : List Int) (h : Up os) : ∀ x ∈ os, x ≤ lb os := by
  intro x hx
  obtain ⟨i, hi, rfl⟩ := List.getElem_of_mem hx
  rw [lb_get os (by omega)]
  rcases Nat.lt_or_ge i (os.length - 1) with h2 | h2
  · have := List.pairwise_iff_getElem.1 h i (os.length - 1) hi (by omega) h2
    omega
  · have : i = os.length - 1 := by omega
    subst this
    exact Int.le_refl _
theorem put_snoc (ks os : List Int) (m : Int) (h : Put ks os) (hm : m ∈ ks) (hl : lb os < m) (hmin : ∀ x ∈ ks, lb os < x → m ≤ x) : Put ks (os ++ [m]) := by
  obtain ⟨h1, h2, h3⟩ := h
  refine ⟨?_, ?_, ?_⟩
  · unfold Up
    rw [List.pairwise_append]
    refine ⟨h1, List.pairwise_singleton .., fun x hx y hy => ?_⟩
    rw [List.mem_singleton] at hy
    subst hy
    have := up_lb os h1 x hx
    omega
  · intro x hx
    rcases List.mem_append.1 hx with h | h
    · exact h2 x h
    · rw [List.mem_singleton] at h; subst h; exact hm
  · intro x hx hle
    rw [lb_snoc] at hle
    rw [List.mem_append, List.mem_singleton]
    by_cases hq : lb os < x
    · right
      have := hmin x hx hq
      omega
    · left
      exact h3 x hx (by omega)
theorem put_done (ks os : List Int) (h : Put ks os) (hno : ∀ x ∈ ks, ¬ lb os < x) : Up os ∧ (∀ x, x ∈ os ↔ x ∈ ks) :=
  ⟨h.1, fun x => ⟨h.2.1 x, fun hx => h.2.2 x hx (by have := hno x hx; omega)⟩⟩
/-- How many are still to come. -/
def left (ks os : List Int) : Nat := ks.countP fun x => decide (lb os < x)
theorem countP_lt (p q : Int → Bool) (l : List Int) (hpq : ∀ x, q x = true → p x = true) (m : Int) (hm : m ∈ l) (h1 : p m = true) (h2 : q m = false) : l.countP q < l.countP p := by
  induction l with
  | nil => simp at hm
  | cons a l ih =>
    have hle : l.countP q ≤ l.countP p := List.countP_mono_left fun x _ h => hpq x h
    rw [List.countP_cons, List.countP_cons]
    rcases List.mem_cons.1 hm with e | e
    · subst e
      simp [h1, h2]; omega
    · have := ih e
      by_cases hq : q a = true
      · simp [hq, hpq a hq]; omega
      · simp [hq]; split <;> omega
theorem left_snoc (ks os : List Int) (m : Int) (hm : m ∈ ks) (hl : lb os < m) : left ks (os ++ [m]) < left ks os := by
  unfold left
  rw [lb_snoc]
  refine countP_lt _ _ ks (fun x hx => ?_) m hm (decide_eq_true hl) (decide_eq_false (by omega))
  simp at hx ⊢
  omega
/-- The least one above, among those that were seen. -/
def Seen (ks os : List Int) (f : Bool) (m : Int) : Prop := (f = true ∧ m ∈ ks ∧ lb os < m ∧ ∀ x ∈ ks, lb os < x → m ≤ x) ∨ (f = false ∧ ∀ x ∈ ks, ¬ lb os < x)
theorem seen_nil (os : List Int) (m : Int) : Seen [] os false m := .inr ⟨rfl, by simp⟩
theorem seen_take (ks os : List Int) (f : Bool) (m x : Int) (h : Seen ks os f m) (hl : lb os < x) (hc : f = false ∨ x < m) : Seen (ks ++ [x]) os true x := by
  refine .inl ⟨rfl, by simp, hl, fun y hy hly => ?_⟩
  rcases List.mem_append.1 hy with h1 | h1
  · rcases h with ⟨hf, _, _, h2⟩ | ⟨_, h2⟩
    · rcases hc with hc | hc
      · rw [hc] at hf; cases hf
      · have := h2 y h1 hly; omega
    · exact absurd hly (h2 y h1)
  · rw [List.mem_singleton] at h1; omega
theorem seen_skip (ks os : List Int) (f : Bool) (m x : Int) (h : Seen ks os f m) (hc : ¬ lb os < x ∨ (f = true ∧ ¬ x < m)) : Seen (ks ++ [x]) os f m := by
  rcases h with ⟨hf, h1, h2, h3⟩ | ⟨hf, h1⟩
  · refine .inl ⟨hf, List.mem_append_left _ h1, h2, fun y hy hly => ?_⟩
    rcases List.mem_append.1 hy with h4 | h4
    · exact h3 y h4 hly
    · rw [List.mem_singleton] at h4
      subst h4
      rcases hc with hc | hc
      · exact absurd hly hc
      · omega
  · refine .inr ⟨hf, fun y hy => ?_⟩
    rcases List.mem_append.1 hy with h4 | h4
    · exact h1 y h4
    · rw [List.mem_singleton] at h4
      subst h4
      rcases hc with hc | hc
      · exact hc
      · rw [hf] at hc; cases hc.1
end Go.Proofs.Ytkokilbnhhmicaa.Bo

/- The contract of the reference's Sort of cuts. -/
namespace Go.Proofs.Ytkokilbnhhmicaa
open Go.RowKit Go.Sort Go.Proofs.Ytkokilbnhhmicaa.Bo
set_option linter.unusedVariables false

/-- The cells of the cuts of these keys. -/
def flatL (ks : List Int) : List Value := ks.flatMap fun k => [.int .i64 (sd k), .int .i64 (pa k)]
theorem flatL_snoc (ks : List Int) (k : Int) : flatL (ks ++ [k]) = flatL ks ++ [.int .i64 (sd k), .int .i64 (pa k)] := by
  unfold flatL; rw [List.flatMap_append]; simp
theorem flatL_get (cs : List Int) (j : Nat) (hj : j < cs.length) : (flatL cs)[j * 2]? = some (.int .i64 (sd cs[j])) ∧ (flatL cs)[j * 2 + 1]? = some (.int .i64 (pa cs[j])) := by
  induction cs generalizing j with
  | nil => simp at hj
  | cons a l ih =>
    cases j with
    | zero => exact ⟨rfl, rfl⟩
    | succ j =>
      have := ih j (by simpa using hj)
      unfold flatL at *
      rw [List.flatMap_cons]
      rw [show (j + 1) * 2 = j * 2 + 2 by omega]
      simpa [List.getElem?_append] using this
theorem own_cells {w : World} {base g cap n n2 : Nat} {ks : List Int} (h : w.ownsRow base 23 2 (.slice (some ⟨g, 0, none⟩) n2 cap) n (flatL ks)) (hn : n = ks.length) (j : Nat) (hj : j < ks.length) :
    w.cell? ⟨g, j * 2, none⟩ = some (.int .i64 (sd ks[j])) ∧ w.cell? ⟨g, j * 2 + 1, none⟩ = some (.int .i64 (pa ks[j])) := by
  rcases h.2 with ⟨h1, _⟩ | ⟨g', cap', cur, h1, hb, hh, hnc, hcm, hcs, htake⟩
  · cases h1
  · injection h1 with e1 e2 e3
    injection e1 with e1
    injection e1 with e1
    subst e1 e3
    obtain ⟨f1, f2⟩ := flatL_get ks j hj
    rw [← htake, List.getElem?_take, if_pos (by omega)] at f1 f2
    exact ⟨(cell_of_row _ _ _ _ _ _ hh).trans (by simpa using f1), (cell_of_row _ _ _ _ _ _ hh).trans (by simpa using f2)⟩
theorem own_far {w : World} {base : Nat} {e : TypeId} {size : Nat} {v : Value} {n : Nat} {xs : List Value} (h : w.ownsRow base e size v n xs) (N i : Nat) (u : Value) (hN : ∀ k, v.ownBlock = some k → k ≠ N) : (w.setCell ⟨N, i, none⟩ u).ownsRow base e size v n xs := by
  obtain ⟨h1, h2⟩ := h
  refine ⟨h1, ?_⟩
  rcases h2 with h2 | ⟨g, cap, cur, hv, hg, hh, r⟩
  · exact .inl h2
  · refine .inr ⟨g, cap, cur, hv, hg, ?_, r⟩
    rw [heap_setCell_other _ _ _ _ (by have := hN g (by rw [hv]; rfl); simpa using this)]
    exact hh
theorem rless_b (s a t b : Int) (D : Bool) (h : decide (key s a < key t b) = D) (ha : I64 a) (hb : I64 b) (w : World) :
    Calls Try.prog 48 #[.agg #[.int .i64 s, .int .i64 a], .agg #[.int .i64 t, .int .i64 b]] w fun e w' => e = .returned (.bool D) ∧ Go.RowKit.Below w.heap.size w w' := by
  subst h; exact rless_any s a t b w ha hb

/-- What lies in memory while the reference looks for the next one. -/
structure InAt (w : World) (N : Nat) (ks os : List Int) (v : Value) (f : Bool) (m nx ny : Int) (wr : World) : Prop where
  seen : Seen ks os f m
  cut : f = true → nx = sd m ∧ ny = pa m ∧ Ky m
  box : wr.heap[N]? = some (.cells #[.int .i64 nx, .int .i64 ny] 23 (0, 0))
  own : wr.ownsRow w.heap.size 23 2 v os.length (flatL os)
  below : Go.RowKit.Below w.heap.size w wr
theorem InAt.on {w : World} {N : Nat} {ks os : List Int} {v : Value} {f : Bool} {m nx ny : Int} {wr wr' : World} (h : InAt w N ks os v f m nx ny wr) (hb : Go.RowKit.Below wr.heap.size wr wr') : InAt w N ks os v f m nx ny wr' :=
  ⟨h.seen, h.cut, box_on h.box hb, own_on h.own hb, bt h.below hb⟩
theorem InAt.skip {w : World} {N : Nat} {ks os : List Int} {v : Value} {f : Bool} {m nx ny : Int} {wr : World} (h : InAt w N ks os v f m nx ny wr) (x : Int) (hc : ¬ lb os < x ∨ (f = true ∧ ¬ x < m)) : InAt w N (ks ++ [x]) os v f m nx ny wr :=
  ⟨seen_skip _ _ _ _ _ h.seen hc, h.cut, h.box, h.own, h.below⟩
theorem InAt.take {w : World} {N : Nat} {ks os : List Int} {v : Value} {f : Bool} {m nx ny : Int} {wr : World} (h : InAt w N ks os v f m nx ny wr) (x : Int) (hx : Ky x) (hl : lb os < x) (hc : f = false ∨ x < m) (hN : w.heap.size ≤ N) (hv : ∀ k, v.ownBlock = some k → k ≠ N) :
    InAt w N (ks ++ [x]) os v true x (sd x) (pa x) ((wr.setCell ⟨N, 0, none⟩ (.int .i64 (sd x))).setCell ⟨N, 1, none⟩ (.int .i64 (pa x))) :=
  ⟨seen_take _ _ _ _ _ h.seen hl hc, fun _ => ⟨rfl, rfl, hx⟩, two_put h.box, own_far (own_far h.own _ _ _ hv) _ _ _ hv, (h.below.setCell hN _).setCell hN _⟩
/-- How the row that was put stands. -/
def OutIs (N : Nat) (os : List Int) (v : Value) : Prop := (os = [] ∧ v = .slice none 0 0) ∨ ∃ g cap q, os.length = q + 1 ∧ v = .slice (some ⟨g, 0, none⟩) (q + 1) cap ∧ g < N

theorem up_len : ∀ (l m : List Int), Up l → (∀ x ∈ l, x ∈ m) → l.length ≤ m.length := by
  intro l
  induction l with
  | nil => intro m _ _; exact Nat.zero_le _
  | cons a l ih =>
    intro m h hs
    have h' := List.pairwise_cons.1 h
    have ha := hs a (List.mem_cons_self ..)
    have := ih (m.erase a) h'.2 (fun x hx => by
      have hne : x ≠ a := by have := h'.1 x hx; omega
      exact (List.mem_erase_of_ne hne).2 (hs x (List.mem_cons_of_mem _ hx)))
    rw [List.length_erase_of_mem ha] at this
    have hp : 0 < m.length := List.length_pos_of_mem ha
    simp; omega
def RSortPost (cs : List (Int × Int)) (w : World) (e : Ending) (w' : World) : Prop :=
  ∃ (v : Value) (ks : List Int), (e = .returned v ∧ Up ks ∧ (∀ x, x ∈ ks ↔ x ∈ cs.map kOf) ∧ OutIs w'.heap.size ks v ∧ w'.ownsRow w.heap.size 23 2 v ks.length (flatL ks)) ∧ Go.RowKit.Below w.heap.size w w'
/-- A cut's two cells. -/
def CellsAt (w : World) (b o : Nat) (c1 c2 : Int) : Prop := w.cell? ⟨b, o, none⟩ = some (.int .i64 c1) ∧ w.cell? ⟨b, o + 1, none⟩ = some (.int .i64 c2)
theorem CellsAt.below {w w' : World} {b o : Nat} {c1 c2 : Int} (h : CellsAt w b o c1 c2) (hb : Go.RowKit.Below w.heap.size w w') : CellsAt w' b o c1 c2 :=
  ⟨(hb.cell (World.block_lt_of_cell? w _ h.1)).trans h.1, (hb.cell (World.block_lt_of_cell? w _ h.2)).trans h.2⟩

set_option maxRecDepth 100000 in
set_option maxHeartbeats 8000000 in
theorem rsort_any (a : Option Addr) (cap0 : Nat) (cs : List (Int × Int)) (w : World) (hz : ∀ c ∈ cs, I64 c.2) (hr : CRow w a cs) (hl : cs.length ≤ 100) :
    Calls Try.prog 73 #[.slice a cs.length cap0] w (RSortPost cs w) := by
  have mx := mixed
  have eqc := eql_cut
  obtain ⟨i0, hi, hz0, hz1, hz2⟩ := info_parts Try.infoCut
  have HR := Lib.hid hr
  have HZ := Lib.hid hz
  have HKY : Hid (∀ k ∈ cs.map kOf, Ky k) := by
    intro k hk
    obtain ⟨c, hc, rfl⟩ := List.mem_map.1 hk
    exact key_ky _ _ (hz c hc)
  clear hr hz
  go_enter Try.func73, Try.ntmps73
  go_wp2_with fail
  go_loopg [3] (left (cs.map kOf) []) (fun gh s3 wr => ∃ (os : List Int) (v : Value), v = s3 ∧ Put (cs.map kOf) os ∧ left (cs.map kOf) os ≤ gh ∧ OutIs wr.heap.size os v ∧ os.length ≤ cs.length ∧ wr.ownsRow w.heap.size 23 2 v os.length (flatL os) ∧ Go.RowKit.Below w.heap.size w wr)
  case atStart => exact ⟨[], _, rfl, put_nil _ HKY.out, Nat.le_refl _, .inl ⟨rfl, rfl⟩, Nat.zero_le _, ⟨rfl, .inl ⟨rfl, rfl⟩⟩, Go.RowKit.Below.refl _ _⟩
  case round =>
    obtain ⟨os, v, rfl, hput, hgh, hout, hol, hown, hBr⟩ := hrel
    have HPUT := Lib.hid hput
    have HOUT := Lib.hid hout
    have hNw : w.heap.size ≤ wr.heap.size := hBr.size
    have HNV : Hid (∀ k, v.ownBlock = some k → k ≠ wr.heap.size) := by
      intro k hk
      have := (hown.lt k hk).2
      omega
    have HIN0 : Hid (InAt w wr.heap.size [] os v false 0 0 0 (wr.alloc (.cells #[.int .i64 0, .int .i64 0] 23))) :=
      ⟨seen_nil os 0, (fun h => by cases h), heap_alloc_new _ _, hown.alloc _, bt hBr (below_new wr _)⟩
    have hout' := hout
    clear hput hout hown hBr
    rcases hout' with ⟨rfl, rfl⟩ | ⟨g, cap, q, hq, rfl, hgN⟩
    · obtain ⟨N, hN⟩ : ∃ N, N = wr.heap.size := ⟨_, rfl⟩
      have HN := Lib.hid hN
      rw [← hN] at HIN0 HNV HOUT hNw
      clear hN
      go_wp2_with fail
      rw [← HN.out]
      go_loopw [4, 6] (fun s4 s6 wr2 => ∃ (i : Nat) (f : Bool) (m nx ny : Int), s4 = .bool f ∧ s6 = .int .i64 (i : Int) ∧ i ≤ cs.length ∧ InAt w N ((cs.take i).map kOf) [] (.slice none 0 0) f m nx ny wr2) (fun _ s6 _ => cs.length - (intOf s6).toNat)
      case atStart => exact ⟨0, false, 0, 0, 0, rfl, rfl, Nat.zero_le _, by have h := HIN0.out; rw [HN.out] at h ⊢; exact h⟩
      case round =>
        clear HIN0 HN
        obtain ⟨i, f, m, nx, ny, rfl, rfl, hil, hin⟩ := hrel
        have HI := Lib.hid hin
        clear hin
        by_cases hlt : i < cs.length
        · obtain ⟨b, off, rfl, hcell⟩ := (HR.out.below HI.out.below) (by omega)
          obtain ⟨hc1, hc2⟩ := hcell i hlt
          have HE : Hid ((cs.take (i + 1)).map kOf = (cs.take i).map kOf ++ [kOf cs[i]]) := by
            show _ = _
            rw [List.take_succ_eq_append_getElem hlt, List.map_append]; rfl
          have HCI : Hid (I64 cs[i].2) := HZ.out _ (List.getElem_mem hlt)
          have HCAN := Lib.hid (fun W => rcanon_any cs[i].1 cs[i].2 W HCI.out)
          have HKX : Hid (Ky (kOf cs[i])) := key_ky _ _ HCI.out
          have HXK : Hid (key cs[i].1 cs[i].2 = kOf cs[i]) := rfl
          rw [HXK.out] at HCAN
          clear hcell
          generalize kOf cs[i] = X at *
          generalize cs[i].1 = c1 at *
          generalize cs[i].2 = c2 at *
          have HCR : Hid (CellsAt wr b (off + i * 2) c1 c2) := ⟨hc1, hc2⟩
          obtain ⟨sx, px, hsx, hpx⟩ : ∃ sx px, sx = sd X ∧ px = pa X := ⟨_, _, rfl, rfl⟩
          rw [← hsx, ← hpx] at HCAN
          have HSX := Lib.hid (And.intro hsx hpx)
          clear hsx hpx
          have hNr : N < wr.heap.size := lt_of_block HI.out.box
          have HLX : Hid (lb [] < X) := by have h := HKX.out; unfold Ky at h; show lb [] < X; rw [lb_nil]; omega
          cases f with
          | false =>
            have HNO : Hid (false = true → nx = sd m ∧ ny = pa m ∧ Ky m) := HI.out.cut
            obtain ⟨p1, p2⟩ : (∀ d os, (grow (redrawn wr d) os).cell? ⟨b, off + i * 2, none⟩ = some (.int .i64 c1)) ∧ (∀ d os, (grow (redrawn wr d) os).cell? ⟨b, off + i * 2 + 1, none⟩ = some (.int .i64 c2)) := ⟨cell_regrown hc1, cell_regrown hc2⟩
            go_wp2_with fail
            refine wp_region_quiet_below (by assumption) (by kernel_rfl) ?_
            repeat (go_big_quiet_step (fail))
            refine wpQuiet_nil ?_
            intro _ hw'
            obtain ⟨⟨nq1, osq1⟩, hw''⟩ := hw'
            subst hw''
            have hB1 := below_regrown wr nq1 osq1
            have HI1 := Lib.hid (HI.out.on hB1)
            have hcr := (HCR.out.below hB1)
            clear p1 p2
            go_wp2_with fail
            generalize grow (redrawn wr nq1) osq1 = Y at *
            obtain ⟨p1, p2⟩ : (∀ d os, (grow (redrawn Y d) os).cell? ⟨b, off + i * 2, none⟩ = some (.int .i64 c1)) ∧ (∀ d os, (grow (redrawn Y d) os).cell? ⟨b, off + i * 2 + 1, none⟩ = some (.int .i64 c2)) := ⟨cell_regrown hcr.1, cell_regrown hcr.2⟩
            obtain ⟨p5, p6⟩ := cut_regrown HI1.out.box
            refine wp_region_quiet_below (by assumption) (by kernel_rfl) ?_
            repeat (go_big_quiet_step (fail))
            refine wpQuiet_nil ?_
            intro _ hw'
            obtain ⟨⟨nq2, osq2⟩, hw''⟩ := hw'
            subst hw''
            have hB2 := below_regrown Y nq2 osq2
            have HI2 := Lib.hid (HI1.out.on hB2)
            have hcr2 := CellsAt.below hcr hB2
            clear p1 p2 p5 p6
            obtain ⟨d1, d2⟩ := hcr2
            go_wp2_with fail
            generalize grow (redrawn Y nq2) osq2 = Z at *
            refine (HCAN.out _).mono ?_
            rintro e z1 ⟨rfl, hB3⟩
            have HI3 := Lib.hid (HI2.out.on hB3)
            obtain ⟨q1, q2, q3, q4⟩ := two_cells HI3.out.box
            have HT := Lib.hid (HI3.out.take X HKX.out HLX.out (.inl rfl) hNw HNV.out)
            rw [← HSX.out.1, ← HSX.out.2] at HT
            clear d1 d2 hB3
            go_wp2_with fail
            go_roundw
            case rel => exact ⟨i + 1, true, X, sx, px, rfl, by go_num, by omega, by rw [HE.out]; exact HT.out⟩
            case measure => simp [intOf]; omega

          | true =>
            have hcut := HI.out.cut rfl
            obtain ⟨e1, e2, e3⟩ := hcut
            have hkb := key_back m e3
            rw [← e1, ← e2] at hkb
            have hnyi : I64 ny := by rw [e2]; exact pa_i64 m e3
            have HNYI := Lib.hid hnyi
            have HKB := Lib.hid hkb
            clear e1 e2 e3 hkb hnyi
            by_cases hxm : X < m
            · have HD2 := Lib.hid hxm
              have HL2 := Lib.hid (fun W => rless_b c1 c2 nx ny true (by rw [HKB.out, HXK.out]; exact decide_eq_true HD2.out) HCI.out HNYI.out W)
              clear hxm
              obtain ⟨p1, p2⟩ : (∀ d os, (grow (redrawn wr d) os).cell? ⟨b, off + i * 2, none⟩ = some (.int .i64 c1)) ∧ (∀ d os, (grow (redrawn wr d) os).cell? ⟨b, off + i * 2 + 1, none⟩ = some (.int .i64 c2)) := ⟨cell_regrown hc1, cell_regrown hc2⟩
              go_wp2_with fail
              refine wp_region_quiet_below (by assumption) (by kernel_rfl) ?_
              repeat (go_big_quiet_step (fail))
              refine wpQuiet_nil ?_
              intro _ hw'
              obtain ⟨⟨nq1, osq1⟩, hw''⟩ := hw'
              subst hw''
              have hB1 := below_regrown wr nq1 osq1
              have HI1 := Lib.hid (HI.out.on hB1)
              have hcr := (HCR.out.below hB1)
              clear p1 p2
              go_wp2_with fail
              generalize grow (redrawn wr nq1) osq1 = Y at *
              obtain ⟨p1, p2⟩ : (∀ d os, (grow (redrawn Y d) os).cell? ⟨b, off + i * 2, none⟩ = some (.int .i64 c1)) ∧ (∀ d os, (grow (redrawn Y d) os).cell? ⟨b, off + i * 2 + 1, none⟩ = some (.int .i64 c2)) := ⟨cell_regrown hcr.1, cell_regrown hcr.2⟩
              obtain ⟨p5, p6⟩ := cut_regrown HI1.out.box
              refine wp_region_quiet_below (by assumption) (by kernel_rfl) ?_
              repeat (go_big_quiet_step (first | (go_at_call 48; exact Calls.regrown_of (HL2.out _))))
              refine wpQuiet_nil ?_
              intro _ hw'
              obtain ⟨⟨nq2, osq2⟩, hw''⟩ := hw'
              subst hw''
              have hB2 := below_regrown Y nq2 osq2
              have HI2 := Lib.hid (HI1.out.on hB2)
              have hcr2 := CellsAt.below hcr hB2
              clear p1 p2 p5 p6
              obtain ⟨d1, d2⟩ := hcr2
              go_wp2_with fail
              generalize grow (redrawn Y nq2) osq2 = Z at *
              refine (HCAN.out _).mono ?_
              rintro e z1 ⟨rfl, hB3⟩
              have HI3 := Lib.hid (HI2.out.on hB3)
              obtain ⟨q1, q2, q3, q4⟩ := two_cells HI3.out.box
              have HT := Lib.hid (HI3.out.take X HKX.out HLX.out (.inr HD2.out) hNw HNV.out)
              rw [← HSX.out.1, ← HSX.out.2] at HT
              clear d1 d2 hB3
              go_wp2_with fail
              go_roundw
              case rel => exact ⟨i + 1, true, X, sx, px, rfl, by go_num, by omega, by rw [HE.out]; exact HT.out⟩
              case measure => simp [intOf]; omega

            · have HD2 := Lib.hid hxm
              have HL2 := Lib.hid (fun W => rless_b c1 c2 nx ny false (by rw [HKB.out, HXK.out]; exact decide_eq_false HD2.out) HCI.out HNYI.out W)
              clear hxm
              obtain ⟨p1, p2⟩ : (∀ d os, (grow (redrawn wr d) os).cell? ⟨b, off + i * 2, none⟩ = some (.int .i64 c1)) ∧ (∀ d os, (grow (redrawn wr d) os).cell? ⟨b, off + i * 2 + 1, none⟩ = some (.int .i64 c2)) := ⟨cell_regrown hc1, cell_regrown hc2⟩
              go_wp2_with fail
              refine wp_region_quiet_below (by assumption) (by kernel_rfl) ?_
              repeat (go_big_quiet_step (fail))
              refine wpQuiet_nil ?_
              intro _ hw'
              obtain ⟨⟨nq1, osq1⟩, hw''⟩ := hw'
              subst hw''
              have hB1 := below_regrown wr nq1 osq1
              have HI1 := Lib.hid (HI.out.on hB1)
              have hcr := (HCR.out.below hB1)
              clear p1 p2
              go_wp2_with fail
              generalize grow (redrawn wr nq1) osq1 = Y at *
              obtain ⟨p1, p2⟩ : (∀ d os, (grow (redrawn Y d) os).cell? ⟨b, off + i * 2, none⟩ = some (.int .i64 c1)) ∧ (∀ d os, (grow (redrawn Y d) os).cell? ⟨b, off + i * 2 + 1, none⟩ = some (.int .i64 c2)) := ⟨cell_regrown hcr.1, cell_regrown hcr.2⟩
              obtain ⟨p5, p6⟩ := cut_regrown HI1.out.box
              refine wp_region_quiet_below (by assumption) (by kernel_rfl) ?_
              repeat (go_big_quiet_step (first | (go_at_call 48; exact Calls.regrown_of (HL2.out _))))
              refine wpQuiet_nil ?_
              intro _ hw'
              obtain ⟨⟨nq2, osq2⟩, hw''⟩ := hw'
              subst hw''
              have hB2 := below_regrown Y nq2 osq2
              have HI2 := Lib.hid (HI1.out.on hB2)
              have hcr2 := CellsAt.below hcr hB2
              clear p1 p2 p5 p6
              go_wp2_with fail
              go_roundw
              case rel => exact ⟨i + 1, true, m, nx, ny, rfl, by go_num, by omega, by rw [HE.out]; exact HI2.out.skip X (.inr ⟨rfl, by have := HD2.out; omega⟩)⟩
              case measure => simp [intOf]; omega

        · obtain rfl : i = cs.length := by omega
          have HIL := HI
          rw [List.take_length] at HIL
          clear HI
          cases f with
          | false =>
            have HDN : Hid (∀ x ∈ cs.map kOf, ¬ lb [] < x) := by
              rcases HIL.out.seen with ⟨h, _⟩ | ⟨_, h⟩
              · cases h
              · exact h
            go_wp2_with fail
            go_ret
            refine ⟨(.slice none 0 0), [], ⟨rfl, (put_done _ _ HPUT.out (fun x hx => by have := HDN.out x hx; omega)).1, (put_done _ _ HPUT.out (fun x hx => by have := HDN.out x hx; omega)).2, ?_, HIL.out.own⟩, HIL.out.below⟩
            exact .inl ⟨rfl, rfl⟩
          | true =>
            have hseen : m ∈ cs.map kOf ∧ lb [] < m ∧ ∀ x ∈ cs.map kOf, lb [] < x → m ≤ x := by
              rcases HIL.out.seen with ⟨_, h⟩ | ⟨h, _⟩
              · exact h
              · cases h
            have HSE := Lib.hid hseen
            obtain ⟨e1, e2, e3⟩ := HIL.out.cut rfl
            have HCU := Lib.hid (And.intro e1 e2)
            obtain ⟨m1, m2, _, _⟩ := two_cells HIL.out.box
            have HO2 := Lib.hid (HIL.out.own.alloc (.cells #[.int .i64 nx, .int .i64 ny] 23))
            have hL3 := bt HIL.out.below (below_new wr (.cells #[.int .i64 nx, .int .i64 ny] 23))
            have hsz2 := HIL.out.below.size
            have HPN := Lib.hid (put_snoc _ _ m HPUT.out HSE.out.1 HSE.out.2.1 HSE.out.2.2)
            have HLN := Lib.hid (left_snoc _ _ m HSE.out.1 HSE.out.2.1)
            have hlen := up_len _ _ HPN.out.1 HPN.out.2.1
            rw [List.length_append, List.length_singleton, List.length_map] at hlen
            clear hseen e1 e2 e3
            go_wp2_with (at_builtin; refine wpList_append_lies _ rfl _ _ 61 rfl w.heap.size 23 i0 (.agg #[.int .i64 0, .int .i64 0]) 2 16 Try.underlying61 hi hz0 hz1 hz2 rfl (by decide) _ 0 (flatL []) (by rfl) HO2.out ⟨wr.heap.size, 0, none⟩ 1 1 [.int .i64 nx, .int .i64 ny] (by rfl) rfl (World.news_of_block (heap_alloc_new wr _)) (one_two nx ny) (by decide) (by unfold maxLen; omega) (by omega) (by simp; omega) _ rfl ?_; intro g2 cap2 w1 hown1 hgrow1 hat1 hlt1)
            have hL4 : Go.RowKit.Below w.heap.size w w1 := hL3.grown hgrow1 (by simp; omega) (fun k hk => (HO2.out.lt k hk).1)
            have hfl : flatL (([] : List Int) ++ [m]) = flatL ([] : List Int) ++ [.int .i64 nx, .int .i64 ny] := by rw [flatL_snoc, HCU.out.1, HCU.out.2]
            have hln : (([] : List Int) ++ [m]).length = 0 + 1 := by rfl
            go_roundg (left (cs.map kOf) (([] : List Int) ++ [m]))
            case measure => have := HLN.out; omega
            case rel => exact ⟨([] : List Int) ++ [m], _, rfl, HPN.out, Nat.le_refl _, .inr ⟨g2, cap2, 0, hln, rfl, hlt1⟩, by rw [List.length_append, List.length_singleton]; omega, by rw [hfl, hln]; exact hown1, hL4⟩

    · obtain ⟨N, hN⟩ : ∃ N, N = wr.heap.size := ⟨_, rfl⟩
      have HN := Lib.hid hN
      rw [← hN] at HIN0 HNV HOUT hNw hgN
      clear hN
      go_wp2_with fail
      rw [← HN.out]
      go_loopw [4, 6] (fun s4 s6 wr2 => ∃ (i : Nat) (f : Bool) (m nx ny : Int), s4 = .bool f ∧ s6 = .int .i64 (i : Int) ∧ i ≤ cs.length ∧ InAt w N ((cs.take i).map kOf) os (.slice (some ⟨g, 0, none⟩) (q + 1) cap) f m nx ny wr2) (fun _ s6 _ => cs.length - (intOf s6).toNat)
      case atStart => exact ⟨0, false, 0, 0, 0, rfl, rfl, Nat.zero_le _, by have h := HIN0.out; rw [HN.out] at h ⊢; exact h⟩
      case round =>
        clear HIN0 HN
        obtain ⟨i, f, m, nx, ny, rfl, rfl, hil, hin⟩ := hrel
        have HI := Lib.hid hin
        clear hin
        by_cases hlt : i < cs.length
        · obtain ⟨b, off, rfl, hcell⟩ := (HR.out.below HI.out.below) (by omega)
          obtain ⟨hc1, hc2⟩ := hcell i hlt
          have HE : Hid ((cs.take (i + 1)).map kOf = (cs.take i).map kOf ++ [kOf cs[i]]) := by
            show _ = _
            rw [List.take_succ_eq_append_getElem hlt, List.map_append]; rfl
          have HCI : Hid (I64 cs[i].2) := HZ.out _ (List.getElem_mem hlt)
          have HCAN := Lib.hid (fun W => rcanon_any cs[i].1 cs[i].2 W HCI.out)
          have HKX : Hid (Ky (kOf cs[i])) := key_ky _ _ HCI.out
          have HXK : Hid (key cs[i].1 cs[i].2 = kOf cs[i]) := rfl
          rw [HXK.out] at HCAN
          clear hcell
          generalize kOf cs[i] = X at *
          generalize cs[i].1 = c1 at *
          generalize cs[i].2 = c2 at *
          have HCR : Hid (CellsAt wr b (off + i * 2) c1 c2) := ⟨hc1, hc2⟩
          obtain ⟨sx, px, hsx, hpx⟩ : ∃ sx px, sx = sd X ∧ px = pa X := ⟨_, _, rfl, rfl⟩
          rw [← hsx, ← hpx] at HCAN
          have HSX := Lib.hid (And.intro hsx hpx)
          clear hsx hpx
          have hNr : N < wr.heap.size := lt_of_block HI.out.box
          have tq : ((q : Int) + 1 == 0) = false := beq_eq_false_iff_ne.2 (by omega)
          have tq0 : (0 : Int) ≤ (q : Int) := by omega
          have ti0 : (0 : Int) ≤ (i : Int) := by omega
          have ti1 : (i : Int) < (cs.length : Int) := by omega
          have hy := own_cells HI.out.own rfl q (by omega)
          have HYK : Hid (Ky (os[q]'(by omega))) := HKY.out _ (HPUT.out.2.1 _ (List.getElem_mem (by omega)))
          have HYL : Hid (lb os = os[q]'(by omega)) := by
            show _ = _
            rw [lb_get os (by omega)]; congr 1; omega
          obtain ⟨y, hyy⟩ : ∃ y, y = os[q]'(by omega) := ⟨_, rfl⟩
          rw [← hyy] at hy HYK HYL
          clear hyy
          obtain ⟨y1, y2, hy1, hy2⟩ : ∃ y1 y2, y1 = sd y ∧ y2 = pa y := ⟨_, _, rfl, rfl⟩
          have hyb := key_back y HYK.out
          have hyi := pa_i64 y HYK.out
          rw [← hy1, ← hy2] at hyb hy
          rw [← hy2] at hyi
          have HYB := Lib.hid hyb
          have HYI := Lib.hid hyi
          clear hy1 hy2 hyb hyi
          by_cases hxl : y < X
          · have HLX : Hid (lb os < X) := by show lb os < X; rw [HYL.out]; exact hxl
            have HD1 := Lib.hid hxl
            have HL1 := Lib.hid (fun W => rless_b y1 y2 c1 c2 true (by rw [HYB.out, HXK.out]; exact decide_eq_true HD1.out) HYI.out HCI.out W)
            clear hxl
            cases f with
            | false =>
              have HNO : Hid (false = true → nx = sd m ∧ ny = pa m ∧ Ky m) := HI.out.cut
              obtain ⟨p1, p2⟩ : (∀ d os, (grow (redrawn wr d) os).cell? ⟨b, off + i * 2, none⟩ = some (.int .i64 c1)) ∧ (∀ d os, (grow (redrawn wr d) os).cell? ⟨b, off + i * 2 + 1, none⟩ = some (.int .i64 c2)) := ⟨cell_regrown hc1, cell_regrown hc2⟩
              obtain ⟨p3, p4⟩ : (∀ d os, (grow (redrawn wr d) os).cell? ⟨g, q * 2, none⟩ = some (.int .i64 y1)) ∧ (∀ d os, (grow (redrawn wr d) os).cell? ⟨g, q * 2 + 1, none⟩ = some (.int .i64 y2)) := ⟨cell_regrown hy.1, cell_regrown hy.2⟩
              go_wp2_with fail
              refine wp_region_quiet_below (by assumption) (by kernel_rfl) ?_
              repeat (go_big_quiet_step (first | (go_at_call 48; exact Calls.regrown_of (HL1.out _))))
              refine wpQuiet_nil ?_
              intro _ hw'
              obtain ⟨⟨nq1, osq1⟩, hw''⟩ := hw'
              subst hw''
              have hB1 := below_regrown wr nq1 osq1
              have HI1 := Lib.hid (HI.out.on hB1)
              have hcr := (HCR.out.below hB1)
              clear p1 p2 p3 p4
              go_wp2_with fail
              generalize grow (redrawn wr nq1) osq1 = Y at *
              obtain ⟨p1, p2⟩ : (∀ d os, (grow (redrawn Y d) os).cell? ⟨b, off + i * 2, none⟩ = some (.int .i64 c1)) ∧ (∀ d os, (grow (redrawn Y d) os).cell? ⟨b, off + i * 2 + 1, none⟩ = some (.int .i64 c2)) := ⟨cell_regrown hcr.1, cell_regrown hcr.2⟩
              obtain ⟨p5, p6⟩ := cut_regrown HI1.out.box
              refine wp_region_quiet_below (by assumption) (by kernel_rfl) ?_
              repeat (go_big_quiet_step (fail))
              refine wpQuiet_nil ?_
              intro _ hw'
              obtain ⟨⟨nq2, osq2⟩, hw''⟩ := hw'
              subst hw''
              have hB2 := below_regrown Y nq2 osq2
              have HI2 := Lib.hid (HI1.out.on hB2)
              have hcr2 := CellsAt.below hcr hB2
              clear p1 p2 p5 p6
              obtain ⟨d1, d2⟩ := hcr2
              go_wp2_with fail
              generalize grow (redrawn Y nq2) osq2 = Z at *
              refine (HCAN.out _).mono ?_
              rintro e z1 ⟨rfl, hB3⟩
              have HI3 := Lib.hid (HI2.out.on hB3)
              obtain ⟨q1, q2, q3, q4⟩ := two_cells HI3.out.box
              have HT := Lib.hid (HI3.out.take X HKX.out HLX.out (.inl rfl) hNw HNV.out)
              rw [← HSX.out.1, ← HSX.out.2] at HT
              clear d1 d2 hB3
              go_wp2_with fail
              go_roundw
              case rel => exact ⟨i + 1, true, X, sx, px, rfl, by go_num, by omega, by rw [HE.out]; exact HT.out⟩
              case measure => simp [intOf]; omega

            | true =>
              have hcut := HI.out.cut rfl
              obtain ⟨e1, e2, e3⟩ := hcut
              have hkb := key_back m e3
              rw [← e1, ← e2] at hkb
              have hnyi : I64 ny := by rw [e2]; exact pa_i64 m e3
              have HNYI := Lib.hid hnyi
              have HKB := Lib.hid hkb
              clear e1 e2 e3 hkb hnyi
              by_cases hxm : X < m
              · have HD2 := Lib.hid hxm
                have HL2 := Lib.hid (fun W => rless_b c1 c2 nx ny true (by rw [HKB.out, HXK.out]; exact decide_eq_true HD2.out) HCI.out HNYI.out W)
                clear hxm
                obtain ⟨p1, p2⟩ : (∀ d os, (grow (redrawn wr d) os).cell? ⟨b, off + i * 2, none⟩ = some (.int .i64 c1)) ∧ (∀ d os, (grow (redrawn wr d) os).cell? ⟨b, off + i * 2 + 1, none⟩ = some (.int .i64 c2)) := ⟨cell_regrown hc1, cell_regrown hc2⟩
                obtain ⟨p3, p4⟩ : (∀ d os, (grow (redrawn wr d) os).cell? ⟨g, q * 2, none⟩ = some (.int .i64 y1)) ∧ (∀ d os, (grow (redrawn wr d) os).cell? ⟨g, q * 2 + 1, none⟩ = some (.int .i64 y2)) := ⟨cell_regrown hy.1, cell_regrown hy.2⟩
                go_wp2_with fail
                refine wp_region_quiet_below (by assumption) (by kernel_rfl) ?_
                repeat (go_big_quiet_step (first | (go_at_call 48; exact Calls.regrown_of (HL1.out _))))
                refine wpQuiet_nil ?_
                intro _ hw'
                obtain ⟨⟨nq1, osq1⟩, hw''⟩ := hw'
                subst hw''
                have hB1 := below_regrown wr nq1 osq1
                have HI1 := Lib.hid (HI.out.on hB1)
                have hcr := (HCR.out.below hB1)
                clear p1 p2 p3 p4
                go_wp2_with fail
                generalize grow (redrawn wr nq1) osq1 = Y at *
                obtain ⟨p1, p2⟩ : (∀ d os, (grow (redrawn Y d) os).cell? ⟨b, off + i * 2, none⟩ = some (.int .i64 c1)) ∧ (∀ d os, (grow (redrawn Y d) os).cell? ⟨b, off + i * 2 + 1, none⟩ = some (.int .i64 c2)) := ⟨cell_regrown hcr.1, cell_regrown hcr.2⟩
                obtain ⟨p5, p6⟩ := cut_regrown HI1.out.box
                refine wp_region_quiet_below (by assumption) (by kernel_rfl) ?_
                repeat (go_big_quiet_step (first | (go_at_call 48; exact Calls.regrown_of (HL2.out _))))
                refine wpQuiet_nil ?_
                intro _ hw'
                obtain ⟨⟨nq2, osq2⟩, hw''⟩ := hw'
                subst hw''
                have hB2 := below_regrown Y nq2 osq2
                have HI2 := Lib.hid (HI1.out.on hB2)
                have hcr2 := CellsAt.below hcr hB2
                clear p1 p2 p5 p6
                obtain ⟨d1, d2⟩ := hcr2
                go_wp2_with fail
                generalize grow (redrawn Y nq2) osq2 = Z at *
                refine (HCAN.out _).mono ?_
                rintro e z1 ⟨rfl, hB3⟩
                have HI3 := Lib.hid (HI2.out.on hB3)
                obtain ⟨q1, q2, q3, q4⟩ := two_cells HI3.out.box
                have HT := Lib.hid (HI3.out.take X HKX.out HLX.out (.inr HD2.out) hNw HNV.out)
                rw [← HSX.out.1, ← HSX.out.2] at HT
                clear d1 d2 hB3
                go_wp2_with fail
                go_roundw
                case rel => exact ⟨i + 1, true, X, sx, px, rfl, by go_num, by omega, by rw [HE.out]; exact HT.out⟩
                case measure => simp [intOf]; omega

              · have HD2 := Lib.hid hxm
                have HL2 := Lib.hid (fun W => rless_b c1 c2 nx ny false (by rw [HKB.out, HXK.out]; exact decide_eq_false HD2.out) HCI.out HNYI.out W)
                clear hxm
                obtain ⟨p1, p2⟩ : (∀ d os, (grow (redrawn wr d) os).cell? ⟨b, off + i * 2, none⟩ = some (.int .i64 c1)) ∧ (∀ d os, (grow (redrawn wr d) os).cell? ⟨b, off + i * 2 + 1, none⟩ = some (.int .i64 c2)) := ⟨cell_regrown hc1, cell_regrown hc2⟩
                obtain ⟨p3, p4⟩ : (∀ d os, (grow (redrawn wr d) os).cell? ⟨g, q * 2, none⟩ = some (.int .i64 y1)) ∧ (∀ d os, (grow (redrawn wr d) os).cell? ⟨g, q * 2 + 1, none⟩ = some (.int .i64 y2)) := ⟨cell_regrown hy.1, cell_regrown hy.2⟩
                go_wp2_with fail
                refine wp_region_quiet_below (by assumption) (by kernel_rfl) ?_
                repeat (go_big_quiet_step (first | (go_at_call 48; exact Calls.regrown_of (HL1.out _))))
                refine wpQuiet_nil ?_
                intro _ hw'
                obtain ⟨⟨nq1, osq1⟩, hw''⟩ := hw'
                subst hw''
                have hB1 := below_regrown wr nq1 osq1
                have HI1 := Lib.hid (HI.out.on hB1)
                have hcr := (HCR.out.below hB1)
                clear p1 p2 p3 p4
                go_wp2_with fail
                generalize grow (redrawn wr nq1) osq1 = Y at *
                obtain ⟨p1, p2⟩ : (∀ d os, (grow (redrawn Y d) os).cell? ⟨b, off + i * 2, none⟩ = some (.int .i64 c1)) ∧ (∀ d os, (grow (redrawn Y d) os).cell? ⟨b, off + i * 2 + 1, none⟩ = some (.int .i64 c2)) := ⟨cell_regrown hcr.1, cell_regrown hcr.2⟩
                obtain ⟨p5, p6⟩ := cut_regrown HI1.out.box
                refine wp_region_quiet_below (by assumption) (by kernel_rfl) ?_
                repeat (go_big_quiet_step (first | (go_at_call 48; exact Calls.regrown_of (HL2.out _))))
                refine wpQuiet_nil ?_
                intro _ hw'
                obtain ⟨⟨nq2, osq2⟩, hw''⟩ := hw'
                subst hw''
                have hB2 := below_regrown Y nq2 osq2
                have HI2 := Lib.hid (HI1.out.on hB2)
                have hcr2 := CellsAt.below hcr hB2
                clear p1 p2 p5 p6
                go_wp2_with fail
                go_roundw
                case rel => exact ⟨i + 1, true, m, nx, ny, rfl, by go_num, by omega, by rw [HE.out]; exact HI2.out.skip X (.inr ⟨rfl, by have := HD2.out; omega⟩)⟩
                case measure => simp [intOf]; omega

          · have HLX : Hid (¬ lb os < X) := by show ¬ lb os < X; rw [HYL.out]; exact hxl
            have HD1 := Lib.hid hxl
            have HL1 := Lib.hid (fun W => rless_b y1 y2 c1 c2 false (by rw [HYB.out, HXK.out]; exact decide_eq_false HD1.out) HYI.out HCI.out W)
            clear hxl
            obtain ⟨p1, p2⟩ : (∀ d os, (grow (redrawn wr d) os).cell? ⟨b, off + i * 2, none⟩ = some (.int .i64 c1)) ∧ (∀ d os, (grow (redrawn wr d) os).cell? ⟨b, off + i * 2 + 1, none⟩ = some (.int .i64 c2)) := ⟨cell_regrown hc1, cell_regrown hc2⟩
            obtain ⟨p3, p4⟩ : (∀ d os, (grow (redrawn wr d) os).cell? ⟨g, q * 2, none⟩ = some (.int .i64 y1)) ∧ (∀ d os, (grow (redrawn wr d) os).cell? ⟨g, q * 2 + 1, none⟩ = some (.int .i64 y2)) := ⟨cell_regrown hy.1, cell_regrown hy.2⟩
            go_wp2_with fail
            refine wp_region_quiet_below (by assumption) (by kernel_rfl) ?_
            repeat (go_big_quiet_step (first | (go_at_call 48; exact Calls.regrown_of (HL1.out _))))
            refine wpQuiet_nil ?_
            intro _ hw'
            obtain ⟨⟨nq1, osq1⟩, hw''⟩ := hw'
            subst hw''
            have hB1 := below_regrown wr nq1 osq1
            have HI1 := Lib.hid (HI.out.on hB1)
            have hcr := (HCR.out.below hB1)
            clear p1 p2 p3 p4
            go_wp2_with fail
            generalize grow (redrawn wr nq1) osq1 = Y at *
            obtain ⟨p1, p2⟩ : (∀ d os, (grow (redrawn Y d) os).cell? ⟨b, off + i * 2, none⟩ = some (.int .i64 c1)) ∧ (∀ d os, (grow (redrawn Y d) os).cell? ⟨b, off + i * 2 + 1, none⟩ = some (.int .i64 c2)) := ⟨cell_regrown hcr.1, cell_regrown hcr.2⟩
            obtain ⟨p5, p6⟩ := cut_regrown HI1.out.box
            refine wp_region_quiet_below (by assumption) (by kernel_rfl) ?_
            repeat (go_big_quiet_step (fail))
            refine wpQuiet_nil ?_
            intro _ hw'
            obtain ⟨⟨nq2, osq2⟩, hw''⟩ := hw'
            subst hw''
            have hB2 := below_regrown Y nq2 osq2
            have HI2 := Lib.hid (HI1.out.on hB2)
            have hcr2 := CellsAt.below hcr hB2
            clear p1 p2 p5 p6
            go_wp2_with fail
            go_roundw
            case rel => exact ⟨i + 1, f, m, nx, ny, rfl, by go_num, by omega, by rw [HE.out]; exact HI2.out.skip X (.inl (by have := HLX.out; omega))⟩
            case measure => simp [intOf]; omega

        · obtain rfl : i = cs.length := by omega
          have HIL := HI
          rw [List.take_length] at HIL
          clear HI
          cases f with
          | false =>
            have HDN : Hid (∀ x ∈ cs.map kOf, ¬ lb os < x) := by
              rcases HIL.out.seen with ⟨h, _⟩ | ⟨_, h⟩
              · cases h
              · exact h
            go_wp2_with fail
            go_ret
            refine ⟨(.slice (some ⟨g, 0, none⟩) (q + 1) cap), os, ⟨rfl, (put_done _ _ HPUT.out (fun x hx => by have := HDN.out x hx; omega)).1, (put_done _ _ HPUT.out (fun x hx => by have := HDN.out x hx; omega)).2, ?_, HIL.out.own⟩, HIL.out.below⟩
            exact .inr ⟨g, cap, q, hq, rfl, by have := lt_of_block HIL.out.box; omega⟩
          | true =>
            have hseen : m ∈ cs.map kOf ∧ lb os < m ∧ ∀ x ∈ cs.map kOf, lb os < x → m ≤ x := by
              rcases HIL.out.seen with ⟨_, h⟩ | ⟨h, _⟩
              · exact h
              · cases h
            have HSE := Lib.hid hseen
            obtain ⟨e1, e2, e3⟩ := HIL.out.cut rfl
            have HCU := Lib.hid (And.intro e1 e2)
            obtain ⟨m1, m2, _, _⟩ := two_cells HIL.out.box
            have HO2 := Lib.hid (HIL.out.own.alloc (.cells #[.int .i64 nx, .int .i64 ny] 23))
            have HO3 := HO2
            rw [hq] at HO3
            have hL3 := bt HIL.out.below (below_new wr (.cells #[.int .i64 nx, .int .i64 ny] 23))
            have hsz2 := HIL.out.below.size
            have HPN := Lib.hid (put_snoc _ _ m HPUT.out HSE.out.1 HSE.out.2.1 HSE.out.2.2)
            have HLN := Lib.hid (left_snoc _ _ m HSE.out.1 HSE.out.2.1)
            have hlen := up_len _ _ HPN.out.1 HPN.out.2.1
            rw [List.length_append, List.length_singleton, List.length_map] at hlen
            clear hseen e1 e2 e3
            go_wp2_with (at_builtin; refine wpList_append_lies _ rfl _ _ 61 rfl w.heap.size 23 i0 (.agg #[.int .i64 0, .int .i64 0]) 2 16 Try.underlying61 hi hz0 hz1 hz2 rfl (by decide) _ (q + 1) (flatL os) (by rfl) HO3.out ⟨wr.heap.size, 0, none⟩ 1 1 [.int .i64 nx, .int .i64 ny] (by rfl) rfl (World.news_of_block (heap_alloc_new wr _)) (one_two nx ny) (by decide) (by unfold maxLen; omega) (by omega) (by simp; omega) _ rfl ?_; intro g2 cap2 w1 hown1 hgrow1 hat1 hlt1)
            have hL4 : Go.RowKit.Below w.heap.size w w1 := hL3.grown hgrow1 (by simp; omega) (fun k hk => (HO2.out.lt k hk).1)
            have hfl : flatL (os ++ [m]) = flatL os ++ [.int .i64 nx, .int .i64 ny] := by rw [flatL_snoc, HCU.out.1, HCU.out.2]
            have hln : (os ++ [m]).length = q + 1 + 1 := by rw [List.length_append, List.length_singleton, hq]
            go_roundg (left (cs.map kOf) (os ++ [m]))
            case measure => have := HLN.out; omega
            case rel => exact ⟨os ++ [m], _, rfl, HPN.out, Nat.le_refl _, .inr ⟨g2, cap2, q + 1, hln, rfl, hlt1⟩, by rw [List.length_append, List.length_singleton]; omega, by rw [hfl, hln]; exact hown1, hL4⟩
end Go.Proofs.Ytkokilbnhhmicaa
