/- Contract of the reference's Shift. -/
import Derived.Test.YtmdnmcbjpjpgjaaCutS
import Derived.Test.YtmdnmcbjpjpgjaaBigF
namespace Go.Proofs.Ytmdnmcbjpjpgjaa
open Go.RowKit Go.Sort Go.Proofs.Ytmdnmcbjpjpgjaa.Bo
set_option linter.unusedVariables false

set_option maxRecDepth 100000 in
set_option maxHeartbeats 1000000 in
theorem rshift_any (s a d : Int) (w : World) (ha : I64 a) (hd : I64 d) :
    Calls Try.prog 31 #[.agg #[.int .i64 s, .int .i64 a], .int .i64 d] w fun e w' => e = .returned (.tuple #[.agg #[.int .i64 (sd (shk (key s a) d)), .int .i64 (pa (shk (key s a) d))], .bool (shb (key s a) d)]) ∧ Below w.heap.size w w' := by
  have hk := key_ky s a ha
  have HC := Lib.hid (fun W => rcanon_any s a W ha)
  have hT0 : Two w.heap.size s a 0 0 ((w.alloc (.cells #[.int .i64 s, .int .i64 a] 23)).alloc (.cells #[.int .i64 0, .int .i64 0] 23)) := ⟨heap_alloc2_old _ _ _, heap_alloc2_new _ _ _⟩
  have hL : Below w.heap.size w ((w.alloc (.cells #[.int .i64 s, .int .i64 a] 23)).alloc (.cells #[.int .i64 0, .int .i64 0] 23)) := ((Below.refl _ _).alloc (Nat.le_refl _) _).alloc (by simp) _
  have HT := Lib.hid hT0
  clear hT0
  generalize key s a = k at *
  clear ha
  rcases ky_cases k hk with ⟨hk1, h1, h2⟩ | ⟨hk1, h1, h2⟩ | ⟨g1, g2, h1, h2⟩
  · rw [h1, h2] at HC
    have HE := Lib.hid (sh_end k d (.inl hk1))
    have HF : Hid (sd k = (-1) ∧ pa k = 0) := ⟨h1, h2⟩
    clear h1 h2 hk hk1
    go_enter Try.func31, Try.ntmps31
    go_wp2_with fail
    refine (HC.out _).mono ?_
    rintro e w1 ⟨rfl, hB1⟩
    have hT1 := HT.out.below hB1
    have hT2 := hT1.put0 (-1) 0
    have hL1 := ((bt hL hB1).setCell (p := ⟨w.heap.size, 0, none⟩) (by simp) (.int .i64 (-1))).setCell (p := ⟨w.heap.size, 1, none⟩) (by simp) (.int .i64 0)
    obtain ⟨c1, c2, c3, c4, c5, c6, c7, c8⟩ := hT1.cells
    have HT2 := Lib.hid hT2
    obtain ⟨f1, f2, f3, f4, f5, f6, f7, f8⟩ := hT2.cells
    clear hT1 hT2 hB1
    obtain ⟨_, _, d3, d4, _, _, _, _⟩ := (HT2.out.put1 (-1) 0).cells
    have hL9 := (hL1.setCell (p := ⟨w.heap.size + 1, 0, none⟩) (by simp) (.int .i64 (-1))).setCell (p := ⟨w.heap.size + 1, 1, none⟩) (by simp) (.int .i64 0)
    go_wp2_with fail
    refine bodyPost_ret (v := .tuple #[.agg #[.int .i64 (-1), .int .i64 0], .bool true]) (by simp [results, Try.results31, go_sem, d3, d4]) rfl ?_
    exact ⟨ret_cb (by rw [HE.out.1]; exact HF.out.1.symm) (by rw [HE.out.1]; exact HF.out.2.symm) HE.out.2.symm, hL9⟩
  · rw [h1, h2] at HC
    have HE := Lib.hid (sh_end k d (.inr hk1))
    have HF : Hid (sd k = 1 ∧ pa k = 0) := ⟨h1, h2⟩
    clear h1 h2 hk hk1
    go_enter Try.func31, Try.ntmps31
    go_wp2_with fail
    refine (HC.out _).mono ?_
    rintro e w1 ⟨rfl, hB1⟩
    have hT1 := HT.out.below hB1
    have hT2 := hT1.put0 1 0
    have hL1 := ((bt hL hB1).setCell (p := ⟨w.heap.size, 0, none⟩) (by simp) (.int .i64 1)).setCell (p := ⟨w.heap.size, 1, none⟩) (by simp) (.int .i64 0)
    obtain ⟨c1, c2, c3, c4, c5, c6, c7, c8⟩ := hT1.cells
    have HT2 := Lib.hid hT2
    obtain ⟨f1, f2, f3, f4, f5, f6, f7, f8⟩ := hT2.cells
    clear hT1 hT2 hB1
    obtain ⟨_, _, d3, d4, _, _, _, _⟩ := (HT2.out.put1 1 0).cells
    have hL9 := (hL1.setCell (p := ⟨w.heap.size + 1, 0, none⟩) (by simp) (.int .i64 1)).setCell (p := ⟨w.heap.size + 1, 1, none⟩) (by simp) (.int .i64 0)
    go_wp2_with fail
    refine bodyPost_ret (v := .tuple #[.agg #[.int .i64 1, .int .i64 0], .bool true]) (by simp [results, Try.results31, go_sem, d3, d4]) rfl ?_
    exact ⟨ret_cb (by rw [HE.out.1]; exact HF.out.1.symm) (by rw [HE.out.1]; exact HF.out.2.symm) HE.out.2.symm, hL9⟩
  · have hi : I64 k := by unfold I64; omega
    rw [h1, h2] at HC
    have HK := Lib.hid hi
    have HD := Lib.hid hd
    clear hd h1 h2 hk
    by_cases hin : -9223372036854775808 < k + d ∧ k + d < 9223372036854775808
    · have hI : clamp (k + d) = k + d := clamp_in _ (by unfold I64; omega)
      have HE := Lib.hid (sh_in k d g1 g2 hin)
      have t2 : (k + d == -9223372036854775808) = false := beq_eq_false_iff_ne.2 (by omega)
      have t3 : -9223372036854775808 < k + d := hin.1
      have t4 : k + d < 9223372036854775808 := hin.2
      have HI := Lib.hid hI
      clear hin hI
      go_enter Try.func31, Try.ntmps31
      go_wp2_with fail
      refine (HC.out _).mono ?_
      rintro e w1 ⟨rfl, hB1⟩
      have hT1 := HT.out.below hB1
      have hT2 := hT1.put0 0 k
      have hL1 := ((bt hL hB1).setCell (p := ⟨w.heap.size, 0, none⟩) (by simp) (.int .i64 0)).setCell (p := ⟨w.heap.size, 1, none⟩) (by simp) (.int .i64 k)
      obtain ⟨c1, c2, c3, c4, c5, c6, c7, c8⟩ := hT1.cells
      have HT2 := Lib.hid hT2
      obtain ⟨f1, f2, f3, f4, f5, f6, f7, f8⟩ := hT2.cells
      clear hT1 hT2 hB1
      go_wp2_with fail
      generalize (w1.setCell ⟨w.heap.size, 0, none⟩ (.int .i64 0)).setCell ⟨w.heap.size, 1, none⟩ (.int .i64 k) = X at *
      clear c1 c2 c3 c4 c5 c6 c7 c8 f1 f2 f3 f4 f5 f6 f7 f8
      refine (of_big _ _ HK.out).mono ?_
      rintro e y1 ⟨V1, rfl, hV1, hB1⟩
      have HV1 := Lib.hid hV1
      clear hV1
      go_wp2_with fail
      refine (of_big _ _ HD.out).mono ?_
      rintro e y2 ⟨V2, rfl, hV2, hB2⟩
      have HV2 := Lib.hid hV2
      clear hV2
      go_wp2_with fail
      refine (plus_any _ _ _ _ _ _ _ (HV1.out.below hB2) HV2.out (by omega) (by omega)).mono ?_
      rintro e y3 ⟨V3, rfl, hV3, hB3⟩
      have HV3 := Lib.hid hV3
      obtain ⟨s1, v1, xs1, rfl, hs1, hd1, ok1, hl1, hz1, h01⟩ := hV3
      obtain ⟨a1, n1, c1, rfl⟩ := slice_of_dg hd1
      clear hs1 hd1 ok1 hl1 hz1 h01
      have hB4 : Below y3.heap.size y3 (y3.alloc (.cells #[.int .i64 s1, .slice a1 n1 c1] 52)) := (Below.refl _ _).alloc (Nat.le_refl _) _
      have hm := heap_alloc_new y3 (.cells #[.int .i64 s1, .slice a1 n1 c1] 52)
      have HV4 := Lib.hid (HV3.out.below hB4)
      have HB := bt (bt (bt hB1 hB2) hB3) hB4
      have HM := Lib.hid hm
      have HT4 := Lib.hid (HT2.out.below HB)
      have hL4 := bt hL1 HB
      clear hm HV1 HV2 HV3 hB1 hB2 hB3 hB4 HB hL1 HT2
      go_wp2_with fail
      generalize y3.alloc (.cells #[.int .i64 s1, .slice a1 n1 c1] 52) = y4 at *
      refine (is_big _ _ _ _ HV4.out (by omega)).mono ?_
      rintro e y5 ⟨rfl, hB5⟩
      have hm5 := (hB5.block _ (lt_of_block HM.out)).trans HM.out
      obtain ⟨m1, m2, _, _⟩ := two_cells hm5
      have HM5 := Lib.hid hm5
      have HV5 := Lib.hid (HV4.out.below hB5)
      have HT5 := Lib.hid (HT4.out.below hB5)
      have hL5 := bt hL4 hB5
      clear hm5 hB5 HM HV4 HT4 hL4
      rw [decide_eq_true HI.out]
      go_wp2_with fail
      refine (end_big _ _ _ _ HV5.out (by omega)).mono ?_
      rw [HI.out]
      rintro e y6 ⟨rfl, hB6⟩
      go_wp2_with fail
      refine (rleast_any _).mono ?_
      rintro e y7 ⟨rfl, hB7⟩
      have hB8 := bt hB6 hB7
      obtain ⟨n1', n2', _, _⟩ := two_cells ((hB8.block _ (lt_of_block HM5.out)).trans HM5.out)
      have HV6 := Lib.hid (HV5.out.below hB8)
      have HT2 := Lib.hid (HT5.out.below hB8)
      have hL1 := bt hL5 hB8
      clear hB6 hB7 hB8 HV5 HT5 hL5 m1 m2
      go_wp2_with fail
      refine (end_big _ _ _ _ HV6.out (by omega)).mono ?_
      rw [HI.out]
      rintro e y9 ⟨rfl, hB9⟩
      replace HT2 := Lib.hid (HT2.out.below hB9)
      replace hL1 := bt hL1 hB9
      clear hB9 n1' n2' HV6
      obtain ⟨c1, c2, c3, c4, c5, c6, c7, c8⟩ := HT2.out.cells
      obtain ⟨_, _, d3, d4, _, _, _, _⟩ := (HT2.out.put1 0 (k + d)).cells
      have hL9 := (hL1.setCell (p := ⟨w.heap.size + 1, 0, none⟩) (by simp) (.int .i64 0)).setCell (p := ⟨w.heap.size + 1, 1, none⟩) (by simp) (.int .i64 (k + d))
      go_wp2_with fail
      refine bodyPost_ret (v := .tuple #[.agg #[.int .i64 0, .int .i64 (k + d)], .bool true]) (by simp [results, Try.results31, go_sem, d3, d4]) rfl ?_
      exact ⟨ret_cb (by rw [HE.out.1, sd_mid _ (by omega) (by omega)]) (by rw [HE.out.1, pa_mid _ (by omega) (by omega)]) HE.out.2.symm, hL9⟩
    · have HE := Lib.hid (sh_out k d g1 g2 hin)
      have HZ : Hid (0 = sd (shk k d) ∧ 0 = pa (shk k d)) := by rw [HE.out.1]; exact ⟨(sd_mid 0 (by decide) (by decide)).symm, (pa_mid 0 (by decide) (by decide)).symm⟩
      by_cases hI : clamp (k + d) = k + d
      · have hq : clamp (k + d) = -9223372036854775808 := by have := clamp_i64 (k + d); unfold I64 at this; omega
        have HI := Lib.hid hI
        have HQ := Lib.hid hq
        clear hin hI hq
        go_enter Try.func31, Try.ntmps31
        go_wp2_with fail
        refine (HC.out _).mono ?_
        rintro e w1 ⟨rfl, hB1⟩
        have hT1 := HT.out.below hB1
        have hT2 := hT1.put0 0 k
        have hL1 := ((bt hL hB1).setCell (p := ⟨w.heap.size, 0, none⟩) (by simp) (.int .i64 0)).setCell (p := ⟨w.heap.size, 1, none⟩) (by simp) (.int .i64 k)
        obtain ⟨c1, c2, c3, c4, c5, c6, c7, c8⟩ := hT1.cells
        have HT2 := Lib.hid hT2
        obtain ⟨f1, f2, f3, f4, f5, f6, f7, f8⟩ := hT2.cells
        clear hT1 hT2 hB1
        go_wp2_with fail
        generalize (w1.setCell ⟨w.heap.size, 0, none⟩ (.int .i64 0)).setCell ⟨w.heap.size, 1, none⟩ (.int .i64 k) = X at *
        clear c1 c2 c3 c4 c5 c6 c7 c8 f1 f2 f3 f4 f5 f6 f7 f8
        refine (of_big _ _ HK.out).mono ?_
        rintro e y1 ⟨V1, rfl, hV1, hB1⟩
        have HV1 := Lib.hid hV1
        clear hV1
        go_wp2_with fail
        refine (of_big _ _ HD.out).mono ?_
        rintro e y2 ⟨V2, rfl, hV2, hB2⟩
        have HV2 := Lib.hid hV2
        clear hV2
        go_wp2_with fail
        refine (plus_any _ _ _ _ _ _ _ (HV1.out.below hB2) HV2.out (by omega) (by omega)).mono ?_
        rintro e y3 ⟨V3, rfl, hV3, hB3⟩
        have HV3 := Lib.hid hV3
        obtain ⟨s1, v1, xs1, rfl, hs1, hd1, ok1, hl1, hz1, h01⟩ := hV3
        obtain ⟨a1, n1, c1, rfl⟩ := slice_of_dg hd1
        clear hs1 hd1 ok1 hl1 hz1 h01
        have hB4 : Below y3.heap.size y3 (y3.alloc (.cells #[.int .i64 s1, .slice a1 n1 c1] 52)) := (Below.refl _ _).alloc (Nat.le_refl _) _
        have hm := heap_alloc_new y3 (.cells #[.int .i64 s1, .slice a1 n1 c1] 52)
        have HV4 := Lib.hid (HV3.out.below hB4)
        have HB := bt (bt (bt hB1 hB2) hB3) hB4
        have HM := Lib.hid hm
        have HT4 := Lib.hid (HT2.out.below HB)
        have hL4 := bt hL1 HB
        clear hm HV1 HV2 HV3 hB1 hB2 hB3 hB4 HB hL1 HT2
        go_wp2_with fail
        generalize y3.alloc (.cells #[.int .i64 s1, .slice a1 n1 c1] 52) = y4 at *
        refine (is_big _ _ _ _ HV4.out (by omega)).mono ?_
        rintro e y5 ⟨rfl, hB5⟩
        have hm5 := (hB5.block _ (lt_of_block HM.out)).trans HM.out
        obtain ⟨m1, m2, _, _⟩ := two_cells hm5
        have HM5 := Lib.hid hm5
        have HV5 := Lib.hid (HV4.out.below hB5)
        have HT5 := Lib.hid (HT4.out.below hB5)
        have hL5 := bt hL4 hB5
        clear hm5 hB5 HM HV4 HT4 hL4
        rw [decide_eq_true HI.out]
        go_wp2_with fail
        refine (end_big _ _ _ _ HV5.out (by omega)).mono ?_
        rw [HQ.out]
        rintro e y6 ⟨rfl, hB6⟩
        go_wp2_with fail
        refine (rleast_any _).mono ?_
        rintro e y7 ⟨rfl, hB7⟩
        have hB8 := bt hB6 hB7
        obtain ⟨n1', n2', _, _⟩ := two_cells ((hB8.block _ (lt_of_block HM5.out)).trans HM5.out)
        have HV6 := Lib.hid (HV5.out.below hB8)
        have HT2 := Lib.hid (HT5.out.below hB8)
        have hL1 := bt hL5 hB8
        clear hB6 hB7 hB8 HV5 HT5 hL5 m1 m2
        obtain ⟨c1, c2, c3, c4, c5, c6, c7, c8⟩ := HT2.out.cells
        obtain ⟨_, _, d3, d4, _, _, _, _⟩ := (HT2.out.put1 0 0).cells
        have hL9 := (hL1.setCell (p := ⟨w.heap.size + 1, 0, none⟩) (by simp) (.int .i64 0)).setCell (p := ⟨w.heap.size + 1, 1, none⟩) (by simp) (.int .i64 0)
        go_wp2_with fail
        refine bodyPost_ret (v := .tuple #[.agg #[.int .i64 0, .int .i64 0], .bool false]) (by simp [results, Try.results31, go_sem, d3, d4]) rfl ?_
        exact ⟨ret_cb HZ.out.1 HZ.out.2 HE.out.2.symm, hL9⟩
      · have HI := Lib.hid hI
        clear hin hI
        go_enter Try.func31, Try.ntmps31
        go_wp2_with fail
        refine (HC.out _).mono ?_
        rintro e w1 ⟨rfl, hB1⟩
        have hT1 := HT.out.below hB1
        have hT2 := hT1.put0 0 k
        have hL1 := ((bt hL hB1).setCell (p := ⟨w.heap.size, 0, none⟩) (by simp) (.int .i64 0)).setCell (p := ⟨w.heap.size, 1, none⟩) (by simp) (.int .i64 k)
        obtain ⟨c1, c2, c3, c4, c5, c6, c7, c8⟩ := hT1.cells
        have HT2 := Lib.hid hT2
        obtain ⟨f1, f2, f3, f4, f5, f6, f7, f8⟩ := hT2.cells
        clear hT1 hT2 hB1
        go_wp2_with fail
        generalize (w1.setCell ⟨w.heap.size, 0, none⟩ (.int .i64 0)).setCell ⟨w.heap.size, 1, none⟩ (.int .i64 k) = X at *
        clear c1 c2 c3 c4 c5 c6 c7 c8 f1 f2 f3 f4 f5 f6 f7 f8
        refine (of_big _ _ HK.out).mono ?_
        rintro e y1 ⟨V1, rfl, hV1, hB1⟩
        have HV1 := Lib.hid hV1
        clear hV1
        go_wp2_with fail
        refine (of_big _ _ HD.out).mono ?_
        rintro e y2 ⟨V2, rfl, hV2, hB2⟩
        have HV2 := Lib.hid hV2
        clear hV2
        go_wp2_with fail
        refine (plus_any _ _ _ _ _ _ _ (HV1.out.below hB2) HV2.out (by omega) (by omega)).mono ?_
        rintro e y3 ⟨V3, rfl, hV3, hB3⟩
        have HV3 := Lib.hid hV3
        obtain ⟨s1, v1, xs1, rfl, hs1, hd1, ok1, hl1, hz1, h01⟩ := hV3
        obtain ⟨a1, n1, c1, rfl⟩ := slice_of_dg hd1
        clear hs1 hd1 ok1 hl1 hz1 h01
        have hB4 : Below y3.heap.size y3 (y3.alloc (.cells #[.int .i64 s1, .slice a1 n1 c1] 52)) := (Below.refl _ _).alloc (Nat.le_refl _) _
        have hm := heap_alloc_new y3 (.cells #[.int .i64 s1, .slice a1 n1 c1] 52)
        have HV4 := Lib.hid (HV3.out.below hB4)
        have HB := bt (bt (bt hB1 hB2) hB3) hB4
        have HM := Lib.hid hm
        have HT4 := Lib.hid (HT2.out.below HB)
        have hL4 := bt hL1 HB
        clear hm HV1 HV2 HV3 hB1 hB2 hB3 hB4 HB hL1 HT2
        go_wp2_with fail
        generalize y3.alloc (.cells #[.int .i64 s1, .slice a1 n1 c1] 52) = y4 at *
        refine (is_big _ _ _ _ HV4.out (by omega)).mono ?_
        rintro e y5 ⟨rfl, hB5⟩
        have hm5 := (hB5.block _ (lt_of_block HM.out)).trans HM.out
        obtain ⟨m1, m2, _, _⟩ := two_cells hm5
        have HM5 := Lib.hid hm5
        have HV5 := Lib.hid (HV4.out.below hB5)
        have HT5 := Lib.hid (HT4.out.below hB5)
        have hL5 := bt hL4 hB5
        clear hm5 hB5 HM HV4 HT4 hL4
        rw [decide_eq_false HI.out]
        have HT2 := HT5
        have hL1 := hL5
        clear m1 m2
        obtain ⟨c1, c2, c3, c4, c5, c6, c7, c8⟩ := HT2.out.cells
        obtain ⟨_, _, d3, d4, _, _, _, _⟩ := (HT2.out.put1 0 0).cells
        have hL9 := (hL1.setCell (p := ⟨w.heap.size + 1, 0, none⟩) (by simp) (.int .i64 0)).setCell (p := ⟨w.heap.size + 1, 1, none⟩) (by simp) (.int .i64 0)
        go_wp2_with fail
        refine bodyPost_ret (v := .tuple #[.agg #[.int .i64 0, .int .i64 0], .bool false]) (by simp [results, Try.results31, go_sem, d3, d4]) rfl ?_
        exact ⟨ret_cb HZ.out.1 HZ.out.2 HE.out.2.symm, hL9⟩
end Go.Proofs.Ytmdnmcbjpjpgjaa
