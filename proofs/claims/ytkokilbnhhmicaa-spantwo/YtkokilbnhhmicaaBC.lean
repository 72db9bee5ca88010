/- A part of the proof: contracts of the functions that the statements reach. -/
import Derived.Test.YtkokilbnhhmicaaRows
import Derived.Test.YtkokilbnhhmicaaBA
import Derived.Test.YtkokilbnhhmicaaBB
import Derived.Deep.RegionHeld3
import Derived.BigQuiet
import Derived.Deep.QuietTactic
import Derived.Maps.AppendAt

/- Contract of cut.Shift. -/
namespace Go.Proofs.Ytkokilbnhhmicaa
open Go.RowKit Go.Sort Go.Proofs.Ytkokilbnhhmicaa.Bo
set_option linter.unusedVariables false

theorem ret_cb {x y x' y' : Int} {b b' : Bool} (h1 : x = x') (h2 : y = y') (h3 : b = b') : Ending.returned (.tuple #[.agg #[.int .i64 x, .int .i64 y], .bool b]) = .returned (.tuple #[.agg #[.int .i64 x', .int .i64 y'], .bool b']) := by rw [h1, h2, h3]
theorem add_b (a b : Int) (ha : I64 a) (hb : I64 b) (w : World) : Calls Try.prog 77 #[.int .i64 a, .int .i64 b] w fun e w' => e = .returned (.int .i64 (clamp (a + b))) ∧ w = w' := add_any a b w ha hb
theorem sub_b (a b v : Int) (ha : I64 a) (hb : I64 b) (h : clamp (a - b) = v) (w : World) : Calls Try.prog 78 #[.int .i64 a, .int .i64 b] w fun e w' => e = .returned (.int .i64 v) ∧ Below w.heap.size w w' := by
  subst h
  exact (sub_any a b w ha hb).mono fun _ _ h => ⟨h.1, by rw [← h.2]; exact Below.refl _ _⟩

set_option maxRecDepth 100000 in
set_option maxHeartbeats 1000000 in
theorem shift_any (s a d : Int) (w : World) (ha : I64 a) (hd : I64 d) :
    Calls Try.prog 65 #[.agg #[.int .i64 s, .int .i64 a], .int .i64 d] w fun e w' => e = .returned (.tuple #[.agg #[.int .i64 (sd (shk (key s a) d)), .int .i64 (pa (shk (key s a) d))], .bool (shb (key s a) d)]) ∧ Below w.heap.size w w' := by
  have mx := mixed
  have eqc := eql_cut
  have hk := key_ky s a ha
  have HC := Lib.hid (fun W => canon_b s a ha W)
  have hT0 : Two w.heap.size s a 0 0 ((w.alloc (.cells #[.int .i64 s, .int .i64 a] 23)).alloc (.cells #[.int .i64 0, .int .i64 0] 23)) := ⟨heap_alloc2_old _ _ _, heap_alloc2_new _ _ _⟩
  have hL : Below w.heap.size w ((w.alloc (.cells #[.int .i64 s, .int .i64 a] 23)).alloc (.cells #[.int .i64 0, .int .i64 0] 23)) := ((Below.refl _ _).alloc (Nat.le_refl _) _).alloc (by simp) _
  have HT := Lib.hid hT0
  clear hT0
  generalize key s a = k at *
  clear ha
  rcases ky_cases k hk with ⟨hk1, h1, h2⟩ | ⟨hk1, h1, h2⟩ | ⟨g1, g2, h1, h2⟩
  · rw [h1, h2] at HC
    have HE := Lib.hid (sh_end k d (.inl hk1))
    have HF : Hid (sd k = (-1) ∧ pa k = 0) := ⟨h1, h2⟩
    clear h1 h2 hk hk1
    go_enter Try.func65, Try.ntmps65
    go_wp2_with fail
    refine (HC.out _).mono ?_
    rintro e w1 ⟨rfl, hB1⟩
    have hT1 := HT.out.below hB1
    have hT2 := hT1.put0 (-1) 0
    have hL1 := ((bt hL hB1).setCell (p := ⟨w.heap.size, 0, none⟩) (by simp) (.int .i64 (-1))).setCell (p := ⟨w.heap.size, 1, none⟩) (by simp) (.int .i64 0)
    obtain ⟨c1, c2, c3, c4, c5, c6, c7, c8⟩ := hT1.cells
    have HT2 := Lib.hid hT2
    clear hT1 hT2 hB1
    go_wp2_with fail
    generalize (w1.setCell ⟨w.heap.size, 0, none⟩ (.int .i64 (-1))).setCell ⟨w.heap.size, 1, none⟩ (.int .i64 0) = X at *
    clear c1 c2 c3 c4 c5 c6 c7 c8
    obtain ⟨p1, p2⟩ := cut_regrown HT2.out.1
    refine wp_region_quiet_below (by assumption) (by kernel_rfl) ?_
    repeat (go_big_quiet_step (first | (go_at_call 70; exact Calls.regrown_of (first_b _)) | (go_at_call 72; exact Calls.regrown_of (last_b _))))
    refine wpQuiet_nil ?_
    intro _ hw'
    obtain ⟨⟨nq, osq⟩, hw''⟩ := hw'
    subst hw''
    have hB := below_regrown X nq osq
    have HT3 := Lib.hid (HT2.out.below hB)
    have hL2 := bt hL1 hB
    clear p1 p2 hB HT2 hL1
    show Exit.then _ _ Exit.normal _ (grow (redrawn X nq) osq)
    generalize grow (redrawn X nq) osq = Y at *
    have HT2 := HT3
    have hL1 := hL2
    clear HT3 hL2
    obtain ⟨c1, c2, c3, c4, c5, c6, c7, c8⟩ := HT2.out.cells
    obtain ⟨_, _, d3, d4, _, _, _, _⟩ := (HT2.out.put1 (-1) 0).cells
    have hL9 := (hL1.setCell (p := ⟨w.heap.size + 1, 0, none⟩) (by simp) (.int .i64 (-1))).setCell (p := ⟨w.heap.size + 1, 1, none⟩) (by simp) (.int .i64 0)
    go_wp2_with fail
    refine bodyPost_ret (v := .tuple #[.agg #[.int .i64 (-1), .int .i64 0], .bool true]) (by simp [results, Try.results65, go_sem, d3, d4]) rfl ?_
    exact ⟨ret_cb (by rw [HE.out.1]; exact HF.out.1.symm) (by rw [HE.out.1]; exact HF.out.2.symm) HE.out.2.symm, hL9⟩
  · rw [h1, h2] at HC
    have HE := Lib.hid (sh_end k d (.inr hk1))
    have HF : Hid (sd k = 1 ∧ pa k = 0) := ⟨h1, h2⟩
    clear h1 h2 hk hk1
    go_enter Try.func65, Try.ntmps65
    go_wp2_with fail
    refine (HC.out _).mono ?_
    rintro e w1 ⟨rfl, hB1⟩
    have hT1 := HT.out.below hB1
    have hT2 := hT1.put0 1 0
    have hL1 := ((bt hL hB1).setCell (p := ⟨w.heap.size, 0, none⟩) (by simp) (.int .i64 1)).setCell (p := ⟨w.heap.size, 1, none⟩) (by simp) (.int .i64 0)
    obtain ⟨c1, c2, c3, c4, c5, c6, c7, c8⟩ := hT1.cells
    have HT2 := Lib.hid hT2
    clear hT1 hT2 hB1
    go_wp2_with fail
    generalize (w1.setCell ⟨w.heap.size, 0, none⟩ (.int .i64 1)).setCell ⟨w.heap.size, 1, none⟩ (.int .i64 0) = X at *
    clear c1 c2 c3 c4 c5 c6 c7 c8
    obtain ⟨p1, p2⟩ := cut_regrown HT2.out.1
    refine wp_region_quiet_below (by assumption) (by kernel_rfl) ?_
    repeat (go_big_quiet_step (first | (go_at_call 70; exact Calls.regrown_of (first_b _)) | (go_at_call 72; exact Calls.regrown_of (last_b _))))
    refine wpQuiet_nil ?_
    intro _ hw'
    obtain ⟨⟨nq, osq⟩, hw''⟩ := hw'
    subst hw''
    have hB := below_regrown X nq osq
    have HT3 := Lib.hid (HT2.out.below hB)
    have hL2 := bt hL1 hB
    clear p1 p2 hB HT2 hL1
    show Exit.then _ _ Exit.normal _ (grow (redrawn X nq) osq)
    generalize grow (redrawn X nq) osq = Y at *
    have HT2 := HT3
    have hL1 := hL2
    clear HT3 hL2
    obtain ⟨c1, c2, c3, c4, c5, c6, c7, c8⟩ := HT2.out.cells
    obtain ⟨_, _, d3, d4, _, _, _, _⟩ := (HT2.out.put1 1 0).cells
    have hL9 := (hL1.setCell (p := ⟨w.heap.size + 1, 0, none⟩) (by simp) (.int .i64 1)).setCell (p := ⟨w.heap.size + 1, 1, none⟩) (by simp) (.int .i64 0)
    go_wp2_with fail
    refine bodyPost_ret (v := .tuple #[.agg #[.int .i64 1, .int .i64 0], .bool true]) (by simp [results, Try.results65, go_sem, d3, d4]) rfl ?_
    exact ⟨ret_cb (by rw [HE.out.1]; exact HF.out.1.symm) (by rw [HE.out.1]; exact HF.out.2.symm) HE.out.2.symm, hL9⟩
  · have hi : I64 k := by unfold I64; omega
    rw [h1, h2] at HC
    have HA := Lib.hid (fun W => add_b k d hi hd W)
    have hci := clamp_i64 (k + d)
    have hsh := short_iff k d hi hd
    obtain ⟨v, hv⟩ : ∃ v, clamp (clamp (k + d) - d) = v := ⟨_, rfl⟩
    have HS := Lib.hid (fun W => sub_b (clamp (k + d)) d v hci hd hv W)
    rw [hv] at hsh
    clear hv
    have HSH := Lib.hid hsh
    have HCL : Hid (∀ h : I64 (k + d), clamp (k + d) = k + d) := fun h => clamp_in _ h
    have HCI := Lib.hid hci
    have HD := Lib.hid hd
    clear hsh hci hd h1 h2 hk
    generalize hX : clamp (k + d) = T at *
    have HX := Lib.hid hX
    clear hX
    by_cases hin : -9223372036854775808 < k + d ∧ k + d < 9223372036854775808
    · have hI : I64 (k + d) := by unfold I64; omega
      have HE := Lib.hid (sh_in k d g1 g2 hin)
      obtain rfl : T = k + d := HCL.out hI
      have t1 : (v != k) = false := bne_eq_false_iff_eq.2 (HSH.out.2 hI)
      have t2 : (k + d == -9223372036854775808) = false := beq_eq_false_iff_ne.2 (by omega)
      have t3 : -9223372036854775808 < k + d := hin.1
      have t4 : k + d < 9223372036854775808 := hin.2
      clear hin hI HSH HCL HX
      go_enter Try.func65, Try.ntmps65
      go_wp2_with fail
      refine (HC.out _).mono ?_
      rintro e w1 ⟨rfl, hB1⟩
      have hT1 := HT.out.below hB1
      have hT2 := hT1.put0 0 k
      have hL1 := ((bt hL hB1).setCell (p := ⟨w.heap.size, 0, none⟩) (by simp) (.int .i64 0)).setCell (p := ⟨w.heap.size, 1, none⟩) (by simp) (.int .i64 k)
      obtain ⟨c1, c2, c3, c4, c5, c6, c7, c8⟩ := hT1.cells
      have HT2 := Lib.hid hT2
      clear hT1 hT2 hB1
      go_wp2_with fail
      generalize (w1.setCell ⟨w.heap.size, 0, none⟩ (.int .i64 0)).setCell ⟨w.heap.size, 1, none⟩ (.int .i64 k) = X at *
      clear c1 c2 c3 c4 c5 c6 c7 c8
      obtain ⟨p1, p2⟩ := cut_regrown HT2.out.1
      refine wp_region_quiet_below (by assumption) (by kernel_rfl) ?_
      repeat (go_big_quiet_step (first | (go_at_call 70; exact Calls.regrown_of (first_b _)) | (go_at_call 72; exact Calls.regrown_of (last_b _))))
      refine wpQuiet_nil ?_
      intro _ hw'
      obtain ⟨⟨nq, osq⟩, hw''⟩ := hw'
      subst hw''
      have hB := below_regrown X nq osq
      have HT3 := Lib.hid (HT2.out.below hB)
      have hL2 := bt hL1 hB
      clear p1 p2 hB HT2 hL1
      show Exit.then _ _ Exit.normal _ (grow (redrawn X nq) osq)
      generalize grow (redrawn X nq) osq = Y at *
      have HT2 := HT3
      have hL1 := hL2
      clear HT3 hL2
      obtain ⟨c1, c2, c3, c4, c5, c6, c7, c8⟩ := HT2.out.cells
      go_wp2_with fail
      refine (HA.out _).mono ?_
      rintro e w5 ⟨rfl, rfl⟩
      go_wp2_with fail
      clear c1 c2 c3 c4 c5 c6 c7 c8
      obtain ⟨p1, p2⟩ := cut_regrown HT2.out.1
      refine wp_region_quiet_below (by assumption) (by kernel_rfl) ?_
      repeat (go_big_quiet_step (first | (go_at_call 78; exact Calls.regrown_of (HS.out _))))
      refine wpQuiet_nil ?_
      intro _ hw'
      obtain ⟨⟨nq, osq⟩, hw''⟩ := hw'
      subst hw''
      have hB := below_regrown Y nq osq
      have HT3 := Lib.hid (HT2.out.below hB)
      have hL2 := bt hL1 hB
      clear p1 p2 hB HT2 hL1
      show Exit.then _ _ Exit.normal _ (grow (redrawn Y nq) osq)
      generalize grow (redrawn Y nq) osq = Z at *
      have HT2 := HT3
      have hL1 := hL2
      clear HT3 hL2
      obtain ⟨c1, c2, c3, c4, c5, c6, c7, c8⟩ := HT2.out.cells
      obtain ⟨_, _, d3, d4, _, _, _, _⟩ := (HT2.out.put1 0 (k + d)).cells
      have hL9 := (hL1.setCell (p := ⟨w.heap.size + 1, 0, none⟩) (by simp) (.int .i64 0)).setCell (p := ⟨w.heap.size + 1, 1, none⟩) (by simp) (.int .i64 (k + d))
      go_wp2_with fail
      refine bodyPost_ret (v := .tuple #[.agg #[.int .i64 0, .int .i64 (k + d)], .bool true]) (by simp [results, Try.results65, go_sem, d3, d4]) rfl ?_
      exact ⟨ret_cb (by rw [HE.out.1, sd_mid _ (by omega) (by omega)]) (by rw [HE.out.1, pa_mid _ (by omega) (by omega)]) HE.out.2.symm, hL9⟩
    · have HE := Lib.hid (sh_out k d g1 g2 hin)
      have HZ : Hid (0 = sd (shk k d) ∧ 0 = pa (shk k d)) := by rw [HE.out.1]; exact ⟨(sd_mid 0 (by decide) (by decide)).symm, (pa_mid 0 (by decide) (by decide)).symm⟩
      by_cases hI : I64 (k + d)
      · have t1 : (v != k) = false := bne_eq_false_iff_eq.2 (HSH.out.2 hI)
        have t2 : (T == -9223372036854775808) = true := beq_iff_eq.2 (by rw [HCL.out hI]; unfold I64 at hI; omega)
        clear hin hI HSH HCL HX
        go_enter Try.func65, Try.ntmps65
        go_wp2_with fail
        refine (HC.out _).mono ?_
        rintro e w1 ⟨rfl, hB1⟩
        have hT1 := HT.out.below hB1
        have hT2 := hT1.put0 0 k
        have hL1 := ((bt hL hB1).setCell (p := ⟨w.heap.size, 0, none⟩) (by simp) (.int .i64 0)).setCell (p := ⟨w.heap.size, 1, none⟩) (by simp) (.int .i64 k)
        obtain ⟨c1, c2, c3, c4, c5, c6, c7, c8⟩ := hT1.cells
        have HT2 := Lib.hid hT2
        clear hT1 hT2 hB1
        go_wp2_with fail
        generalize (w1.setCell ⟨w.heap.size, 0, none⟩ (.int .i64 0)).setCell ⟨w.heap.size, 1, none⟩ (.int .i64 k) = X at *
        clear c1 c2 c3 c4 c5 c6 c7 c8
        obtain ⟨p1, p2⟩ := cut_regrown HT2.out.1
        refine wp_region_quiet_below (by assumption) (by kernel_rfl) ?_
        repeat (go_big_quiet_step (first | (go_at_call 70; exact Calls.regrown_of (first_b _)) | (go_at_call 72; exact Calls.regrown_of (last_b _))))
        refine wpQuiet_nil ?_
        intro _ hw'
        obtain ⟨⟨nq, osq⟩, hw''⟩ := hw'
        subst hw''
        have hB := below_regrown X nq osq
        have HT3 := Lib.hid (HT2.out.below hB)
        have hL2 := bt hL1 hB
        clear p1 p2 hB HT2 hL1
        show Exit.then _ _ Exit.normal _ (grow (redrawn X nq) osq)
        generalize grow (redrawn X nq) osq = Y at *
        have HT2 := HT3
        have hL1 := hL2
        clear HT3 hL2
        obtain ⟨c1, c2, c3, c4, c5, c6, c7, c8⟩ := HT2.out.cells
        go_wp2_with fail
        refine (HA.out _).mono ?_
        rintro e w5 ⟨rfl, rfl⟩
        go_wp2_with fail
        clear c1 c2 c3 c4 c5 c6 c7 c8
        obtain ⟨p1, p2⟩ := cut_regrown HT2.out.1
        refine wp_region_quiet_below (by assumption) (by kernel_rfl) ?_
        repeat (go_big_quiet_step (first | (go_at_call 78; exact Calls.regrown_of (HS.out _))))
        refine wpQuiet_nil ?_
        intro _ hw'
        obtain ⟨⟨nq, osq⟩, hw''⟩ := hw'
        subst hw''
        have hB := below_regrown Y nq osq
        have HT3 := Lib.hid (HT2.out.below hB)
        have hL2 := bt hL1 hB
        clear p1 p2 hB HT2 hL1
        show Exit.then _ _ Exit.normal _ (grow (redrawn Y nq) osq)
        generalize grow (redrawn Y nq) osq = Z at *
        have HT2 := HT3
        have hL1 := hL2
        clear HT3 hL2
        obtain ⟨c1, c2, c3, c4, c5, c6, c7, c8⟩ := HT2.out.cells
        obtain ⟨_, _, d3, d4, _, _, _, _⟩ := (HT2.out.put1 0 0).cells
        have hL9 := (hL1.setCell (p := ⟨w.heap.size + 1, 0, none⟩) (by simp) (.int .i64 0)).setCell (p := ⟨w.heap.size + 1, 1, none⟩) (by simp) (.int .i64 0)
        go_wp2_with fail
        refine bodyPost_ret (v := .tuple #[.agg #[.int .i64 0, .int .i64 0], .bool false]) (by simp [results, Try.results65, go_sem, d3, d4]) rfl ?_
        exact ⟨ret_cb HZ.out.1 HZ.out.2 HE.out.2.symm, hL9⟩
      · have t1 : (v != k) = true := bne_iff_ne.2 (fun h => hI (HSH.out.1 h))
        clear hin hI HSH HCL HX
        go_enter Try.func65, Try.ntmps65
        go_wp2_with fail
        refine (HC.out _).mono ?_
        rintro e w1 ⟨rfl, hB1⟩
        have hT1 := HT.out.below hB1
        have hT2 := hT1.put0 0 k
        have hL1 := ((bt hL hB1).setCell (p := ⟨w.heap.size, 0, none⟩) (by simp) (.int .i64 0)).setCell (p := ⟨w.heap.size, 1, none⟩) (by simp) (.int .i64 k)
        obtain ⟨c1, c2, c3, c4, c5, c6, c7, c8⟩ := hT1.cells
        have HT2 := Lib.hid hT2
        clear hT1 hT2 hB1
        go_wp2_with fail
        generalize (w1.setCell ⟨w.heap.size, 0, none⟩ (.int .i64 0)).setCell ⟨w.heap.size, 1, none⟩ (.int .i64 k) = X at *
        clear c1 c2 c3 c4 c5 c6 c7 c8
        obtain ⟨p1, p2⟩ := cut_regrown HT2.out.1
        refine wp_region_quiet_below (by assumption) (by kernel_rfl) ?_
        repeat (go_big_quiet_step (first | (go_at_call 70; exact Calls.regrown_of (first_b _)) | (go_at_call 72; exact Calls.regrown_of (last_b _))))
        refine wpQuiet_nil ?_
        intro _ hw'
        obtain ⟨⟨nq, osq⟩, hw''⟩ := hw'
        subst hw''
        have hB := below_regrown X nq osq
        have HT3 := Lib.hid (HT2.out.below hB)
        have hL2 := bt hL1 hB
        clear p1 p2 hB HT2 hL1
        show Exit.then _ _ Exit.normal _ (grow (redrawn X nq) osq)
        generalize grow (redrawn X nq) osq = Y at *
        have HT2 := HT3
        have hL1 := hL2
        clear HT3 hL2
        obtain ⟨c1, c2, c3, c4, c5, c6, c7, c8⟩ := HT2.out.cells
        go_wp2_with fail
        refine (HA.out _).mono ?_
        rintro e w5 ⟨rfl, rfl⟩
        go_wp2_with fail
        clear c1 c2 c3 c4 c5 c6 c7 c8
        obtain ⟨p1, p2⟩ := cut_regrown HT2.out.1
        refine wp_region_quiet_below (by assumption) (by kernel_rfl) ?_
        repeat (go_big_quiet_step (first | (go_at_call 78; exact Calls.regrown_of (HS.out _))))
        refine wpQuiet_nil ?_
        intro _ hw'
        obtain ⟨⟨nq, osq⟩, hw''⟩ := hw'
        subst hw''
        have hB := below_regrown Y nq osq
        have HT3 := Lib.hid (HT2.out.below hB)
        have hL2 := bt hL1 hB
        clear p1 p2 hB HT2 hL1
        show Exit.then _ _ Exit.normal _ (grow (redrawn Y nq) osq)
        generalize grow (redrawn Y nq) osq = Z at *
        have HT2 := HT3
        have hL1 := hL2
        clear HT3 hL2
        obtain ⟨c1, c2, c3, c4, c5, c6, c7, c8⟩ := HT2.out.cells
        obtain ⟨_, _, d3, d4, _, _, _, _⟩ := (HT2.out.put1 0 0).cells
        have hL9 := (hL1.setCell (p := ⟨w.heap.size + 1, 0, none⟩) (by simp) (.int .i64 0)).setCell (p := ⟨w.heap.size + 1, 1, none⟩) (by simp) (.int .i64 0)
        go_wp2_with fail
        refine bodyPost_ret (v := .tuple #[.agg #[.int .i64 0, .int .i64 0], .bool false]) (by simp [results, Try.results65, go_sem, d3, d4]) rfl ?_
        exact ⟨ret_cb HZ.out.1 HZ.out.2 HE.out.2.symm, hL9⟩
end Go.Proofs.Ytkokilbnhhmicaa

/- Contracts of cut, ends, Is. -/
namespace Go.Proofs.Ytkokilbnhhmicaa
open Go.RowKit Go.Proofs.Ytkokilbnhhmicaa.Bo
set_option linter.unusedVariables false

theorem Dg.cellAt {w : World} {a : Option Addr} {n cap : Nat} {xs : List Nat} (h : Dg w (.slice a n cap) xs) : n = xs.length ∧ n ≤ cap ∧ (0 < n → ∃ g, a = some ⟨g, 0, none⟩ ∧ g < w.heap.size ∧ ∀ (j : Nat) (h : j < xs.length), w.cell? ⟨g, j, none⟩ = some (.int .i64 ((xs[j] : Nat) : Int))) := by
  obtain ⟨a', cap', e, hc, hg⟩ := h
  injection e with e1 e2 e3
  subst e1 e2 e3
  refine ⟨rfl, hc, fun hp => ?_⟩
  obtain ⟨g, cur, ha, hgb, hcur⟩ := hg hp
  exact ⟨g, ha, lt_of_block hgb, fun j hj => (cell_of_row _ _ j _ _ _ hgb).trans (hcur j hj)⟩

def CutPost (a : Option Addr) (cap : Nat) (xs : List Nat) (w : World) (e : Ending) (w' : World) : Prop := ∃ n, e = .returned (.slice a n cap) ∧ n ≤ xs.length ∧ val (xs.take n) = val xs ∧ w = w'

theorem take_zero_last (xs : List Nat) (n : Nat) (h : n + 1 ≤ xs.length) (h0 : xs[n] = 0) : val (xs.take n) = val (xs.take (n + 1)) := by
  rw [val_take_succ xs n (by omega), h0]; simp

def slLen : Value → Nat | .slice _ n _ => n | _ => 0
theorem Dg.take {w : World} {a : Option Addr} {cap : Nat} {xs : List Nat} (h : Dg w (.slice a xs.length cap) xs) (n : Nat) (hn : n ≤ xs.length) : Dg w (.slice a n cap) (xs.take n) := by
  obtain ⟨a', cap', e, hc, hg⟩ := h
  injection e with e1 e2 e3
  subst e1 e3
  have hl : (xs.take n).length = n := by rw [List.length_take, Nat.min_eq_left hn]
  refine ⟨a, cap, by rw [hl], by omega, fun hp => ?_⟩
  obtain ⟨g, cur, ha, hgb, hcur⟩ := hg (by omega)
  exact ⟨g, cur, ha, hgb, fun j hj => by rw [List.getElem_take]; exact hcur j (by omega)⟩
theorem dg_new (w : World) (cs : Array Value) (xs : List Nat) (n : Nat) (hn : xs.length = n) (hcs : cs.toList = xs.map (fun (d : Nat) => Value.int .i64 (d : Int))) :
    Dg (w.alloc (.cells cs 3)) (.slice (some ⟨w.heap.size, 0, none⟩) n n) xs := by
  subst hn
  refine ⟨_, _, rfl, Nat.le_refl _, fun _ => ⟨w.heap.size, cs, rfl, heap_alloc_new _ _, fun j hj => ?_⟩⟩
  have h1 : cs.toList[j]? = some (.int .i64 ((xs[j] : Nat) : Int)) := by rw [hcs]; simp [hj]
  simpa using h1

set_option maxHeartbeats 1000000 in
theorem cut_any (a : Option Addr) (cap : Nat) (xs : List Nat) (w : World) (hx : Dg w (.slice a xs.length cap) xs) (lx : xs.length ≤ 1000) :
    Calls Try.prog 75 #[.slice a xs.length cap] w (CutPost a cap xs w) := by
  obtain ⟨_, hc, hg⟩ := hx.cellAt
  have HG := Lib.hid hg
  clear hg
  go_enter Try.func75, Try.ntmps75
  go_wp2
  go_loop [0] (fun d => ∃ n : Nat, d = .slice a n cap ∧ n ≤ xs.length ∧ val (xs.take n) = val xs) (fun d => slLen d)
  case atStart => exact ⟨xs.length, rfl, Nat.le_refl _, by rw [List.take_length]⟩
  case round =>
    obtain ⟨n, rfl, hn, hval⟩ := hrel
    have HV := Lib.hid hval
    clear hval
    by_cases h0 : 0 < n
    · obtain ⟨g, rfl, hgl, hcell⟩ := HG.out (by omega)
      obtain ⟨m, rfl⟩ : ∃ m, n = m + 1 := ⟨n - 1, by omega⟩
      have hx := hcell m (by omega)
      have HC := Lib.hid hcell
      clear hcell
      by_cases hz : xs[m] = 0
      · have t1 : (((xs[m] : Nat) : Int) == 0) = true := beq_iff_eq.2 (by omega)
        have HZ := Lib.hid hz
        clear hz
        go_wp2
        go_round
        case rel => exact ⟨m, rfl, by omega, by rw [take_zero_last xs m (by omega) HZ.out]; exact HV.out⟩
        case measure => simp [slLen]
      · have t1 : (((xs[m] : Nat) : Int) == 0) = false := beq_eq_false_iff_ne.2 (by omega)
        clear hz
        go_wp2
        go_ret
        exact ⟨m + 1, rfl, hn, HV.out, rfl⟩
    · obtain rfl : n = 0 := by omega
      go_wp2
      go_ret
      exact ⟨0, rfl, hn, HV.out, rfl⟩

def endsL (s : Int) : List Nat := (if s < 0 then 8 else 7) :: [0, 8, 5, 7, 7, 4, 5, 8, 6, 3, 0, 2, 7, 3, 3, 2, 2, 9]
theorem val_ends (s : Int) : val (endsL s) = lim s := by unfold endsL lim; split <;> decide +kernel
theorem ok_ends (s : Int) : Ok (endsL s) := by unfold endsL Ok; split <;> decide
theorem len_ends (s : Int) : (endsL s).length = 19 := by unfold endsL; rfl
def EndsPost (s : Int) (w : World) (e : Ending) (w' : World) : Prop := ∃ v, e = .returned v ∧ Dg w' v (endsL s) ∧ Below w.heap.size w w'

theorem ends_any (s : Int) (w : World) (h1 : -1 ≤ s) (h2 : s ≤ 1) : Calls Try.prog 84 #[.int .i64 s] w (EndsPost s w) := by
  by_cases h : s < 0
  · have t1 : decide (s < 0) = true := decide_eq_true h
    go_enter Try.func84, Try.ntmps84
    go_wp2
    go_ret
    refine ⟨.slice (some ⟨w.heap.size, 0, none⟩) 19 19, rfl, ?_, (Below.refl _ _).alloc (Nat.le_refl _) _⟩
    have hL : endsL s = [8, 0, 8, 5, 7, 7, 4, 5, 8, 6, 3, 0, 2, 7, 3, 3, 2, 2, 9] := by unfold endsL; rw [if_pos h]
    rw [hL]
    exact dg_new w _ _ _ rfl rfl
  · have t1 : decide (s < 0) = false := decide_eq_false h
    go_enter Try.func84, Try.ntmps84
    go_wp2
    go_ret
    refine ⟨.slice (some ⟨w.heap.size, 0, none⟩) 19 19, rfl, ?_, (Below.refl _ _).alloc (Nat.le_refl _) _⟩
    have hL : endsL s = [7, 0, 8, 5, 7, 7, 4, 5, 8, 6, 3, 0, 2, 7, 3, 3, 2, 2, 9] := by unfold endsL; rw [if_neg (by omega)]
    rw [hL]
    exact dg_new w _ _ _ rfl rfl

/-- A whole number as the reference keeps it: its sign, and its digits. -/
def BigAt (w : World) (V : Value) (z : Int) (L : Nat) : Prop :=
  ∃ (s : Int) (v : Value) (xs : List Nat), V = .agg #[.int .i64 s, v] ∧ (s = -1 ∨ s = 0 ∨ s = 1) ∧ Dg w v xs ∧ Ok xs ∧ xs.length ≤ L ∧ z = s * (val xs : Int) ∧ (s = 0 → val xs = 0)
theorem BigAt.below {w w' : World} {V : Value} {z : Int} {L : Nat} (h : BigAt w V z L) (hb : Below w.heap.size w w') : BigAt w' V z L := by
  obtain ⟨s, v, xs, hV, hs, hd, ok, hl, hz, h0⟩ := h
  exact ⟨s, v, xs, hV, hs, hd.below hb, ok, hl, hz, h0⟩

theorem is_any (s : Int) (v : Value) (xs : List Nat) (w : World) (hs : s = -1 ∨ s = 0 ∨ s = 1) (hd : Dg w v xs) (ok : Ok xs) (hl : xs.length ≤ 100000) :
    Calls Try.prog 79 #[.agg #[.int .i64 s, v]] w fun e w' => e = .returned (.bool (!decide (lim s < val xs))) ∧ Below w.heap.size w w' := by
  have HD := Lib.hid (hd.below ((Below.refl _ _).alloc (Nat.le_refl _) (.cells #[.int .i64 s, v] 68)))
  obtain ⟨a, cap, rfl, _, _⟩ := hd
  have hs1 : -1 ≤ s := by omega
  have hs2 : s ≤ 1 := by omega
  clear hs
  have hb0 : (w.alloc (.cells #[.int .i64 s, .slice a xs.length cap] 68)).cell? ⟨w.heap.size, 0, none⟩ = some (.int .i64 s) := by rw [World.cell?_alloc_at _ _ _ _ rfl]; rfl
  have hb1 : (w.alloc (.cells #[.int .i64 s, .slice a xs.length cap] 68)).cell? ⟨w.heap.size, 1, none⟩ = some (.slice a xs.length cap) := by rw [World.cell?_alloc_at _ _ _ _ rfl]; rfl
  have hBx : Below w.heap.size w (w.alloc (.cells #[.int .i64 s, .slice a xs.length cap] 68)) := (Below.refl _ _).alloc (Nat.le_refl _) _
  have hsz : w.heap.size < (w.alloc (.cells #[.int .i64 s, .slice a xs.length cap] 68)).heap.size := by simp
  go_enter Try.func79, Try.ntmps79
  go_wp2_with fail
  generalize w.alloc (.cells #[.int .i64 s, .slice a xs.length cap] 68) = wx at *
  go_region_held3 (fun w' => w'.cell? ⟨w.heap.size, 0, none⟩ = some (.int .i64 s) ∧ w'.cell? ⟨w.heap.size, 1, none⟩ = some (.slice a xs.length cap))
    (first | go_keep | exact ⟨hc0, hc1⟩)
    (first
      | (go_at_call 84; refine (ends_any _ _ hs1 hs2).mono ?_; rintro e w2 ⟨v2, rfl, hd2, hB2'⟩; have hB2 : Below wx.heap.size wx w2 := ((Below.refl _ _).drew).trans hB2'; have hc0 := (hB2.cell (p := ⟨w.heap.size, 0, none⟩) hsz).trans hb0; have hc1 := (hB2.cell (p := ⟨w.heap.size, 1, none⟩) hsz).trans hb1)
      | (go_at_call 76; refine (more_any _ _ xs (endsL s) _ (HD.out.below hB2) hd2 ok (ok_ends s) hl (by rw [len_ends]; omega)).mono ?_; rintro e w3 ⟨rfl, rfl⟩))
  go_wp2_with fail
  go_ret
  exact ⟨by rw [← val_ends s]; exact rfl, bt hBx hB2⟩
end Go.Proofs.Ytkokilbnhhmicaa

/- Contract of End. -/
namespace Go.Proofs.Ytkokilbnhhmicaa
open Go.RowKit Go.Proofs.Ytkokilbnhhmicaa.Bo
set_option linter.unusedVariables false

theorem ret_i64 {a b : Int} (h : a = b) : Ending.returned (.int .i64 a) = .returned (.int .i64 b) := by rw [h]

set_option maxRecDepth 100000 in
set_option maxHeartbeats 2000000 in
theorem end_any (s : Int) (v : Value) (xs : List Nat) (w : World) (hs : s = -1 ∨ s = 0 ∨ s = 1) (hd : Dg w v xs) (ok : Ok xs) (hl : xs.length ≤ 100000) :
    Calls Try.prog 80 #[.agg #[.int .i64 s, v]] w fun e w' => e = .returned (.int .i64 (clamp (s * (val xs : Int)))) ∧ Below w.heap.size w w' := by
  rw [clamp_sign s (val xs) hs]
  have HS := Lib.hid hs
  have HD := Lib.hid (hd.below ((Below.refl _ _).alloc (Nat.le_refl _) (.cells #[.int .i64 s, v] 68)))
  obtain ⟨a, cap, rfl, hcap, _⟩ := hd
  have hs1 : -1 ≤ s := by omega
  have hs2 : s ≤ 1 := by omega
  clear hs
  have hb0 : (w.alloc (.cells #[.int .i64 s, .slice a xs.length cap] 68)).cell? ⟨w.heap.size, 0, none⟩ = some (.int .i64 s) := by rw [World.cell?_alloc_at _ _ _ _ rfl]; rfl
  have hb1 : (w.alloc (.cells #[.int .i64 s, .slice a xs.length cap] 68)).cell? ⟨w.heap.size, 1, none⟩ = some (.slice a xs.length cap) := by rw [World.cell?_alloc_at _ _ _ _ rfl]; rfl
  have hBx : Below w.heap.size w (w.alloc (.cells #[.int .i64 s, .slice a xs.length cap] 68)) := (Below.refl _ _).alloc (Nat.le_refl _) _
  have hsz : w.heap.size < (w.alloc (.cells #[.int .i64 s, .slice a xs.length cap] 68)).heap.size := by simp
  have HI := Lib.hid (is_any s _ xs _ HS.out HD.out ok hl)
  generalize hx : w.alloc (.cells #[.int .i64 s, .slice a xs.length cap] 68) = wx at *
  have HX := Lib.hid hx
  clear hx
  by_cases hbig : lim s < val xs
  · rw [if_pos hbig]
    rw [show (!decide (lim s < val xs)) = false from by simp; omega] at HI
    go_enter Try.func80, Try.ntmps80
    go_wp2_with fail
    rw [HX.out]
    refine HI.out.mono ?_
    rintro e w1 ⟨rfl, hB1⟩
    have hc0' := (hB1.cell (p := ⟨w.heap.size, 0, none⟩) hsz).trans hb0
    have hsz1' := Nat.lt_of_lt_of_le hsz hB1.size
    have hBw1 := bt hBx hB1
    clear hb0 hb1 hBx HI HX HD hbig
    go_wp2_with fail
    refine (ends_any s _ hs1 hs2).mono ?_
    rintro e w2 ⟨v2, rfl, hd2, hB2⟩
    have hc0 := (hB2.cell (p := ⟨w.heap.size, 0, none⟩) hsz1').trans hc0'
    have hsz1 := Nat.lt_of_lt_of_le hsz1' hB2.size
    have hBw := bt hBw1 hB2
    have HLIM : Hid (val (endsL s) ≤ lim s) := by show _ ≤ _; rw [val_ends]; exact Nat.le_refl _
    have HVAL : Hid (val (endsL s) = lim s) := val_ends s
    have hyl : (endsL s).length ≤ 1000 := by rw [len_ends]; omega
    generalize endsL s = ys at *
    have HD1 := Lib.hid hd2
    obtain ⟨a2, cap2, rfl, hcap2, _⟩ := hd2
    clear hc0'
    go_wp2_with fail
    go_loopw [4, 5] (fun n i wr => ∃ k : Int, i = .int .i64 k ∧ -1 ≤ k ∧ k < ys.length ∧ n = .int .i64 (s * (val (ys.drop (k + 1).toNat) : Int)) ∧ Below w.heap.size w wr ∧ Below w2.heap.size w2 wr) (fun _ i _ => (intOf i + 1).toNat)
    case atStart =>
      refine ⟨(ys.length : Int) - 1, rfl, by omega, by omega, ?_, hBw, Below.refl _ _⟩
      rw [List.drop_of_length_le (by omega)]; simp [val]
    case round =>
      obtain ⟨k, rfl, hk1, hk2, rfl, hBr, hB1r⟩ := hrel
      by_cases hpos : 0 ≤ k
      · obtain ⟨i, rfl⟩ := Int.eq_ofNat_of_zero_le hpos
        have hi : i < ys.length := by omega
        obtain ⟨_, _, hg⟩ := HD1.out.cellAt
        obtain ⟨g, rfl, hgl, hcell⟩ := hg (by omega)
        have hci := (hB1r.cell (p := ⟨g, i, none⟩) hgl).trans (hcell i hi)
        have hcs := (hB1r.cell (p := ⟨w.heap.size, 0, none⟩) hsz1).trans hc0
        have hvd := val_drop ys i
        have hge : ys.getD i 0 = ys[i] := by rw [List.getD_eq_getElem?_getD, List.getElem?_eq_getElem hi]; rfl
        rw [hge] at hvd
        have hle := val_drop_le ys i
        have hst := sign_step s (val (ys.drop (i + 1))) ys[i] (val ys) HS.out HLIM.out (by omega)
        obtain ⟨j0, j1, j2, j3, j4⟩ := hst
        have HF : Hid (s * (val (ys.drop (i + 1)) : Int) * 10 + s * (ys[i] : Int) = s * (val (ys.drop i) : Int)) := by
          show _ = _
          rw [j4, hvd]
        rw [show ((i : Int) + 1).toNat = i + 1 from by omega]
        clear hg hcell hvd hge hle j4
        generalize val (ys.drop (i + 1)) = V at *
        generalize ys[i] = D at *
        obtain ⟨p1, p2⟩ := j1
        obtain ⟨p3, p4⟩ := j2
        obtain ⟨p5, p6⟩ := j3
        go_wp2_with fail
        have q1 := IntWalk.i64_in _ ⟨p1, p2⟩
        have q2 := IntWalk.i64_in _ ⟨p3, p4⟩
        have q3 := IntWalk.i64_in _ ⟨p5, p6⟩
        have i1 : (0 : Int) ≤ (i : Int) := by omega
        have i2 : (i : Int) < (ys.length : Int) := by omega
        go_quiet (fail)
        clear q1 q2 q3 p1 p2 p3 p4 p5 p6
        go_wp2_with fail
        go_roundw
        case rel => exact ⟨(i : Int) - 1, rfl, by omega, by omega, by rw [show ((i : Int) - 1 + 1).toNat = i from by omega, HF.out], below_drewN hBr nq, below_drewN hB1r nq⟩
        case measure => simp [intOf]
      · obtain rfl : k = -1 := by omega
        have HF : Hid (s * (val (ys.drop ((-1 : Int) + 1).toNat) : Int) = s * (lim s : Int)) := by
          show _ = _
          rw [show ((-1 : Int) + 1).toNat = 0 from rfl, List.drop_zero, HVAL.out]
        generalize (val (ys.drop ((-1 : Int) + 1).toNat) : Int) = V at *
        go_wp2_with fail
        go_ret
        exact ⟨ret_i64 HF.out, hBr⟩
  · rw [if_neg hbig]
    rw [show (!decide (lim s < val xs)) = true from by simp; omega] at HI
    go_enter Try.func80, Try.ntmps80
    go_wp2_with fail
    rw [HX.out]
    refine HI.out.mono ?_
    rintro e w1 ⟨rfl, hB1⟩
    have hd1 := HD.out.below hB1
    have hc0 := (hB1.cell (p := ⟨w.heap.size, 0, none⟩) hsz).trans hb0
    have hsz1 := Nat.lt_of_lt_of_le hsz hB1.size
    have hBw := bt hBx hB1
    have HLIM : Hid (val xs ≤ lim s) := by show _ ≤ _; omega
    have HD1 := Lib.hid hd1
    clear hd1 hb0 hb1 hBx HI HX HD
    go_wp2_with fail
    go_loopw [4, 5] (fun n i wr => ∃ k : Int, i = .int .i64 k ∧ -1 ≤ k ∧ k < xs.length ∧ n = .int .i64 (s * (val (xs.drop (k + 1).toNat) : Int)) ∧ Below w.heap.size w wr ∧ Below w1.heap.size w1 wr) (fun _ i _ => (intOf i + 1).toNat)
    case atStart =>
      refine ⟨(xs.length : Int) - 1, rfl, by omega, by omega, ?_, hBw, Below.refl _ _⟩
      rw [List.drop_of_length_le (by omega)]; simp [val]
    case round =>
      obtain ⟨k, rfl, hk1, hk2, rfl, hBr, hB1r⟩ := hrel
      by_cases hpos : 0 ≤ k
      · obtain ⟨i, rfl⟩ := Int.eq_ofNat_of_zero_le hpos
        have hi : i < xs.length := by omega
        obtain ⟨_, _, hg⟩ := HD1.out.cellAt
        obtain ⟨g, rfl, hgl, hcell⟩ := hg (by omega)
        have hci := (hB1r.cell (p := ⟨g, i, none⟩) hgl).trans (hcell i hi)
        have hcs := (hB1r.cell (p := ⟨w.heap.size, 0, none⟩) hsz1).trans hc0
        have hvd := val_drop xs i
        have hge : xs.getD i 0 = xs[i] := by rw [List.getD_eq_getElem?_getD, List.getElem?_eq_getElem hi]; rfl
        rw [hge] at hvd
        have hle := val_drop_le xs i
        have hst := sign_step s (val (xs.drop (i + 1))) xs[i] (val xs) HS.out HLIM.out (by omega)
        obtain ⟨j0, j1, j2, j3, j4⟩ := hst
        have HF : Hid (s * (val (xs.drop (i + 1)) : Int) * 10 + s * (xs[i] : Int) = s * (val (xs.drop i) : Int)) := by
          show _ = _
          rw [j4, hvd]
        rw [show ((i : Int) + 1).toNat = i + 1 from by omega]
        clear hg hcell hvd hge hle j4
        generalize val (xs.drop (i + 1)) = V at *
        generalize xs[i] = D at *
        obtain ⟨p1, p2⟩ := j1
        obtain ⟨p3, p4⟩ := j2
        obtain ⟨p5, p6⟩ := j3
        go_wp2_with fail
        have q1 := IntWalk.i64_in _ ⟨p1, p2⟩
        have q2 := IntWalk.i64_in _ ⟨p3, p4⟩
        have q3 := IntWalk.i64_in _ ⟨p5, p6⟩
        have i1 : (0 : Int) ≤ (i : Int) := by omega
        have i2 : (i : Int) < (xs.length : Int) := by omega
        go_quiet (fail)
        clear q1 q2 q3 p1 p2 p3 p4 p5 p6
        go_wp2_with fail
        go_roundw
        case rel => exact ⟨(i : Int) - 1, rfl, by omega, by omega, by rw [show ((i : Int) - 1 + 1).toNat = i from by omega, HF.out], below_drewN hBr nq, below_drewN hB1r nq⟩
        case measure => simp [intOf]
      · obtain rfl : k = -1 := by omega
        have HF : Hid (s * (val (xs.drop ((-1 : Int) + 1).toNat) : Int) = s * (val xs : Int)) := by
          show _ = _
          rw [show ((-1 : Int) + 1).toNat = 0 from rfl, List.drop_zero]
        generalize (val (xs.drop ((-1 : Int) + 1).toNat) : Int) = V at *
        go_wp2_with fail
        go_ret
        exact ⟨ret_i64 HF.out, hBr⟩
end Go.Proofs.Ytkokilbnhhmicaa

/- Contracts of Of and Minus. -/
namespace Go.Proofs.Ytkokilbnhhmicaa
open Go.RowKit Go.Proofs.Ytkokilbnhhmicaa.Bo
set_option linter.unusedVariables false

def iv (d : Nat) : Value := .int .i64 (d : Int)
theorem iv_one (l : List Nat) : ∀ u ∈ l.map iv, u.oneCell' = true := by
  intro u hu
  obtain ⟨d, _, rfl⟩ := List.mem_map.1 hu
  rfl
theorem Try.infoInt : (Try.prog.info? 3).map (fun i => (i.zero, i.size, i.bytes)) = some (some (.int .i64 0), 1, 8) := by kernel_rfl
theorem dg_of_own {w : World} {base : Nat} {v : Value} {xs : List Nat} (h : w.ownsRow base 3 1 v xs.length (xs.map iv)) : Dg w v xs := by
  rcases h.2 with ⟨rfl, h0⟩ | ⟨g, cap, cur, rfl, hb, hh, hnc, hcm, hcs, htake⟩
  · exact ⟨none, 0, by rw [h0], by omega, fun hp => absurd h0 (by omega)⟩
  · refine ⟨_, cap, rfl, hnc, fun _ => ⟨g, cur, rfl, hh, fun j hj => ?_⟩⟩
    have h1 : (cur.toList.take (xs.length * 1))[j]? = some (iv xs[j]) := by rw [htake]; simp [hj]
    rw [List.getElem?_take, if_pos (by omega)] at h1
    simpa [iv] using h1

/-- What stands in memory while the digits of a number are gathered: B + 1 the whole number so far. -/
structure OfAt (w : World) (sg : Int) (m k : Nat) (wr : World) (v : Value) (ds : List Nat) : Prop where
  res : ∃ x y, wr.heap[w.heap.size]? = some (.cells #[x, y] 68 (0, 0))
  mem : wr.heap[w.heap.size + 1]? = some (.cells #[.int .i64 sg, v] 68 (0, 0))
  own : wr.ownsRow (w.heap.size + 2) 3 1 v ds.length (ds.map iv)
  digs : ds ++ low k = low m
  below : Below w.heap.size w wr

theorem own_form {wr : World} {v : Value} {n b : Nat} {xs : List Value} (h : wr.ownsRow b 3 1 v n xs) (hn : 0 < n) : ∃ g cap, v = .slice (some ⟨g, 0, none⟩) n cap := by
  rcases h.2 with ⟨_, h0⟩ | ⟨g, cap, cur, h1, _⟩
  · omega
  · exact ⟨g, cap, h1⟩
theorem own_ne {wr : World} {v : Value} {n b : Nat} {xs : List Value} (h : wr.ownsRow (b + 1) 3 1 v n xs) {j : Nat} (hj : j ≤ b) : some j ≠ v.ownBlock := by
  intro e
  have := (h.lt j e.symm).1
  omega
theorem of_step {w wr w' : World} {sg : Int} {m k : Nat} {v v' : Value} {ds : List Nat} {o : Obj} (hA : OfAt w sg m k wr v ds) (hk : k ≠ 0)
    (hown : w'.ownsRow (w.heap.size + 2) 3 1 v' (ds.length + 1) (ds.map iv ++ [iv (k % 10)])) (hg : (wr.alloc o).grownBy w' v.ownBlock) :
    w'.heap[w.heap.size + 1]? = some (.cells #[.int .i64 sg, v] 68 (0, 0)) ∧ OfAt w sg m (k / 10) (w'.setCell ⟨w.heap.size + 1, 1, none⟩ v') v' (ds ++ [k % 10]) := by
  have hl1 := lt_of_block hA.mem
  have hm : w'.heap[w.heap.size + 1]? = some (.cells #[.int .i64 sg, v] 68 (0, 0)) :=
    (hg.block _ (by simp; omega) (own_ne hA.own (Nat.le_refl _))).trans ((heap_alloc_old _ _ hl1).trans hA.mem)
  refine ⟨hm, ?_, ?_, ?_, ?_, ?_⟩
  · obtain ⟨x, y, hc⟩ := hA.res
    refine ⟨x, y, ?_⟩
    rw [heap_setCell_other _ _ _ _ (by simp)]
    exact (hg.block _ (by simp; omega) (own_ne hA.own (by omega))).trans ((heap_alloc_old _ _ (by omega)).trans hc)
  · have := heap_setCell_same w' (w.heap.size + 1) 1 _ _ v' hm
    rw [this]; rfl
  · have h1 := ownsRow_setCell_below hown (a := ⟨w.heap.size + 1, 1, none⟩) (by simp) v'
    rw [show (ds ++ [k % 10]).length = ds.length + 1 from by simp, List.map_append]
    exact h1
  · rw [List.append_assoc, ← hA.digs, low_pos k hk]; rfl
  · refine Below.setCell ?_ (by simp) _
    refine (hA.below.alloc (by omega) o).grown hg (by simp; omega) (fun j hj => ?_)
    have := (hA.own.lt j hj).1
    omega

theorem two_set {W : World} {b : Nat} {x y p q : Value} {t : TypeId} (h : W.heap[b]? = some (.cells #[x, y] t (0, 0))) :
    ((W.setCell ⟨b, 0, none⟩ p).setCell ⟨b, 1, none⟩ q).heap[b]? = some (.cells #[p, q] t (0, 0)) := by
  have h1 := heap_setCell_same W b 0 _ _ p h
  have h2 := heap_setCell_same _ b 1 _ _ q h1
  rw [h2]; rfl

def sgn (n : Int) : Int := if n < 0 then -1 else if n = 0 then 0 else 1
def OfPost (n : Int) (w : World) (e : Ending) (w' : World) : Prop := ∃ v, e = .returned (.agg #[.int .i64 (sgn n), v]) ∧ Dg w' v (low n.natAbs) ∧ Below w.heap.size w w'

/-- Behind the loop: the sign is mended, and the whole number is told. -/
theorem of_end {w wr : World} {sg : Int} {m : Nat} {v : Value} {ds : List Nat} (hA : OfAt w sg m 0 wr v ds) : ds = low m ∧ (∃ a c, v = .slice a ds.length c) := by
  have hd : ds = low m := by have := hA.digs; rw [low_zero, List.append_nil] at this; exact this
  refine ⟨hd, ?_⟩
  obtain ⟨a, c, h, _⟩ := dg_of_own hA.own
  exact ⟨a, c, h⟩
theorem OfAt.len {w wr : World} {sg : Int} {m k : Nat} {v : Value} {ds : List Nat} (hA : OfAt w sg m k wr v ds) (hm : m ≤ 9223372036854775808) : ds.length ≤ 20 := by
  have h1 := low_len 20 m (by omega)
  have h2 : (ds ++ low k).length = (low m).length := by rw [hA.digs]
  rw [List.length_append] at h2
  omega

theorem low_nil (m : Nat) : (low m).length = 0 ↔ m = 0 := by
  constructor
  · intro h
    by_cases h0 : m = 0
    · exact h0
    · rw [low_pos m h0] at h; simp at h
  · rintro rfl; rw [low_zero]; rfl

set_option maxRecDepth 100000 in
set_option maxHeartbeats 2000000 in
theorem of_pos (n : Nat) (w : World) (hn : n ≤ 9223372036854775807) :
    Calls Try.prog 57 #[.int .i64 (n : Int)] w (OfPost (n : Int) w) := by
  obtain ⟨i0, hi, hz0, hz1, hz2⟩ := info_parts Try.infoInt
  have t0 : decide ((n : Int) < 0) = false := decide_eq_false (by omega)
  have hbn : n ≤ 9223372036854775808 := by omega
  go_enter Try.func57, Try.ntmps57
  go_wp2_with fail
  go_loopw [0] (fun c wr => ∃ (k : Nat) (v : Value) (ds : List Nat), c = .int .i64 ((k : Int)) ∧ k ≤ 9223372036854775807 ∧ OfAt w 1 n k wr v ds) (fun c _ => (intOf c).natAbs)
  case atStart =>
    refine ⟨n, _, [], rfl, hn, ⟨⟨_, _, heap_alloc2_old _ _ _⟩, heap_alloc2_new _ _ _, World.ownsRow_nil _ _ _ _, rfl, ((Below.refl _ _).alloc (Nat.le_refl _) _).alloc (by simp) _⟩⟩
  case round =>
    obtain ⟨k, v, ds, rfl, hk, hA⟩ := hrel
    have hdl := hA.len hbn
    have HA := Lib.hid hA
    have c0 := cell_of_row _ _ 0 _ _ _ hA.mem
    have c1 := cell_of_row _ _ 1 _ _ _ hA.mem
    have f1 := frozen_of_row _ _ 1 _ _ hA.mem
    have f0 := frozen_of_row _ _ 0 _ _ hA.mem
    have hszr := lt_of_block hA.mem
    simp at c0 c1
    by_cases hz : k = 0
    · subst hz
      obtain ⟨hds, ⟨a, c, rfl⟩⟩ := of_end hA
      obtain ⟨x, y, hres⟩ := hA.res
      have r0 := cell_of_row _ _ 0 _ _ _ hres
      have r1 := cell_of_row _ _ 1 _ _ _ hres
      have g0 := frozen_of_row _ _ 0 _ _ hres
      have g1 := frozen_of_row _ _ 1 _ _ hres
      simp at r0 r1
      have HR := Lib.hid hds
      have HRES := Lib.hid hres
      clear hds hA hres
      by_cases hn0 : ds.length = 0
      · have t3 : ((ds.length : Int) == 0) = true := beq_iff_eq.2 (by omega)
        have HN := Lib.hid hn0
        have hres2 := (heap_setCell_other wr ⟨w.heap.size + 1, 0, none⟩ w.heap.size (.int .i64 0) (by simp)).trans HRES.out
        have hfin := two_set (p := .int .i64 0) (q := .slice a ds.length c) hres2
        have q0 := cell_of_row _ _ 0 _ _ _ hfin
        have q1 := cell_of_row _ _ 1 _ _ _ hfin
        simp at q0 q1
        have hO := ownsRow_setCell_below (ownsRow_setCell_below (ownsRow_setCell_below HA.out.own (a := ⟨w.heap.size + 1, 0, none⟩) (by simp) (.int .i64 0)) (a := ⟨w.heap.size, 0, none⟩) (by simp) (.int .i64 0)) (a := ⟨w.heap.size, 1, none⟩) (by simp) (.slice a ds.length c)
        have HD := Lib.hid (dg_of_own hO)
        have hBb := ((HA.out.below.setCell (p := ⟨w.heap.size + 1, 0, none⟩) (by simp) (.int .i64 0)).setCell (p := ⟨w.heap.size, 0, none⟩) (by simp) (.int .i64 0)).setCell (p := ⟨w.heap.size, 1, none⟩) (by simp) (.slice a ds.length c)
        have HQ0 := Lib.hid q0
        have HQ1 := Lib.hid q1
        clear hn0 hres2 hfin q0 q1 hO
        go_wp2_with fail
        have q0 := HQ0.out
        have q1 := HQ1.out
        refine bodyPost_ret (v := .agg #[.int .i64 0, .slice a ds.length c]) (by simp [results, Try.results57, go_sem, q0, q1]) rfl ?_
        have hz : n = 0 := (low_nil n).1 (by rw [← HR.out]; exact HN.out)
        refine ⟨.slice a ds.length c, by rw [hz]; rfl, ?_, hBb⟩
        rw [show low (n : Int).natAbs = ds from HR.out.symm]
        exact HD.out
      · have t3 : ((ds.length : Int) == 0) = false := beq_eq_false_iff_ne.2 (by omega)
        have HN := Lib.hid hn0
        have hfin := two_set (p := .int .i64 1) (q := .slice a ds.length c) HRES.out
        have q0 := cell_of_row _ _ 0 _ _ _ hfin
        have q1 := cell_of_row _ _ 1 _ _ _ hfin
        simp at q0 q1
        have hO := ownsRow_setCell_below (ownsRow_setCell_below HA.out.own (a := ⟨w.heap.size, 0, none⟩) (by simp) (.int .i64 1)) (a := ⟨w.heap.size, 1, none⟩) (by simp) (.slice a ds.length c)
        have HD := Lib.hid (dg_of_own hO)
        have hBb := (HA.out.below.setCell (p := ⟨w.heap.size, 0, none⟩) (by simp) (.int .i64 1)).setCell (p := ⟨w.heap.size, 1, none⟩) (by simp) (.slice a ds.length c)
        have HQ0 := Lib.hid q0
        have HQ1 := Lib.hid q1
        clear hn0 hfin q0 q1 hO
        go_wp2_with fail
        have q0 := HQ0.out
        have q1 := HQ1.out
        refine bodyPost_ret (v := .agg #[.int .i64 1, .slice a ds.length c]) (by simp [results, Try.results57, go_sem, q0, q1]) rfl ?_
        have hz : ¬ n = 0 := fun h => HN.out (by rw [HR.out]; exact (low_nil n).2 h)
        refine ⟨.slice a ds.length c, by rw [show sgn (n : Int) = 1 from by unfold sgn; rw [if_neg (by omega), if_neg (by omega)]], ?_, hBb⟩
        rw [show low (n : Int).natAbs = ds from HR.out.symm]
        exact HD.out
    · have t1 : ((k : Int) != 0) = true := by rw [bne_iff_ne]; omega
      have t2 : decide ((k : Int) % 10 < 0) = false := decide_eq_false (by omega)
      have hown := Lib.hid hA.own
      have HZ := Lib.hid hz
      clear hA hz
      go_wp2_with (at_builtin; refine wpList_append_own _ rfl _ _ 66 rfl (w.heap.size + 2) 3 i0 (.int .i64 0) 1 8 Try.underlying66 hi hz0 hz1 hz2 rfl (by decide) _ _ _ rfl (hown.out.alloc _) ⟨wr.heap.size, 0, none⟩ 1 1 [iv (k % 10)] rfl rfl ?c1 ?c2 ?c3 ?c4 ?c5 ?_)
      case c1 => exact cell_one_new _ _ _
      case c2 => exact iv_one [k % 10]
      case c3 => unfold maxLen; omega
      case c4 => omega
      case c5 => simp; omega
      intro v' w1 hown1 hg1 hnil
      obtain ⟨hm1, hA1⟩ := of_step HA.out HZ.out hown1 hg1
      have d1 := cell_of_row _ _ 1 _ _ _ hm1
      have e1 := frozen_of_row _ _ 1 _ _ hm1
      simp at d1
      have HA1 := Lib.hid hA1
      obtain ⟨g', cap', rfl⟩ := own_form hown1 (by omega)
      clear hA1 hown1 hg1 hnil hm1
      go_wp2_with fail
      go_roundw
      case rel => exact ⟨k / 10, _, ds ++ [k % 10], rfl, by omega, HA1.out⟩
      case measure => have hz := HZ.out; simp [intOf]; omega
theorem neg_tmod10 (k : Nat) : (-(k : Int)).tmod 10 = -((k % 10 : Nat) : Int) := by rw [Int.neg_tmod]; rfl
theorem neg_tdiv10 (k : Nat) : (-(k : Int)).tdiv 10 = -((k / 10 : Nat) : Int) := by rw [Int.neg_tdiv]; rfl

set_option maxRecDepth 100000 in
set_option maxHeartbeats 2000000 in
theorem of_neg (n : Nat) (w : World) (hn : n ≤ 9223372036854775808) (hn1 : 1 ≤ n) :
    Calls Try.prog 57 #[.int .i64 (-(n : Int))] w (OfPost (-(n : Int)) w) := by
  obtain ⟨i0, hi, hz0, hz1, hz2⟩ := info_parts Try.infoInt
  have t0 : decide (-(n : Int) < 0) = true := decide_eq_true (by omega)
  have t01 : decide (0 < (n : Int)) = true := decide_eq_true (by omega)
  have t02 : decide (0 < n) = true := decide_eq_true (by omega)
  have hbn : n ≤ 9223372036854775808 := by omega
  go_enter Try.func57, Try.ntmps57
  go_wp2_with fail
  go_loopw [0] (fun c wr => ∃ (k : Nat) (v : Value) (ds : List Nat), c = .int .i64 (-(k : Int)) ∧ k ≤ 9223372036854775808 ∧ OfAt w (-1) n k wr v ds) (fun c _ => (intOf c).natAbs)
  case atStart =>
    refine ⟨n, _, [], rfl, hn, ⟨⟨_, _, heap_alloc2_old _ _ _⟩, heap_alloc2_new _ _ _, World.ownsRow_nil _ _ _ _, rfl, ((Below.refl _ _).alloc (Nat.le_refl _) _).alloc (by simp) _⟩⟩
  case round =>
    obtain ⟨k, v, ds, rfl, hk, hA⟩ := hrel
    have hdl := hA.len hbn
    have HA := Lib.hid hA
    have c0 := cell_of_row _ _ 0 _ _ _ hA.mem
    have c1 := cell_of_row _ _ 1 _ _ _ hA.mem
    have f1 := frozen_of_row _ _ 1 _ _ hA.mem
    have f0 := frozen_of_row _ _ 0 _ _ hA.mem
    have hszr := lt_of_block hA.mem
    simp at c0 c1
    by_cases hz : k = 0
    · subst hz
      obtain ⟨hds, ⟨a, c, rfl⟩⟩ := of_end hA
      obtain ⟨x, y, hres⟩ := hA.res
      have r0 := cell_of_row _ _ 0 _ _ _ hres
      have r1 := cell_of_row _ _ 1 _ _ _ hres
      have g0 := frozen_of_row _ _ 0 _ _ hres
      have g1 := frozen_of_row _ _ 1 _ _ hres
      simp at r0 r1
      have HR := Lib.hid hds
      have HRES := Lib.hid hres
      clear hds hA hres
      by_cases hn0 : ds.length = 0
      · have t3 : ((ds.length : Int) == 0) = true := beq_iff_eq.2 (by omega)
        have HN := Lib.hid hn0
        have hres2 := (heap_setCell_other wr ⟨w.heap.size + 1, 0, none⟩ w.heap.size (.int .i64 0) (by simp)).trans HRES.out
        have hfin := two_set (p := .int .i64 0) (q := .slice a ds.length c) hres2
        have q0 := cell_of_row _ _ 0 _ _ _ hfin
        have q1 := cell_of_row _ _ 1 _ _ _ hfin
        simp at q0 q1
        have hO := ownsRow_setCell_below (ownsRow_setCell_below (ownsRow_setCell_below HA.out.own (a := ⟨w.heap.size + 1, 0, none⟩) (by simp) (.int .i64 0)) (a := ⟨w.heap.size, 0, none⟩) (by simp) (.int .i64 0)) (a := ⟨w.heap.size, 1, none⟩) (by simp) (.slice a ds.length c)
        have HD := Lib.hid (dg_of_own hO)
        have hBb := ((HA.out.below.setCell (p := ⟨w.heap.size + 1, 0, none⟩) (by simp) (.int .i64 0)).setCell (p := ⟨w.heap.size, 0, none⟩) (by simp) (.int .i64 0)).setCell (p := ⟨w.heap.size, 1, none⟩) (by simp) (.slice a ds.length c)
        have HQ0 := Lib.hid q0
        have HQ1 := Lib.hid q1
        clear hn0 hres2 hfin q0 q1 hO
        go_wp2_with fail
        have q0 := HQ0.out
        have q1 := HQ1.out
        refine bodyPost_ret (v := .agg #[.int .i64 0, .slice a ds.length c]) (by simp [results, Try.results57, go_sem, q0, q1]) rfl ?_
        have hz : n = 0 := (low_nil n).1 (by rw [← HR.out]; exact HN.out)
        exact absurd hz (by omega)
      · have t3 : ((ds.length : Int) == 0) = false := beq_eq_false_iff_ne.2 (by omega)
        have HN := Lib.hid hn0
        have hfin := two_set (p := .int .i64 (-1)) (q := .slice a ds.length c) HRES.out
        have q0 := cell_of_row _ _ 0 _ _ _ hfin
        have q1 := cell_of_row _ _ 1 _ _ _ hfin
        simp at q0 q1
        have hO := ownsRow_setCell_below (ownsRow_setCell_below HA.out.own (a := ⟨w.heap.size, 0, none⟩) (by simp) (.int .i64 (-1))) (a := ⟨w.heap.size, 1, none⟩) (by simp) (.slice a ds.length c)
        have HD := Lib.hid (dg_of_own hO)
        have hBb := (HA.out.below.setCell (p := ⟨w.heap.size, 0, none⟩) (by simp) (.int .i64 (-1))).setCell (p := ⟨w.heap.size, 1, none⟩) (by simp) (.slice a ds.length c)
        have HQ0 := Lib.hid q0
        have HQ1 := Lib.hid q1
        clear hn0 hfin q0 q1 hO
        go_wp2_with fail
        have q0 := HQ0.out
        have q1 := HQ1.out
        refine bodyPost_ret (v := .agg #[.int .i64 (-1), .slice a ds.length c]) (by simp [results, Try.results57, go_sem, q0, q1]) rfl ?_
        have hz : ¬ n = 0 := fun h => HN.out (by rw [HR.out]; exact (low_nil n).2 h)
        refine ⟨.slice a ds.length c, by rw [show sgn (-(n : Int)) = -1 from by unfold sgn; rw [if_pos (by omega)]], ?_, hBb⟩
        rw [show low (-(n : Int)).natAbs = ds from by rw [Int.natAbs_neg]; exact HR.out.symm]
        exact HD.out
    · have t1 : ((-(k : Int)) != 0) = true := by rw [bne_iff_ne]; omega
      have em := neg_tmod10 k
      have eq := neg_tdiv10 k
      have hr10 : k % 10 < 10 := by omega
      generalize hr : k % 10 = r at *
      generalize hq : k / 10 = q at *
      have HRR : Hid (r = k % 10) := hr.symm
      have HQQ : Hid (q = k / 10) := hq.symm
      have hqb : q ≤ 922337203685477581 := by omega
      clear hr hq
      by_cases hr0 : r = 0
      · have em0 : (-(k : Int)).tmod 10 = 0 := by rw [em, hr0]; rfl
        have HR0 : Hid (iv 0 = iv (k % 10)) := by
          show iv 0 = iv (k % 10)
          rw [← HRR.out, hr0]
        clear hr0 em
        have hown := Lib.hid hA.own
        have HZ := Lib.hid hz
        clear hA hz
        go_wp2_with (at_builtin; refine wpList_append_own _ rfl _ _ 66 rfl (w.heap.size + 2) 3 i0 (.int .i64 0) 1 8 Try.underlying66 hi hz0 hz1 hz2 rfl (by decide) _ _ _ rfl (hown.out.alloc _) ⟨wr.heap.size, 0, none⟩ 1 1 [iv 0] rfl rfl ?c1 ?c2 ?c3 ?c4 ?c5 ?_)
        case c1 => exact cell_one_new _ _ _
        case c2 => exact iv_one [0]
        case c3 => unfold maxLen; omega
        case c4 => omega
        case c5 => simp; omega
        intro v' w1 hown1 hg1 hnil
        rw [HR0.out] at hown1
        obtain ⟨hm1, hA1⟩ := of_step HA.out HZ.out hown1 hg1
        have d1 := cell_of_row _ _ 1 _ _ _ hm1
        have e1 := frozen_of_row _ _ 1 _ _ hm1
        simp at d1
        have HA1 := Lib.hid hA1
        obtain ⟨g', cap', rfl⟩ := own_form hown1 (by omega)
        clear hA1 hown1 hg1 hnil hm1
        go_wp2_with fail
        go_roundw
        case rel => exact ⟨k / 10, _, ds ++ [k % 10], by rw [HQQ.out], by omega, HA1.out⟩
        case measure => have hz := HZ.out; have hqq := HQQ.out; simp [intOf]; omega
      · have t2 : decide (-(r : Int) < 0) = true := decide_eq_true (by omega)
        have t4 : decide ((0 : Int) < (r : Int)) = true := decide_eq_true (by omega)
        have t5 : decide (0 < r) = true := decide_eq_true (by omega)
        clear hr0
        have hown := Lib.hid hA.own
        have HZ := Lib.hid hz
        clear hA hz
        go_wp2_with (at_builtin; refine wpList_append_own _ rfl _ _ 66 rfl (w.heap.size + 2) 3 i0 (.int .i64 0) 1 8 Try.underlying66 hi hz0 hz1 hz2 rfl (by decide) _ _ _ rfl (hown.out.alloc _) ⟨wr.heap.size, 0, none⟩ 1 1 [iv r] rfl rfl ?c1 ?c2 ?c3 ?c4 ?c5 ?_)
        case c1 => exact cell_one_new _ _ _
        case c2 => exact iv_one [r]
        case c3 => unfold maxLen; omega
        case c4 => omega
        case c5 => simp; omega
        intro v' w1 hown1 hg1 hnil
        rw [HRR.out] at hown1
        obtain ⟨hm1, hA1⟩ := of_step HA.out HZ.out hown1 hg1
        have d1 := cell_of_row _ _ 1 _ _ _ hm1
        have e1 := frozen_of_row _ _ 1 _ _ hm1
        simp at d1
        have HA1 := Lib.hid hA1
        obtain ⟨g', cap', rfl⟩ := own_form hown1 (by omega)
        clear hA1 hown1 hg1 hnil hm1
        go_wp2_with fail
        go_roundw
        case rel => exact ⟨k / 10, _, ds ++ [k % 10], by rw [HQQ.out], by omega, HA1.out⟩
        case measure => have hz := HZ.out; have hqq := HQQ.out; simp [intOf]; omega

theorem of_any (n : Int) (w : World) (hn : I64 n) : Calls Try.prog 57 #[.int .i64 n] w (OfPost n w) := by
  obtain ⟨h1, h2⟩ := hn
  by_cases h : n < 0
  · obtain ⟨m, rfl⟩ : ∃ m : Nat, n = -(m : Int) := ⟨n.natAbs, by omega⟩
    exact of_neg m w (by omega) (by omega)
  · obtain ⟨m, rfl⟩ := Int.eq_ofNat_of_zero_le (show 0 ≤ n by omega)
    exact of_pos m w (by omega)

def BigPost (z : Int) (L : Nat) (w : World) (e : Ending) (w' : World) : Prop := ∃ V, e = .returned V ∧ BigAt w' V z L ∧ Below w.heap.size w w'
theorem sgn_val (n : Int) : sgn n * (val (low n.natAbs) : Int) = n := by
  rw [val_low]; unfold sgn
  split
  · omega
  · split <;> omega
theorem of_big (n : Int) (w : World) (hn : I64 n) : Calls Try.prog 57 #[.int .i64 n] w (BigPost n 20 w) := by
  refine (of_any n w hn).mono ?_
  rintro e w' ⟨v, rfl, hd, hB⟩
  refine ⟨_, rfl, ⟨sgn n, v, _, rfl, ?_, hd, low_ok _, low_len 20 _ (by obtain ⟨h1, h2⟩ := hn; omega), (sgn_val n).symm, ?_⟩, hB⟩
  · unfold sgn; split
    · left; rfl
    · split
      · right; left; rfl
      · right; right; rfl
  · intro h
    have := sgn_val n
    rw [h] at this
    rw [val_low]
    simp at this
    omega

theorem minus_any (V : Value) (z : Int) (L : Nat) (w : World) (h : BigAt w V z L) : Calls Try.prog 58 #[V] w (BigPost (-z) L w) := by
  obtain ⟨s, v, xs, rfl, hs, hd, ok, hl, rfl, h0⟩ := h
  have hs1 : -1 ≤ s := by omega
  have hs2 : s ≤ 1 := by omega
  have HD := Lib.hid hd
  obtain ⟨a, cap, rfl, _, _⟩ := hd
  have HS := Lib.hid hs
  have HZ0 := Lib.hid h0
  clear hs h0
  go_enter Try.func58, Try.ntmps58
  have hBb : Below w.heap.size w ((w.alloc (.cells #[.int .i64 (-s), .slice a xs.length cap] 68)).alloc (.cells #[.int .i64 (-s), .slice a xs.length cap] 68)) :=
    ((Below.refl _ _).alloc (Nat.le_refl _) _).alloc (by simp) _
  go_wp2_with fail
  refine bodyPost_ret (v := .agg #[.int .i64 (-s), .slice a xs.length cap]) (by simp [results, Try.results58, go_sem]) rfl ?_
  refine ⟨_, rfl, ⟨-s, _, xs, rfl, ?_, HD.out.below hBb, ok, hl, (Int.neg_mul _ _).symm, fun h => HZ0.out (by omega)⟩, hBb⟩
  have := HS.out
  omega
end Go.Proofs.Ytkokilbnhhmicaa

/- Adding and taking away, digit by digit. No Go in sight. -/
namespace Go.Proofs.Ytkokilbnhhmicaa.Bo

/-- What was added up so far: the digits os, and c over. -/
def AddInv (xs ys os : List Nat) (k c : Nat) : Prop := os.length = k ∧ Ok os ∧ c ≤ 1 ∧ val os + 10 ^ k * (c + val (xs.drop k) + val (ys.drop k)) = val xs + val ys
theorem addInv_start (xs ys : List Nat) : AddInv xs ys [] 0 0 := ⟨rfl, Ok.nil, by omega, by simp [val]⟩
theorem addInv_step (xs ys os : List Nat) (k c : Nat) (ox : Ok xs) (oy : Ok ys) (h : AddInv xs ys os k c) :
    AddInv xs ys (os ++ [(xs.getD k 0 + ys.getD k 0 + c) % 10]) (k + 1) ((xs.getD k 0 + ys.getD k 0 + c) / 10) := by
  obtain ⟨hl, ho, hc, hv⟩ := h
  have hx := ox.getD k
  have hy := oy.getD k
  refine ⟨by simp [hl], ho.snoc (by omega), by omega, ?_⟩
  rw [val_snoc, hl, Nat.pow_succ]
  rw [val_drop xs k, val_drop ys k] at hv
  generalize xs.getD k 0 = X at *
  generalize ys.getD k 0 = Y at *
  generalize val (xs.drop (k + 1)) = A at *
  generalize val (ys.drop (k + 1)) = B at *
  rw [← hv]
  have e1 : c + (X + 10 * A) + (Y + 10 * B) = (X + Y + c) % 10 + 10 * ((X + Y + c) / 10 + A + B) := by omega
  rw [e1]
  generalize (X + Y + c) % 10 = d
  generalize (X + Y + c) / 10 + A + B = Q
  rw [Nat.mul_add, Nat.mul_assoc, Nat.add_assoc]
theorem addInv_end (xs ys os : List Nat) (c : Nat) (ox : Ok xs) (oy : Ok ys) (h : AddInv xs ys os (xs.length + ys.length + 1) c) : val os = val xs + val ys := by
  obtain ⟨hl, ho, hc, hv⟩ := h
  rw [List.drop_of_length_le (by omega), List.drop_of_length_le (by omega)] at hv
  have hx := val_lt xs ox
  have hy := val_lt ys oy
  have h1 : 10 ^ xs.length ≤ 10 ^ (xs.length + ys.length) := Nat.pow_le_pow_right (by omega) (by omega)
  have h2 : 10 ^ ys.length ≤ 10 ^ (xs.length + ys.length) := Nat.pow_le_pow_right (by omega) (by omega)
  have h3 : 10 ^ (xs.length + ys.length + 1) = 10 ^ (xs.length + ys.length) * 10 := Nat.pow_succ ..
  have h4 : c = 0 := by
    rcases Nat.eq_zero_or_pos c with h0 | h0
    · exact h0
    · obtain rfl : c = 1 := by omega
      simp [val] at hv
      omega
  subst h4
  simpa [val] using hv

/-- What was taken away so far: the digits os, and b borrowed. -/
def SubInv (xs ys os : List Nat) (k b : Nat) : Prop := os.length = k ∧ Ok os ∧ b ≤ 1 ∧ val os + val ys + 10 ^ k * val (xs.drop k) = val xs + 10 ^ k * (b + val (ys.drop k))
theorem subInv_start (xs ys : List Nat) : SubInv xs ys [] 0 0 := ⟨rfl, Ok.nil, by omega, by simp [val]; omega⟩
theorem subInv_step (xs ys os : List Nat) (k b d b' : Nat) (hd : d < 10) (hb : b' ≤ 1) (h : SubInv xs ys os k b) (he : xs.getD k 0 + 10 * b' = d + ys.getD k 0 + b) :
    SubInv xs ys (os ++ [d]) (k + 1) b' := by
  obtain ⟨hl, ho, hc, hv⟩ := h
  refine ⟨by simp [hl], ho.snoc hd, hb, ?_⟩
  rw [val_snoc, hl, Nat.pow_succ]
  rw [val_drop xs k, val_drop ys k] at hv
  generalize xs.getD k 0 = X at *
  generalize ys.getD k 0 = Y at *
  generalize val (xs.drop (k + 1)) = A at *
  generalize val (ys.drop (k + 1)) = B at *
  generalize 10 ^ k = P at *
  have e1 : P * (X + 10 * A) = P * X + P * 10 * A := by rw [Nat.mul_add, Nat.mul_assoc]
  have e2 : P * (b + (Y + 10 * B)) = P * b + P * Y + P * 10 * B := by rw [Nat.mul_add, Nat.mul_add, Nat.mul_assoc, Nat.add_assoc]
  have e3 : P * 10 * (b' + B) = P * (10 * b') + P * 10 * B := by rw [Nat.mul_add, Nat.mul_assoc]
  have e4 : P * X + P * (10 * b') = P * d + P * Y + P * b := by rw [← Nat.mul_add, he, Nat.mul_add, Nat.mul_add]
  rw [e1, e2] at hv
  rw [e3]
  omega
theorem subInv_end (xs ys os : List Nat) (b : Nat) (hle : val ys ≤ val xs) (h : SubInv xs ys os xs.length b) : val os = val xs - val ys := by
  obtain ⟨hl, ho, hc, hv⟩ := h
  rw [List.drop_of_length_le (Nat.le_refl _)] at hv
  have hlt := val_lt os ho
  rw [hl] at hlt
  have h4 : b + val (ys.drop xs.length) = 0 := by
    rcases Nat.eq_zero_or_pos (b + val (ys.drop xs.length)) with h0 | h0
    · exact h0
    · have := Nat.mul_le_mul_left (10 ^ xs.length) h0
      simp [val] at hv this
      omega
  rw [h4] at hv
  simp [val] at hv
  omega
end Go.Proofs.Ytkokilbnhhmicaa.Bo

/- Contract of Plus. -/
namespace Go.Proofs.Ytkokilbnhhmicaa
open Go.RowKit Go.Proofs.Ytkokilbnhhmicaa.Bo
set_option linter.unusedVariables false

theorem digit_q (v : Value) (xs : List Nat) (i : Nat) (w : World) (h : Dg w v xs) (hl : xs.length ≤ 1000) (hi : i ≤ 10000) :
    Calls Try.prog 74 #[v, .int .i64 (i : Int)] w fun e w' => e = .returned (.int .i64 ((xs.getD i 0 : Nat) : Int)) ∧ w' = w :=
  (digit_any v xs i w h (by omega) (by omega)).mono fun _ _ ⟨h1, h2⟩ => ⟨h1, h2.symm⟩
theorem Dg.drewN {w : World} {v : Value} {xs : List Nat} (h : Dg w v xs) (n : Nat) : Dg (w.drewN n) v xs := h.below (below_drewN (Below.refl _ _) n)

/-- What stands in memory while digits are gathered: the two whole numbers, the answer's place, the row so far. -/
structure PlusAt (w : World) (base : Nat) (sa sb so : Int) (va vb v : Value) (os : List Nat) (wr : World) : Prop where
  boxa : wr.heap[w.heap.size]? = some (.cells #[.int .i64 sa, va] 68 (0, 0))
  boxb : wr.heap[w.heap.size + 1]? = some (.cells #[.int .i64 sb, vb] 68 (0, 0))
  res : ∃ x y, wr.heap[w.heap.size + 2]? = some (.cells #[x, y] 68 (0, 0))
  out : wr.heap[w.heap.size + 3]? = some (.cells #[.int .i64 so, v] 68 (0, 0))
  own : wr.ownsRow (base + 1) 3 1 v os.length (os.map iv)
  hbase : w.heap.size + 3 ≤ base
  hsize : base < wr.heap.size
  below : Below w.heap.size w wr

theorem plus_zero1 (s : Int) (u v : Value) (w : World) (hv : ∃ a n c, v = .slice a n c) (hu : ∃ a n c, u = .slice a n c) :
    Calls Try.prog 56 #[.agg #[.int .i64 0, u], .agg #[.int .i64 s, v]] w fun e w' => e = .returned (.agg #[.int .i64 s, v]) ∧ Below w.heap.size w w' := by
  obtain ⟨a, n, c, rfl⟩ := hv
  obtain ⟨a', n', c', rfl⟩ := hu
  have hBb : Below w.heap.size w (((w.alloc (.cells #[.int .i64 0, .slice a' n' c'] 68)).alloc (.cells #[.int .i64 s, .slice a n c] 68)).alloc (.cells #[.int .i64 s, .slice a n c] 68)) :=
    (((Below.refl _ _).alloc (Nat.le_refl _) _).alloc (by simp) _).alloc (by simp; omega) _
  go_enter Try.func56, Try.ntmps56
  go_wp2_with fail
  refine bodyPost_ret (v := .agg #[.int .i64 s, .slice a n c]) (by simp [results, Try.results56, go_sem]) rfl ⟨rfl, hBb⟩
theorem plus_zero2 (s : Int) (u v : Value) (w : World) (hs : s ≠ 0) (hv : ∃ a n c, v = .slice a n c) (hu : ∃ a n c, u = .slice a n c) :
    Calls Try.prog 56 #[.agg #[.int .i64 s, v], .agg #[.int .i64 0, u]] w fun e w' => e = .returned (.agg #[.int .i64 s, v]) ∧ Below w.heap.size w w' := by
  obtain ⟨a, n, c, rfl⟩ := hv
  obtain ⟨a', n', c', rfl⟩ := hu
  have hBb : Below w.heap.size w (((w.alloc (.cells #[.int .i64 s, .slice a n c] 68)).alloc (.cells #[.int .i64 0, .slice a' n' c'] 68)).alloc (.cells #[.int .i64 s, .slice a n c] 68)) :=
    (((Below.refl _ _).alloc (Nat.le_refl _) _).alloc (by simp) _).alloc (by simp; omega) _
  have t0 : (s == 0) = false := beq_eq_false_iff_ne.2 hs
  clear hs
  go_enter Try.func56, Try.ntmps56
  go_wp2_with fail
  refine bodyPost_ret (v := .agg #[.int .i64 s, .slice a n c]) (by simp [results, Try.results56, go_sem]) rfl ⟨rfl, hBb⟩

theorem plusAt_step {w wr w' : World} {base : Nat} {sa sb so : Int} {va vb v v' : Value} {os : List Nat} {d : Nat} {o : Obj} {n : Nat}
    (hA : PlusAt w base sa sb so va vb v os wr) (hown : w'.ownsRow (base + 1) 3 1 v' (os.length + 1) (os.map iv ++ [iv d])) (hg : ((wr.drewN n).alloc o).grownBy w' v.ownBlock) :
    w'.heap[w.heap.size + 3]? = some (.cells #[.int .i64 so, v] 68 (0, 0)) ∧ PlusAt w base sa sb so va vb v' (os ++ [d]) (w'.setCell ⟨w.heap.size + 3, 1, none⟩ v') ∧
      ∀ j, j ≤ base → j ≠ w.heap.size + 3 → (w'.setCell ⟨w.heap.size + 3, 1, none⟩ v').heap[j]? = wr.heap[j]? := by
  have hsz := hA.hsize
  have hbs := hA.hbase
  have hk : ∀ j, j ≤ base → w'.heap[j]? = wr.heap[j]? := fun j hj =>
    (hg.block j (by simp; omega) (own_ne hA.own hj)).trans (heap_alloc_old _ _ (show j < (wr.drewN n).heap.size from by show j < wr.heap.size; omega))
  have hm := (hk (w.heap.size + 3) (by omega)).trans hA.out
  refine ⟨hm, ⟨?_, ?_, ?_, ?_, ?_, hbs, ?_, ?_⟩, fun j hj hne => by rw [heap_setCell_other _ _ _ _ hne]; exact hk j hj⟩
  · rw [heap_setCell_other _ _ _ _ (by simp)]; exact (hk _ (by omega)).trans hA.boxa
  · rw [heap_setCell_other _ _ _ _ (by simp)]; exact (hk _ (by omega)).trans hA.boxb
  · obtain ⟨x, y, hr⟩ := hA.res
    exact ⟨x, y, by rw [heap_setCell_other _ _ _ _ (by simp)]; exact (hk _ (by omega)).trans hr⟩
  · have := heap_setCell_same w' (w.heap.size + 3) 1 _ _ v' hm
    rw [this]; rfl
  · have h1 := ownsRow_setCell_below hown (a := ⟨w.heap.size + 3, 1, none⟩) (by simp; omega) v'
    rw [show (os ++ [d]).length = os.length + 1 from by simp, List.map_append]
    exact h1
  · have := hg.size
    simp at this
    simp [World.setCell]
    have h2 : (wr.drewN n).heap.size = wr.heap.size := rfl
    omega
  · refine Below.setCell ?_ (by simp) _
    refine ((below_drewN hA.below n).alloc (by show w.heap.size ≤ wr.heap.size; omega) o).grown hg (by simp; show w.heap.size ≤ wr.heap.size + 1; omega) (fun j hj => ?_)
    have := (hA.own.lt j hj).1
    omega

theorem al4 (w : World) (A B C D : Obj) :
    ((((w.alloc A).alloc B).alloc C).alloc D).heap[w.heap.size]? = some A ∧ ((((w.alloc A).alloc B).alloc C).alloc D).heap[w.heap.size + 1]? = some B ∧
    ((((w.alloc A).alloc B).alloc C).alloc D).heap[w.heap.size + 2]? = some C ∧ ((((w.alloc A).alloc B).alloc C).alloc D).heap[w.heap.size + 3]? = some D := by
  have e1 := heap_alloc2_old w A B
  have e2 := heap_alloc2_new w A B
  have e3 : (((w.alloc A).alloc B).alloc C).heap[w.heap.size + 2]? = some C := by have := heap_alloc_new ((w.alloc A).alloc B) C; simpa using this
  have e4 : ((((w.alloc A).alloc B).alloc C).alloc D).heap[w.heap.size + 3]? = some D := by have := heap_alloc_new (((w.alloc A).alloc B).alloc C) D; simpa using this
  refine ⟨?_, ?_, ?_, e4⟩
  · rw [heap_alloc_old _ _ (by simp; omega), heap_alloc_old _ _ (by simp; omega)]; exact e1
  · rw [heap_alloc_old _ _ (by simp), heap_alloc_old _ _ (by simp)]; exact e2
  · rw [heap_alloc_old _ _ (by simp)]; exact e3

def SamePost (s : Int) (xs ys : List Nat) (w : World) (e : Ending) (w' : World) : Prop :=
  ∃ v zs, e = .returned (.agg #[.int .i64 s, v]) ∧ Dg w' v zs ∧ Ok zs ∧ zs.length ≤ xs.length + ys.length + 1 ∧ val zs = val xs + val ys ∧ Below w.heap.size w w'

set_option maxRecDepth 100000 in
set_option maxHeartbeats 4000000 in
theorem plus_same (s : Int) (va vb : Value) (xs ys : List Nat) (w : World) (hs : s = -1 ∨ s = 1) (hx : Dg w va xs) (hy : Dg w vb ys) (ox : Ok xs) (oy : Ok ys) (lx : xs.length ≤ 400) (ly : ys.length ≤ 400) :
    Calls Try.prog 56 #[.agg #[.int .i64 s, va], .agg #[.int .i64 s, vb]] w (SamePost s xs ys w) := by
  have t0 : (s == 0) = false := beq_eq_false_iff_ne.2 (by omega)
  clear hs
  obtain ⟨i0, hi, hz0, hz1, hz2⟩ := info_parts Try.infoInt
  have HX := Lib.hid hx
  have HY := Lib.hid hy
  obtain ⟨a1, cap1, rfl, hc1, hg1⟩ := hx
  obtain ⟨a2, cap2, rfl, hc2, hg2⟩ := hy
  clear hg1 hg2
  go_enter Try.func56, Try.ntmps56
  go_wp2_with fail
  go_loopw [6, 7] (fun over i wr => ∃ (k c : Nat) (v : Value) (os : List Nat), i = .int .i64 (k : Int) ∧ over = .int .i64 (c : Int) ∧ k ≤ xs.length + ys.length + 1 ∧ AddInv xs ys os k c ∧ PlusAt w (w.heap.size + 3) s s 0 (.slice a1 xs.length cap1) (.slice a2 ys.length cap2) v os wr) (fun _ i _ => xs.length + ys.length + 1 - (intOf i).toNat)
  case atStart =>
    obtain ⟨q1, q2, q3, q4⟩ := al4 w (.cells #[.int .i64 s, .slice a1 xs.length cap1] 68) (.cells #[.int .i64 s, .slice a2 ys.length cap2] 68) (.cells #[.int .i64 0, .slice none 0 0] 68) (.cells #[.int .i64 0, .slice none 0 0] 68)
    exact ⟨0, 0, _, [], rfl, rfl, Nat.zero_le _, addInv_start xs ys, q1, q2, ⟨_, _, q3⟩, q4, World.ownsRow_nil _ _ _ _, Nat.le_refl _, by simp, ((((Below.refl _ _).alloc (Nat.le_refl _) _).alloc (by simp) _).alloc (by simp; omega) _).alloc (by simp; omega) _⟩
  case round =>
    obtain ⟨k, c, v, os, rfl, rfl, hk, hinv, hA⟩ := hrel
    have HA := Lib.hid hA
    have HI := Lib.hid hinv
    have a0 := cell_of_row _ _ 0 _ _ _ hA.boxa
    have a1' := cell_of_row _ _ 1 _ _ _ hA.boxa
    have b0 := cell_of_row _ _ 0 _ _ _ hA.boxb
    have b1' := cell_of_row _ _ 1 _ _ _ hA.boxb
    have o0 := cell_of_row _ _ 0 _ _ _ hA.out
    have o1 := cell_of_row _ _ 1 _ _ _ hA.out
    have f0 := frozen_of_row _ _ 0 _ _ hA.out
    have f1 := frozen_of_row _ _ 1 _ _ hA.out
    have hdx := Lib.hid (HX.out.below hA.below)
    have hdy := Lib.hid (HY.out.below hA.below)
    have hsz := hA.hsize
    have hol : os.length ≤ 801 := by have := hinv.1; omega
    have hc := hinv.2.2.1
    simp at a0 a1' b0 b1' o0 o1
    by_cases hend : k ≤ xs.length + ys.length
    · have tk : decide ((k : Int) ≤ (xs.length : Int) + (ys.length : Int)) = true := decide_eq_true (by omega)
      have hgx := ox.getD k
      have hgy := oy.getD k
      have hst := Lib.hid (addInv_step xs ys os k c ox oy hinv)
      have cx := Lib.hid (fun n => Calls.quiet_of_same (digit_q _ xs k _ (hdx.out.drewN n) (by omega) (by omega)))
      have cy := Lib.hid (fun n => Calls.quiet_of_same (digit_q _ ys k _ (hdy.out.drewN n) (by omega) (by omega)))
      generalize xs.getD k 0 = X at *
      generalize ys.getD k 0 = Y at *
      clear hA hinv hk
      go_wp2_with fail
      have q1 : IntKind.i64.wrap ((X : Int) + (Y : Int)) = (X : Int) + (Y : Int) := IntWalk.i64_in _ (by omega)
      have q2 : IntKind.i64.wrap ((X : Int) + (Y : Int) + (c : Int)) = (X : Int) + (Y : Int) + (c : Int) := IntWalk.i64_in _ (by omega)
      go_quiet (first | (go_at_call_of 74 (Value.slice a1 xs.length cap1); exact cx.out _) | (go_at_call_of 74 (Value.slice a2 ys.length cap2); exact cy.out _))
      clear q1 q2
      have hown : Hid ((wr.drewN nq).ownsRow (w.heap.size + 3 + 1) 3 1 v os.length (os.map iv)) := HA.out.own
      go_wp2_with (at_builtin; refine wpList_append_own _ rfl _ _ 66 rfl (w.heap.size + 3 + 1) 3 i0 (.int .i64 0) 1 8 Try.underlying66 hi hz0 hz1 hz2 rfl (by decide) _ _ _ rfl (hown.out.alloc _) ⟨wr.heap.size, 0, none⟩ 1 1 [iv ((X + Y + c) % 10)] rfl rfl ?c1 ?c2 ?c3 ?c4 ?c5 ?_)
      case c1 => exact cell_one_new _ _ _
      case c2 => exact iv_one [(X + Y + c) % 10]
      case c3 => unfold maxLen; omega
      case c4 => omega
      case c5 => simp; omega
      intro v' w1 hown1 hg1 hnil
      obtain ⟨hm1, hA1, _⟩ := plusAt_step HA.out hown1 hg1
      have d1 := cell_of_row _ _ 1 _ _ _ hm1
      have e1 := frozen_of_row _ _ 1 _ _ hm1
      simp at d1
      have HA1 := Lib.hid hA1
      obtain ⟨g', cap', rfl⟩ := own_form hown1 (by omega)
      clear hA1 hown1 hg1 hnil hm1
      go_wp2_with fail
      go_roundw
      case rel => exact ⟨k + 1, (X + Y + c) / 10, _, os ++ [(X + Y + c) % 10], by go_num, by go_num, by omega, hst.out, HA1.out⟩
      case measure => simp [intOf]; omega
    · obtain rfl : k = xs.length + ys.length + 1 := by omega
      have tk : decide ((((xs.length + ys.length + 1 : Nat) : Int)) ≤ (xs.length : Int) + (ys.length : Int)) = false := decide_eq_false (by omega)
      have HV := Lib.hid (addInv_end xs ys os c ox oy hinv)
      have HOK := Lib.hid hinv.2.1
      have HDV := Lib.hid (dg_of_own hA.own)
      obtain ⟨rx, ry, hres⟩ := hA.res
      have r0 := cell_of_row _ _ 0 _ _ _ hres
      have r1 := cell_of_row _ _ 1 _ _ _ hres
      have g0 := frozen_of_row _ _ 0 _ _ hres
      have g1 := frozen_of_row _ _ 1 _ _ hres
      simp at r0 r1
      have HRES := Lib.hid hres
      clear hA hinv hres hend hk
      obtain ⟨av, cv, hv, hcv, hgv⟩ := HDV.out
      clear hgv
      subst hv
      have hO1 := ownsRow_setCell_below HA.out.own (a := ⟨w.heap.size + 3, 0, none⟩) (by simp) (.int .i64 s)
      have hout1 := heap_setCell_same wr (w.heap.size + 3) 0 _ _ (.int .i64 s) HA.out.out
      have hcut := Lib.hid (cut_any av cv os _ (dg_of_own hO1) (by omega))
      have HO1 := Lib.hid hO1
      have HOUT1 := Lib.hid hout1
      clear hO1 hout1
      go_wp2_with fail
      refine hcut.out.mono ?_
      rintro e x1 ⟨n, rfl, hn, hvn, rfl⟩
      have HVN := Lib.hid hvn
      have hres1 := (heap_setCell_other wr ⟨w.heap.size + 3, 0, none⟩ (w.heap.size + 2) (.int .i64 s) (by simp)).trans HRES.out
      have hres2 := (heap_setCell_other _ ⟨w.heap.size + 3, 1, none⟩ (w.heap.size + 2) (.slice av n cv) (by simp)).trans hres1
      have hfin := two_set (p := .int .i64 s) (q := .slice av n cv) hres2
      have q0 := cell_of_row _ _ 0 _ _ _ hfin
      have q1 := cell_of_row _ _ 1 _ _ _ hfin
      simp at q0 q1
      have HQ0 := Lib.hid q0
      have HQ1 := Lib.hid q1
      have hO2 := ownsRow_setCell_below (ownsRow_setCell_below (ownsRow_setCell_below HO1.out (a := ⟨w.heap.size + 3, 1, none⟩) (by simp) (.slice av n cv)) (a := ⟨w.heap.size + 2, 0, none⟩) (by simp) (.int .i64 s)) (a := ⟨w.heap.size + 2, 1, none⟩) (by simp) (.slice av n cv)
      have HD2 := Lib.hid ((dg_of_own hO2).take n hn)
      have hBb := (((HA.out.below.setCell (p := ⟨w.heap.size + 3, 0, none⟩) (by simp) (.int .i64 s)).setCell (p := ⟨w.heap.size + 3, 1, none⟩) (by simp) (.slice av n cv)).setCell (p := ⟨w.heap.size + 2, 0, none⟩) (by simp) (.int .i64 s)).setCell (p := ⟨w.heap.size + 2, 1, none⟩) (by simp) (.slice av n cv)
      clear hvn hres1 hres2 hfin q0 q1 hO2
      go_wp2_with fail
      have q0 := HQ0.out
      have q1 := HQ1.out
      refine bodyPost_ret (v := .agg #[.int .i64 s, .slice av n cv]) (by simp [results, Try.results56, go_sem, q0, q1]) rfl ?_
      refine ⟨_, os.take n, rfl, HD2.out, HOK.out.take n, ?_, ?_, hBb⟩
      · rw [List.length_take]; have := HI.out.1; omega
      · rw [HVN.out]; exact HV.out
end Go.Proofs.Ytkokilbnhhmicaa

/- Contract of Plus, the signs unlike. -/
namespace Go.Proofs.Ytkokilbnhhmicaa
open Go.RowKit Go.Proofs.Ytkokilbnhhmicaa.Bo
set_option linter.unusedVariables false

theorem al6 (w : World) (A B C D E F : Obj) :
    ((((((w.alloc A).alloc B).alloc C).alloc D).alloc E).alloc F).heap[w.heap.size]? = some A ∧ ((((((w.alloc A).alloc B).alloc C).alloc D).alloc E).alloc F).heap[w.heap.size + 1]? = some B ∧
    ((((((w.alloc A).alloc B).alloc C).alloc D).alloc E).alloc F).heap[w.heap.size + 2]? = some C ∧ ((((((w.alloc A).alloc B).alloc C).alloc D).alloc E).alloc F).heap[w.heap.size + 3]? = some D ∧
    ((((((w.alloc A).alloc B).alloc C).alloc D).alloc E).alloc F).heap[w.heap.size + 4]? = some E ∧ ((((((w.alloc A).alloc B).alloc C).alloc D).alloc E).alloc F).heap[w.heap.size + 5]? = some F := by
  obtain ⟨h1, h2, h3, h4⟩ := al4 w A B C D
  have e5 : (((((w.alloc A).alloc B).alloc C).alloc D).alloc E).heap[w.heap.size + 4]? = some E := by have := heap_alloc_new ((((w.alloc A).alloc B).alloc C).alloc D) E; simpa using this
  have e6 : ((((((w.alloc A).alloc B).alloc C).alloc D).alloc E).alloc F).heap[w.heap.size + 5]? = some F := by have := heap_alloc_new (((((w.alloc A).alloc B).alloc C).alloc D).alloc E) F; simpa using this
  refine ⟨?_, ?_, ?_, ?_, ?_, e6⟩
  · rw [heap_alloc_old _ _ (by simp <;> omega), heap_alloc_old _ _ (by simp <;> omega)]; exact h1
  · rw [heap_alloc_old _ _ (by simp <;> omega), heap_alloc_old _ _ (by simp <;> omega)]; exact h2
  · rw [heap_alloc_old _ _ (by simp), heap_alloc_old _ _ (by simp)]; exact h3
  · rw [heap_alloc_old _ _ (by simp), heap_alloc_old _ _ (by simp)]; exact h4
  · rw [heap_alloc_old _ _ (by simp)]; exact e5
theorem below6 (w : World) (A B C D E F : Obj) : Below w.heap.size w ((((((w.alloc A).alloc B).alloc C).alloc D).alloc E).alloc F) :=
  ((((((Below.refl _ _).alloc (Nat.le_refl _) _).alloc (by simp) _).alloc (by simp <;> omega) _).alloc (by simp <;> omega) _).alloc (by simp <;> omega) _).alloc (by simp <;> omega) _

theorem diff_a (sa sb : Int) (x y o : Nat) (hs : (sa = 1 ∧ sb = -1) ∨ (sa = -1 ∧ sb = 1)) (hle : y ≤ x) (h : o = x - y) : sa * (x : Int) + sb * (y : Int) = sa * (o : Int) := by
  rcases hs with ⟨rfl, rfl⟩ | ⟨rfl, rfl⟩ <;> omega
theorem diff_b (sa sb : Int) (x y o : Nat) (hs : (sa = 1 ∧ sb = -1) ∨ (sa = -1 ∧ sb = 1)) (hle : x ≤ y) (h : o = y - x) : sa * (x : Int) + sb * (y : Int) = sb * (o : Int) := by
  rcases hs with ⟨rfl, rfl⟩ | ⟨rfl, rfl⟩ <;> omega

set_option maxRecDepth 100000 in
set_option maxHeartbeats 8000000 in
theorem plus_diff (sa sb : Int) (va vb : Value) (xs ys : List Nat) (w : World) (hs : (sa = 1 ∧ sb = -1) ∨ (sa = -1 ∧ sb = 1)) (hx : Dg w va xs) (hy : Dg w vb ys) (ox : Ok xs) (oy : Ok ys) (lx : xs.length ≤ 400) (ly : ys.length ≤ 400) :
    Calls Try.prog 56 #[.agg #[.int .i64 sa, va], .agg #[.int .i64 sb, vb]] w (BigPost (sa * (val xs : Int) + sb * (val ys : Int)) (xs.length + ys.length + 1) w) := by
  have t0 : (sa == 0) = false := beq_eq_false_iff_ne.2 (by omega)
  have t1 : (sb == 0) = false := beq_eq_false_iff_ne.2 (by omega)
  have t2 : (sa == sb) = false := beq_eq_false_iff_ne.2 (by omega)
  have HS := Lib.hid hs
  clear hs
  obtain ⟨i0, hi, hz0, hz1, hz2⟩ := info_parts Try.infoInt
  have HX := Lib.hid hx
  have HY := Lib.hid hy
  have hmore := Lib.hid (fun W (h : Below w.heap.size w W) => more_any _ _ ys xs W (hy.below h) (hx.below h) oy ox (by omega) (by omega))
  obtain ⟨a1, cap1, rfl, hc1, hg1⟩ := hx
  obtain ⟨a2, cap2, rfl, hc2, hg2⟩ := hy
  clear hg1 hg2
  by_cases hlt : val xs < val ys
  · have HLE : Hid (val xs ≤ val ys) := Nat.le_of_lt hlt
    rw [show decide (val xs < val ys) = true from decide_eq_true hlt] at hmore
    clear hlt
    go_enter Try.func56, Try.ntmps56
    go_wp2_with fail
    refine (hmore.out _ (below6 w _ _ _ _ _ _)).mono ?_
    rintro e x1 ⟨rfl, rfl⟩
    go_wp2_with fail
    go_loopw [11, 12] (fun bo i wr => ∃ (k b : Nat) (v : Value) (os : List Nat), i = .int .i64 (k : Int) ∧ bo = .int .i64 (b : Int) ∧ k ≤ ys.length ∧ SubInv ys xs os k b ∧ PlusAt w (w.heap.size + 5) sa sb 0 (.slice a1 xs.length cap1) (.slice a2 ys.length cap2) v os wr ∧
        wr.heap[w.heap.size + 4]? = some (.cells #[.int .i64 sb, .slice a2 ys.length cap2] 68 (0, 0)) ∧ wr.heap[w.heap.size + 5]? = some (.cells #[.int .i64 sa, .slice a1 xs.length cap1] 68 (0, 0))) (fun _ i _ => ys.length - (intOf i).toNat)
    case atStart =>
      obtain ⟨q1, q2, q3, q4, q5, q6⟩ := al6 w (.cells #[.int .i64 sa, .slice a1 xs.length cap1] 68) (.cells #[.int .i64 sb, .slice a2 ys.length cap2] 68) (.cells #[.int .i64 0, .slice none 0 0] 68) (.cells #[.int .i64 0, .slice none 0 0] 68) (.cells #[.int .i64 sb, .slice a2 ys.length cap2] 68) (.cells #[.int .i64 sa, .slice a1 xs.length cap1] 68)
      exact ⟨0, 0, _, [], rfl, rfl, Nat.zero_le _, subInv_start ys xs, ⟨q1, q2, ⟨_, _, q3⟩, q4, World.ownsRow_nil _ _ _ _, by omega, by simp, below6 w _ _ _ _ _ _⟩, q5, q6⟩
    case round =>
      obtain ⟨k, b, v, os, rfl, rfl, hk, hinv, hA, hbx, hby⟩ := hrel
      have HA := Lib.hid hA
      have HI := Lib.hid hinv
      have HBX := Lib.hid hbx
      have HBY := Lib.hid hby
      have x0 := cell_of_row _ _ 0 _ _ _ hbx
      have x1 := cell_of_row _ _ 1 _ _ _ hbx
      have y1 := cell_of_row _ _ 1 _ _ _ hby
      have o0 := cell_of_row _ _ 0 _ _ _ hA.out
      have o1 := cell_of_row _ _ 1 _ _ _ hA.out
      have f0 := frozen_of_row _ _ 0 _ _ hA.out
      have f1 := frozen_of_row _ _ 1 _ _ hA.out
      have hdx := HY.out.below hA.below
      have hdy := Lib.hid (HX.out.below hA.below)
      have hsz := hA.hsize
      have hol : os.length ≤ 401 := by have := hinv.1; omega
      have hb := hinv.2.2.1
      simp at x0 x1 y1 o0 o1
      by_cases hend : k < ys.length
      · obtain ⟨_, _, hgx⟩ := hdx.cellAt
        obtain ⟨g, hga, hgl, hcell⟩ := hgx (by omega)
        have hck := hcell k hend
        have hX10 := oy _ (List.getElem_mem hend)
        have hge : ys.getD k 0 = ys[k] := by rw [List.getD_eq_getElem?_getD, List.getElem?_eq_getElem hend]; rfl
        have hY10 := (ox).getD k
        have cy := Lib.hid (fun n => Calls.quiet_of_same (digit_q _ xs k _ (hdy.out.drewN n) (by omega) (by omega)))
        have HSTEP := Lib.hid (fun d b' hd hb' he => subInv_step ys xs os k b d b' hd hb' hinv he)
        rw [hge] at HSTEP
        subst hga
        generalize ys[k] = D at *
        generalize xs.getD k 0 = E at *
        have tk : decide ((k : Int) < (ys.length : Int)) = true := decide_eq_true (by omega)
        clear hA hinv hk hbx hby hgx hcell hge hdx
        by_cases hneg : D < E + b
        · have tn : decide ((D : Int) - (E : Int) - (b : Int) < 0) = true := decide_eq_true (by omega)
          have HST := Lib.hid (HSTEP.out (D + 10 - E - b) 1 (by omega) (by omega) (by omega))
          have HDD : Hid (Value.int .i64 ((D : Int) - (E : Int) - (b : Int) + 10) = iv (D + 10 - E - b)) := by
            show Value.int _ _ = Value.int _ _
            congr 1; omega
          clear HSTEP
          go_wp2_with fail
          have q1 : IntKind.i64.wrap ((D : Int) - (E : Int)) = (D : Int) - (E : Int) := IntWalk.i64_in _ (by omega)
          have q2 : IntKind.i64.wrap ((D : Int) - (E : Int) - (b : Int)) = (D : Int) - (E : Int) - (b : Int) := IntWalk.i64_in _ (by omega)
          have i1 : (0 : Int) ≤ (k : Int) := by omega
          have i2 : (k : Int) < (ys.length : Int) := by omega
          go_quiet (first | (go_at_call 74; exact cy.out _))
          clear q1 q2
          have hown : Hid ((wr.drewN nq).ownsRow (w.heap.size + 5 + 1) 3 1 v os.length (os.map iv)) := HA.out.own
          go_wp2_with (at_builtin; refine wpList_append_own _ rfl _ _ 66 rfl (w.heap.size + 5 + 1) 3 i0 (.int .i64 0) 1 8 Try.underlying66 hi hz0 hz1 hz2 rfl (by decide) _ _ _ rfl (hown.out.alloc _) ⟨wr.heap.size, 0, none⟩ 1 1 [.int .i64 ((D : Int) - (E : Int) - (b : Int) + 10)] rfl rfl ?c1 ?c2 ?c3 ?c4 ?c5 ?_)
          case c1 => exact cell_one_new _ _ _
          case c2 => intro u hu; rw [List.mem_singleton.1 hu]; rfl
          case c3 => unfold maxLen; omega
          case c4 => omega
          case c5 => simp; omega
          intro v' w1 hown1 hg1 hnil
          rw [HDD.out] at hown1
          obtain ⟨hm1, hA1, hk1⟩ := plusAt_step HA.out hown1 hg1
          have d1 := cell_of_row _ _ 1 _ _ _ hm1
          have e1 := frozen_of_row _ _ 1 _ _ hm1
          simp at d1
          have HA1 := Lib.hid hA1
          have HBX1 := Lib.hid ((hk1 (w.heap.size + 4) (by omega) (by omega)).trans HBX.out)
          have HBY1 := Lib.hid ((hk1 (w.heap.size + 5) (by omega) (by omega)).trans HBY.out)
          obtain ⟨g', cap', rfl⟩ := own_form hown1 (by omega)
          clear hA1 hown1 hg1 hnil hm1 hk1
          go_wp2_with fail
          go_roundw
          case rel => exact ⟨k + 1, 1, _, os ++ [D + 10 - E - b], by go_num, by go_num, by omega, HST.out, HA1.out, HBX1.out, HBY1.out⟩
          case measure => simp [intOf]; omega
        · have tn : decide ((D : Int) - (E : Int) - (b : Int) < 0) = false := decide_eq_false (by omega)
          have HST := Lib.hid (HSTEP.out (D - E - b) 0 (by omega) (by omega) (by omega))
          have HDD : Hid (Value.int .i64 ((D : Int) - (E : Int) - (b : Int)) = iv (D - E - b)) := by
            show Value.int _ _ = Value.int _ _
            congr 1; omega
          clear HSTEP
          go_wp2_with fail
          have q1 : IntKind.i64.wrap ((D : Int) - (E : Int)) = (D : Int) - (E : Int) := IntWalk.i64_in _ (by omega)
          have q2 : IntKind.i64.wrap ((D : Int) - (E : Int) - (b : Int)) = (D : Int) - (E : Int) - (b : Int) := IntWalk.i64_in _ (by omega)
          have i1 : (0 : Int) ≤ (k : Int) := by omega
          have i2 : (k : Int) < (ys.length : Int) := by omega
          go_quiet (first | (go_at_call 74; exact cy.out _))
          clear q1 q2
          have hown : Hid ((wr.drewN nq).ownsRow (w.heap.size + 5 + 1) 3 1 v os.length (os.map iv)) := HA.out.own
          go_wp2_with (at_builtin; refine wpList_append_own _ rfl _ _ 66 rfl (w.heap.size + 5 + 1) 3 i0 (.int .i64 0) 1 8 Try.underlying66 hi hz0 hz1 hz2 rfl (by decide) _ _ _ rfl (hown.out.alloc _) ⟨wr.heap.size, 0, none⟩ 1 1 [.int .i64 ((D : Int) - (E : Int) - (b : Int))] rfl rfl ?e1 ?e2 ?e3 ?e4 ?e5 ?_)
          case e1 => exact cell_one_new _ _ _
          case e2 => intro u hu; rw [List.mem_singleton.1 hu]; rfl
          case e3 => unfold maxLen; omega
          case e4 => omega
          case e5 => simp; omega
          intro v' w1 hown1 hg1 hnil
          rw [HDD.out] at hown1
          obtain ⟨hm1, hA1, hk1⟩ := plusAt_step HA.out hown1 hg1
          have d1 := cell_of_row _ _ 1 _ _ _ hm1
          have e1 := frozen_of_row _ _ 1 _ _ hm1
          simp at d1
          have HA1 := Lib.hid hA1
          have HBX1 := Lib.hid ((hk1 (w.heap.size + 4) (by omega) (by omega)).trans HBX.out)
          have HBY1 := Lib.hid ((hk1 (w.heap.size + 5) (by omega) (by omega)).trans HBY.out)
          obtain ⟨g', cap', rfl⟩ := own_form hown1 (by omega)
          clear hA1 hown1 hg1 hnil hm1 hk1
          go_wp2_with fail
          go_roundw
          case rel => exact ⟨k + 1, 0, _, os ++ [D - E - b], by go_num, by go_num, by omega, HST.out, HA1.out, HBX1.out, HBY1.out⟩
          case measure => simp [intOf]; omega
      · obtain rfl : k = ys.length := by omega
        have tk : decide ((ys.length : Int) < (ys.length : Int)) = false := decide_eq_false (by omega)
        have HV := Lib.hid (subInv_end ys xs os b HLE.out hinv)
        have HOK := Lib.hid hinv.2.1
        obtain ⟨rx, ry, hres⟩ := hA.res
        have r0 := cell_of_row _ _ 0 _ _ _ hres
        have r1 := cell_of_row _ _ 1 _ _ _ hres
        have g0 := frozen_of_row _ _ 0 _ _ hres
        have g1 := frozen_of_row _ _ 1 _ _ hres
        simp at r0 r1
        have HRES := Lib.hid hres
        obtain ⟨av, cv, hv, hcv, hgv⟩ := dg_of_own hA.own
        clear hgv hA hinv hres hend hk hbx hby hdx
        subst hv
        have hO1 := ownsRow_setCell_below HA.out.own (a := ⟨w.heap.size + 3, 0, none⟩) (by simp <;> omega) (.int .i64 sb)
        have hcut := Lib.hid (cut_any av cv os _ (dg_of_own hO1) (by omega))
        have HO1 := Lib.hid hO1
        clear hO1
        go_wp2_with fail
        refine hcut.out.mono ?_
        rintro e x2 ⟨n, rfl, hn, hvn, rfl⟩
        have HVN := Lib.hid hvn
        clear hvn
        by_cases hn0 : n = 0
        · have tz : ((n : Int) == 0) = true := beq_iff_eq.2 (by omega)
          have HN0 := Lib.hid hn0
          clear hn0
          have hO2 := ownsRow_setCell_below (ownsRow_setCell_below (ownsRow_setCell_below (ownsRow_setCell_below HO1.out (a := ⟨w.heap.size + 3, 1, none⟩) (by simp <;> omega) (.slice av n cv)) (a := ⟨w.heap.size + 3, 0, none⟩) (by simp <;> omega) (.int .i64 0)) (a := ⟨w.heap.size + 2, 0, none⟩) (by simp <;> omega) (.int .i64 0)) (a := ⟨w.heap.size + 2, 1, none⟩) (by simp <;> omega) (.slice av n cv)
          have hres1 := (heap_setCell_other wr ⟨w.heap.size + 3, 0, none⟩ (w.heap.size + 2) (.int .i64 sb) (by simp)).trans HRES.out
          have hres2 := (heap_setCell_other _ ⟨w.heap.size + 3, 1, none⟩ (w.heap.size + 2) (.slice av n cv) (by simp)).trans hres1
          have hres3 := (heap_setCell_other _ ⟨w.heap.size + 3, 0, none⟩ (w.heap.size + 2) (.int .i64 0) (by simp)).trans hres2
          have hfin := two_set (p := .int .i64 0) (q := .slice av n cv) hres3
          have q0 := cell_of_row _ _ 0 _ _ _ hfin
          have q1 := cell_of_row _ _ 1 _ _ _ hfin
          simp at q0 q1
          have HQ0 := Lib.hid q0
          have HQ1 := Lib.hid q1
          have HD2 := Lib.hid ((dg_of_own hO2).take n hn)
          have hBb := ((((HA.out.below.setCell (p := ⟨w.heap.size + 3, 0, none⟩) (by simp) (.int .i64 sb)).setCell (p := ⟨w.heap.size + 3, 1, none⟩) (by simp) (.slice av n cv)).setCell (p := ⟨w.heap.size + 3, 0, none⟩) (by simp) (.int .i64 0)).setCell (p := ⟨w.heap.size + 2, 0, none⟩) (by simp) (.int .i64 0)).setCell (p := ⟨w.heap.size + 2, 1, none⟩) (by simp) (.slice av n cv)
          clear hres1 hres2 hres3 hfin q0 q1 hO2
          go_wp2_with fail
          have q0 := HQ0.out
          have q1 := HQ1.out
          refine bodyPost_ret (v := .agg #[.int .i64 0, .slice av n cv]) (by simp [results, Try.results56, go_sem, q0, q1]) rfl ?_
          have hz := diff_b sa sb (val xs) (val ys) (val os) HS.out HLE.out HV.out
          have hv0 : val os = 0 := by rw [← HVN.out, HN0.out]; rfl
          rw [hz, hv0]
          refine ⟨_, rfl, ⟨0, _, os.take n, rfl, Or.inr (Or.inl rfl), HD2.out, HOK.out.take n, ?_, by simp, fun _ => by rw [HVN.out]; exact hv0⟩, hBb⟩
          rw [List.length_take]; have := HI.out.1; omega
        · have tz : ((n : Int) == 0) = false := beq_eq_false_iff_ne.2 (by omega)
          clear hn0
          have hO2 := ownsRow_setCell_below (ownsRow_setCell_below (ownsRow_setCell_below HO1.out (a := ⟨w.heap.size + 3, 1, none⟩) (by simp <;> omega) (.slice av n cv)) (a := ⟨w.heap.size + 2, 0, none⟩) (by simp <;> omega) (.int .i64 sb)) (a := ⟨w.heap.size + 2, 1, none⟩) (by simp <;> omega) (.slice av n cv)
          have hres1 := (heap_setCell_other wr ⟨w.heap.size + 3, 0, none⟩ (w.heap.size + 2) (.int .i64 sb) (by simp)).trans HRES.out
          have hres2 := (heap_setCell_other _ ⟨w.heap.size + 3, 1, none⟩ (w.heap.size + 2) (.slice av n cv) (by simp)).trans hres1
          have hfin := two_set (p := .int .i64 sb) (q := .slice av n cv) hres2
          have q0 := cell_of_row _ _ 0 _ _ _ hfin
          have q1 := cell_of_row _ _ 1 _ _ _ hfin
          simp at q0 q1
          have HQ0 := Lib.hid q0
          have HQ1 := Lib.hid q1
          have HD2 := Lib.hid ((dg_of_own hO2).take n hn)
          have hBb := (((HA.out.below.setCell (p := ⟨w.heap.size + 3, 0, none⟩) (by simp) (.int .i64 sb)).setCell (p := ⟨w.heap.size + 3, 1, none⟩) (by simp) (.slice av n cv)).setCell (p := ⟨w.heap.size + 2, 0, none⟩) (by simp) (.int .i64 sb)).setCell (p := ⟨w.heap.size + 2, 1, none⟩) (by simp) (.slice av n cv)
          clear hres1 hres2 hfin q0 q1 hO2
          go_wp2_with fail
          have q0 := HQ0.out
          have q1 := HQ1.out
          refine bodyPost_ret (v := .agg #[.int .i64 sb, .slice av n cv]) (by simp [results, Try.results56, go_sem, q0, q1]) rfl ?_
          have hz := diff_b sa sb (val xs) (val ys) (val os) HS.out HLE.out HV.out
          rw [hz]
          refine ⟨_, rfl, ⟨sb, _, os.take n, rfl, by have := HS.out; omega, HD2.out, HOK.out.take n, ?_, by rw [HVN.out], fun h => by have := HS.out; omega⟩, hBb⟩
          rw [List.length_take]; have := HI.out.1; omega
  · have HLE : Hid (val ys ≤ val xs) := Nat.le_of_not_lt hlt
    rw [show decide (val xs < val ys) = false from decide_eq_false hlt] at hmore
    clear hlt
    go_enter Try.func56, Try.ntmps56
    go_wp2_with fail
    refine (hmore.out _ (below6 w _ _ _ _ _ _)).mono ?_
    rintro e x1 ⟨rfl, rfl⟩
    go_wp2_with fail
    go_loopw [11, 12] (fun bo i wr => ∃ (k b : Nat) (v : Value) (os : List Nat), i = .int .i64 (k : Int) ∧ bo = .int .i64 (b : Int) ∧ k ≤ xs.length ∧ SubInv xs ys os k b ∧ PlusAt w (w.heap.size + 5) sa sb 0 (.slice a1 xs.length cap1) (.slice a2 ys.length cap2) v os wr ∧
        wr.heap[w.heap.size + 4]? = some (.cells #[.int .i64 sa, .slice a1 xs.length cap1] 68 (0, 0)) ∧ wr.heap[w.heap.size + 5]? = some (.cells #[.int .i64 sb, .slice a2 ys.length cap2] 68 (0, 0))) (fun _ i _ => xs.length - (intOf i).toNat)
    case atStart =>
      obtain ⟨q1, q2, q3, q4, q5, q6⟩ := al6 w (.cells #[.int .i64 sa, .slice a1 xs.length cap1] 68) (.cells #[.int .i64 sb, .slice a2 ys.length cap2] 68) (.cells #[.int .i64 0, .slice none 0 0] 68) (.cells #[.int .i64 0, .slice none 0 0] 68) (.cells #[.int .i64 sa, .slice a1 xs.length cap1] 68) (.cells #[.int .i64 sb, .slice a2 ys.length cap2] 68)
      exact ⟨0, 0, _, [], rfl, rfl, Nat.zero_le _, subInv_start xs ys, ⟨q1, q2, ⟨_, _, q3⟩, q4, World.ownsRow_nil _ _ _ _, by omega, by simp, below6 w _ _ _ _ _ _⟩, q5, q6⟩
    case round =>
      obtain ⟨k, b, v, os, rfl, rfl, hk, hinv, hA, hbx, hby⟩ := hrel
      have HA := Lib.hid hA
      have HI := Lib.hid hinv
      have HBX := Lib.hid hbx
      have HBY := Lib.hid hby
      have x0 := cell_of_row _ _ 0 _ _ _ hbx
      have x1 := cell_of_row _ _ 1 _ _ _ hbx
      have y1 := cell_of_row _ _ 1 _ _ _ hby
      have o0 := cell_of_row _ _ 0 _ _ _ hA.out
      have o1 := cell_of_row _ _ 1 _ _ _ hA.out
      have f0 := frozen_of_row _ _ 0 _ _ hA.out
      have f1 := frozen_of_row _ _ 1 _ _ hA.out
      have hdx := HX.out.below hA.below
      have hdy := Lib.hid (HY.out.below hA.below)
      have hsz := hA.hsize
      have hol : os.length ≤ 401 := by have := hinv.1; omega
      have hb := hinv.2.2.1
      simp at x0 x1 y1 o0 o1
      by_cases hend : k < xs.length
      · obtain ⟨_, _, hgx⟩ := hdx.cellAt
        obtain ⟨g, hga, hgl, hcell⟩ := hgx (by omega)
        have hck := hcell k hend
        have hX10 := ox _ (List.getElem_mem hend)
        have hge : xs.getD k 0 = xs[k] := by rw [List.getD_eq_getElem?_getD, List.getElem?_eq_getElem hend]; rfl
        have hY10 := (oy).getD k
        have cy := Lib.hid (fun n => Calls.quiet_of_same (digit_q _ ys k _ (hdy.out.drewN n) (by omega) (by omega)))
        have HSTEP := Lib.hid (fun d b' hd hb' he => subInv_step xs ys os k b d b' hd hb' hinv he)
        rw [hge] at HSTEP
        subst hga
        generalize xs[k] = D at *
        generalize ys.getD k 0 = E at *
        have tk : decide ((k : Int) < (xs.length : Int)) = true := decide_eq_true (by omega)
        clear hA hinv hk hbx hby hgx hcell hge hdx
        by_cases hneg : D < E + b
        · have tn : decide ((D : Int) - (E : Int) - (b : Int) < 0) = true := decide_eq_true (by omega)
          have HST := Lib.hid (HSTEP.out (D + 10 - E - b) 1 (by omega) (by omega) (by omega))
          have HDD : Hid (Value.int .i64 ((D : Int) - (E : Int) - (b : Int) + 10) = iv (D + 10 - E - b)) := by
            show Value.int _ _ = Value.int _ _
            congr 1; omega
          clear HSTEP
          go_wp2_with fail
          have q1 : IntKind.i64.wrap ((D : Int) - (E : Int)) = (D : Int) - (E : Int) := IntWalk.i64_in _ (by omega)
          have q2 : IntKind.i64.wrap ((D : Int) - (E : Int) - (b : Int)) = (D : Int) - (E : Int) - (b : Int) := IntWalk.i64_in _ (by omega)
          have i1 : (0 : Int) ≤ (k : Int) := by omega
          have i2 : (k : Int) < (xs.length : Int) := by omega
          go_quiet (first | (go_at_call 74; exact cy.out _))
          clear q1 q2
          have hown : Hid ((wr.drewN nq).ownsRow (w.heap.size + 5 + 1) 3 1 v os.length (os.map iv)) := HA.out.own
          go_wp2_with (at_builtin; refine wpList_append_own _ rfl _ _ 66 rfl (w.heap.size + 5 + 1) 3 i0 (.int .i64 0) 1 8 Try.underlying66 hi hz0 hz1 hz2 rfl (by decide) _ _ _ rfl (hown.out.alloc _) ⟨wr.heap.size, 0, none⟩ 1 1 [.int .i64 ((D : Int) - (E : Int) - (b : Int) + 10)] rfl rfl ?c1 ?c2 ?c3 ?c4 ?c5 ?_)
          case c1 => exact cell_one_new _ _ _
          case c2 => intro u hu; rw [List.mem_singleton.1 hu]; rfl
          case c3 => unfold maxLen; omega
          case c4 => omega
          case c5 => simp; omega
          intro v' w1 hown1 hg1 hnil
          rw [HDD.out] at hown1
          obtain ⟨hm1, hA1, hk1⟩ := plusAt_step HA.out hown1 hg1
          have d1 := cell_of_row _ _ 1 _ _ _ hm1
          have e1 := frozen_of_row _ _ 1 _ _ hm1
          simp at d1
          have HA1 := Lib.hid hA1
          have HBX1 := Lib.hid ((hk1 (w.heap.size + 4) (by omega) (by omega)).trans HBX.out)
          have HBY1 := Lib.hid ((hk1 (w.heap.size + 5) (by omega) (by omega)).trans HBY.out)
          obtain ⟨g', cap', rfl⟩ := own_form hown1 (by omega)
          clear hA1 hown1 hg1 hnil hm1 hk1
          go_wp2_with fail
          go_roundw
          case rel => exact ⟨k + 1, 1, _, os ++ [D + 10 - E - b], by go_num, by go_num, by omega, HST.out, HA1.out, HBX1.out, HBY1.out⟩
          case measure => simp [intOf]; omega
        · have tn : decide ((D : Int) - (E : Int) - (b : Int) < 0) = false := decide_eq_false (by omega)
          have HST := Lib.hid (HSTEP.out (D - E - b) 0 (by omega) (by omega) (by omega))
          have HDD : Hid (Value.int .i64 ((D : Int) - (E : Int) - (b : Int)) = iv (D - E - b)) := by
            show Value.int _ _ = Value.int _ _
            congr 1; omega
          clear HSTEP
          go_wp2_with fail
          have q1 : IntKind.i64.wrap ((D : Int) - (E : Int)) = (D : Int) - (E : Int) := IntWalk.i64_in _ (by omega)
          have q2 : IntKind.i64.wrap ((D : Int) - (E : Int) - (b : Int)) = (D : Int) - (E : Int) - (b : Int) := IntWalk.i64_in _ (by omega)
          have i1 : (0 : Int) ≤ (k : Int) := by omega
          have i2 : (k : Int) < (xs.length : Int) := by omega
          go_quiet (first | (go_at_call 74; exact cy.out _))
          clear q1 q2
          have hown : Hid ((wr.drewN nq).ownsRow (w.heap.size + 5 + 1) 3 1 v os.length (os.map iv)) := HA.out.own
          go_wp2_with (at_builtin; refine wpList_append_own _ rfl _ _ 66 rfl (w.heap.size + 5 + 1) 3 i0 (.int .i64 0) 1 8 Try.underlying66 hi hz0 hz1 hz2 rfl (by decide) _ _ _ rfl (hown.out.alloc _) ⟨wr.heap.size, 0, none⟩ 1 1 [.int .i64 ((D : Int) - (E : Int) - (b : Int))] rfl rfl ?e1 ?e2 ?e3 ?e4 ?e5 ?_)
          case e1 => exact cell_one_new _ _ _
          case e2 => intro u hu; rw [List.mem_singleton.1 hu]; rfl
          case e3 => unfold maxLen; omega
          case e4 => omega
          case e5 => simp; omega
          intro v' w1 hown1 hg1 hnil
          rw [HDD.out] at hown1
          obtain ⟨hm1, hA1, hk1⟩ := plusAt_step HA.out hown1 hg1
          have d1 := cell_of_row _ _ 1 _ _ _ hm1
          have e1 := frozen_of_row _ _ 1 _ _ hm1
          simp at d1
          have HA1 := Lib.hid hA1
          have HBX1 := Lib.hid ((hk1 (w.heap.size + 4) (by omega) (by omega)).trans HBX.out)
          have HBY1 := Lib.hid ((hk1 (w.heap.size + 5) (by omega) (by omega)).trans HBY.out)
          obtain ⟨g', cap', rfl⟩ := own_form hown1 (by omega)
          clear hA1 hown1 hg1 hnil hm1 hk1
          go_wp2_with fail
          go_roundw
          case rel => exact ⟨k + 1, 0, _, os ++ [D - E - b], by go_num, by go_num, by omega, HST.out, HA1.out, HBX1.out, HBY1.out⟩
          case measure => simp [intOf]; omega
      · obtain rfl : k = xs.length := by omega
        have tk : decide ((xs.length : Int) < (xs.length : Int)) = false := decide_eq_false (by omega)
        have HV := Lib.hid (subInv_end xs ys os b HLE.out hinv)
        have HOK := Lib.hid hinv.2.1
        obtain ⟨rx, ry, hres⟩ := hA.res
        have r0 := cell_of_row _ _ 0 _ _ _ hres
        have r1 := cell_of_row _ _ 1 _ _ _ hres
        have g0 := frozen_of_row _ _ 0 _ _ hres
        have g1 := frozen_of_row _ _ 1 _ _ hres
        simp at r0 r1
        have HRES := Lib.hid hres
        obtain ⟨av, cv, hv, hcv, hgv⟩ := dg_of_own hA.own
        clear hgv hA hinv hres hend hk hbx hby hdx
        subst hv
        have hO1 := ownsRow_setCell_below HA.out.own (a := ⟨w.heap.size + 3, 0, none⟩) (by simp <;> omega) (.int .i64 sa)
        have hcut := Lib.hid (cut_any av cv os _ (dg_of_own hO1) (by omega))
        have HO1 := Lib.hid hO1
        clear hO1
        go_wp2_with fail
        refine hcut.out.mono ?_
        rintro e x2 ⟨n, rfl, hn, hvn, rfl⟩
        have HVN := Lib.hid hvn
        clear hvn
        by_cases hn0 : n = 0
        · have tz : ((n : Int) == 0) = true := beq_iff_eq.2 (by omega)
          have HN0 := Lib.hid hn0
          clear hn0
          have hO2 := ownsRow_setCell_below (ownsRow_setCell_below (ownsRow_setCell_below (ownsRow_setCell_below HO1.out (a := ⟨w.heap.size + 3, 1, none⟩) (by simp <;> omega) (.slice av n cv)) (a := ⟨w.heap.size + 3, 0, none⟩) (by simp <;> omega) (.int .i64 0)) (a := ⟨w.heap.size + 2, 0, none⟩) (by simp <;> omega) (.int .i64 0)) (a := ⟨w.heap.size + 2, 1, none⟩) (by simp <;> omega) (.slice av n cv)
          have hres1 := (heap_setCell_other wr ⟨w.heap.size + 3, 0, none⟩ (w.heap.size + 2) (.int .i64 sa) (by simp)).trans HRES.out
          have hres2 := (heap_setCell_other _ ⟨w.heap.size + 3, 1, none⟩ (w.heap.size + 2) (.slice av n cv) (by simp)).trans hres1
          have hres3 := (heap_setCell_other _ ⟨w.heap.size + 3, 0, none⟩ (w.heap.size + 2) (.int .i64 0) (by simp)).trans hres2
          have hfin := two_set (p := .int .i64 0) (q := .slice av n cv) hres3
          have q0 := cell_of_row _ _ 0 _ _ _ hfin
          have q1 := cell_of_row _ _ 1 _ _ _ hfin
          simp at q0 q1
          have HQ0 := Lib.hid q0
          have HQ1 := Lib.hid q1
          have HD2 := Lib.hid ((dg_of_own hO2).take n hn)
          have hBb := ((((HA.out.below.setCell (p := ⟨w.heap.size + 3, 0, none⟩) (by simp) (.int .i64 sa)).setCell (p := ⟨w.heap.size + 3, 1, none⟩) (by simp) (.slice av n cv)).setCell (p := ⟨w.heap.size + 3, 0, none⟩) (by simp) (.int .i64 0)).setCell (p := ⟨w.heap.size + 2, 0, none⟩) (by simp) (.int .i64 0)).setCell (p := ⟨w.heap.size + 2, 1, none⟩) (by simp) (.slice av n cv)
          clear hres1 hres2 hres3 hfin q0 q1 hO2
          go_wp2_with fail
          have q0 := HQ0.out
          have q1 := HQ1.out
          refine bodyPost_ret (v := .agg #[.int .i64 0, .slice av n cv]) (by simp [results, Try.results56, go_sem, q0, q1]) rfl ?_
          have hz := diff_a sa sb (val xs) (val ys) (val os) HS.out HLE.out HV.out
          have hv0 : val os = 0 := by rw [← HVN.out, HN0.out]; rfl
          rw [hz, hv0]
          refine ⟨_, rfl, ⟨0, _, os.take n, rfl, Or.inr (Or.inl rfl), HD2.out, HOK.out.take n, ?_, by simp, fun _ => by rw [HVN.out]; exact hv0⟩, hBb⟩
          rw [List.length_take]; have := HI.out.1; omega
        · have tz : ((n : Int) == 0) = false := beq_eq_false_iff_ne.2 (by omega)
          clear hn0
          have hO2 := ownsRow_setCell_below (ownsRow_setCell_below (ownsRow_setCell_below HO1.out (a := ⟨w.heap.size + 3, 1, none⟩) (by simp <;> omega) (.slice av n cv)) (a := ⟨w.heap.size + 2, 0, none⟩) (by simp <;> omega) (.int .i64 sa)) (a := ⟨w.heap.size + 2, 1, none⟩) (by simp <;> omega) (.slice av n cv)
          have hres1 := (heap_setCell_other wr ⟨w.heap.size + 3, 0, none⟩ (w.heap.size + 2) (.int .i64 sa) (by simp)).trans HRES.out
          have hres2 := (heap_setCell_other _ ⟨w.heap.size + 3, 1, none⟩ (w.heap.size + 2) (.slice av n cv) (by simp)).trans hres1
          have hfin := two_set (p := .int .i64 sa) (q := .slice av n cv) hres2
          have q0 := cell_of_row _ _ 0 _ _ _ hfin
          have q1 := cell_of_row _ _ 1 _ _ _ hfin
          simp at q0 q1
          have HQ0 := Lib.hid q0
          have HQ1 := Lib.hid q1
          have HD2 := Lib.hid ((dg_of_own hO2).take n hn)
          have hBb := (((HA.out.below.setCell (p := ⟨w.heap.size + 3, 0, none⟩) (by simp) (.int .i64 sa)).setCell (p := ⟨w.heap.size + 3, 1, none⟩) (by simp) (.slice av n cv)).setCell (p := ⟨w.heap.size + 2, 0, none⟩) (by simp) (.int .i64 sa)).setCell (p := ⟨w.heap.size + 2, 1, none⟩) (by simp) (.slice av n cv)
          clear hres1 hres2 hfin q0 q1 hO2
          go_wp2_with fail
          have q0 := HQ0.out
          have q1 := HQ1.out
          refine bodyPost_ret (v := .agg #[.int .i64 sa, .slice av n cv]) (by simp [results, Try.results56, go_sem, q0, q1]) rfl ?_
          have hz := diff_a sa sb (val xs) (val ys) (val os) HS.out HLE.out HV.out
          rw [hz]
          refine ⟨_, rfl, ⟨sa, _, os.take n, rfl, by have := HS.out; omega, HD2.out, HOK.out.take n, ?_, by rw [HVN.out], fun h => by have := HS.out; omega⟩, hBb⟩
          rw [List.length_take]; have := HI.out.1; omega

theorem slice_of_dg {w : World} {v : Value} {xs : List Nat} (h : Dg w v xs) : ∃ a n c, v = .slice a n c := by
  obtain ⟨a, c, h, _⟩ := h
  exact ⟨a, _, c, h⟩
theorem plus_any (V U : Value) (x y : Int) (L M : Nat) (w : World) (hV : BigAt w V x L) (hU : BigAt w U y M) (hL : L ≤ 400) (hM : M ≤ 400) :
    Calls Try.prog 56 #[V, U] w (BigPost (x + y) (L + M + 1) w) := by
  obtain ⟨sa, va, xs, rfl, hsa, hdx, ox, lx, rfl, hza⟩ := hV
  obtain ⟨sb, vb, ys, rfl, hsb, hdy, oy, ly, rfl, hzb⟩ := hU
  by_cases h1 : sa = 0
  · subst h1
    refine (plus_zero1 sb va vb w (slice_of_dg hdy) (slice_of_dg hdx)).mono ?_
    rintro e w' ⟨rfl, hB⟩
    exact ⟨_, rfl, ⟨sb, vb, ys, rfl, hsb, hdy.below hB, oy, by omega, by simp, hzb⟩, hB⟩
  · by_cases h2 : sb = 0
    · subst h2
      refine (plus_zero2 sa vb va w h1 (slice_of_dg hdx) (slice_of_dg hdy)).mono ?_
      rintro e w' ⟨rfl, hB⟩
      exact ⟨_, rfl, ⟨sa, va, xs, rfl, hsa, hdx.below hB, ox, by omega, by simp, hza⟩, hB⟩
    · by_cases h3 : sa = sb
      · subst h3
        refine (plus_same sa va vb xs ys w (by omega) hdx hdy ox oy (by omega) (by omega)).mono ?_
        rintro e w' ⟨v, zs, rfl, hd, ok, hl, hv, hB⟩
        exact ⟨_, rfl, ⟨sa, v, zs, rfl, hsa, hd, ok, by omega, by rw [hv, ← Int.mul_add]; rfl, fun h => absurd h h1⟩, hB⟩
      · refine (plus_diff sa sb va vb xs ys w (by omega) hdx hdy ox oy (by omega) (by omega)).mono ?_
        rintro e w' ⟨V, rfl, ⟨s, v, zs, h4, h5, h6, h7, h8, h9⟩, hB⟩
        exact ⟨V, rfl, ⟨s, v, zs, h4, h5, h6, h7, by omega, h9⟩, hB⟩
theorem end_big (V : Value) (z : Int) (L : Nat) (w : World) (h : BigAt w V z L) (hL : L ≤ 100000) :
    Calls Try.prog 80 #[V] w fun e w' => e = .returned (.int .i64 (clamp z)) ∧ Below w.heap.size w w' := by
  obtain ⟨s, v, xs, rfl, hs, hd, ok, hl, rfl, h0⟩ := h
  exact end_any s v xs w hs hd ok (by omega)
theorem is_big (V : Value) (z : Int) (L : Nat) (w : World) (h : BigAt w V z L) (hL : L ≤ 100000) :
    Calls Try.prog 79 #[V] w fun e w' => e = .returned (.bool (decide (clamp z = z))) ∧ Below w.heap.size w w' := by
  obtain ⟨s, v, xs, rfl, hs, hd, ok, hl, rfl, h0⟩ := h
  have h := is_any s v xs w hs hd ok (by omega)
  rw [show (!decide (lim s < val xs)) = decide (clamp (s * (val xs : Int)) = s * (val xs : Int)) from ?_] at h
  · exact h
  · have hc := clamp_sign s (val xs) hs
    rw [hc]
    by_cases hb : lim s < val xs
    · rw [if_pos hb, decide_eq_true hb]
      symm
      rw [Bool.not_true]
      refine decide_eq_false ?_
      rcases hs with rfl | rfl | rfl
      · omega
      · have := h0 rfl; omega
      · omega
    · rw [if_neg hb, decide_eq_false hb]; simp
end Go.Proofs.Ytkokilbnhhmicaa
