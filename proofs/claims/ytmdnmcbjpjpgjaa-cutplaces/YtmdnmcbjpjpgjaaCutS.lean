/- Contract of cut.Shift. -/
import Derived.Test.YtmdnmcbjpjpgjaaCutAl
import Derived.Test.YtmdnmcbjpjpgjaaSatA
import Derived.Test.YtmdnmcbjpjpgjaaCutOrderW
namespace Go.Proofs.Ytmdnmcbjpjpgjaa
open Go.RowKit Go.Sort Go.Proofs.Ytmdnmcbjpjpgjaa.Bo
set_option linter.unusedVariables false

theorem ret_cb {x y x' y' : Int} {b b' : Bool} (h1 : x = x') (h2 : y = y') (h3 : b = b') : Ending.returned (.tuple #[.agg #[.int .i64 x, .int .i64 y], .bool b]) = .returned (.tuple #[.agg #[.int .i64 x', .int .i64 y'], .bool b']) := by rw [h1, h2, h3]
theorem add_b (a b : Int) (ha : I64 a) (hb : I64 b) (w : World) : Calls Try.prog 42 #[.int .i64 a, .int .i64 b] w fun e w' => e = .returned (.int .i64 (clamp (a + b))) ∧ w = w' := add_any a b w ha hb
theorem sub_b (a b v : Int) (ha : I64 a) (hb : I64 b) (h : clamp (a - b) = v) (w : World) : Calls Try.prog 43 #[.int .i64 a, .int .i64 b] w fun e w' => e = .returned (.int .i64 v) ∧ Below w.heap.size w w' := by
  subst h
  exact (sub_any a b w ha hb).mono fun _ _ h => ⟨h.1, by rw [← h.2]; exact Below.refl _ _⟩

set_option maxRecDepth 100000 in
set_option maxHeartbeats 1000000 in
theorem shift_any (s a d : Int) (w : World) (ha : I64 a) (hd : I64 d) :
    Calls Try.prog 30 #[.agg #[.int .i64 s, .int .i64 a], .int .i64 d] w fun e w' => e = .returned (.tuple #[.agg #[.int .i64 (sd (shk (key s a) d)), .int .i64 (pa (shk (key s a) d))], .bool (shb (key s a) d)]) ∧ Below w.heap.size w w' := by
  have mx := mixed
  have eqc := eql_cut
  have hk := key_ky s a ha
  have HC := Lib.hid (fun W => canon_b s a ha W)
  have hT0 : Two w.heap.size s a 0 0 ((w.alloc (.cells #[.int .i64 s, .int .i64 a] 23)).alloc (.cells #[.int .i64 0, .int .i64 0] 23)) := ⟨heap_alloc2_old _ _ _, heap_alloc2_new _ _ _⟩
  have hL : Below w.heap.size w ((w.alloc (.cells #[.int .i64 s, .int .i64 a] 23)).alloc (.cells #[.int .i64 0, .int .i64 0] 23)) := ((Below.refl _ _).alloc (Nat.le_refl _) _).alloc (by simp) _
  have HT := Lib.hid hT0
  clear hT0
  generalize key s a = k at *
  clear ha
  rcases ky_cases k hk with ⟨hk1, h1, h2⟩ | ⟨hk1, h1, h2⟩ | ⟨g1, g2, h1, h2⟩
  · rw [h1, h2] at HC
    have HE := Lib.hid (sh_end k d (.inl hk1))
    have HF : Hid (sd k = (-1) ∧ pa k = 0) := ⟨h1, h2⟩
    clear h1 h2 hk hk1
    go_enter Try.func30, Try.ntmps30
    go_wp2_with fail
    refine (HC.out _).mono ?_
    rintro e w1 ⟨rfl, hB1⟩
    have hT1 := HT.out.below hB1
    have hT2 := hT1.put0 (-1) 0
    have hL1 := ((bt hL hB1).setCell (p := ⟨w.heap.size, 0, none⟩) (by simp) (.int .i64 (-1))).setCell (p := ⟨w.heap.size, 1, none⟩) (by simp) (.int .i64 0)
    obtain ⟨c1, c2, c3, c4, c5, c6, c7, c8⟩ := hT1.cells
    have HT2 := Lib.hid hT2
    clear hT1 hT2 hB1
    go_wp2_with fail
    generalize (w1.setCell ⟨w.heap.size, 0, none⟩ (.int .i64 (-1))).setCell ⟨w.heap.size, 1, none⟩ (.int .i64 0) = X at *
    clear c1 c2 c3 c4 c5 c6 c7 c8
    obtain ⟨p1, p2⟩ := cut_regrown HT2.out.1
    refine wp_region_quiet_below (by assumption) (by kernel_rfl) ?_
    repeat (go_big_quiet_step (first | (go_at_call 21; exact Calls.regrown_of (first_b _)) | (go_at_call 20; exact Calls.regrown_of (last_b _))))
    refine wpQuiet_nil ?_
    intro _ hw'
    obtain ⟨⟨nq, osq⟩, hw''⟩ := hw'
    subst hw''
    have hB := below_regrown X nq osq
    have HT3 := Lib.hid (HT2.out.below hB)
    have hL2 := bt hL1 hB
    clear p1 p2 hB HT2 hL1
    show Exit.then _ _ Exit.normal _ (grow (redrawn X nq) osq)
    generalize grow (redrawn X nq) osq = Y at *
    have HT2 := HT3
    have hL1 := hL2
    clear HT3 hL2
    obtain ⟨c1, c2, c3, c4, c5, c6, c7, c8⟩ := HT2.out.cells
    obtain ⟨_, _, d3, d4, _, _, _, _⟩ := (HT2.out.put1 (-1) 0).cells
    have hL9 := (hL1.setCell (p := ⟨w.heap.size + 1, 0, none⟩) (by simp) (.int .i64 (-1))).setCell (p := ⟨w.heap.size + 1, 1, none⟩) (by simp) (.int .i64 0)
    go_wp2_with fail
    refine bodyPost_ret (v := .tuple #[.agg #[.int .i64 (-1), .int .i64 0], .bool true]) (by simp [results, Try.results30, go_sem, d3, d4]) rfl ?_
    exact ⟨ret_cb (by rw [HE.out.1]; exact HF.out.1.symm) (by rw [HE.out.1]; exact HF.out.2.symm) HE.out.2.symm, hL9⟩
  · rw [h1, h2] at HC
    have HE := Lib.hid (sh_end k d (.inr hk1))
    have HF : Hid (sd k = 1 ∧ pa k = 0) := ⟨h1, h2⟩
    clear h1 h2 hk hk1
    go_enter Try.func30, Try.ntmps30
    go_wp2_with fail
    refine (HC.out _).mono ?_
    rintro e w1 ⟨rfl, hB1⟩
    have hT1 := HT.out.below hB1
    have hT2 := hT1.put0 1 0
    have hL1 := ((bt hL hB1).setCell (p := ⟨w.heap.size, 0, none⟩) (by simp) (.int .i64 1)).setCell (p := ⟨w.heap.size, 1, none⟩) (by simp) (.int .i64 0)
    obtain ⟨c1, c2, c3, c4, c5, c6, c7, c8⟩ := hT1.cells
    have HT2 := Lib.hid hT2
    clear hT1 hT2 hB1
    go_wp2_with fail
    generalize (w1.setCell ⟨w.heap.size, 0, none⟩ (.int .i64 1)).setCell ⟨w.heap.size, 1, none⟩ (.int .i64 0) = X at *
    clear c1 c2 c3 c4 c5 c6 c7 c8
    obtain ⟨p1, p2⟩ := cut_regrown HT2.out.1
    refine wp_region_quiet_below (by assumption) (by kernel_rfl) ?_
    repeat (go_big_quiet_step (first | (go_at_call 21; exact Calls.regrown_of (first_b _)) | (go_at_call 20; exact Calls.regrown_of (last_b _))))
    refine wpQuiet_nil ?_
    intro _ hw'
    obtain ⟨⟨nq, osq⟩, hw''⟩ := hw'
    subst hw''
    have hB := below_regrown X nq osq
    have HT3 := Lib.hid (HT2.out.below hB)
    have hL2 := bt hL1 hB
    clear p1 p2 hB HT2 hL1
    show Exit.then _ _ Exit.normal _ (grow (redrawn X nq) osq)
    generalize grow (redrawn X nq) osq = Y at *
    have HT2 := HT3
    have hL1 := hL2
    clear HT3 hL2
    obtain ⟨c1, c2, c3, c4, c5, c6, c7, c8⟩ := HT2.out.cells
    obtain ⟨_, _, d3, d4, _, _, _, _⟩ := (HT2.out.put1 1 0).cells
    have hL9 := (hL1.setCell (p := ⟨w.heap.size + 1, 0, none⟩) (by simp) (.int .i64 1)).setCell (p := ⟨w.heap.size + 1, 1, none⟩) (by simp) (.int .i64 0)
    go_wp2_with fail
    refine bodyPost_ret (v := .tuple #[.agg #[.int .i64 1, .int .i64 0], .bool true]) (by simp [results, Try.results30, go_sem, d3, d4]) rfl ?_
    exact ⟨ret_cb (by rw [HE.out.1]; exact HF.out.1.symm) (by rw [HE.out.1]; exact HF.out.2.symm) HE.out.2.symm, hL9⟩
  · have hi : I64 k := by unfold I64; omega
    rw [h1, h2] at HC
    have HA := Lib.hid (fun W => add_b k d hi hd W)
    have hci := clamp_i64 (k + d)
    have hsh := short_iff k d hi hd
    obtain ⟨v, hv⟩ : ∃ v, clamp (clamp (k + d) - d) = v := ⟨_, rfl⟩
    have HS := Lib.hid (fun W => sub_b (clamp (k + d)) d v hci hd hv W)
    rw [hv] at hsh
    clear hv
    have HSH := Lib.hid hsh
    have HCL : Hid (∀ h : I64 (k + d), clamp (k + d) = k + d) := fun h => clamp_in _ h
    have HCI := Lib.hid hci
    have HD := Lib.hid hd
    clear hsh hci hd h1 h2 hk
    generalize hX : clamp (k + d) = T at *
    have HX := Lib.hid hX
    clear hX
    by_cases hin : -9223372036854775808 < k + d ∧ k + d < 9223372036854775808
    · have hI : I64 (k + d) := by unfold I64; omega
      have HE := Lib.hid (sh_in k d g1 g2 hin)
      obtain rfl : T = k + d := HCL.out hI
      have t1 : (v != k) = false := bne_eq_false_iff_eq.2 (HSH.out.2 hI)
      have t2 : (k + d == -9223372036854775808) = false := beq_eq_false_iff_ne.2 (by omega)
      have t3 : -9223372036854775808 < k + d := hin.1
      have t4 : k + d < 9223372036854775808 := hin.2
      clear hin hI HSH HCL HX
      go_enter Try.func30, Try.ntmps30
      go_wp2_with fail
      refine (HC.out _).mono ?_
      rintro e w1 ⟨rfl, hB1⟩
      have hT1 := HT.out.below hB1
      have hT2 := hT1.put0 0 k
      have hL1 := ((bt hL hB1).setCell (p := ⟨w.heap.size, 0, none⟩) (by simp) (.int .i64 0)).setCell (p := ⟨w.heap.size, 1, none⟩) (by simp) (.int .i64 k)
      obtain ⟨c1, c2, c3, c4, c5, c6, c7, c8⟩ := hT1.cells
      have HT2 := Lib.hid hT2
      clear hT1 hT2 hB1
      go_wp2_with fail
      generalize (w1.setCell ⟨w.heap.size, 0, none⟩ (.int .i64 0)).setCell ⟨w.heap.size, 1, none⟩ (.int .i64 k) = X at *
      clear c1 c2 c3 c4 c5 c6 c7 c8
      obtain ⟨p1, p2⟩ := cut_regrown HT2.out.1
      refine wp_region_quiet_below (by assumption) (by kernel_rfl) ?_
      repeat (go_big_quiet_step (first | (go_at_call 21; exact Calls.regrown_of (first_b _)) | (go_at_call 20; exact Calls.regrown_of (last_b _))))
      refine wpQuiet_nil ?_
      intro _ hw'
      obtain ⟨⟨nq, osq⟩, hw''⟩ := hw'
      subst hw''
      have hB := below_regrown X nq osq
      have HT3 := Lib.hid (HT2.out.below hB)
      have hL2 := bt hL1 hB
      clear p1 p2 hB HT2 hL1
      show Exit.then _ _ Exit.normal _ (grow (redrawn X nq) osq)
      generalize grow (redrawn X nq) osq = Y at *
      have HT2 := HT3
      have hL1 := hL2
      clear HT3 hL2
      obtain ⟨c1, c2, c3, c4, c5, c6, c7, c8⟩ := HT2.out.cells
      go_wp2_with fail
      refine (HA.out _).mono ?_
      rintro e w5 ⟨rfl, rfl⟩
      go_wp2_with fail
      clear c1 c2 c3 c4 c5 c6 c7 c8
      obtain ⟨p1, p2⟩ := cut_regrown HT2.out.1
      refine wp_region_quiet_below (by assumption) (by kernel_rfl) ?_
      repeat (go_big_quiet_step (first | (go_at_call 43; exact Calls.regrown_of (HS.out _))))
      refine wpQuiet_nil ?_
      intro _ hw'
      obtain ⟨⟨nq, osq⟩, hw''⟩ := hw'
      subst hw''
      have hB := below_regrown Y nq osq
      have HT3 := Lib.hid (HT2.out.below hB)
      have hL2 := bt hL1 hB
      clear p1 p2 hB HT2 hL1
      show Exit.then _ _ Exit.normal _ (grow (redrawn Y nq) osq)
      generalize grow (redrawn Y nq) osq = Z at *
      have HT2 := HT3
      have hL1 := hL2
      clear HT3 hL2
      obtain ⟨c1, c2, c3, c4, c5, c6, c7, c8⟩ := HT2.out.cells
      obtain ⟨_, _, d3, d4, _, _, _, _⟩ := (HT2.out.put1 0 (k + d)).cells
      have hL9 := (hL1.setCell (p := ⟨w.heap.size + 1, 0, none⟩) (by simp) (.int .i64 0)).setCell (p := ⟨w.heap.size + 1, 1, none⟩) (by simp) (.int .i64 (k + d))
      go_wp2_with fail
      refine bodyPost_ret (v := .tuple #[.agg #[.int .i64 0, .int .i64 (k + d)], .bool true]) (by simp [results, Try.results30, go_sem, d3, d4]) rfl ?_
      exact ⟨ret_cb (by rw [HE.out.1, sd_mid _ (by omega) (by omega)]) (by rw [HE.out.1, pa_mid _ (by omega) (by omega)]) HE.out.2.symm, hL9⟩
    · have HE := Lib.hid (sh_out k d g1 g2 hin)
      have HZ : Hid (0 = sd (shk k d) ∧ 0 = pa (shk k d)) := by rw [HE.out.1]; exact ⟨(sd_mid 0 (by decide) (by decide)).symm, (pa_mid 0 (by decide) (by decide)).symm⟩
      by_cases hI : I64 (k + d)
      · have t1 : (v != k) = false := bne_eq_false_iff_eq.2 (HSH.out.2 hI)
        have t2 : (T == -9223372036854775808) = true := beq_iff_eq.2 (by rw [HCL.out hI]; unfold I64 at hI; omega)
        clear hin hI HSH HCL HX
        go_enter Try.func30, Try.ntmps30
        go_wp2_with fail
        refine (HC.out _).mono ?_
        rintro e w1 ⟨rfl, hB1⟩
        have hT1 := HT.out.below hB1
        have hT2 := hT1.put0 0 k
        have hL1 := ((bt hL hB1).setCell (p := ⟨w.heap.size, 0, none⟩) (by simp) (.int .i64 0)).setCell (p := ⟨w.heap.size, 1, none⟩) (by simp) (.int .i64 k)
        obtain ⟨c1, c2, c3, c4, c5, c6, c7, c8⟩ := hT1.cells
        have HT2 := Lib.hid hT2
        clear hT1 hT2 hB1
        go_wp2_with fail
        generalize (w1.setCell ⟨w.heap.size, 0, none⟩ (.int .i64 0)).setCell ⟨w.heap.size, 1, none⟩ (.int .i64 k) = X at *
        clear c1 c2 c3 c4 c5 c6 c7 c8
        obtain ⟨p1, p2⟩ := cut_regrown HT2.out.1
        refine wp_region_quiet_below (by assumption) (by kernel_rfl) ?_
        repeat (go_big_quiet_step (first | (go_at_call 21; exact Calls.regrown_of (first_b _)) | (go_at_call 20; exact Calls.regrown_of (last_b _))))
        refine wpQuiet_nil ?_
        intro _ hw'
        obtain ⟨⟨nq, osq⟩, hw''⟩ := hw'
        subst hw''
        have hB := below_regrown X nq osq
        have HT3 := Lib.hid (HT2.out.below hB)
        have hL2 := bt hL1 hB
        clear p1 p2 hB HT2 hL1
        show Exit.then _ _ Exit.normal _ (grow (redrawn X nq) osq)
        generalize grow (redrawn X nq) osq = Y at *
        have HT2 := HT3
        have hL1 := hL2
        clear HT3 hL2
        obtain ⟨c1, c2, c3, c4, c5, c6, c7, c8⟩ := HT2.out.cells
        go_wp2_with fail
        refine (HA.out _).mono ?_
        rintro e w5 ⟨rfl, rfl⟩
        go_wp2_with fail
        clear c1 c2 c3 c4 c5 c6 c7 c8
        obtain ⟨p1, p2⟩ := cut_regrown HT2.out.1
        refine wp_region_quiet_below (by assumption) (by kernel_rfl) ?_
        repeat (go_big_quiet_step (first | (go_at_call 43; exact Calls.regrown_of (HS.out _))))
        refine wpQuiet_nil ?_
        intro _ hw'
        obtain ⟨⟨nq, osq⟩, hw''⟩ := hw'
        subst hw''
        have hB := below_regrown Y nq osq
        have HT3 := Lib.hid (HT2.out.below hB)
        have hL2 := bt hL1 hB
        clear p1 p2 hB HT2 hL1
        show Exit.then _ _ Exit.normal _ (grow (redrawn Y nq) osq)
        generalize grow (redrawn Y nq) osq = Z at *
        have HT2 := HT3
        have hL1 := hL2
        clear HT3 hL2
        obtain ⟨c1, c2, c3, c4, c5, c6, c7, c8⟩ := HT2.out.cells
        obtain ⟨_, _, d3, d4, _, _, _, _⟩ := (HT2.out.put1 0 0).cells
        have hL9 := (hL1.setCell (p := ⟨w.heap.size + 1, 0, none⟩) (by simp) (.int .i64 0)).setCell (p := ⟨w.heap.size + 1, 1, none⟩) (by simp) (.int .i64 0)
        go_wp2_with fail
        refine bodyPost_ret (v := .tuple #[.agg #[.int .i64 0, .int .i64 0], .bool false]) (by simp [results, Try.results30, go_sem, d3, d4]) rfl ?_
        exact ⟨ret_cb HZ.out.1 HZ.out.2 HE.out.2.symm, hL9⟩
      · have t1 : (v != k) = true := bne_iff_ne.2 (fun h => hI (HSH.out.1 h))
        clear hin hI HSH HCL HX
        go_enter Try.func30, Try.ntmps30
        go_wp2_with fail
        refine (HC.out _).mono ?_
        rintro e w1 ⟨rfl, hB1⟩
        have hT1 := HT.out.below hB1
        have hT2 := hT1.put0 0 k
        have hL1 := ((bt hL hB1).setCell (p := ⟨w.heap.size, 0, none⟩) (by simp) (.int .i64 0)).setCell (p := ⟨w.heap.size, 1, none⟩) (by simp) (.int .i64 k)
        obtain ⟨c1, c2, c3, c4, c5, c6, c7, c8⟩ := hT1.cells
        have HT2 := Lib.hid hT2
        clear hT1 hT2 hB1
        go_wp2_with fail
        generalize (w1.setCell ⟨w.heap.size, 0, none⟩ (.int .i64 0)).setCell ⟨w.heap.size, 1, none⟩ (.int .i64 k) = X at *
        clear c1 c2 c3 c4 c5 c6 c7 c8
        obtain ⟨p1, p2⟩ := cut_regrown HT2.out.1
        refine wp_region_quiet_below (by assumption) (by kernel_rfl) ?_
        repeat (go_big_quiet_step (first | (go_at_call 21; exact Calls.regrown_of (first_b _)) | (go_at_call 20; exact Calls.regrown_of (last_b _))))
        refine wpQuiet_nil ?_
        intro _ hw'
        obtain ⟨⟨nq, osq⟩, hw''⟩ := hw'
        subst hw''
        have hB := below_regrown X nq osq
        have HT3 := Lib.hid (HT2.out.below hB)
        have hL2 := bt hL1 hB
        clear p1 p2 hB HT2 hL1
        show Exit.then _ _ Exit.normal _ (grow (redrawn X nq) osq)
        generalize grow (redrawn X nq) osq = Y at *
        have HT2 := HT3
        have hL1 := hL2
        clear HT3 hL2
        obtain ⟨c1, c2, c3, c4, c5, c6, c7, c8⟩ := HT2.out.cells
        go_wp2_with fail
        refine (HA.out _).mono ?_
        rintro e w5 ⟨rfl, rfl⟩
        go_wp2_with fail
        clear c1 c2 c3 c4 c5 c6 c7 c8
        obtain ⟨p1, p2⟩ := cut_regrown HT2.out.1
        refine wp_region_quiet_below (by assumption) (by kernel_rfl) ?_
        repeat (go_big_quiet_step (first | (go_at_call 43; exact Calls.regrown_of (HS.out _))))
        refine wpQuiet_nil ?_
        intro _ hw'
        obtain ⟨⟨nq, osq⟩, hw''⟩ := hw'
        subst hw''
        have hB := below_regrown Y nq osq
        have HT3 := Lib.hid (HT2.out.below hB)
        have hL2 := bt hL1 hB
        clear p1 p2 hB HT2 hL1
        show Exit.then _ _ Exit.normal _ (grow (redrawn Y nq) osq)
        generalize grow (redrawn Y nq) osq = Z at *
        have HT2 := HT3
        have hL1 := hL2
        clear HT3 hL2
        obtain ⟨c1, c2, c3, c4, c5, c6, c7, c8⟩ := HT2.out.cells
        obtain ⟨_, _, d3, d4, _, _, _, _⟩ := (HT2.out.put1 0 0).cells
        have hL9 := (hL1.setCell (p := ⟨w.heap.size + 1, 0, none⟩) (by simp) (.int .i64 0)).setCell (p := ⟨w.heap.size + 1, 1, none⟩) (by simp) (.int .i64 0)
        go_wp2_with fail
        refine bodyPost_ret (v := .tuple #[.agg #[.int .i64 0, .int .i64 0], .bool false]) (by simp [results, Try.results30, go_sem, d3, d4]) rfl ?_
        exact ⟨ret_cb HZ.out.1 HZ.out.2 HE.out.2.symm, hL9⟩
end Go.Proofs.Ytmdnmcbjpjpgjaa
