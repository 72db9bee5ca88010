/- The walk of the law CutBetween. -/
import Derived.Test.YtmdnmcbjpjpgjaaCutOrderW
namespace Go.Proofs.Ytmdnmcbjpjpgjaa
open Go.RowKit Go.Sort Go.Proofs.Ytmdnmcbjpjpgjaa.Bo
set_option linter.unusedVariables false

theorem ahead_b (n : Int) (hn : I64 n) (w : World) : Calls Try.prog 26 #[.int .i64 n] w fun e w' => e = .returned (.agg #[.int .i64 (sd n), .int .i64 (pa n)]) ∧ Below w.heap.size w w' := (ahead_any n w hn).mono fun _ _ h => ⟨h.1, h.2.1⟩
theorem behind_b (n : Int) (hn : I64 n) (w : World) : Calls Try.prog 28 #[.int .i64 n] w fun e w' => e = .returned (.agg #[.int .i64 (sd (n + 1)), .int .i64 (pa (n + 1))]) ∧ Below w.heap.size w w' := (behind_any n w hn).mono fun _ _ h => ⟨h.1, h.2.1⟩
theorem next_b (s a : Int) (w : World) (ha : I64 a) : Calls Try.prog 22 #[.agg #[.int .i64 s, .int .i64 a]] w fun e w' => e = .returned (.tuple #[.int .i64 (nx (key s a)), .bool (nxb (key s a))]) ∧ Below w.heap.size w w' := (next_any s a w ha).mono fun _ _ h => ⟨h.1, h.2.1⟩
theorem prev_b (s a : Int) (w : World) (ha : I64 a) : Calls Try.prog 24 #[.agg #[.int .i64 s, .int .i64 a]] w fun e w' => e = .returned (.tuple #[.int .i64 (pv (key s a)), .bool (pvb (key s a))]) ∧ Below w.heap.size w w' := (prev_any s a w ha).mono fun _ _ h => ⟨h.1, h.2.1⟩
theorem ky_of_i64 (n : Int) (h : I64 n) : Ky n ∧ Ky (n + 1) := by unfold I64 at h; unfold Ky; omega

set_option maxRecDepth 100000 in
set_option maxHeartbeats 2000000 in
theorem cutBetween_core (s a n : Int) (A B v xa ya xb yb : Int) (I H : Bool) (w : World)
    (HN : Hid (∀ W, Calls Try.prog 22 #[.agg #[.int .i64 s, .int .i64 a]] W fun e w' => e = .returned (.tuple #[.int .i64 A, .bool I]) ∧ Below W.heap.size W w'))
    (HP : Hid (∀ W, Calls Try.prog 24 #[.agg #[.int .i64 s, .int .i64 a]] W fun e w' => e = .returned (.tuple #[.int .i64 B, .bool H]) ∧ Below W.heap.size W w'))
    (HA : Hid (∀ W, Calls Try.prog 26 #[.int .i64 n] W fun e w' => e = .returned (.agg #[.int .i64 xa, .int .i64 ya]) ∧ Below W.heap.size W w'))
    (HB : Hid (∀ W, Calls Try.prog 28 #[.int .i64 n] W fun e w' => e = .returned (.agg #[.int .i64 xb, .int .i64 yb]) ∧ Below W.heap.size W w'))
    (HC : Hid (∀ W, Calls Try.prog 13 #[.agg #[.int .i64 xa, .int .i64 ya], .agg #[.int .i64 s, .int .i64 a]] W fun e w' => e = .returned (.int .i64 v) ∧ Below W.heap.size W w'))
    (HD : Hid (∀ W, Calls Try.prog 13 #[.agg #[.int .i64 xa, .int .i64 ya], .agg #[.int .i64 xb, .int .i64 yb]] W fun e w' => e = .returned (.int .i64 (-1)) ∧ Below W.heap.size W w'))
    (hs : (I = true ∧ H = false ∧ (v < 0 ↔ n < A)) ∨ (I = false ∧ H = true ∧ v < 0) ∨ (I = true ∧ H = true ∧ B = A - 1 ∧ -9223372036854775808 < A ∧ A ≤ 9223372036854775807 ∧ (v < 0 ↔ n < A))) :
    Calls Try.prog 9 #[.agg #[.int .i64 s, .int .i64 a], .int .i64 n] w fun e w' => e = .returned (.bool true) ∧ Below w.heap.size w w' := by
  have mx := mixed
  have HAL := Lib.hid calive_any
  have g1 := heap_alloc_new w (.cells #[.int .i64 s, .int .i64 a] 23)
  have hL := (Below.refl w.heap.size w).alloc (Nat.le_refl _) (.cells #[.int .i64 s, .int .i64 a] 23)
  have HG := Lib.hid g1
  clear g1
  rcases hs with ⟨rfl, rfl, h1⟩ | ⟨rfl, rfl, h1⟩ | ⟨rfl, rfl, rfl, h2, h3, h1⟩
  · by_cases hv : v < 0
    · have t1 : decide (v < 0) = true := decide_eq_true hv
      have t2 : decide (n < A) = true := decide_eq_true (h1.1 hv)
      clear hv h1
      go_enter Try.func9, Try.ntmps9
      go_wp2_with fail
      refine (HN.out _).mono ?_
      rintro e w1 ⟨rfl, hB1⟩
      have g2 := (hB1.block _ (lt_of_block HG.out)).trans HG.out
      have HG2 := Lib.hid g2
      obtain ⟨c1, c2, _, _⟩ := two_cells g2
      clear g2
      go_wp2_with fail
      refine (HP.out _).mono ?_
      rintro e w2 ⟨rfl, hB2⟩
      have g3 := (hB2.block _ (lt_of_block HG2.out)).trans HG2.out
      have hL2 := bt (bt hL hB1) hB2
      clear c1 c2 HG HG2 hB1 hB2 hL
      obtain ⟨p1, p2⟩ := cut_regrown g3
      clear g3
      go_wp2_with fail
      refine wp_region_quiet_below (by assumption) (by kernel_rfl) ?_
      repeat (go_big_quiet_step (first
        | (go_at_call 26; exact Calls.regrown_of (HA.out _))
        | (go_at_call 13; exact Calls.regrown_of (HC.out _))))
      refine wpQuiet_nil ?_
      intro _ hw'
      obtain ⟨⟨nq, osq⟩, hw''⟩ := hw'
      subst hw''
      have hL3 := bt hL2 (below_regrown w2 nq osq)
      clear p1 p2 hL2
      go_wp2_with fail
      generalize grow (redrawn w2 nq) osq = Y at *
      refine (HAL.out _).mono ?_
      rintro e w4 ⟨rfl, hB4⟩
      go_wp2_with fail
      refine (HA.out _).mono ?_
      rintro e w5 ⟨rfl, hB5⟩
      go_wp2_with fail
      refine (HB.out _).mono ?_
      rintro e w6 ⟨rfl, hB6⟩
      go_wp2_with fail
      refine (HD.out _).mono ?_
      rintro e w7 ⟨rfl, hB7⟩
      go_wp2_with fail
      go_ret
      exact ⟨rfl, bt (bt (bt (bt hL3 hB4) hB5) hB6) hB7⟩

    · have t1 : decide (v < 0) = false := decide_eq_false hv
      have t2 : decide (n < A) = false := decide_eq_false (fun h => hv (h1.2 h))
      clear hv h1
      go_enter Try.func9, Try.ntmps9
      go_wp2_with fail
      refine (HN.out _).mono ?_
      rintro e w1 ⟨rfl, hB1⟩
      have g2 := (hB1.block _ (lt_of_block HG.out)).trans HG.out
      have HG2 := Lib.hid g2
      obtain ⟨c1, c2, _, _⟩ := two_cells g2
      clear g2
      go_wp2_with fail
      refine (HP.out _).mono ?_
      rintro e w2 ⟨rfl, hB2⟩
      have g3 := (hB2.block _ (lt_of_block HG2.out)).trans HG2.out
      have hL2 := bt (bt hL hB1) hB2
      clear c1 c2 HG HG2 hB1 hB2 hL
      obtain ⟨p1, p2⟩ := cut_regrown g3
      clear g3
      go_wp2_with fail
      refine wp_region_quiet_below (by assumption) (by kernel_rfl) ?_
      repeat (go_big_quiet_step (first
        | (go_at_call 26; exact Calls.regrown_of (HA.out _))
        | (go_at_call 13; exact Calls.regrown_of (HC.out _))))
      refine wpQuiet_nil ?_
      intro _ hw'
      obtain ⟨⟨nq, osq⟩, hw''⟩ := hw'
      subst hw''
      have hL3 := bt hL2 (below_regrown w2 nq osq)
      clear p1 p2 hL2
      go_wp2_with fail
      generalize grow (redrawn w2 nq) osq = Y at *
      refine (HAL.out _).mono ?_
      rintro e w4 ⟨rfl, hB4⟩
      go_wp2_with fail
      refine (HA.out _).mono ?_
      rintro e w5 ⟨rfl, hB5⟩
      go_wp2_with fail
      refine (HB.out _).mono ?_
      rintro e w6 ⟨rfl, hB6⟩
      go_wp2_with fail
      refine (HD.out _).mono ?_
      rintro e w7 ⟨rfl, hB7⟩
      go_wp2_with fail
      go_ret
      exact ⟨rfl, bt (bt (bt (bt hL3 hB4) hB5) hB6) hB7⟩

  · have t1 : decide (v < 0) = true := decide_eq_true h1
    clear h1
    go_enter Try.func9, Try.ntmps9
    go_wp2_with fail
    refine (HN.out _).mono ?_
    rintro e w1 ⟨rfl, hB1⟩
    have g2 := (hB1.block _ (lt_of_block HG.out)).trans HG.out
    have HG2 := Lib.hid g2
    obtain ⟨c1, c2, _, _⟩ := two_cells g2
    clear g2
    go_wp2_with fail
    refine (HP.out _).mono ?_
    rintro e w2 ⟨rfl, hB2⟩
    have g3 := (hB2.block _ (lt_of_block HG2.out)).trans HG2.out
    have hL2 := bt (bt hL hB1) hB2
    clear c1 c2 HG HG2 hB1 hB2 hL
    obtain ⟨p1, p2⟩ := cut_regrown g3
    clear g3
    go_wp2_with fail
    refine wp_region_quiet_below (by assumption) (by kernel_rfl) ?_
    repeat (go_big_quiet_step (first
      | (go_at_call 26; exact Calls.regrown_of (HA.out _))
      | (go_at_call 13; exact Calls.regrown_of (HC.out _))))
    refine wpQuiet_nil ?_
    intro _ hw'
    obtain ⟨⟨nq, osq⟩, hw''⟩ := hw'
    subst hw''
    have hL3 := bt hL2 (below_regrown w2 nq osq)
    clear p1 p2 hL2
    go_wp2_with fail
    generalize grow (redrawn w2 nq) osq = Y at *
    refine (HAL.out _).mono ?_
    rintro e w4 ⟨rfl, hB4⟩
    go_wp2_with fail
    refine (HA.out _).mono ?_
    rintro e w5 ⟨rfl, hB5⟩
    go_wp2_with fail
    refine (HB.out _).mono ?_
    rintro e w6 ⟨rfl, hB6⟩
    go_wp2_with fail
    refine (HD.out _).mono ?_
    rintro e w7 ⟨rfl, hB7⟩
    go_wp2_with fail
    go_ret
    exact ⟨rfl, bt (bt (bt (bt hL3 hB4) hB5) hB6) hB7⟩

  · have t5 : decide (A ≤ A - 1) = false := decide_eq_false (by omega)
    by_cases hv : v < 0
    · have t1 : decide (v < 0) = true := decide_eq_true hv
      have t2 : decide (n < A) = true := decide_eq_true (h1.1 hv)
      clear hv h1
      go_enter Try.func9, Try.ntmps9
      go_wp2_with fail
      refine (HN.out _).mono ?_
      rintro e w1 ⟨rfl, hB1⟩
      have g2 := (hB1.block _ (lt_of_block HG.out)).trans HG.out
      have HG2 := Lib.hid g2
      obtain ⟨c1, c2, _, _⟩ := two_cells g2
      clear g2
      go_wp2_with fail
      refine (HP.out _).mono ?_
      rintro e w2 ⟨rfl, hB2⟩
      have g3 := (hB2.block _ (lt_of_block HG2.out)).trans HG2.out
      have hL2 := bt (bt hL hB1) hB2
      clear c1 c2 HG HG2 hB1 hB2 hL
      obtain ⟨p1, p2⟩ := cut_regrown g3
      clear g3
      go_wp2_with fail
      refine wp_region_quiet_below (by assumption) (by kernel_rfl) ?_
      repeat (go_big_quiet_step (first
        | (go_at_call 26; exact Calls.regrown_of (HA.out _))
        | (go_at_call 13; exact Calls.regrown_of (HC.out _))))
      refine wpQuiet_nil ?_
      intro _ hw'
      obtain ⟨⟨nq, osq⟩, hw''⟩ := hw'
      subst hw''
      have hL3 := bt hL2 (below_regrown w2 nq osq)
      clear p1 p2 hL2
      go_wp2_with fail
      generalize grow (redrawn w2 nq) osq = Y at *
      refine (HAL.out _).mono ?_
      rintro e w4 ⟨rfl, hB4⟩
      go_wp2_with fail
      refine (HA.out _).mono ?_
      rintro e w5 ⟨rfl, hB5⟩
      go_wp2_with fail
      refine (HB.out _).mono ?_
      rintro e w6 ⟨rfl, hB6⟩
      go_wp2_with fail
      refine (HD.out _).mono ?_
      rintro e w7 ⟨rfl, hB7⟩
      go_wp2_with fail
      go_ret
      exact ⟨rfl, bt (bt (bt (bt hL3 hB4) hB5) hB6) hB7⟩

    · have t1 : decide (v < 0) = false := decide_eq_false hv
      have t2 : decide (n < A) = false := decide_eq_false (fun h => hv (h1.2 h))
      clear hv h1
      go_enter Try.func9, Try.ntmps9
      go_wp2_with fail
      refine (HN.out _).mono ?_
      rintro e w1 ⟨rfl, hB1⟩
      have g2 := (hB1.block _ (lt_of_block HG.out)).trans HG.out
      have HG2 := Lib.hid g2
      obtain ⟨c1, c2, _, _⟩ := two_cells g2
      clear g2
      go_wp2_with fail
      refine (HP.out _).mono ?_
      rintro e w2 ⟨rfl, hB2⟩
      have g3 := (hB2.block _ (lt_of_block HG2.out)).trans HG2.out
      have hL2 := bt (bt hL hB1) hB2
      clear c1 c2 HG HG2 hB1 hB2 hL
      obtain ⟨p1, p2⟩ := cut_regrown g3
      clear g3
      go_wp2_with fail
      refine wp_region_quiet_below (by assumption) (by kernel_rfl) ?_
      repeat (go_big_quiet_step (first
        | (go_at_call 26; exact Calls.regrown_of (HA.out _))
        | (go_at_call 13; exact Calls.regrown_of (HC.out _))))
      refine wpQuiet_nil ?_
      intro _ hw'
      obtain ⟨⟨nq, osq⟩, hw''⟩ := hw'
      subst hw''
      have hL3 := bt hL2 (below_regrown w2 nq osq)
      clear p1 p2 hL2
      go_wp2_with fail
      generalize grow (redrawn w2 nq) osq = Y at *
      refine (HAL.out _).mono ?_
      rintro e w4 ⟨rfl, hB4⟩
      go_wp2_with fail
      refine (HA.out _).mono ?_
      rintro e w5 ⟨rfl, hB5⟩
      go_wp2_with fail
      refine (HB.out _).mono ?_
      rintro e w6 ⟨rfl, hB6⟩
      go_wp2_with fail
      refine (HD.out _).mono ?_
      rintro e w7 ⟨rfl, hB7⟩
      go_wp2_with fail
      go_ret
      exact ⟨rfl, bt (bt (bt (bt hL3 hB4) hB5) hB6) hB7⟩


theorem cutBetween_walk (s a n : Int) (ws0 : (Lit.int .i64 s).wf = true) (w0 : (Lit.int .i64 a).wf = true) (w1 : (Lit.int .i64 n).wf = true) (w : World) :
    Calls Try.prog 9 #[.agg #[.int .i64 s, .int .i64 a], .int .i64 n] w fun e w' => e = .returned (.bool true) ∧ Below w.heap.size w w' := by
  have ha := i64_of_wf2 w0
  have hn := i64_of_wf2 w1
  obtain ⟨hk1, hk2⟩ := ky_of_i64 n hn
  refine cutBetween_core s a n _ _ (kcmp n (key s a)) _ _ _ _ _ _ w (fun W => next_b s a W ha) (fun W => prev_b s a W ha) (fun W => ahead_b n hn W) (fun W => behind_b n hn W)
    (fun W => compare_b _ _ s a _ (by rw [key_back n hk1]) (pa_i64 n hk1) ha W)
    (fun W => compare_b _ _ _ _ _ (by rw [key_back n hk1, key_back _ hk2]; exact kcmp_lt _ _ (by omega)) (pa_i64 n hk1) (pa_i64 _ hk2) W) ?_
  have hc : ∀ k, kcmp n k < 0 ↔ n < k := by
    intro k; unfold kcmp; split
    · simp; assumption
    · split <;> simp <;> omega
  have hk := key_ky s a ha
  generalize key s a = k at *
  unfold I64 at hn
  rcases ky_cases k hk with ⟨rfl, h1, h2⟩ | ⟨rfl, h1, h2⟩ | ⟨g1, g2, h1, h2⟩
  · refine .inl ⟨(nx_in _ (by decide)).2, pv_lo.2, ?_⟩
    rw [(nx_in _ (by decide)).1]; exact hc _
  · exact .inr (.inl ⟨nx_hi.2, (pv_in _ (by decide)).2, (hc _).2 (by omega)⟩)
  · refine .inr (.inr ⟨(nx_in k g2).2, (pv_in k g1).2, ?_, ?_, ?_, ?_⟩)
    · rw [(nx_in k g2).1, (pv_in k g1).1]
    · rw [(nx_in k g2).1]; exact g1
    · rw [(nx_in k g2).1]; omega
    · rw [(nx_in k g2).1]; exact hc _
end Go.Proofs.Ytmdnmcbjpjpgjaa
