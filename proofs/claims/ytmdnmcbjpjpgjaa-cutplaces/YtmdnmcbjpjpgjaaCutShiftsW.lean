/- The walk of the law CutShifts. -/
import Derived.Test.YtmdnmcbjpjpgjaaCutS2
import Derived.Test.YtmdnmcbjpjpgjaaCutNumbersW
namespace Go.Proofs.Ytmdnmcbjpjpgjaa
open Go.RowKit Go.Sort Go.Proofs.Ytmdnmcbjpjpgjaa.Bo
set_option linter.unusedVariables false

/-- A box stays where it is. -/
theorem box_on {w w' : World} {b : Nat} {o : Obj} (h : w.heap[b]? = some o) (hb : Below w.heap.size w w') : w'.heap[b]? = some o := (hb.block _ (lt_of_block h)).trans h
theorem box_new {w w' : World} (o : Obj) (hb : Below (w.alloc o).heap.size (w.alloc o) w') : w'.heap[w.heap.size]? = some o := box_on (heap_alloc_new w o) hb
theorem below_new (w : World) (o : Obj) : Below w.heap.size w (w.alloc o) := (Below.refl _ _).alloc (Nat.le_refl _) _

set_option maxRecDepth 100000 in
set_option maxHeartbeats 4000000 in
theorem cutShifts_core (s a d : Int) (x y cx cy : Int) (I : Bool) (w : World) (hd1 : -9223372036854775808 ≤ d) (hd2 : d ≤ 9223372036854775807)
    (HS : Hid (∀ W, Calls Try.prog 30 #[.agg #[.int .i64 s, .int .i64 a], .int .i64 d] W fun e w' => e = .returned (.tuple #[.agg #[.int .i64 x, .int .i64 y], .bool I]) ∧ Below W.heap.size W w'))
    (HR : Hid (∀ W, Calls Try.prog 31 #[.agg #[.int .i64 s, .int .i64 a], .int .i64 d] W fun e w' => e = .returned (.tuple #[.agg #[.int .i64 x, .int .i64 y], .bool I]) ∧ Below W.heap.size W w'))
    (HC : Hid (∀ W, Calls Try.prog 10 #[.agg #[.int .i64 s, .int .i64 a]] W fun e w' => e = .returned (.agg #[.int .i64 cx, .int .i64 cy]) ∧ Below W.heap.size W w'))
    (HX : Hid (I = true → d ≠ -9223372036854775808 → (∀ W, Calls Try.prog 12 #[.agg #[.int .i64 x, .int .i64 y]] W fun e w' => e = .returned (.bool true) ∧ Below W.heap.size W w')))
    (HB : Hid (I = true → d ≠ -9223372036854775808 → (∀ W, Calls Try.prog 30 #[.agg #[.int .i64 x, .int .i64 y], .int .i64 (-d)] W fun e w' => e = .returned (.tuple #[.agg #[.int .i64 cx, .int .i64 cy], .bool true]) ∧ Below W.heap.size W w'))) :
    Calls Try.prog 5 #[.agg #[.int .i64 s, .int .i64 a], .int .i64 d] w fun e w' => e = .returned (.bool true) ∧ Below w.heap.size w w' := by
  have mx := mixed
  have eqc := eql_cut
  have nec := neq_cut
  have HAL := Lib.hid calive_any
  cases hI : I
  · subst hI
    clear HX HB
    go_enter Try.func5, Try.ntmps5
    go_wp2_with fail
    refine (HS.out _).mono ?_
    rintro e x1 ⟨rfl, hB1⟩
    have hL1 := bt (below_new w (.cells #[.int .i64 s, .int .i64 a] 23)) hB1
    have g1 := box_new _ hB1
    have hL2 := bt hL1 (below_new x1 (.cells #[.int .i64 x, .int .i64 y] 23))
    have g2 := box_on g1 (below_new x1 (.cells #[.int .i64 x, .int .i64 y] 23))
    have a2 := heap_alloc_new x1 (.cells #[.int .i64 x, .int .i64 y] 23)
    have G2 := Lib.hid g2
    have A2 := Lib.hid a2
    obtain ⟨c1, c2, _, _⟩ := two_cells g2
    clear hB1 hL1 g1 g2 a2
    go_wp2_with fail
    generalize x1.alloc (.cells #[.int .i64 x, .int .i64 y] 23) = X at *
    clear c1 c2
    refine (HR.out _).mono ?_
    rintro e x2 ⟨rfl, hB2⟩
    have hL3 := bt (bt hL2 hB2) (below_new x2 (.cells #[.int .i64 x, .int .i64 y] 23))
    have g3 := box_on (box_on G2.out hB2) (below_new x2 (.cells #[.int .i64 x, .int .i64 y] 23))
    have a3 := box_on (box_on A2.out hB2) (below_new x2 (.cells #[.int .i64 x, .int .i64 y] 23))
    have b3 := heap_alloc_new x2 (.cells #[.int .i64 x, .int .i64 y] 23)
    obtain ⟨c1, c2, _, _⟩ := two_cells a3
    obtain ⟨c3, c4, _, _⟩ := two_cells b3
    have G3 := Lib.hid g3
    have A3 := Lib.hid a3
    clear hB2 hL2 G2 A2 g3 a3 b3
    go_wp2_with fail
    generalize x2.alloc (.cells #[.int .i64 x, .int .i64 y] 23) = Y at *
    refine (HAL.out _).mono ?_
    rintro e x4 ⟨rfl, hB4⟩
    go_wp2_with fail
    go_ret
    exact ⟨rfl, bt hL3 hB4⟩

  · subst hI
    by_cases hd : d = -9223372036854775808
    · subst hd
      clear HX HB
      go_enter Try.func5, Try.ntmps5
      go_wp2_with fail
      refine (HS.out _).mono ?_
      rintro e x1 ⟨rfl, hB1⟩
      have hL1 := bt (below_new w (.cells #[.int .i64 s, .int .i64 a] 23)) hB1
      have g1 := box_new _ hB1
      have hL2 := bt hL1 (below_new x1 (.cells #[.int .i64 x, .int .i64 y] 23))
      have g2 := box_on g1 (below_new x1 (.cells #[.int .i64 x, .int .i64 y] 23))
      have a2 := heap_alloc_new x1 (.cells #[.int .i64 x, .int .i64 y] 23)
      have G2 := Lib.hid g2
      have A2 := Lib.hid a2
      obtain ⟨c1, c2, _, _⟩ := two_cells g2
      clear hB1 hL1 g1 g2 a2
      go_wp2_with fail
      generalize x1.alloc (.cells #[.int .i64 x, .int .i64 y] 23) = X at *
      clear c1 c2
      refine (HR.out _).mono ?_
      rintro e x2 ⟨rfl, hB2⟩
      have hL3 := bt (bt hL2 hB2) (below_new x2 (.cells #[.int .i64 x, .int .i64 y] 23))
      have g3 := box_on (box_on G2.out hB2) (below_new x2 (.cells #[.int .i64 x, .int .i64 y] 23))
      have a3 := box_on (box_on A2.out hB2) (below_new x2 (.cells #[.int .i64 x, .int .i64 y] 23))
      have b3 := heap_alloc_new x2 (.cells #[.int .i64 x, .int .i64 y] 23)
      obtain ⟨c1, c2, _, _⟩ := two_cells a3
      obtain ⟨c3, c4, _, _⟩ := two_cells b3
      have G3 := Lib.hid g3
      have A3 := Lib.hid a3
      clear hB2 hL2 G2 A2 g3 a3 b3
      go_wp2_with fail
      refine (rleast_any _).mono ?_
      rintro e x5 ⟨rfl, hB5⟩
      replace hL3 := bt hL3 hB5
      clear c1 c2 c3 c4 G3 A3 hB5
      go_wp2_with fail
      refine (HAL.out _).mono ?_
      rintro e x4 ⟨rfl, hB4⟩
      go_wp2_with fail
      go_ret
      exact ⟨rfl, bt hL3 hB4⟩

    · have t9 : (d == -9223372036854775808) = false := beq_eq_false_iff_ne.2 hd
      have X1 := HX.out rfl hd
      have B1 := HB.out rfl hd
      have HX1 := Lib.hid X1
      have HB1 := Lib.hid B1
      have hd3 : -9223372036854775808 < d := by omega
      clear X1 B1 HX HB hd
      go_enter Try.func5, Try.ntmps5
      go_wp2_with fail
      refine (HS.out _).mono ?_
      rintro e x1 ⟨rfl, hB1⟩
      have hL1 := bt (below_new w (.cells #[.int .i64 s, .int .i64 a] 23)) hB1
      have g1 := box_new _ hB1
      have hL2 := bt hL1 (below_new x1 (.cells #[.int .i64 x, .int .i64 y] 23))
      have g2 := box_on g1 (below_new x1 (.cells #[.int .i64 x, .int .i64 y] 23))
      have a2 := heap_alloc_new x1 (.cells #[.int .i64 x, .int .i64 y] 23)
      have G2 := Lib.hid g2
      have A2 := Lib.hid a2
      obtain ⟨c1, c2, _, _⟩ := two_cells g2
      clear hB1 hL1 g1 g2 a2
      go_wp2_with fail
      generalize x1.alloc (.cells #[.int .i64 x, .int .i64 y] 23) = X at *
      clear c1 c2
      refine (HR.out _).mono ?_
      rintro e x2 ⟨rfl, hB2⟩
      have hL3 := bt (bt hL2 hB2) (below_new x2 (.cells #[.int .i64 x, .int .i64 y] 23))
      have g3 := box_on (box_on G2.out hB2) (below_new x2 (.cells #[.int .i64 x, .int .i64 y] 23))
      have a3 := box_on (box_on A2.out hB2) (below_new x2 (.cells #[.int .i64 x, .int .i64 y] 23))
      have b3 := heap_alloc_new x2 (.cells #[.int .i64 x, .int .i64 y] 23)
      obtain ⟨c1, c2, _, _⟩ := two_cells a3
      obtain ⟨c3, c4, _, _⟩ := two_cells b3
      have G3 := Lib.hid g3
      have A3 := Lib.hid a3
      clear hB2 hL2 G2 A2 g3 a3 b3
      go_wp2_with fail
      refine (rleast_any _).mono ?_
      rintro e x5 ⟨rfl, hB5⟩
      replace hL3 := bt hL3 hB5
      have g5 := box_on G3.out hB5
      have a5 := box_on A3.out hB5
      have G5 := Lib.hid g5
      have A5 := Lib.hid a5
      clear c1 c2 c3 c4 G3 A3 hB5 g5
      obtain ⟨c1, c2, _, _⟩ := two_cells a5
      clear a5
      go_wp2_with fail
      refine (HB1.out _).mono ?_
      rintro e x6 ⟨rfl, hB6⟩
      have hL7 := bt (bt hL3 hB6) (below_new x6 (.cells #[.int .i64 cx, .int .i64 cy] 23))
      have g7 := box_on (box_on G5.out hB6) (below_new x6 (.cells #[.int .i64 cx, .int .i64 cy] 23))
      have a7 := box_on (box_on A5.out hB6) (below_new x6 (.cells #[.int .i64 cx, .int .i64 cy] 23))
      have b7 := heap_alloc_new x6 (.cells #[.int .i64 cx, .int .i64 cy] 23)
      have G7 := Lib.hid g7
      have A7 := Lib.hid a7
      have B7 := Lib.hid b7
      clear hB6 hL3 G5 A5 g7 a7 b7 c1 c2
      go_wp2_with fail
      generalize x6.alloc (.cells #[.int .i64 cx, .int .i64 cy] 23) = Z at *
      obtain ⟨p1, p2⟩ := cut_regrown G7.out
      obtain ⟨p3, p4⟩ := cut_regrown A7.out
      obtain ⟨p5, p6⟩ := cut_regrown B7.out
      refine wp_region_quiet_below (by assumption) (by kernel_rfl) ?_
      repeat (go_big_quiet_step (first
        | (go_at_call 15; exact Calls.regrown_of (HAL.out _))
        | (go_at_call 12; exact Calls.regrown_of (HX1.out _))
        | (go_at_call 10; exact Calls.regrown_of (HC.out _))))
      refine wpQuiet_nil ?_
      intro _ hw'
      obtain ⟨⟨nq, osq⟩, hw''⟩ := hw'
      subst hw''
      have hL8 := bt hL7 (below_regrown Z nq osq)
      go_wp2_with fail
      go_ret
      exact ⟨rfl, hL8⟩

theorem cutShifts_walk (s a d : Int) (ws0 : (Lit.int .i64 s).wf = true) (w0 : (Lit.int .i64 a).wf = true) (w1 : (Lit.int .i64 d).wf = true) (w : World) :
    Calls Try.prog 5 #[.agg #[.int .i64 s, .int .i64 a], .int .i64 d] w fun e w' => e = .returned (.bool true) ∧ Below w.heap.size w w' := by
  have ha := i64_of_wf2 w0
  have hd := i64_of_wf2 w1
  have hk := key_ky s a ha
  have hd' := hd
  unfold I64 at hd'
  have hky : Ky (shk (key s a) d) := by
    rcases ky_cases (key s a) hk with ⟨h1, _, _⟩ | ⟨h1, _, _⟩ | ⟨g1, g2, _, _⟩
    · rw [(sh_end _ d (.inl h1)).1]; exact hk
    · rw [(sh_end _ d (.inr h1)).1]; exact hk
    · by_cases hin : -9223372036854775808 < key s a + d ∧ key s a + d < 9223372036854775808
      · rw [(sh_in _ d g1 g2 hin).1]; unfold Ky; omega
      · rw [(sh_out _ d g1 g2 hin).1]; unfold Ky; omega
  refine cutShifts_core s a d _ _ _ _ _ w hd'.1 hd'.2 (fun W => shift_any s a d W ha hd) (fun W => rshift_any s a d W ha hd) (fun W => canon_b s a ha W) (fun _ _ => right_key _ hky) (fun hI hne W => ?_)
  have h := shift_any (sd (shk (key s a) d)) (pa (shk (key s a) d)) (-d) W (pa_i64 _ hky) (by unfold I64; omega)
  rw [key_back _ hky] at h
  have e : shk (shk (key s a) d) (-d) = key s a ∧ shb (shk (key s a) d) (-d) = true := by
    rcases ky_cases (key s a) hk with ⟨h1, _, _⟩ | ⟨h1, _, _⟩ | ⟨g1, g2, _, _⟩
    · rw [(sh_end _ d (.inl h1)).1]; exact sh_end _ _ (.inl h1)
    · rw [(sh_end _ d (.inr h1)).1]; exact sh_end _ _ (.inr h1)
    · by_cases hin : -9223372036854775808 < key s a + d ∧ key s a + d < 9223372036854775808
      · rw [(sh_in _ d g1 g2 hin).1]
        have := sh_in (key s a + d) (-d) hin.1 hin.2 (by omega)
        rw [show key s a + d + -d = key s a by omega] at this
        exact this
      · rw [(sh_out _ d g1 g2 hin).2] at hI; cases hI
  rw [e.1, e.2] at h
  exact h
end Go.Proofs.Ytmdnmcbjpjpgjaa
