/- The law's guard 'alive' of layer 2 answers true. -/
import Derived.Test.YtbpplhlkpfdegaaCutT
import Derived.Test.YtbpplhlkpfdegaaCutR2
namespace Go.Proofs.Ytbpplhlkpfdegaa
open Go.RowKit Go.Sort Go.Proofs.Ytbpplhlkpfdegaa.Bo
set_option linter.unusedVariables false

theorem al_read (w : World) : Calls Try.prog 11 #[.string ⟨#[43, 105, 110, 102, 111]⟩] w fun e w' => e = .returned (.tuple #[.agg #[.int .i64 1, .int .i64 0], .int .i64 4]) ∧ Below w.heap.size w w' := by
  have h := cread_any ⟨#[43, 105, 110, 102, 111]⟩ w (by decide)
  rw [show rdCut (⟨#[43, 105, 110, 102, 111]⟩ : ByteArray).data.toList = (9223372036854775808, 4) from by decide +kernel, sd_hi, pa_hi] at h
  exact h
theorem al_next (w : World) : Calls Try.prog 12 #[.agg #[.int .i64 (-1), .int .i64 0]] w fun e w' => e = .returned (.tuple #[.int .i64 (-9223372036854775808), .bool true]) ∧ Below w.heap.size w w' := by
  have h := next_any (-1) 0 w ⟨by decide, by decide⟩
  rw [show key (-1) 0 = -9223372036854775808 from by decide, (nx_in (-9223372036854775808) (by decide)).1, (nx_in (-9223372036854775808) (by decide)).2] at h
  exact h.mono fun _ _ h => ⟨h.1, h.2.1⟩
theorem al_ahead_least (w : World) : Calls Try.prog 14 #[.int .i64 (-9223372036854775808)] w fun e w' => e = .returned (.agg #[.int .i64 (-1), .int .i64 0]) ∧ Below w.heap.size w w' := by
  have h := ahead_any (-9223372036854775808) w ⟨by decide, by decide⟩
  rw [sd_lo, pa_lo] at h
  exact h.mono fun _ _ h => ⟨h.1, h.2.1⟩
theorem al_ahead3 (w : World) : Calls Try.prog 14 #[.int .i64 3] w fun e w' => e = .returned (.agg #[.int .i64 0, .int .i64 3]) ∧ Below w.heap.size w w' := by
  have h := ahead_any 3 w ⟨by decide, by decide⟩
  rw [sd_mid 3 (by decide) (by decide), pa_mid 3 (by decide) (by decide)] at h
  exact h.mono fun _ _ h => ⟨h.1, h.2.1⟩
theorem al_behind2 (w : World) : Calls Try.prog 16 #[.int .i64 2] w fun e w' => e = .returned (.agg #[.int .i64 0, .int .i64 3]) ∧ Below w.heap.size w w' := by
  have h := behind_any 2 w ⟨by decide, by decide⟩
  rw [show (2 : Int) + 1 = 3 from by decide, sd_mid 3 (by decide) (by decide), pa_mid 3 (by decide) (by decide)] at h
  exact h.mono fun _ _ h => ⟨h.1, h.2.1⟩
theorem al_behind_top (w : World) : Calls Try.prog 16 #[.int .i64 9223372036854775807] w fun e w' => e = .returned (.agg #[.int .i64 1, .int .i64 0]) ∧ Below w.heap.size w w' := by
  have h := behind_any 9223372036854775807 w ⟨by decide, by decide⟩
  rw [show (9223372036854775807 : Int) + 1 = 9223372036854775808 from by decide, sd_hi, pa_hi] at h
  exact h.mono fun _ _ h => ⟨h.1, h.2.1⟩
theorem al_compare (w : World) : Calls Try.prog 6 #[.agg #[.int .i64 0, .int .i64 3], .agg #[.int .i64 0, .int .i64 3]] w fun e w' => e = .returned (.int .i64 0) ∧ Below w.heap.size w w' := by
  have h := compare_any 0 3 0 3 w ⟨by decide, by decide⟩ ⟨by decide, by decide⟩
  rw [kcmp_eq _ _ rfl] at h
  exact h.mono fun _ _ h => ⟨h.1, h.2.1⟩
theorem al_text (w : World) : Calls Try.prog 18 #[.agg #[.int .i64 0, .int .i64 3]] w fun e w' => e = .returned (.string ⟨#[51]⟩) ∧ Below w.heap.size w w' := by
  have h := ctext_any 0 3 w ⟨by decide, by decide⟩
  rw [show ktext (key 0 3) = [51] from by decide +kernel] at h
  exact h
theorem first_b (w : World) : Calls Try.prog 13 #[] w fun e w' => e = .returned (.agg #[.int .i64 (-1), .int .i64 0]) ∧ Below w.heap.size w w' := (first_any w).mono fun _ _ h => ⟨h.1, h.2.1⟩
theorem last_b (w : World) : Calls Try.prog 17 #[] w fun e w' => e = .returned (.agg #[.int .i64 1, .int .i64 0]) ∧ Below w.heap.size w w' := (last_any w).mono fun _ _ h => ⟨h.1, h.2.1⟩

set_option maxRecDepth 100000 in
set_option maxHeartbeats 2000000 in
theorem calive_any (w : World) : Calls Try.prog 4 #[] w fun e w' => e = .returned (.bool true) ∧ Below w.heap.size w w' := by
  have mx := mixed
  have eqc := eql_cut
  go_enter Try.func4, Try.ntmps4
  go_wp2_with fail
  refine (al_read _).mono ?_
  rintro e w1 ⟨rfl, hB1⟩
  have hb := heap_alloc_new w1 (.cells #[.int .i64 1, .int .i64 0] 27)
  have hL := bt hB1 ((Below.refl _ _).alloc (Nat.le_refl _) (.cells #[.int .i64 1, .int .i64 0] 27))
  have HB := Lib.hid hb
  clear hb
  go_wp2_with fail
  refine (first_b _).mono ?_
  rintro e w2 ⟨rfl, hB2⟩
  go_wp2_with fail
  refine (al_next _).mono ?_
  rintro e w3 ⟨rfl, hB3⟩
  have hb := ((bt hB2 hB3).block _ (lt_of_block HB.out)).trans HB.out
  have hL3 := bt (bt hL hB2) hB3
  obtain ⟨p1, p2⟩ := cut_regrown hb
  clear hb HB hL hB1 hB2 hB3
  go_wp2_with fail
  refine wp_region_quiet_below (by assumption) (by kernel_rfl) ?_
  repeat (go_big_quiet_step (first
    | (go_at_call 15; exact Calls.regrown_of (rleast_any _))
    | (go_at_call 13; exact Calls.regrown_of (first_b _))
    | (go_at_call 17; exact Calls.regrown_of (last_b _))
    | (go_at_call 14; first | exact Calls.regrown_of (al_ahead3 _) | exact Calls.regrown_of (al_ahead_least _))
    | (go_at_call 16; first | exact Calls.regrown_of (al_behind2 _) | exact Calls.regrown_of (al_behind_top _))
    | (go_at_call 6; exact Calls.regrown_of (al_compare _))
    | (go_at_call 18; exact Calls.regrown_of (al_text _))))
  refine wpQuiet_nil ?_
  intro _ hw'
  obtain ⟨⟨nq, osq⟩, hw''⟩ := hw'
  subst hw''
  have hL4 := bt hL3 (below_regrown w3 nq osq)
  go_wp2_with fail
  go_ret
  exact ⟨rfl, hL4⟩
end Go.Proofs.Ytbpplhlkpfdegaa
