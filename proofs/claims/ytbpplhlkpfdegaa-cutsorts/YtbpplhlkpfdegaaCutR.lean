/- Contracts of the reference's cuts. -/
import Derived.Test.YtbpplhlkpfdegaaCutC
import Derived.Lib.QuietBelow
import Derived.BigQuiet
namespace Go.Proofs.Ytbpplhlkpfdegaa
open Go.RowKit Go.Sort Go.Proofs.Ytbpplhlkpfdegaa.Bo
set_option linter.unusedVariables false

theorem rleast_any (w : World) : Calls Try.prog 15 #[] w fun e w' => e = .returned (.int .i64 (-9223372036854775808)) ∧ Below w.heap.size w w' := by
  go_enter Try.func15, Try.ntmps15
  go_wp2
  go_ret
  exact ⟨rfl, Below.refl _ _⟩

/-- A cut in a block: its two cells in every world in which what was there stays. -/
theorem cut_regrown {X : World} {b : Nat} {x y : Value} {t : TypeId} (h : X.heap[b]? = some (.cells #[x, y] t (0, 0))) :
    (∀ d os, (grow (redrawn X d) os).cell? ⟨b, 0, none⟩ = some x) ∧ (∀ d os, (grow (redrawn X d) os).cell? ⟨b, 1, none⟩ = some y) :=
  ⟨cell_regrown (two_cells h).1, cell_regrown (two_cells h).2.1⟩

set_option maxRecDepth 100000 in
set_option maxHeartbeats 1000000 in
theorem rcanon_neg (s a : Int) (w : World) (h : s < 0) :
    Calls Try.prog 24 #[.agg #[.int .i64 s, .int .i64 a]] w fun e w' => e = .returned (.agg #[.int .i64 (-1), .int .i64 0]) ∧ Below w.heap.size w w' := by
  have mx := mixed
  have t1 : decide (s < 0) = true := decide_eq_true h
  clear h
  go_enter Try.func24, Try.ntmps24
  go_wp2_with fail
  have hb1 : ((w.alloc (.cells #[.int .i64 s, .int .i64 a] 27)).alloc (.cells #[.int .i64 0, .int .i64 0] 27)).heap[w.heap.size]? = some (.cells #[.int .i64 s, .int .i64 a] 27 (0, 0)) := heap_alloc2_old _ _ _
  have hb2 : ((w.alloc (.cells #[.int .i64 s, .int .i64 a] 27)).alloc (.cells #[.int .i64 0, .int .i64 0] 27)).heap[w.heap.size + 1]? = some (.cells #[.int .i64 0, .int .i64 0] 27 (0, 0)) := heap_alloc2_new _ _ _
  have hL : Below w.heap.size w ((w.alloc (.cells #[.int .i64 s, .int .i64 a] 27)).alloc (.cells #[.int .i64 0, .int .i64 0] 27)) := ((Below.refl _ _).alloc (Nat.le_refl _) _).alloc (by simp) _
  generalize (w.alloc (.cells #[.int .i64 s, .int .i64 a] 27)).alloc (.cells #[.int .i64 0, .int .i64 0] 27) = X at *
  obtain ⟨p1, p2⟩ := cut_regrown hb1
  have HB1 := Lib.hid hb1
  have HB2 := Lib.hid hb2
  clear hb1 hb2
  refine wp_region_quiet_below (by assumption) (by kernel_rfl) ?_
  repeat (go_big_quiet_step (first | (go_at_call 15; exact Calls.regrown_of (rleast_any _))))
  refine wpQuiet_nil ?_
  intro _ hw'
  obtain ⟨⟨nq, osq⟩, hw''⟩ := hw'
  subst hw''

  have hB := below_regrown X nq osq
  have hb1 := (hB.block _ (lt_of_block HB1.out)).trans HB1.out
  have hb2 := (hB.block _ (lt_of_block HB2.out)).trans HB2.out
  have hL2 := bt hL hB
  show Exit.then _ _ Exit.normal _ (grow (redrawn X nq) osq)
  generalize grow (redrawn X nq) osq = Y at *
  obtain ⟨c1, c2, _, _⟩ := two_cells hb1
  obtain ⟨d1, d2, d3, d4⟩ := two_cells hb2
  obtain ⟨q1, q2, _, _⟩ := two_cells (two_put (p := .int .i64 (-1)) (q := .int .i64 0) hb2)
  have hL3 := (hL2.setCell (p := ⟨w.heap.size + 1, 0, none⟩) (by simp) (.int .i64 (-1))).setCell (p := ⟨w.heap.size + 1, 1, none⟩) (by simp) (.int .i64 0)
  clear p1 p2 hb1 hb2 HB1 HB2
  go_wp2_with fail
  refine bodyPost_ret (v := .agg #[.int .i64 (-1), .int .i64 0]) (by simp [results, Try.results24, go_sem, q1, q2]) rfl ?_
  exact ⟨rfl, hL3⟩
set_option maxRecDepth 100000 in
theorem rcanon_least  (w : World)  :
    Calls Try.prog 24 #[.agg #[.int .i64 0, .int .i64 (-9223372036854775808)]] w fun e w' => e = .returned (.agg #[.int .i64 (-1), .int .i64 0]) ∧ Below w.heap.size w w' := by
  have mx := mixed

  go_enter Try.func24, Try.ntmps24
  go_wp2_with fail
  have hb1 : ((w.alloc (.cells #[.int .i64 0, .int .i64 (-9223372036854775808)] 27)).alloc (.cells #[.int .i64 0, .int .i64 0] 27)).heap[w.heap.size]? = some (.cells #[.int .i64 0, .int .i64 (-9223372036854775808)] 27 (0, 0)) := heap_alloc2_old _ _ _
  have hb2 : ((w.alloc (.cells #[.int .i64 0, .int .i64 (-9223372036854775808)] 27)).alloc (.cells #[.int .i64 0, .int .i64 0] 27)).heap[w.heap.size + 1]? = some (.cells #[.int .i64 0, .int .i64 0] 27 (0, 0)) := heap_alloc2_new _ _ _
  have hL : Below w.heap.size w ((w.alloc (.cells #[.int .i64 0, .int .i64 (-9223372036854775808)] 27)).alloc (.cells #[.int .i64 0, .int .i64 0] 27)) := ((Below.refl _ _).alloc (Nat.le_refl _) _).alloc (by simp) _
  generalize (w.alloc (.cells #[.int .i64 0, .int .i64 (-9223372036854775808)] 27)).alloc (.cells #[.int .i64 0, .int .i64 0] 27) = X at *
  obtain ⟨p1, p2⟩ := cut_regrown hb1
  have HB1 := Lib.hid hb1
  have HB2 := Lib.hid hb2
  clear hb1 hb2
  refine wp_region_quiet_below (by assumption) (by kernel_rfl) ?_
  repeat (go_big_quiet_step (first | (go_at_call 15; exact Calls.regrown_of (rleast_any _))))
  refine wpQuiet_nil ?_
  intro _ hw'
  obtain ⟨⟨nq, osq⟩, hw''⟩ := hw'
  subst hw''

  have hB := below_regrown X nq osq
  have hb1 := (hB.block _ (lt_of_block HB1.out)).trans HB1.out
  have hb2 := (hB.block _ (lt_of_block HB2.out)).trans HB2.out
  have hL2 := bt hL hB
  show Exit.then _ _ Exit.normal _ (grow (redrawn X nq) osq)
  generalize grow (redrawn X nq) osq = Y at *
  obtain ⟨c1, c2, _, _⟩ := two_cells hb1
  obtain ⟨d1, d2, d3, d4⟩ := two_cells hb2
  obtain ⟨q1, q2, _, _⟩ := two_cells (two_put (p := .int .i64 (-1)) (q := .int .i64 0) hb2)
  have hL3 := (hL2.setCell (p := ⟨w.heap.size + 1, 0, none⟩) (by simp) (.int .i64 (-1))).setCell (p := ⟨w.heap.size + 1, 1, none⟩) (by simp) (.int .i64 0)
  clear p1 p2 hb1 hb2 HB1 HB2
  go_wp2_with fail
  refine bodyPost_ret (v := .agg #[.int .i64 (-1), .int .i64 0]) (by simp [results, Try.results24, go_sem, q1, q2]) rfl ?_
  exact ⟨rfl, hL3⟩
set_option maxRecDepth 100000 in
theorem rcanon_pos (s a : Int) (w : World) (h : 0 < s) :
    Calls Try.prog 24 #[.agg #[.int .i64 s, .int .i64 a]] w fun e w' => e = .returned (.agg #[.int .i64 1, .int .i64 0]) ∧ Below w.heap.size w w' := by
  have mx := mixed
  have t1 : decide (s < 0) = false := decide_eq_false (by omega)
  have t2 : (s == 0) = false := beq_eq_false_iff_ne.2 (by omega)
  have t3 : decide (0 < s) = true := decide_eq_true h
  clear h
  go_enter Try.func24, Try.ntmps24
  go_wp2_with fail
  have hb1 : ((w.alloc (.cells #[.int .i64 s, .int .i64 a] 27)).alloc (.cells #[.int .i64 0, .int .i64 0] 27)).heap[w.heap.size]? = some (.cells #[.int .i64 s, .int .i64 a] 27 (0, 0)) := heap_alloc2_old _ _ _
  have hb2 : ((w.alloc (.cells #[.int .i64 s, .int .i64 a] 27)).alloc (.cells #[.int .i64 0, .int .i64 0] 27)).heap[w.heap.size + 1]? = some (.cells #[.int .i64 0, .int .i64 0] 27 (0, 0)) := heap_alloc2_new _ _ _
  have hL : Below w.heap.size w ((w.alloc (.cells #[.int .i64 s, .int .i64 a] 27)).alloc (.cells #[.int .i64 0, .int .i64 0] 27)) := ((Below.refl _ _).alloc (Nat.le_refl _) _).alloc (by simp) _
  generalize (w.alloc (.cells #[.int .i64 s, .int .i64 a] 27)).alloc (.cells #[.int .i64 0, .int .i64 0] 27) = X at *
  obtain ⟨p1, p2⟩ := cut_regrown hb1
  have HB1 := Lib.hid hb1
  have HB2 := Lib.hid hb2
  clear hb1 hb2
  refine wp_region_quiet_below (by assumption) (by kernel_rfl) ?_
  repeat (go_big_quiet_step (first | (go_at_call 15; exact Calls.regrown_of (rleast_any _))))
  refine wpQuiet_nil ?_
  intro _ hw'
  obtain ⟨⟨nq, osq⟩, hw''⟩ := hw'
  subst hw''

  have hB := below_regrown X nq osq
  have hb1 := (hB.block _ (lt_of_block HB1.out)).trans HB1.out
  have hb2 := (hB.block _ (lt_of_block HB2.out)).trans HB2.out
  have hL2 := bt hL hB
  show Exit.then _ _ Exit.normal _ (grow (redrawn X nq) osq)
  generalize grow (redrawn X nq) osq = Y at *
  obtain ⟨c1, c2, _, _⟩ := two_cells hb1
  obtain ⟨d1, d2, d3, d4⟩ := two_cells hb2
  obtain ⟨q1, q2, _, _⟩ := two_cells (two_put (p := .int .i64 1) (q := .int .i64 0) hb2)
  have hL3 := (hL2.setCell (p := ⟨w.heap.size + 1, 0, none⟩) (by simp) (.int .i64 1)).setCell (p := ⟨w.heap.size + 1, 1, none⟩) (by simp) (.int .i64 0)
  clear p1 p2 hb1 hb2 HB1 HB2
  go_wp2_with fail
  refine bodyPost_ret (v := .agg #[.int .i64 1, .int .i64 0]) (by simp [results, Try.results24, go_sem, q1, q2]) rfl ?_
  exact ⟨rfl, hL3⟩
set_option maxRecDepth 100000 in
theorem rcanon_mid (a : Int) (w : World) (h : a ≠ -9223372036854775808) :
    Calls Try.prog 24 #[.agg #[.int .i64 0, .int .i64 a]] w fun e w' => e = .returned (.agg #[.int .i64 0, .int .i64 a]) ∧ Below w.heap.size w w' := by
  have mx := mixed
  have t2 : (a == -9223372036854775808) = false := beq_eq_false_iff_ne.2 h
  clear h
  go_enter Try.func24, Try.ntmps24
  go_wp2_with fail
  have hb1 : ((w.alloc (.cells #[.int .i64 0, .int .i64 a] 27)).alloc (.cells #[.int .i64 0, .int .i64 0] 27)).heap[w.heap.size]? = some (.cells #[.int .i64 0, .int .i64 a] 27 (0, 0)) := heap_alloc2_old _ _ _
  have hb2 : ((w.alloc (.cells #[.int .i64 0, .int .i64 a] 27)).alloc (.cells #[.int .i64 0, .int .i64 0] 27)).heap[w.heap.size + 1]? = some (.cells #[.int .i64 0, .int .i64 0] 27 (0, 0)) := heap_alloc2_new _ _ _
  have hL : Below w.heap.size w ((w.alloc (.cells #[.int .i64 0, .int .i64 a] 27)).alloc (.cells #[.int .i64 0, .int .i64 0] 27)) := ((Below.refl _ _).alloc (Nat.le_refl _) _).alloc (by simp) _
  generalize (w.alloc (.cells #[.int .i64 0, .int .i64 a] 27)).alloc (.cells #[.int .i64 0, .int .i64 0] 27) = X at *
  obtain ⟨p1, p2⟩ := cut_regrown hb1
  have HB1 := Lib.hid hb1
  have HB2 := Lib.hid hb2
  clear hb1 hb2
  refine wp_region_quiet_below (by assumption) (by kernel_rfl) ?_
  repeat (go_big_quiet_step (first | (go_at_call 15; exact Calls.regrown_of (rleast_any _))))
  refine wpQuiet_nil ?_
  intro _ hw'
  obtain ⟨⟨nq, osq⟩, hw''⟩ := hw'
  subst hw''

  have hB := below_regrown X nq osq
  have hb1 := (hB.block _ (lt_of_block HB1.out)).trans HB1.out
  have hb2 := (hB.block _ (lt_of_block HB2.out)).trans HB2.out
  have hL2 := bt hL hB
  show Exit.then _ _ Exit.normal _ (grow (redrawn X nq) osq)
  generalize grow (redrawn X nq) osq = Y at *
  obtain ⟨c1, c2, _, _⟩ := two_cells hb1
  obtain ⟨d1, d2, d3, d4⟩ := two_cells hb2
  obtain ⟨q1, q2, _, _⟩ := two_cells (two_put (p := .int .i64 0) (q := .int .i64 a) hb2)
  have hL3 := (hL2.setCell (p := ⟨w.heap.size + 1, 0, none⟩) (by simp) (.int .i64 0)).setCell (p := ⟨w.heap.size + 1, 1, none⟩) (by simp) (.int .i64 a)
  clear p1 p2 hb1 hb2 HB1 HB2
  go_wp2_with fail
  refine bodyPost_ret (v := .agg #[.int .i64 0, .int .i64 a]) (by simp [results, Try.results24, go_sem, q1, q2]) rfl ?_
  exact ⟨rfl, hL3⟩
theorem rcanon_any (s a : Int) (w : World) (ha : I64 a) :
    Calls Try.prog 24 #[.agg #[.int .i64 s, .int .i64 a]] w fun e w' => e = .returned (.agg #[.int .i64 (sd (key s a)), .int .i64 (pa (key s a))]) ∧ Below w.heap.size w w' := by
  by_cases h1 : s < 0
  · rw [key_neg s a h1, sd_lo, pa_lo]; exact rcanon_neg s a w h1
  · by_cases h2 : 0 < s
    · rw [key_pos s a h2, sd_hi, pa_hi]; exact rcanon_pos s a w h2
    · obtain rfl : s = 0 := by omega
      rw [key_zero]
      by_cases h3 : a = -9223372036854775808
      · subst h3; rw [sd_lo, pa_lo]; exact rcanon_least w
      · have h4 : a ≠ 9223372036854775808 := by unfold I64 at ha; omega
        rw [sd_mid a h3 h4, pa_mid a h3 h4]; exact rcanon_mid a w h3
end Go.Proofs.Ytbpplhlkpfdegaa
