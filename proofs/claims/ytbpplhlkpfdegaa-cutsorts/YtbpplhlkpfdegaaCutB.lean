/- Contracts of package cut: Right, Next, Prev, Ahead, Behind. -/
import Derived.Test.YtbpplhlkpfdegaaCutA
namespace Go.Proofs.Ytbpplhlkpfdegaa
open Go.RowKit Go.Sort Go.Proofs.Ytbpplhlkpfdegaa.Bo
set_option linter.unusedVariables false

theorem eql_cut (s a t b : Int) (w : World) : Sem.run Try.prog (binOp .eql 27 (.agg #[.int .i64 s, .int .i64 a]) (.agg #[.int .i64 t, .int .i64 b])) w = .ok (.bool (s == t && a == b)) w := by
  have hS : Try.prog.underlying 27 = some (.struct (Try.prog.fieldsOf 27)) := by kernel_rfl
  have hp : Try.prog.stoodInHeld 27 = false := by kernel_rfl
  have u3 := Try.underlying3
  have u2 := Try.underlying2
  rw [run_eql_struct, show (10000 : Nat) = 9999 + 1 from rfl, run_equalIn_agg w 9999 27 _ _ hS hp]
  simp only [Program.fieldsOf, Try.underlying27]
  go_simp
  by_cases h1 : s = t <;> by_cases h2 : a = b <;> simp [h1, h2]

theorem mixed : Try.prog.follows .mixedOrders = true := by kernel_rfl
theorem first_g (w : World) : Calls Try.prog 13 #[] w fun e w' => e = .returned (.agg #[.int .i64 (-1), .int .i64 0]) ∧ ∃ q os, w' = grow (w.drewN q) os := (first_any w).mono fun _ _ h => ⟨h.1, h.2.grown⟩
theorem last_g (w : World) : Calls Try.prog 17 #[] w fun e w' => e = .returned (.agg #[.int .i64 1, .int .i64 0]) ∧ ∃ q os, w' = grow (w.drewN q) os := (last_any w).mono fun _ _ h => ⟨h.1, h.2.grown⟩

/-- A cut in a block: its two cells in every world that only lays and draws behind it. -/
theorem cut_grown {X : World} {b : Nat} {x y : Value} {t : TypeId} (h : X.heap[b]? = some (.cells #[x, y] t (0, 0))) :
    (∀ n os, (grow (X.drewN n) os).cell? ⟨b, 0, none⟩ = some x) ∧ (∀ n os, (grow (X.drewN n) os).cell? ⟨b, 1, none⟩ = some y) :=
  ⟨cell_grown (lt_of_block h) (two_cells h).1, cell_grown (lt_of_block h) (two_cells h).2.1⟩

theorem ret_ib {a a' : Int} {b b' : Bool} (h : a' = a ∧ b' = b) : Ending.returned (.tuple #[.int .i64 a, .bool b]) = .returned (.tuple #[.int .i64 a', .bool b']) := by rw [h.1, h.2]

set_option maxRecDepth 100000 in
theorem next_any (s a : Int) (w : World) (ha : I64 a) :
    Calls Try.prog 12 #[.agg #[.int .i64 s, .int .i64 a]] w fun e w' => e = .returned (.tuple #[.int .i64 (nx (key s a)), .bool (nxb (key s a))]) ∧ Lays w w' := by
  have mx := mixed
  have HC := Lib.hid (fun W => canon_any s a W ha)
  have hk := key_ky s a ha
  generalize key s a = k at *
  have hcases := ky_cases k hk
  have eqc := eql_cut
  rcases hcases with ⟨rfl, h1, h2⟩ | ⟨rfl, h1, h2⟩ | ⟨g1, g2, h1, h2⟩
  · rw [h1, h2] at HC
    clear h1 h2 hk
    go_enter Try.func12, Try.ntmps12
    go_wp2_with fail
    refine (HC.out _).mono ?_
    rintro e w1 ⟨rfl, hL⟩
    have hb : w1.heap[w.heap.size]? = some (.cells #[.int .i64 s, .int .i64 a] 27 (0, 0)) := by rw [hL.1.block _ (by simp)]; exact heap_alloc_new _ _
    have hL1 := ((((Lays.refl _).alloc _).trans hL).setCell (p := ⟨w.heap.size, 0, none⟩) (by simp) (.int .i64 (-1))).setCell (p := ⟨w.heap.size, 1, none⟩) (by simp) (.int .i64 0)
    have hb2 := two_put (p := .int .i64 (-1)) (q := .int .i64 0) hb
    obtain ⟨q1, q2, q3, q4⟩ := two_cells hb
    have HB := Lib.hid hb2
    clear hb hb2
    go_wp2_with fail
    have hb2 := HB.out
    generalize (w1.setCell ⟨w.heap.size, 0, none⟩ (.int .i64 (-1))).setCell ⟨w.heap.size, 1, none⟩ (.int .i64 0) = X at *
    obtain ⟨p1, p2⟩ := cut_grown hb2
    clear q1 q2 q3 q4 hb2 HC
    go_quiet_grown (first | (go_at_call 13; exact Calls.grown_of (first_g _)))
    have hL2 := hL1.trans (lays_grow X nq osq)
    go_wp2_with fail
    go_ret2
    exact ⟨ret_ib (nx_in _ (by decide)), hL2⟩
  · rw [h1, h2] at HC
    clear h1 h2 hk
    go_enter Try.func12, Try.ntmps12
    go_wp2_with fail
    refine (HC.out _).mono ?_
    rintro e w1 ⟨rfl, hL⟩
    have hb : w1.heap[w.heap.size]? = some (.cells #[.int .i64 s, .int .i64 a] 27 (0, 0)) := by rw [hL.1.block _ (by simp)]; exact heap_alloc_new _ _
    have hL1 := ((((Lays.refl _).alloc _).trans hL).setCell (p := ⟨w.heap.size, 0, none⟩) (by simp) (.int .i64 1)).setCell (p := ⟨w.heap.size, 1, none⟩) (by simp) (.int .i64 0)
    have hb2 := two_put (p := .int .i64 1) (q := .int .i64 0) hb
    obtain ⟨q1, q2, q3, q4⟩ := two_cells hb
    have HB := Lib.hid hb2
    clear hb hb2
    go_wp2_with fail
    have hb2 := HB.out
    generalize (w1.setCell ⟨w.heap.size, 0, none⟩ (.int .i64 1)).setCell ⟨w.heap.size, 1, none⟩ (.int .i64 0) = X at *
    obtain ⟨p1, p2⟩ := cut_grown hb2
    clear q1 q2 q3 q4 hb2 HC
    go_quiet_grown (first | (go_at_call 13; exact Calls.grown_of (first_g _)))
    have hY : (grow (X.drewN nq) osq).heap[w.heap.size]? = some (.cells #[.int .i64 1, .int .i64 0] 27 (0, 0)) := by rw [(lays_grow X nq osq).1.block _ (lt_of_block HB.out)]; exact HB.out
    have hL2 := hL1.trans (lays_grow X nq osq)
    have HY := Lib.hid hY
    clear p1 p2 hY HB hL1
    go_wp2_with fail
    generalize grow (X.drewN nq) osq = Y at *
    obtain ⟨p1, p2⟩ := cut_grown HY.out
    go_quiet_grown (first | (go_at_call 17; exact Calls.grown_of (last_g _)))
    have hL3 := hL2.trans (lays_grow Y nq osq)
    go_wp2_with fail
    go_ret2
    exact ⟨ret_ib nx_hi, hL3⟩
  · rw [h1, h2] at HC
    clear h1 h2 hk
    go_enter Try.func12, Try.ntmps12
    go_wp2_with fail
    refine (HC.out _).mono ?_
    rintro e w1 ⟨rfl, hL⟩
    have hb : w1.heap[w.heap.size]? = some (.cells #[.int .i64 s, .int .i64 a] 27 (0, 0)) := by rw [hL.1.block _ (by simp)]; exact heap_alloc_new _ _
    have hL1 := ((((Lays.refl _).alloc _).trans hL).setCell (p := ⟨w.heap.size, 0, none⟩) (by simp) (.int .i64 0)).setCell (p := ⟨w.heap.size, 1, none⟩) (by simp) (.int .i64 k)
    have hb2 := two_put (p := .int .i64 0) (q := .int .i64 k) hb
    obtain ⟨q1, q2, q3, q4⟩ := two_cells hb
    have HB := Lib.hid hb2
    clear hb hb2
    go_wp2_with fail
    have hb2 := HB.out
    generalize (w1.setCell ⟨w.heap.size, 0, none⟩ (.int .i64 0)).setCell ⟨w.heap.size, 1, none⟩ (.int .i64 k) = X at *
    obtain ⟨p1, p2⟩ := cut_grown hb2
    clear q1 q2 q3 q4 hb2 HC
    go_quiet_grown (first | (go_at_call 13; exact Calls.grown_of (first_g _)))
    have hY : (grow (X.drewN nq) osq).heap[w.heap.size]? = some (.cells #[.int .i64 0, .int .i64 k] 27 (0, 0)) := by rw [(lays_grow X nq osq).1.block _ (lt_of_block HB.out)]; exact HB.out
    have hL2 := hL1.trans (lays_grow X nq osq)
    have HY := Lib.hid hY
    clear p1 p2 hY HB hL1
    go_wp2_with fail
    generalize grow (X.drewN nq) osq = Y at *
    obtain ⟨p1, p2⟩ := cut_grown HY.out
    go_quiet_grown (first | (go_at_call 17; exact Calls.grown_of (last_g _)))
    have hL3 := hL2.trans (lays_grow Y nq osq)
    go_wp2_with fail
    go_ret2
    exact ⟨ret_ib (nx_in k (by omega)), hL3⟩
theorem canon_g (s a : Int) (w : World) (ha : I64 a) : Calls Try.prog 19 #[.agg #[.int .i64 s, .int .i64 a]] w fun e w' => e = .returned (.agg #[.int .i64 (sd (key s a)), .int .i64 (pa (key s a))]) ∧ ∃ q os, w' = grow (w.drewN q) os := (canon_any s a w ha).mono fun _ _ h => ⟨h.1, h.2.grown⟩
theorem ahead_any (n : Int) (w : World) (hn : I64 n) :
    Calls Try.prog 14 #[.int .i64 n] w fun e w' => e = .returned (.agg #[.int .i64 (sd n), .int .i64 (pa n)]) ∧ Lays w w' := by
  have HC := Lib.hid (fun W => canon_any 0 n W hn)
  rw [key_zero] at HC
  generalize sd n = t at *
  generalize pa n = b at *
  go_enter Try.func14, Try.ntmps14
  go_wp2_with fail
  refine (HC.out _).mono ?_
  rintro e w1 ⟨rfl, hL⟩
  have hb : w1.heap[w.heap.size]? = some (.cells #[.int .i64 0, .int .i64 0] 27 (0, 0)) := by rw [hL.1.block _ (by simp)]; exact heap_alloc_new _ _
  have hL1 := (((Lays.refl _).alloc _).trans hL).setCell (p := ⟨w.heap.size, 0, none⟩) (by simp) (.int .i64 t) |>.setCell (p := ⟨w.heap.size, 1, none⟩) (by simp) (.int .i64 b)
  obtain ⟨p1, p2, _, _⟩ := two_cells (two_put (p := .int .i64 t) (q := .int .i64 b) hb)
  obtain ⟨q1, q2, q3, q4⟩ := two_cells hb
  clear hb
  go_wp2_with fail
  refine bodyPost_ret (v := .agg #[.int .i64 t, .int .i64 b]) (by simp [results, Try.results14, go_sem, p1, p2]) rfl ?_
  exact ⟨rfl, hL1⟩
theorem behind_any (n : Int) (w : World) (hn : I64 n) :
    Calls Try.prog 16 #[.int .i64 n] w fun e w' => e = .returned (.agg #[.int .i64 (sd (n + 1)), .int .i64 (pa (n + 1))]) ∧ Lays w w' := by
  unfold I64 at hn
  by_cases h : n = 9223372036854775807
  · subst h
    rw [show (9223372036854775807 : Int) + 1 = 9223372036854775808 from by decide, sd_hi, pa_hi]
    go_enter Try.func16, Try.ntmps16
    go_wp2_with fail
    refine (last_any _).mono ?_
    rintro e w1 ⟨rfl, hL⟩
    have hb : w1.heap[w.heap.size]? = some (.cells #[.int .i64 0, .int .i64 0] 27 (0, 0)) := by rw [hL.1.block _ (by simp)]; exact heap_alloc_new _ _
    have hL1 := (((Lays.refl _).alloc _).trans hL).setCell (p := ⟨w.heap.size, 0, none⟩) (by simp) (.int .i64 1) |>.setCell (p := ⟨w.heap.size, 1, none⟩) (by simp) (.int .i64 0)
    obtain ⟨p1, p2, _, _⟩ := two_cells (two_put (p := .int .i64 1) (q := .int .i64 0) hb)
    obtain ⟨q1, q2, q3, q4⟩ := two_cells hb
    clear hb
    go_wp2_with fail
    refine bodyPost_ret (v := .agg #[.int .i64 1, .int .i64 0]) (by simp [results, Try.results16, go_sem, p1, p2]) rfl ?_
    exact ⟨rfl, hL1⟩
  · rw [sd_mid (n + 1) (by omega) (by omega), pa_mid (n + 1) (by omega) (by omega)]
    have t1 : (n == 9223372036854775807) = false := beq_eq_false_iff_ne.2 h
    go_enter Try.func16, Try.ntmps16
    go_wp2_with fail
    refine bodyPost_ret (v := .agg #[.int .i64 0, .int .i64 (n + 1)]) (by simp [results, Try.results16, go_sem]) rfl ?_
    exact ⟨rfl, (Lays.refl _).alloc _⟩
end Go.Proofs.Ytbpplhlkpfdegaa
