/- A part of the proof: contracts of the functions that the statements reach. -/
import Derived.Test.YtkokilbnhhmicaaRows
import Derived.Test.YtkokilbnhhmicaaBA
import Derived.Deep.CutRange
import Derived.RegionTactic
import Derived.Lib.QuietBelow
import Derived.BigQuiet
import Derived.OpenShut

/- Contract of cut.Compare. -/
namespace Go.Proofs.Ytkokilbnhhmicaa
open Go.RowKit Go.Sort Go.Proofs.Ytkokilbnhhmicaa.Bo
set_option linter.unusedVariables false

theorem ret_cmp {a b : Int} (h : a = b) : Ending.returned (.int .i64 a) = .returned (.int .i64 b) := by rw [h]
theorem cmpi_any (x y : Int) (w : World) : Calls Try.prog 83 #[.int .i64 x, .int .i64 y] w fun e w' => e = .returned (.int .i64 (kcmp x y)) ∧ w = w' := by
  rcases Int.lt_trichotomy x y with h | h | h
  · have t1 : decide (x < y) = true := decide_eq_true h
    rw [kcmp_lt x y h]
    go_enter Try.func83, Try.ntmps83
    go_wp2
    go_ret
    exact ⟨rfl, rfl⟩
  · subst h
    rw [kcmp_eq x x rfl]
    have t1 : decide (x < x) = false := decide_eq_false (by omega)
    go_enter Try.func83, Try.ntmps83
    go_wp2
    go_ret
    exact ⟨rfl, rfl⟩
  · have t1 : decide (x < y) = false := decide_eq_false (by omega)
    have t2 : decide (y < x) = true := decide_eq_true h
    rw [kcmp_gt x y h]
    go_enter Try.func83, Try.ntmps83
    go_wp2
    go_ret
    exact ⟨rfl, rfl⟩

/-- The two cells of two boxes that lie side by side. -/
def Two (b : Nat) (s a t c : Int) (w : World) : Prop :=
  w.heap[b]? = some (.cells #[.int .i64 s, .int .i64 a] 23 (0, 0)) ∧ w.heap[b + 1]? = some (.cells #[.int .i64 t, .int .i64 c] 23 (0, 0))
theorem Two.below {b : Nat} {s a t c : Int} {w w' : World} (h : Two b s a t c w) (hb : Below w.heap.size w w') : Two b s a t c w' :=
  ⟨(hb.block _ (lt_of_block h.1)).trans h.1, (hb.block _ (lt_of_block h.2)).trans h.2⟩
theorem Two.cells {b : Nat} {s a t c : Int} {w : World} (h : Two b s a t c w) : w.cell? ⟨b, 0, none⟩ = some (.int .i64 s) ∧ w.cell? ⟨b, 1, none⟩ = some (.int .i64 a) ∧ w.cell? ⟨b + 1, 0, none⟩ = some (.int .i64 t) ∧ w.cell? ⟨b + 1, 1, none⟩ = some (.int .i64 c) ∧
    w.frozen? ⟨b, 0, none⟩ = false ∧ w.frozen? ⟨b, 1, none⟩ = false ∧ w.frozen? ⟨b + 1, 0, none⟩ = false ∧ w.frozen? ⟨b + 1, 1, none⟩ = false :=
  ⟨(two_cells h.1).1, (two_cells h.1).2.1, (two_cells h.2).1, (two_cells h.2).2.1, (two_cells h.1).2.2.1, (two_cells h.1).2.2.2, (two_cells h.2).2.2.1, (two_cells h.2).2.2.2⟩
theorem Two.put {b : Nat} {s a t c : Int} {w : World} (h : Two b s a t c w) (s' a' t' c' : Int) :
    Two b s' a' t' c' ((((w.setCell ⟨b, 0, none⟩ (.int .i64 s')).setCell ⟨b, 1, none⟩ (.int .i64 a')).setCell ⟨b + 1, 0, none⟩ (.int .i64 t')).setCell ⟨b + 1, 1, none⟩ (.int .i64 c')) := by
  refine ⟨?_, ?_⟩
  · rw [heap_setCell_other _ _ _ _ (by simp), heap_setCell_other _ _ _ _ (by simp)]; exact two_put h.1
  · refine two_put (x := .int .i64 t) (y := .int .i64 c) ?_
    rw [heap_setCell_other _ _ _ _ (by simp), heap_setCell_other _ _ _ _ (by simp)]; exact h.2

set_option maxRecDepth 100000 in
set_option maxHeartbeats 1000000 in
theorem compare_any (s a t b : Int) (w : World) (ha : I64 a) (hb : I64 b) :
    Calls Try.prog 71 #[.agg #[.int .i64 s, .int .i64 a], .agg #[.int .i64 t, .int .i64 b]] w fun e w' => e = .returned (.int .i64 (kcmp (key s a) (key t b))) ∧ Lays w w' := by
  have mx := mixed
  have HC := Lib.hid (fun W => canon_any s a W ha)
  have HD := Lib.hid (fun W => canon_any t b W hb)
  have hk := key_ky s a ha
  have hl := key_ky t b hb
  generalize key s a = k at *
  generalize key t b = l at *
  have HE : Hid (∃ x y u v, x = sd k ∧ y = pa k ∧ u = sd l ∧ v = pa l) := ⟨_, _, _, _, rfl, rfl, rfl, rfl⟩
  obtain ⟨x, y, u, v, e1, e2, e3, e4⟩ := HE.out
  rw [← e1, ← e2] at HC
  rw [← e3, ← e4] at HD
  have E := Lib.hid (And.intro e1 (And.intro e2 (And.intro e3 e4)))
  clear e1 e2 e3 e4 HE
  have eqc := eql_cut
  go_enter Try.func71, Try.ntmps71
  go_upto_region 1 with fail
  have hT0 : Two w.heap.size s a t b ((w.alloc (.cells #[.int .i64 s, .int .i64 a] 23)).alloc (.cells #[.int .i64 t, .int .i64 b] 23)) := ⟨heap_alloc2_old _ _ _, heap_alloc2_new _ _ _⟩
  have hL0 := ((Lays.refl w).alloc (.cells #[.int .i64 s, .int .i64 a] 23)).alloc (.cells #[.int .i64 t, .int .i64 b] 23)
  generalize (w.alloc (.cells #[.int .i64 s, .int .i64 a] 23)).alloc (.cells #[.int .i64 t, .int .i64 b] 23) = X at *
  have HT := Lib.hid hT0
  go_cut [] from 5 to 35 (fun wx => Two w.heap.size x y u v wx ∧ Lays w wx)
  case first =>
    obtain ⟨p1, p2, p3, p4, p5, p6, p7, p8⟩ := hT0.cells
    clear hT0
    go_region_with (first
      | (go_at_call 55; (with_reducible refine (HC.out _).mono ?_); rintro e x4 ⟨rfl, hL4'⟩; have hL4 := (Lays.refl X).drew.trans hL4'; have hT4 := Lib.hid (HT.out.below hL4.1); obtain ⟨c1, c2, c3, c4, c5, c6, c7, c8⟩ := hT4.out.cells; clear hL4')
      | (go_at_call 55; (with_reducible refine (HD.out _).mono ?_); rintro e x5 ⟨rfl, hL5⟩; have hT5 := Lib.hid (hT4.out.below hL5.1); obtain ⟨d1, d2, d3, d4, d5, d6, d7, d8⟩ := hT5.out.cells))
    all_goals (go_wp2_with fail; go_meet; exact ⟨hT5.out.put x y u v, ((((hL0.trans hL4).trans hL5).setCell (by simp) _).setCell (by simp) _).setCell (by simp) _ |>.setCell (by simp) _⟩)
  case rest =>
  obtain ⟨hT, hL⟩ := hcut
  obtain ⟨e1, e2, e3, e4⟩ := E.out
  clear HC HD HT hL0 hT0 ha hb
  generalize wc = Y at *
  rcases ky_cases k hk with ⟨hk1, g1, g2⟩ | ⟨hk1, g1, g2⟩ | ⟨hk1, hk2, g1, g2⟩
  · rw [g1] at e1
    rw [g2] at e2
    subst e1 e2
    clear g1 g2 hk
    rcases ky_cases l hl with ⟨hl1, g1, g2⟩ | ⟨hl1, g1, g2⟩ | ⟨hl1, hl2, g1, g2⟩
    · rw [g1] at e3
      rw [g2] at e4
      subst e3 e4
      clear g1 g2 hl E
      obtain ⟨c1, c2, c3, c4, c5, c6, c7, c8⟩ := hT.cells
      go_wp2_with fail
      go_ret
      exact ⟨ret_cmp (kcmp_eq _ _ (by omega)).symm, hL⟩
    · rw [g1] at e3
      rw [g2] at e4
      subst e3 e4
      clear g1 g2 hl E
      obtain ⟨c1, c2, c3, c4, c5, c6, c7, c8⟩ := hT.cells
      go_wp2_with fail
      clear c1 c2 c3 c4 c5 c6 c7 c8
      obtain ⟨p1, p2⟩ := cut_grown hT.1
      obtain ⟨p3, p4⟩ := cut_grown hT.2
      go_quiet_grown (first | (go_at_call 70; exact Calls.grown_of (first_g _)) | (go_at_call 72; exact Calls.grown_of (last_g _)))
      have hL1 := hL.trans (lays_grow Y nq osq)
      go_wp2_with fail
      go_ret
      exact ⟨ret_cmp (kcmp_lt _ _ (by omega)).symm, hL1⟩
    · rw [g1] at e3
      rw [g2] at e4
      subst e3 e4
      clear g1 g2 hl E
      obtain ⟨c1, c2, c3, c4, c5, c6, c7, c8⟩ := hT.cells
      go_wp2_with fail
      clear c1 c2 c3 c4 c5 c6 c7 c8
      obtain ⟨p1, p2⟩ := cut_grown hT.1
      obtain ⟨p3, p4⟩ := cut_grown hT.2
      go_quiet_grown (first | (go_at_call 70; exact Calls.grown_of (first_g _)) | (go_at_call 72; exact Calls.grown_of (last_g _)))
      have hL1 := hL.trans (lays_grow Y nq osq)
      go_wp2_with fail
      go_ret
      exact ⟨ret_cmp (kcmp_lt _ _ (by omega)).symm, hL1⟩
  · rw [g1] at e1
    rw [g2] at e2
    subst e1 e2
    clear g1 g2 hk
    rcases ky_cases l hl with ⟨hl1, g1, g2⟩ | ⟨hl1, g1, g2⟩ | ⟨hl1, hl2, g1, g2⟩
    · rw [g1] at e3
      rw [g2] at e4
      subst e3 e4
      clear g1 g2 hl E
      obtain ⟨c1, c2, c3, c4, c5, c6, c7, c8⟩ := hT.cells
      go_wp2_with fail
      clear c1 c2 c3 c4 c5 c6 c7 c8
      obtain ⟨p1, p2⟩ := cut_grown hT.1
      obtain ⟨p3, p4⟩ := cut_grown hT.2
      go_quiet_grown (first | (go_at_call 70; exact Calls.grown_of (first_g _)) | (go_at_call 72; exact Calls.grown_of (last_g _)))
      have hT1 := hT.below (lays_grow Y nq osq).1
      have hL1 := hL.trans (lays_grow Y nq osq)
      clear p1 p2 p3 p4 hT hL
      go_wp2_with fail
      generalize grow (Y.drewN nq) osq = Z at *
      have hT := hT1
      have hL := hL1
      clear hT1 hL1
      obtain ⟨p1, p2⟩ := cut_grown hT.1
      obtain ⟨p3, p4⟩ := cut_grown hT.2
      go_quiet_grown (first | (go_at_call 70; exact Calls.grown_of (first_g _)) | (go_at_call 72; exact Calls.grown_of (last_g _)))
      have hL1 := hL.trans (lays_grow Z nq osq)
      go_wp2_with fail
      go_ret
      exact ⟨ret_cmp (kcmp_gt _ _ (by omega)).symm, hL1⟩
    · rw [g1] at e3
      rw [g2] at e4
      subst e3 e4
      clear g1 g2 hl E
      obtain ⟨c1, c2, c3, c4, c5, c6, c7, c8⟩ := hT.cells
      go_wp2_with fail
      go_ret
      exact ⟨ret_cmp (kcmp_eq _ _ (by omega)).symm, hL⟩
    · rw [g1] at e3
      rw [g2] at e4
      subst e3 e4
      clear g1 g2 hl E
      obtain ⟨c1, c2, c3, c4, c5, c6, c7, c8⟩ := hT.cells
      go_wp2_with fail
      clear c1 c2 c3 c4 c5 c6 c7 c8
      obtain ⟨p1, p2⟩ := cut_grown hT.1
      obtain ⟨p3, p4⟩ := cut_grown hT.2
      go_quiet_grown (first | (go_at_call 70; exact Calls.grown_of (first_g _)) | (go_at_call 72; exact Calls.grown_of (last_g _)))
      have hT1 := hT.below (lays_grow Y nq osq).1
      have hL1 := hL.trans (lays_grow Y nq osq)
      clear p1 p2 p3 p4 hT hL
      go_wp2_with fail
      generalize grow (Y.drewN nq) osq = Z at *
      have hT := hT1
      have hL := hL1
      clear hT1 hL1
      obtain ⟨p1, p2⟩ := cut_grown hT.1
      obtain ⟨p3, p4⟩ := cut_grown hT.2
      go_quiet_grown (first | (go_at_call 70; exact Calls.grown_of (first_g _)) | (go_at_call 72; exact Calls.grown_of (last_g _)))
      have hL1 := hL.trans (lays_grow Z nq osq)
      go_wp2_with fail
      go_ret
      exact ⟨ret_cmp (kcmp_gt _ _ (by omega)).symm, hL1⟩
  · rw [g1] at e1
    rw [g2] at e2
    subst e1 e2
    clear g1 g2 hk
    rcases ky_cases l hl with ⟨hl1, g1, g2⟩ | ⟨hl1, g1, g2⟩ | ⟨hl1, hl2, g1, g2⟩
    · rw [g1] at e3
      rw [g2] at e4
      subst e3 e4
      clear g1 g2 hl E
      obtain ⟨c1, c2, c3, c4, c5, c6, c7, c8⟩ := hT.cells
      go_wp2_with fail
      clear c1 c2 c3 c4 c5 c6 c7 c8
      obtain ⟨p1, p2⟩ := cut_grown hT.1
      obtain ⟨p3, p4⟩ := cut_grown hT.2
      go_quiet_grown (first | (go_at_call 70; exact Calls.grown_of (first_g _)) | (go_at_call 72; exact Calls.grown_of (last_g _)))
      have hT1 := hT.below (lays_grow Y nq osq).1
      have hL1 := hL.trans (lays_grow Y nq osq)
      clear p1 p2 p3 p4 hT hL
      go_wp2_with fail
      generalize grow (Y.drewN nq) osq = Z at *
      have hT := hT1
      have hL := hL1
      clear hT1 hL1
      obtain ⟨p1, p2⟩ := cut_grown hT.1
      obtain ⟨p3, p4⟩ := cut_grown hT.2
      go_quiet_grown (first | (go_at_call 70; exact Calls.grown_of (first_g _)) | (go_at_call 72; exact Calls.grown_of (last_g _)))
      have hL1 := hL.trans (lays_grow Z nq osq)
      go_wp2_with fail
      go_ret
      exact ⟨ret_cmp (kcmp_gt _ _ (by omega)).symm, hL1⟩
    · rw [g1] at e3
      rw [g2] at e4
      subst e3 e4
      clear g1 g2 hl E
      obtain ⟨c1, c2, c3, c4, c5, c6, c7, c8⟩ := hT.cells
      go_wp2_with fail
      clear c1 c2 c3 c4 c5 c6 c7 c8
      obtain ⟨p1, p2⟩ := cut_grown hT.1
      obtain ⟨p3, p4⟩ := cut_grown hT.2
      go_quiet_grown (first | (go_at_call 70; exact Calls.grown_of (first_g _)) | (go_at_call 72; exact Calls.grown_of (last_g _)))
      have hL1 := hL.trans (lays_grow Y nq osq)
      go_wp2_with fail
      go_ret
      exact ⟨ret_cmp (kcmp_lt _ _ (by omega)).symm, hL1⟩
    · rw [g1] at e3
      rw [g2] at e4
      subst e3 e4
      clear g1 g2 hl E
      by_cases hq : y = v
      · subst hq
        have tq : (y == y) = true := beq_self_eq_true _
        obtain ⟨c1, c2, c3, c4, c5, c6, c7, c8⟩ := hT.cells
        go_wp2_with fail
        go_ret
        exact ⟨ret_cmp (kcmp_eq _ _ (by omega)).symm, hL⟩
      · have tq : (y == v) = false := beq_eq_false_iff_ne.2 hq
        clear hq
        obtain ⟨c1, c2, c3, c4, c5, c6, c7, c8⟩ := hT.cells
        go_wp2_with fail
        clear c1 c2 c3 c4 c5 c6 c7 c8
        obtain ⟨p1, p2⟩ := cut_grown hT.1
        obtain ⟨p3, p4⟩ := cut_grown hT.2
        go_quiet_grown (first | (go_at_call 70; exact Calls.grown_of (first_g _)) | (go_at_call 72; exact Calls.grown_of (last_g _)))
        have hT1 := hT.below (lays_grow Y nq osq).1
        have hL1 := hL.trans (lays_grow Y nq osq)
        clear p1 p2 p3 p4 hT hL
        go_wp2_with fail
        generalize grow (Y.drewN nq) osq = Z at *
        have hT := hT1
        have hL := hL1
        clear hT1 hL1
        obtain ⟨p1, p2⟩ := cut_grown hT.1
        obtain ⟨p3, p4⟩ := cut_grown hT.2
        go_quiet_grown (first | (go_at_call 70; exact Calls.grown_of (first_g _)) | (go_at_call 72; exact Calls.grown_of (last_g _)))
        have hL1 := hL.trans (lays_grow Z nq osq)
        go_wp2_with fail
        refine (cmpi_any _ _ _).mono ?_
        rintro e w9 ⟨rfl, rfl⟩
        go_wp2_with fail
        go_ret
        exact ⟨rfl, hL1⟩
end Go.Proofs.Ytkokilbnhhmicaa

/- Contracts of the reference's cuts. -/
namespace Go.Proofs.Ytkokilbnhhmicaa
open Go.RowKit Go.Sort Go.Proofs.Ytkokilbnhhmicaa.Bo
set_option linter.unusedVariables false

theorem rleast_any (w : World) : Calls Try.prog 62 #[] w fun e w' => e = .returned (.int .i64 (-9223372036854775808)) ∧ Below w.heap.size w w' := by
  go_enter Try.func62, Try.ntmps62
  go_wp2
  go_ret
  exact ⟨rfl, Below.refl _ _⟩

/-- A cut in a block: its two cells in every world in which what was there stays. -/
theorem cut_regrown {X : World} {b : Nat} {x y : Value} {t : TypeId} (h : X.heap[b]? = some (.cells #[x, y] t (0, 0))) :
    (∀ d os, (grow (redrawn X d) os).cell? ⟨b, 0, none⟩ = some x) ∧ (∀ d os, (grow (redrawn X d) os).cell? ⟨b, 1, none⟩ = some y) :=
  ⟨cell_regrown (two_cells h).1, cell_regrown (two_cells h).2.1⟩

set_option maxRecDepth 100000 in
set_option maxHeartbeats 1000000 in
theorem rcanon_neg (s a : Int) (w : World) (h : s < 0) :
    Calls Try.prog 47 #[.agg #[.int .i64 s, .int .i64 a]] w fun e w' => e = .returned (.agg #[.int .i64 (-1), .int .i64 0]) ∧ Below w.heap.size w w' := by
  have mx := mixed
  have t1 : decide (s < 0) = true := decide_eq_true h
  clear h
  go_enter Try.func47, Try.ntmps47
  go_wp2_with fail
  have hb1 : ((w.alloc (.cells #[.int .i64 s, .int .i64 a] 23)).alloc (.cells #[.int .i64 0, .int .i64 0] 23)).heap[w.heap.size]? = some (.cells #[.int .i64 s, .int .i64 a] 23 (0, 0)) := heap_alloc2_old _ _ _
  have hb2 : ((w.alloc (.cells #[.int .i64 s, .int .i64 a] 23)).alloc (.cells #[.int .i64 0, .int .i64 0] 23)).heap[w.heap.size + 1]? = some (.cells #[.int .i64 0, .int .i64 0] 23 (0, 0)) := heap_alloc2_new _ _ _
  have hL : Below w.heap.size w ((w.alloc (.cells #[.int .i64 s, .int .i64 a] 23)).alloc (.cells #[.int .i64 0, .int .i64 0] 23)) := ((Below.refl _ _).alloc (Nat.le_refl _) _).alloc (by simp) _
  generalize (w.alloc (.cells #[.int .i64 s, .int .i64 a] 23)).alloc (.cells #[.int .i64 0, .int .i64 0] 23) = X at *
  obtain ⟨p1, p2⟩ := cut_regrown hb1
  have HB1 := Lib.hid hb1
  have HB2 := Lib.hid hb2
  clear hb1 hb2
  refine wp_region_quiet_below (by assumption) (by kernel_rfl) ?_
  repeat (go_big_quiet_step (first | (go_at_call 62; exact Calls.regrown_of (rleast_any _))))
  refine wpQuiet_nil ?_
  intro _ hw'
  obtain ⟨⟨nq, osq⟩, hw''⟩ := hw'
  subst hw''

  have hB := below_regrown X nq osq
  have hb1 := (hB.block _ (lt_of_block HB1.out)).trans HB1.out
  have hb2 := (hB.block _ (lt_of_block HB2.out)).trans HB2.out
  have hL2 := bt hL hB
  show Exit.then _ _ Exit.normal _ (grow (redrawn X nq) osq)
  generalize grow (redrawn X nq) osq = Y at *
  obtain ⟨c1, c2, _, _⟩ := two_cells hb1
  obtain ⟨d1, d2, d3, d4⟩ := two_cells hb2
  obtain ⟨q1, q2, _, _⟩ := two_cells (two_put (p := .int .i64 (-1)) (q := .int .i64 0) hb2)
  have hL3 := (hL2.setCell (p := ⟨w.heap.size + 1, 0, none⟩) (by simp) (.int .i64 (-1))).setCell (p := ⟨w.heap.size + 1, 1, none⟩) (by simp) (.int .i64 0)
  clear p1 p2 hb1 hb2 HB1 HB2
  go_wp2_with fail
  refine bodyPost_ret (v := .agg #[.int .i64 (-1), .int .i64 0]) (by simp [results, Try.results47, go_sem, q1, q2]) rfl ?_
  exact ⟨rfl, hL3⟩
set_option maxRecDepth 100000 in
theorem rcanon_least  (w : World)  :
    Calls Try.prog 47 #[.agg #[.int .i64 0, .int .i64 (-9223372036854775808)]] w fun e w' => e = .returned (.agg #[.int .i64 (-1), .int .i64 0]) ∧ Below w.heap.size w w' := by
  have mx := mixed

  go_enter Try.func47, Try.ntmps47
  go_wp2_with fail
  have hb1 : ((w.alloc (.cells #[.int .i64 0, .int .i64 (-9223372036854775808)] 23)).alloc (.cells #[.int .i64 0, .int .i64 0] 23)).heap[w.heap.size]? = some (.cells #[.int .i64 0, .int .i64 (-9223372036854775808)] 23 (0, 0)) := heap_alloc2_old _ _ _
  have hb2 : ((w.alloc (.cells #[.int .i64 0, .int .i64 (-9223372036854775808)] 23)).alloc (.cells #[.int .i64 0, .int .i64 0] 23)).heap[w.heap.size + 1]? = some (.cells #[.int .i64 0, .int .i64 0] 23 (0, 0)) := heap_alloc2_new _ _ _
  have hL : Below w.heap.size w ((w.alloc (.cells #[.int .i64 0, .int .i64 (-9223372036854775808)] 23)).alloc (.cells #[.int .i64 0, .int .i64 0] 23)) := ((Below.refl _ _).alloc (Nat.le_refl _) _).alloc (by simp) _
  generalize (w.alloc (.cells #[.int .i64 0, .int .i64 (-9223372036854775808)] 23)).alloc (.cells #[.int .i64 0, .int .i64 0] 23) = X at *
  obtain ⟨p1, p2⟩ := cut_regrown hb1
  have HB1 := Lib.hid hb1
  have HB2 := Lib.hid hb2
  clear hb1 hb2
  refine wp_region_quiet_below (by assumption) (by kernel_rfl) ?_
  repeat (go_big_quiet_step (first | (go_at_call 62; exact Calls.regrown_of (rleast_any _))))
  refine wpQuiet_nil ?_
  intro _ hw'
  obtain ⟨⟨nq, osq⟩, hw''⟩ := hw'
  subst hw''

  have hB := below_regrown X nq osq
  have hb1 := (hB.block _ (lt_of_block HB1.out)).trans HB1.out
  have hb2 := (hB.block _ (lt_of_block HB2.out)).trans HB2.out
  have hL2 := bt hL hB
  show Exit.then _ _ Exit.normal _ (grow (redrawn X nq) osq)
  generalize grow (redrawn X nq) osq = Y at *
  obtain ⟨c1, c2, _, _⟩ := two_cells hb1
  obtain ⟨d1, d2, d3, d4⟩ := two_cells hb2
  obtain ⟨q1, q2, _, _⟩ := two_cells (two_put (p := .int .i64 (-1)) (q := .int .i64 0) hb2)
  have hL3 := (hL2.setCell (p := ⟨w.heap.size + 1, 0, none⟩) (by simp) (.int .i64 (-1))).setCell (p := ⟨w.heap.size + 1, 1, none⟩) (by simp) (.int .i64 0)
  clear p1 p2 hb1 hb2 HB1 HB2
  go_wp2_with fail
  refine bodyPost_ret (v := .agg #[.int .i64 (-1), .int .i64 0]) (by simp [results, Try.results47, go_sem, q1, q2]) rfl ?_
  exact ⟨rfl, hL3⟩
set_option maxRecDepth 100000 in
theorem rcanon_pos (s a : Int) (w : World) (h : 0 < s) :
    Calls Try.prog 47 #[.agg #[.int .i64 s, .int .i64 a]] w fun e w' => e = .returned (.agg #[.int .i64 1, .int .i64 0]) ∧ Below w.heap.size w w' := by
  have mx := mixed
  have t1 : decide (s < 0) = false := decide_eq_false (by omega)
  have t2 : (s == 0) = false := beq_eq_false_iff_ne.2 (by omega)
  have t3 : decide (0 < s) = true := decide_eq_true h
  clear h
  go_enter Try.func47, Try.ntmps47
  go_wp2_with fail
  have hb1 : ((w.alloc (.cells #[.int .i64 s, .int .i64 a] 23)).alloc (.cells #[.int .i64 0, .int .i64 0] 23)).heap[w.heap.size]? = some (.cells #[.int .i64 s, .int .i64 a] 23 (0, 0)) := heap_alloc2_old _ _ _
  have hb2 : ((w.alloc (.cells #[.int .i64 s, .int .i64 a] 23)).alloc (.cells #[.int .i64 0, .int .i64 0] 23)).heap[w.heap.size + 1]? = some (.cells #[.int .i64 0, .int .i64 0] 23 (0, 0)) := heap_alloc2_new _ _ _
  have hL : Below w.heap.size w ((w.alloc (.cells #[.int .i64 s, .int .i64 a] 23)).alloc (.cells #[.int .i64 0, .int .i64 0] 23)) := ((Below.refl _ _).alloc (Nat.le_refl _) _).alloc (by simp) _
  generalize (w.alloc (.cells #[.int .i64 s, .int .i64 a] 23)).alloc (.cells #[.int .i64 0, .int .i64 0] 23) = X at *
  obtain ⟨p1, p2⟩ := cut_regrown hb1
  have HB1 := Lib.hid hb1
  have HB2 := Lib.hid hb2
  clear hb1 hb2
  refine wp_region_quiet_below (by assumption) (by kernel_rfl) ?_
  repeat (go_big_quiet_step (first | (go_at_call 62; exact Calls.regrown_of (rleast_any _))))
  refine wpQuiet_nil ?_
  intro _ hw'
  obtain ⟨⟨nq, osq⟩, hw''⟩ := hw'
  subst hw''

  have hB := below_regrown X nq osq
  have hb1 := (hB.block _ (lt_of_block HB1.out)).trans HB1.out
  have hb2 := (hB.block _ (lt_of_block HB2.out)).trans HB2.out
  have hL2 := bt hL hB
  show Exit.then _ _ Exit.normal _ (grow (redrawn X nq) osq)
  generalize grow (redrawn X nq) osq = Y at *
  obtain ⟨c1, c2, _, _⟩ := two_cells hb1
  obtain ⟨d1, d2, d3, d4⟩ := two_cells hb2
  obtain ⟨q1, q2, _, _⟩ := two_cells (two_put (p := .int .i64 1) (q := .int .i64 0) hb2)
  have hL3 := (hL2.setCell (p := ⟨w.heap.size + 1, 0, none⟩) (by simp) (.int .i64 1)).setCell (p := ⟨w.heap.size + 1, 1, none⟩) (by simp) (.int .i64 0)
  clear p1 p2 hb1 hb2 HB1 HB2
  go_wp2_with fail
  refine bodyPost_ret (v := .agg #[.int .i64 1, .int .i64 0]) (by simp [results, Try.results47, go_sem, q1, q2]) rfl ?_
  exact ⟨rfl, hL3⟩
set_option maxRecDepth 100000 in
theorem rcanon_mid (a : Int) (w : World) (h : a ≠ -9223372036854775808) :
    Calls Try.prog 47 #[.agg #[.int .i64 0, .int .i64 a]] w fun e w' => e = .returned (.agg #[.int .i64 0, .int .i64 a]) ∧ Below w.heap.size w w' := by
  have mx := mixed
  have t2 : (a == -9223372036854775808) = false := beq_eq_false_iff_ne.2 h
  clear h
  go_enter Try.func47, Try.ntmps47
  go_wp2_with fail
  have hb1 : ((w.alloc (.cells #[.int .i64 0, .int .i64 a] 23)).alloc (.cells #[.int .i64 0, .int .i64 0] 23)).heap[w.heap.size]? = some (.cells #[.int .i64 0, .int .i64 a] 23 (0, 0)) := heap_alloc2_old _ _ _
  have hb2 : ((w.alloc (.cells #[.int .i64 0, .int .i64 a] 23)).alloc (.cells #[.int .i64 0, .int .i64 0] 23)).heap[w.heap.size + 1]? = some (.cells #[.int .i64 0, .int .i64 0] 23 (0, 0)) := heap_alloc2_new _ _ _
  have hL : Below w.heap.size w ((w.alloc (.cells #[.int .i64 0, .int .i64 a] 23)).alloc (.cells #[.int .i64 0, .int .i64 0] 23)) := ((Below.refl _ _).alloc (Nat.le_refl _) _).alloc (by simp) _
  generalize (w.alloc (.cells #[.int .i64 0, .int .i64 a] 23)).alloc (.cells #[.int .i64 0, .int .i64 0] 23) = X at *
  obtain ⟨p1, p2⟩ := cut_regrown hb1
  have HB1 := Lib.hid hb1
  have HB2 := Lib.hid hb2
  clear hb1 hb2
  refine wp_region_quiet_below (by assumption) (by kernel_rfl) ?_
  repeat (go_big_quiet_step (first | (go_at_call 62; exact Calls.regrown_of (rleast_any _))))
  refine wpQuiet_nil ?_
  intro _ hw'
  obtain ⟨⟨nq, osq⟩, hw''⟩ := hw'
  subst hw''

  have hB := below_regrown X nq osq
  have hb1 := (hB.block _ (lt_of_block HB1.out)).trans HB1.out
  have hb2 := (hB.block _ (lt_of_block HB2.out)).trans HB2.out
  have hL2 := bt hL hB
  show Exit.then _ _ Exit.normal _ (grow (redrawn X nq) osq)
  generalize grow (redrawn X nq) osq = Y at *
  obtain ⟨c1, c2, _, _⟩ := two_cells hb1
  obtain ⟨d1, d2, d3, d4⟩ := two_cells hb2
  obtain ⟨q1, q2, _, _⟩ := two_cells (two_put (p := .int .i64 0) (q := .int .i64 a) hb2)
  have hL3 := (hL2.setCell (p := ⟨w.heap.size + 1, 0, none⟩) (by simp) (.int .i64 0)).setCell (p := ⟨w.heap.size + 1, 1, none⟩) (by simp) (.int .i64 a)
  clear p1 p2 hb1 hb2 HB1 HB2
  go_wp2_with fail
  refine bodyPost_ret (v := .agg #[.int .i64 0, .int .i64 a]) (by simp [results, Try.results47, go_sem, q1, q2]) rfl ?_
  exact ⟨rfl, hL3⟩
theorem rcanon_any (s a : Int) (w : World) (ha : I64 a) :
    Calls Try.prog 47 #[.agg #[.int .i64 s, .int .i64 a]] w fun e w' => e = .returned (.agg #[.int .i64 (sd (key s a)), .int .i64 (pa (key s a))]) ∧ Below w.heap.size w w' := by
  by_cases h1 : s < 0
  · rw [key_neg s a h1, sd_lo, pa_lo]; exact rcanon_neg s a w h1
  · by_cases h2 : 0 < s
    · rw [key_pos s a h2, sd_hi, pa_hi]; exact rcanon_pos s a w h2
    · obtain rfl : s = 0 := by omega
      rw [key_zero]
      by_cases h3 : a = -9223372036854775808
      · subst h3; rw [sd_lo, pa_lo]; exact rcanon_least w
      · have h4 : a ≠ 9223372036854775808 := by unfold I64 at ha; omega
        rw [sd_mid a h3 h4, pa_mid a h3 h4]; exact rcanon_mid a w h3
end Go.Proofs.Ytkokilbnhhmicaa

/- Contracts of the reference's cuts: Less, Compare, Low, High, Ahead, Behind, Next, Prev. -/
namespace Go.Proofs.Ytkokilbnhhmicaa
open Go.RowKit Go.Sort Go.Proofs.Ytkokilbnhhmicaa.Bo
set_option linter.unusedVariables false

theorem Two.put0 {b : Nat} {s a t c : Int} {w : World} (h : Two b s a t c w) (s' a' : Int) : Two b s' a' t c ((w.setCell ⟨b, 0, none⟩ (.int .i64 s')).setCell ⟨b, 1, none⟩ (.int .i64 a')) :=
  ⟨two_put h.1, by rw [heap_setCell_other _ _ _ _ (by simp), heap_setCell_other _ _ _ _ (by simp)]; exact h.2⟩
theorem Two.put1 {b : Nat} {s a t c : Int} {w : World} (h : Two b s a t c w) (s' a' : Int) : Two b s a s' a' ((w.setCell ⟨b + 1, 0, none⟩ (.int .i64 s')).setCell ⟨b + 1, 1, none⟩ (.int .i64 a')) :=
  ⟨by rw [heap_setCell_other _ _ _ _ (by simp), heap_setCell_other _ _ _ _ (by simp)]; exact h.1, two_put h.2⟩
theorem ret_bool {a b : Bool} (h : a = b) : Ending.returned (.bool a) = .returned (.bool b) := by rw [h]

set_option maxRecDepth 100000 in
set_option maxHeartbeats 1000000 in
theorem rless_any (s a t b : Int) (w : World) (ha : I64 a) (hb : I64 b) :
    Calls Try.prog 48 #[.agg #[.int .i64 s, .int .i64 a], .agg #[.int .i64 t, .int .i64 b]] w fun e w' => e = .returned (.bool (decide (key s a < key t b))) ∧ Below w.heap.size w w' := by
  have HC := Lib.hid (fun W => rcanon_any s a W ha)
  have HD := Lib.hid (fun W => rcanon_any t b W hb)
  have h1 := fun h => lt_side _ _ (key_ky s a ha) (key_ky t b hb) h
  have h2 := fun h => lt_at _ _ (key_ky s a ha) (key_ky t b hb) h
  generalize hD : decide (key s a < key t b) = D at *
  generalize sd (key s a) = x at *
  generalize pa (key s a) = y at *
  generalize sd (key t b) = u at *
  generalize pa (key t b) = v at *
  have H1 := Lib.hid h1
  have H2 := Lib.hid h2
  clear h1 h2 hD ha hb
  go_enter Try.func48, Try.ntmps48
  go_wp2_with fail
  refine (HC.out _).mono ?_
  rintro e w1 ⟨rfl, hB1⟩
  have hT0 : Two w.heap.size s a t b ((w.alloc (.cells #[.int .i64 s, .int .i64 a] 23)).alloc (.cells #[.int .i64 t, .int .i64 b] 23)) := ⟨heap_alloc2_old _ _ _, heap_alloc2_new _ _ _⟩
  have hT1 := hT0.below hB1
  have hL1 : Below w.heap.size w w1 := bt (((Below.refl _ _).alloc (Nat.le_refl _) _).alloc (by simp) _) hB1
  have hT2 := hT1.put0 x y
  have hL2 := (hL1.setCell (p := ⟨w.heap.size, 0, none⟩) (by simp) (.int .i64 x)).setCell (p := ⟨w.heap.size, 1, none⟩) (by simp) (.int .i64 y)
  obtain ⟨p1, p2, p3, p4, p5, p6, p7, p8⟩ := hT1.cells
  obtain ⟨_, _, q3, q4, _, _, _, _⟩ := hT2.cells
  have HT2 := Lib.hid hT2
  clear hT0 hT1 hT2 hB1 hL1
  go_wp2_with fail
  generalize (w1.setCell ⟨w.heap.size, 0, none⟩ (.int .i64 x)).setCell ⟨w.heap.size, 1, none⟩ (.int .i64 y) = X at *
  refine (HD.out _).mono ?_
  rintro e w2 ⟨rfl, hB2⟩
  have hT3 := HT2.out.below hB2
  have hL3 := bt hL2 hB2
  have hT4 := hT3.put1 u v
  have hL4 := (hL3.setCell (p := ⟨w.heap.size + 1, 0, none⟩) (by simp) (.int .i64 u)).setCell (p := ⟨w.heap.size + 1, 1, none⟩) (by simp) (.int .i64 v)
  clear p1 p2 p3 p4 p5 p6 p7 p8 q3 q4
  obtain ⟨p1, p2, p3, p4, p5, p6, p7, p8⟩ := hT3.cells
  obtain ⟨q1, q2, q3, q4, _, _, _, _⟩ := hT4.cells
  clear hT3 hT4 hB2 hL2 hL3 HT2
  by_cases hq : x = u
  · have HQ := Lib.hid (H2.out hq)
    have tq : (x != u) = false := bne_eq_false_iff_eq.2 hq
    clear hq
    go_wp2_with fail
    go_ret
    exact ⟨ret_bool HQ.out, hL4⟩
  · have HQ := Lib.hid (H1.out hq)
    have tq : (x != u) = true := bne_iff_ne.2 hq
    clear hq
    go_wp2_with fail
    go_ret
    exact ⟨ret_bool HQ.out, hL4⟩

set_option maxRecDepth 100000 in
theorem rcompare_any (s a t b : Int) (w : World) (ha : I64 a) (hb : I64 b) :
    Calls Try.prog 44 #[.agg #[.int .i64 s, .int .i64 a], .agg #[.int .i64 t, .int .i64 b]] w fun e w' => e = .returned (.int .i64 (kcmp (key s a) (key t b))) ∧ Below w.heap.size w w' := by
  have HC := Lib.hid (fun W => rless_any s a t b W ha hb)
  have HD := Lib.hid (fun W => rless_any t b s a W hb ha)
  generalize key s a = k at *
  generalize key t b = l at *
  clear ha hb
  have hT0 : Two w.heap.size s a t b ((w.alloc (.cells #[.int .i64 s, .int .i64 a] 23)).alloc (.cells #[.int .i64 t, .int .i64 b] 23)) := ⟨heap_alloc2_old _ _ _, heap_alloc2_new _ _ _⟩
  have hL0 : Below w.heap.size w ((w.alloc (.cells #[.int .i64 s, .int .i64 a] 23)).alloc (.cells #[.int .i64 t, .int .i64 b] 23)) := ((Below.refl _ _).alloc (Nat.le_refl _) _).alloc (by simp) _
  have HT := Lib.hid hT0
  clear hT0
  rcases Int.lt_trichotomy k l with h | h | h
  · rw [decide_eq_true h] at HC
    rw [kcmp_lt k l h]
    clear h HD
    go_enter Try.func44, Try.ntmps44
    go_wp2_with fail
    refine (HC.out _).mono ?_
    rintro e w1 ⟨rfl, hB1⟩
    go_wp2_with fail
    go_ret
    exact ⟨rfl, bt hL0 hB1⟩
  · rw [decide_eq_false (show ¬ k < l by omega)] at HC
    rw [decide_eq_false (show ¬ l < k by omega)] at HD
    rw [kcmp_eq k l h]
    clear h
    go_enter Try.func44, Try.ntmps44
    go_wp2_with fail
    refine (HC.out _).mono ?_
    rintro e w1 ⟨rfl, hB1⟩
    obtain ⟨p1, p2, p3, p4, _, _, _, _⟩ := (HT.out.below hB1).cells
    go_wp2_with fail
    refine (HD.out _).mono ?_
    rintro e w2 ⟨rfl, hB2⟩
    go_wp2_with fail
    go_ret
    exact ⟨rfl, bt (bt hL0 hB1) hB2⟩
  · rw [decide_eq_false (show ¬ k < l by omega)] at HC
    rw [decide_eq_true (show l < k by omega)] at HD
    rw [kcmp_gt k l h]
    clear h
    go_enter Try.func44, Try.ntmps44
    go_wp2_with fail
    refine (HC.out _).mono ?_
    rintro e w1 ⟨rfl, hB1⟩
    obtain ⟨p1, p2, p3, p4, _, _, _, _⟩ := (HT.out.below hB1).cells
    go_wp2_with fail
    refine (HD.out _).mono ?_
    rintro e w2 ⟨rfl, hB2⟩
    go_wp2_with fail
    go_ret
    exact ⟨rfl, bt (bt hL0 hB1) hB2⟩

def klow (k l : Int) : Int := if l < k then l else k
def khigh (k l : Int) : Int := if k < l then l else k

set_option maxRecDepth 100000 in
theorem rlow_any (s a t b : Int) (w : World) (ha : I64 a) (hb : I64 b) :
    Calls Try.prog 16 #[.agg #[.int .i64 s, .int .i64 a], .agg #[.int .i64 t, .int .i64 b]] w fun e w' => e = .returned (.agg #[.int .i64 (sd (klow (key s a) (key t b))), .int .i64 (pa (klow (key s a) (key t b)))]) ∧ Below w.heap.size w w' := by
  have HC := Lib.hid (fun W => rless_any t b s a W hb ha)
  have HA := Lib.hid (fun W => rcanon_any s a W ha)
  have HB := Lib.hid (fun W => rcanon_any t b W hb)
  generalize key s a = k at *
  generalize key t b = l at *
  clear ha hb
  have hT0 : Two w.heap.size s a t b (((w.alloc (.cells #[.int .i64 s, .int .i64 a] 23)).alloc (.cells #[.int .i64 t, .int .i64 b] 23)).alloc (.cells #[.int .i64 0, .int .i64 0] 23)) := ⟨by rw [heap_alloc_old _ _ (by simp; omega)]; exact heap_alloc2_old _ _ _, by rw [heap_alloc_old _ _ (by simp)]; exact heap_alloc2_new _ _ _⟩
  have hR0 : (((w.alloc (.cells #[.int .i64 s, .int .i64 a] 23)).alloc (.cells #[.int .i64 t, .int .i64 b] 23)).alloc (.cells #[.int .i64 0, .int .i64 0] 23)).heap[w.heap.size + 2]? = some (.cells #[.int .i64 0, .int .i64 0] 23 (0, 0)) := by
    have h := heap_alloc_new ((w.alloc (.cells #[.int .i64 s, .int .i64 a] 23)).alloc (.cells #[.int .i64 t, .int .i64 b] 23)) (.cells #[.int .i64 0, .int .i64 0] 23)
    simpa using h
  have hL0 : Below w.heap.size w (((w.alloc (.cells #[.int .i64 s, .int .i64 a] 23)).alloc (.cells #[.int .i64 t, .int .i64 b] 23)).alloc (.cells #[.int .i64 0, .int .i64 0] 23)) := (((Below.refl _ _).alloc (Nat.le_refl _) _).alloc (by simp) _).alloc (by simp; omega) _
  have HT := Lib.hid hT0
  have HR := Lib.hid hR0
  clear hT0 hR0
  by_cases h : l < k
  · have HP : Hid (klow k l = l) := by unfold klow; show _ = _; rw [if_pos h]
    rw [decide_eq_true h] at HC
    rw [HP.out]
    generalize sd l = xb at *
    generalize pa l = yb at *
    clear h HA HP
    go_enter Try.func16, Try.ntmps16
    go_wp2_with fail
    refine (HC.out _).mono ?_
    rintro e w1 ⟨rfl, hB1⟩
    obtain ⟨p1, p2, p3, p4, _, _, _, _⟩ := (HT.out.below hB1).cells
    have hR1 := (hB1.block _ (lt_of_block HR.out)).trans HR.out
    go_wp2_with fail
    refine (HB.out _).mono ?_
    rintro e w2 ⟨rfl, hB2⟩
    have hR2 := (hB2.block _ (lt_of_block hR1)).trans hR1
    obtain ⟨r1, r2, r3, r4⟩ := two_cells hR2
    obtain ⟨q1, q2, _, _⟩ := two_cells (two_put (p := .int .i64 xb) (q := .int .i64 yb) hR2)
    have hL2 := ((bt (bt hL0 hB1) hB2).setCell (p := ⟨w.heap.size + 2, 0, none⟩) (by simp) (.int .i64 xb)).setCell (p := ⟨w.heap.size + 2, 1, none⟩) (by simp) (.int .i64 yb)
    clear p1 p2 p3 p4
    go_wp2_with fail
    refine bodyPost_ret (v := .agg #[.int .i64 xb, .int .i64 yb]) (by simp [results, Try.results16, go_sem, q1, q2]) rfl ?_
    exact ⟨rfl, hL2⟩
  · have HP : Hid (klow k l = k) := by unfold klow; show _ = _; rw [if_neg h]
    rw [decide_eq_false h] at HC
    rw [HP.out]
    generalize sd k = xa at *
    generalize pa k = ya at *
    clear h HB HP
    go_enter Try.func16, Try.ntmps16
    go_wp2_with fail
    refine (HC.out _).mono ?_
    rintro e w1 ⟨rfl, hB1⟩
    obtain ⟨p1, p2, p3, p4, _, _, _, _⟩ := (HT.out.below hB1).cells
    have hR1 := (hB1.block _ (lt_of_block HR.out)).trans HR.out
    go_wp2_with fail
    refine (HA.out _).mono ?_
    rintro e w2 ⟨rfl, hB2⟩
    have hR2 := (hB2.block _ (lt_of_block hR1)).trans hR1
    obtain ⟨r1, r2, r3, r4⟩ := two_cells hR2
    obtain ⟨q1, q2, _, _⟩ := two_cells (two_put (p := .int .i64 xa) (q := .int .i64 ya) hR2)
    have hL2 := ((bt (bt hL0 hB1) hB2).setCell (p := ⟨w.heap.size + 2, 0, none⟩) (by simp) (.int .i64 xa)).setCell (p := ⟨w.heap.size + 2, 1, none⟩) (by simp) (.int .i64 ya)
    clear p1 p2 p3 p4
    go_wp2_with fail
    refine bodyPost_ret (v := .agg #[.int .i64 xa, .int .i64 ya]) (by simp [results, Try.results16, go_sem, q1, q2]) rfl ?_
    exact ⟨rfl, hL2⟩

set_option maxRecDepth 100000 in
theorem rhigh_any (s a t b : Int) (w : World) (ha : I64 a) (hb : I64 b) :
    Calls Try.prog 17 #[.agg #[.int .i64 s, .int .i64 a], .agg #[.int .i64 t, .int .i64 b]] w fun e w' => e = .returned (.agg #[.int .i64 (sd (khigh (key s a) (key t b))), .int .i64 (pa (khigh (key s a) (key t b)))]) ∧ Below w.heap.size w w' := by
  have HC := Lib.hid (fun W => rless_any s a t b W ha hb)
  have HA := Lib.hid (fun W => rcanon_any s a W ha)
  have HB := Lib.hid (fun W => rcanon_any t b W hb)
  generalize key s a = k at *
  generalize key t b = l at *
  clear ha hb
  have hT0 : Two w.heap.size s a t b (((w.alloc (.cells #[.int .i64 s, .int .i64 a] 23)).alloc (.cells #[.int .i64 t, .int .i64 b] 23)).alloc (.cells #[.int .i64 0, .int .i64 0] 23)) := ⟨by rw [heap_alloc_old _ _ (by simp; omega)]; exact heap_alloc2_old _ _ _, by rw [heap_alloc_old _ _ (by simp)]; exact heap_alloc2_new _ _ _⟩
  have hR0 : (((w.alloc (.cells #[.int .i64 s, .int .i64 a] 23)).alloc (.cells #[.int .i64 t, .int .i64 b] 23)).alloc (.cells #[.int .i64 0, .int .i64 0] 23)).heap[w.heap.size + 2]? = some (.cells #[.int .i64 0, .int .i64 0] 23 (0, 0)) := by
    have h := heap_alloc_new ((w.alloc (.cells #[.int .i64 s, .int .i64 a] 23)).alloc (.cells #[.int .i64 t, .int .i64 b] 23)) (.cells #[.int .i64 0, .int .i64 0] 23)
    simpa using h
  have hL0 : Below w.heap.size w (((w.alloc (.cells #[.int .i64 s, .int .i64 a] 23)).alloc (.cells #[.int .i64 t, .int .i64 b] 23)).alloc (.cells #[.int .i64 0, .int .i64 0] 23)) := (((Below.refl _ _).alloc (Nat.le_refl _) _).alloc (by simp) _).alloc (by simp; omega) _
  have HT := Lib.hid hT0
  have HR := Lib.hid hR0
  clear hT0 hR0
  by_cases h : k < l
  · have HP : Hid (khigh k l = l) := by unfold khigh; show _ = _; rw [if_pos h]
    rw [decide_eq_true h] at HC
    rw [HP.out]
    generalize sd l = xb at *
    generalize pa l = yb at *
    clear h HA HP
    go_enter Try.func17, Try.ntmps17
    go_wp2_with fail
    refine (HC.out _).mono ?_
    rintro e w1 ⟨rfl, hB1⟩
    obtain ⟨p1, p2, p3, p4, _, _, _, _⟩ := (HT.out.below hB1).cells
    have hR1 := (hB1.block _ (lt_of_block HR.out)).trans HR.out
    go_wp2_with fail
    refine (HB.out _).mono ?_
    rintro e w2 ⟨rfl, hB2⟩
    have hR2 := (hB2.block _ (lt_of_block hR1)).trans hR1
    obtain ⟨r1, r2, r3, r4⟩ := two_cells hR2
    obtain ⟨q1, q2, _, _⟩ := two_cells (two_put (p := .int .i64 xb) (q := .int .i64 yb) hR2)
    have hL2 := ((bt (bt hL0 hB1) hB2).setCell (p := ⟨w.heap.size + 2, 0, none⟩) (by simp) (.int .i64 xb)).setCell (p := ⟨w.heap.size + 2, 1, none⟩) (by simp) (.int .i64 yb)
    clear p1 p2 p3 p4
    go_wp2_with fail
    refine bodyPost_ret (v := .agg #[.int .i64 xb, .int .i64 yb]) (by simp [results, Try.results17, go_sem, q1, q2]) rfl ?_
    exact ⟨rfl, hL2⟩
  · have HP : Hid (khigh k l = k) := by unfold khigh; show _ = _; rw [if_neg h]
    rw [decide_eq_false h] at HC
    rw [HP.out]
    generalize sd k = xa at *
    generalize pa k = ya at *
    clear h HB HP
    go_enter Try.func17, Try.ntmps17
    go_wp2_with fail
    refine (HC.out _).mono ?_
    rintro e w1 ⟨rfl, hB1⟩
    obtain ⟨p1, p2, p3, p4, _, _, _, _⟩ := (HT.out.below hB1).cells
    have hR1 := (hB1.block _ (lt_of_block HR.out)).trans HR.out
    go_wp2_with fail
    refine (HA.out _).mono ?_
    rintro e w2 ⟨rfl, hB2⟩
    have hR2 := (hB2.block _ (lt_of_block hR1)).trans hR1
    obtain ⟨r1, r2, r3, r4⟩ := two_cells hR2
    obtain ⟨q1, q2, _, _⟩ := two_cells (two_put (p := .int .i64 xa) (q := .int .i64 ya) hR2)
    have hL2 := ((bt (bt hL0 hB1) hB2).setCell (p := ⟨w.heap.size + 2, 0, none⟩) (by simp) (.int .i64 xa)).setCell (p := ⟨w.heap.size + 2, 1, none⟩) (by simp) (.int .i64 ya)
    clear p1 p2 p3 p4
    go_wp2_with fail
    refine bodyPost_ret (v := .agg #[.int .i64 xa, .int .i64 ya]) (by simp [results, Try.results17, go_sem, q1, q2]) rfl ?_
    exact ⟨rfl, hL2⟩

theorem rnext_any (s a : Int) (w : World) (ha : I64 a) :
    Calls Try.prog 32 #[.agg #[.int .i64 s, .int .i64 a]] w fun e w' => e = .returned (.tuple #[.int .i64 (nx (key s a)), .bool (nxb (key s a))]) ∧ Below w.heap.size w w' := by
  have HC := Lib.hid (fun W => rcanon_any s a W ha)
  have hk := key_ky s a ha
  generalize key s a = k at *
  rcases ky_cases k hk with ⟨rfl, h1, h2⟩ | ⟨rfl, h1, h2⟩ | ⟨g1, g2, h1, h2⟩
  · rw [h1, h2] at HC
    clear h1 h2 hk
    go_enter Try.func32, Try.ntmps32
    go_wp2_with fail
    refine (HC.out _).mono ?_
    rintro e w1 ⟨rfl, hL⟩
    have hb : w1.heap[w.heap.size]? = some (.cells #[.int .i64 s, .int .i64 a] 23 (0, 0)) := by rw [hL.block _ (by simp)]; exact heap_alloc_new _ _
    have hL1 := ((bt ((Below.refl _ _).alloc (Nat.le_refl _) _) hL).setCell (p := ⟨w.heap.size, 0, none⟩) (by simp) (.int .i64 (-1))).setCell (p := ⟨w.heap.size, 1, none⟩) (by simp) (.int .i64 0)
    obtain ⟨p1, p2, _, _⟩ := two_cells (two_put (p := .int .i64 (-1)) (q := .int .i64 0) hb)
    obtain ⟨q1, q2, q3, q4⟩ := two_cells hb
    clear hb
    go_wp2_with fail
    refine (rleast_any _).mono ?_
    rintro e w2 ⟨rfl, hL2⟩
    go_wp2_with fail
    go_ret2
    exact ⟨ret_ib (nx_in _ (by decide)), bt hL1 hL2⟩
  · rw [h1, h2] at HC
    clear h1 h2 hk
    go_enter Try.func32, Try.ntmps32
    go_wp2_with fail
    refine (HC.out _).mono ?_
    rintro e w1 ⟨rfl, hL⟩
    have hb : w1.heap[w.heap.size]? = some (.cells #[.int .i64 s, .int .i64 a] 23 (0, 0)) := by rw [hL.block _ (by simp)]; exact heap_alloc_new _ _
    have hL1 := ((bt ((Below.refl _ _).alloc (Nat.le_refl _) _) hL).setCell (p := ⟨w.heap.size, 0, none⟩) (by simp) (.int .i64 1)).setCell (p := ⟨w.heap.size, 1, none⟩) (by simp) (.int .i64 0)
    obtain ⟨p1, p2, _, _⟩ := two_cells (two_put (p := .int .i64 1) (q := .int .i64 0) hb)
    obtain ⟨q1, q2, q3, q4⟩ := two_cells hb
    clear hb
    go_wp2_with fail
    go_ret2
    exact ⟨ret_ib nx_hi, hL1⟩
  · rw [h1, h2] at HC
    clear h1 h2 hk
    go_enter Try.func32, Try.ntmps32
    go_wp2_with fail
    refine (HC.out _).mono ?_
    rintro e w1 ⟨rfl, hL⟩
    have hb : w1.heap[w.heap.size]? = some (.cells #[.int .i64 s, .int .i64 a] 23 (0, 0)) := by rw [hL.block _ (by simp)]; exact heap_alloc_new _ _
    have hL1 := ((bt ((Below.refl _ _).alloc (Nat.le_refl _) _) hL).setCell (p := ⟨w.heap.size, 0, none⟩) (by simp) (.int .i64 0)).setCell (p := ⟨w.heap.size, 1, none⟩) (by simp) (.int .i64 k)
    obtain ⟨p1, p2, _, _⟩ := two_cells (two_put (p := .int .i64 0) (q := .int .i64 k) hb)
    obtain ⟨q1, q2, q3, q4⟩ := two_cells hb
    clear hb
    go_wp2_with fail
    go_ret2
    exact ⟨ret_ib (nx_in k (by omega)), hL1⟩

theorem rprev_any (s a : Int) (w : World) (ha : I64 a) :
    Calls Try.prog 33 #[.agg #[.int .i64 s, .int .i64 a]] w fun e w' => e = .returned (.tuple #[.int .i64 (pv (key s a)), .bool (pvb (key s a))]) ∧ Below w.heap.size w w' := by
  have HC := Lib.hid (fun W => rcanon_any s a W ha)
  have hk := key_ky s a ha
  generalize key s a = k at *
  rcases ky_cases k hk with ⟨rfl, h1, h2⟩ | ⟨rfl, h1, h2⟩ | ⟨g1, g2, h1, h2⟩
  · rw [h1, h2] at HC
    clear h1 h2 hk
    go_enter Try.func33, Try.ntmps33
    go_wp2_with fail
    refine (HC.out _).mono ?_
    rintro e w1 ⟨rfl, hL⟩
    have hb : w1.heap[w.heap.size]? = some (.cells #[.int .i64 s, .int .i64 a] 23 (0, 0)) := by rw [hL.block _ (by simp)]; exact heap_alloc_new _ _
    have hL1 := ((bt ((Below.refl _ _).alloc (Nat.le_refl _) _) hL).setCell (p := ⟨w.heap.size, 0, none⟩) (by simp) (.int .i64 (-1))).setCell (p := ⟨w.heap.size, 1, none⟩) (by simp) (.int .i64 0)
    obtain ⟨p1, p2, _, _⟩ := two_cells (two_put (p := .int .i64 (-1)) (q := .int .i64 0) hb)
    obtain ⟨q1, q2, q3, q4⟩ := two_cells hb
    clear hb
    go_wp2_with fail
    go_ret2
    exact ⟨ret_ib pv_lo, hL1⟩
  · rw [h1, h2] at HC
    clear h1 h2 hk
    go_enter Try.func33, Try.ntmps33
    go_wp2_with fail
    refine (HC.out _).mono ?_
    rintro e w1 ⟨rfl, hL⟩
    have hb : w1.heap[w.heap.size]? = some (.cells #[.int .i64 s, .int .i64 a] 23 (0, 0)) := by rw [hL.block _ (by simp)]; exact heap_alloc_new _ _
    have hL1 := ((bt ((Below.refl _ _).alloc (Nat.le_refl _) _) hL).setCell (p := ⟨w.heap.size, 0, none⟩) (by simp) (.int .i64 1)).setCell (p := ⟨w.heap.size, 1, none⟩) (by simp) (.int .i64 0)
    obtain ⟨p1, p2, _, _⟩ := two_cells (two_put (p := .int .i64 1) (q := .int .i64 0) hb)
    obtain ⟨q1, q2, q3, q4⟩ := two_cells hb
    clear hb
    go_wp2_with fail
    go_ret2
    exact ⟨ret_ib (pv_in _ (by decide)), hL1⟩
  · rw [h1, h2] at HC
    clear h1 h2 hk
    go_enter Try.func33, Try.ntmps33
    go_wp2_with fail
    refine (HC.out _).mono ?_
    rintro e w1 ⟨rfl, hL⟩
    have hb : w1.heap[w.heap.size]? = some (.cells #[.int .i64 s, .int .i64 a] 23 (0, 0)) := by rw [hL.block _ (by simp)]; exact heap_alloc_new _ _
    have hL1 := ((bt ((Below.refl _ _).alloc (Nat.le_refl _) _) hL).setCell (p := ⟨w.heap.size, 0, none⟩) (by simp) (.int .i64 0)).setCell (p := ⟨w.heap.size, 1, none⟩) (by simp) (.int .i64 k)
    obtain ⟨p1, p2, _, _⟩ := two_cells (two_put (p := .int .i64 0) (q := .int .i64 k) hb)
    obtain ⟨q1, q2, q3, q4⟩ := two_cells hb
    clear hb
    go_wp2_with fail
    go_ret2
    exact ⟨ret_ib (pv_in k (by omega)), hL1⟩

theorem rahead_any (n : Int) (w : World) (hn : I64 n) :
    Calls Try.prog 35 #[.int .i64 n] w fun e w' => e = .returned (.agg #[.int .i64 (sd n), .int .i64 (pa n)]) ∧ Below w.heap.size w w' := by
  have HC := Lib.hid (fun W => rcanon_any 0 n W hn)
  rw [key_zero] at HC
  generalize sd n = t at *
  generalize pa n = b at *
  go_enter Try.func35, Try.ntmps35
  go_wp2_with fail
  refine (HC.out _).mono ?_
  rintro e w1 ⟨rfl, hL⟩
  have hb : w1.heap[w.heap.size]? = some (.cells #[.int .i64 0, .int .i64 0] 23 (0, 0)) := by rw [hL.block _ (by simp)]; exact heap_alloc_new _ _
  have hL1 := ((bt ((Below.refl _ _).alloc (Nat.le_refl _) _) hL).setCell (p := ⟨w.heap.size, 0, none⟩) (by simp) (.int .i64 t)).setCell (p := ⟨w.heap.size, 1, none⟩) (by simp) (.int .i64 b)
  obtain ⟨p1, p2, _, _⟩ := two_cells (two_put (p := .int .i64 t) (q := .int .i64 b) hb)
  obtain ⟨q1, q2, q3, q4⟩ := two_cells hb
  clear hb
  go_wp2_with fail
  refine bodyPost_ret (v := .agg #[.int .i64 t, .int .i64 b]) (by simp [results, Try.results35, go_sem, p1, p2]) rfl ?_
  exact ⟨rfl, hL1⟩
theorem rbehind_any (n : Int) (w : World) (hn : I64 n) :
    Calls Try.prog 36 #[.int .i64 n] w fun e w' => e = .returned (.agg #[.int .i64 (sd (n + 1)), .int .i64 (pa (n + 1))]) ∧ Below w.heap.size w w' := by
  unfold I64 at hn
  by_cases h : n = 9223372036854775807
  · subst h
    rw [show (9223372036854775807 : Int) + 1 = 9223372036854775808 from by decide, sd_hi, pa_hi]
    go_enter Try.func36, Try.ntmps36
    go_wp2_with fail
    refine bodyPost_ret (v := .agg #[.int .i64 1, .int .i64 0]) (by simp [results, Try.results36, go_sem]) rfl ?_
    exact ⟨rfl, (Below.refl _ _).alloc (Nat.le_refl _) _⟩
  · rw [sd_mid (n + 1) (by omega) (by omega), pa_mid (n + 1) (by omega) (by omega)]
    have t1 : (n == 9223372036854775807) = false := beq_eq_false_iff_ne.2 h
    go_enter Try.func36, Try.ntmps36
    go_wp2_with fail
    refine bodyPost_ret (v := .agg #[.int .i64 0, .int .i64 (n + 1)]) (by simp [results, Try.results36, go_sem]) rfl ?_
    exact ⟨rfl, (Below.refl _ _).alloc (Nat.le_refl _) _⟩
end Go.Proofs.Ytkokilbnhhmicaa

/- The law's guard 'alive' of layer 2 answers true. -/
namespace Go.Proofs.Ytkokilbnhhmicaa
open Go.RowKit Go.Sort Go.Proofs.Ytkokilbnhhmicaa.Bo
set_option linter.unusedVariables false

theorem al_next (w : World) : Calls Try.prog 60 #[.agg #[.int .i64 (-1), .int .i64 0]] w fun e w' => e = .returned (.tuple #[.int .i64 (-9223372036854775808), .bool true]) ∧ Below w.heap.size w w' := by
  have h := next_any (-1) 0 w ⟨by decide, by decide⟩
  rw [show key (-1) 0 = -9223372036854775808 from by decide, (nx_in (-9223372036854775808) (by decide)).1, (nx_in (-9223372036854775808) (by decide)).2] at h
  exact h.mono fun _ _ h => ⟨h.1, h.2.1⟩
theorem al_ahead_least (w : World) : Calls Try.prog 63 #[.int .i64 (-9223372036854775808)] w fun e w' => e = .returned (.agg #[.int .i64 (-1), .int .i64 0]) ∧ Below w.heap.size w w' := by
  have h := ahead_any (-9223372036854775808) w ⟨by decide, by decide⟩
  rw [sd_lo, pa_lo] at h
  exact h.mono fun _ _ h => ⟨h.1, h.2.1⟩
theorem al_ahead3 (w : World) : Calls Try.prog 63 #[.int .i64 3] w fun e w' => e = .returned (.agg #[.int .i64 0, .int .i64 3]) ∧ Below w.heap.size w w' := by
  have h := ahead_any 3 w ⟨by decide, by decide⟩
  rw [sd_mid 3 (by decide) (by decide), pa_mid 3 (by decide) (by decide)] at h
  exact h.mono fun _ _ h => ⟨h.1, h.2.1⟩
theorem al_behind2 (w : World) : Calls Try.prog 64 #[.int .i64 2] w fun e w' => e = .returned (.agg #[.int .i64 0, .int .i64 3]) ∧ Below w.heap.size w w' := by
  have h := behind_any 2 w ⟨by decide, by decide⟩
  rw [show (2 : Int) + 1 = 3 from by decide, sd_mid 3 (by decide) (by decide), pa_mid 3 (by decide) (by decide)] at h
  exact h.mono fun _ _ h => ⟨h.1, h.2.1⟩
theorem al_behind_top (w : World) : Calls Try.prog 64 #[.int .i64 9223372036854775807] w fun e w' => e = .returned (.agg #[.int .i64 1, .int .i64 0]) ∧ Below w.heap.size w w' := by
  have h := behind_any 9223372036854775807 w ⟨by decide, by decide⟩
  rw [show (9223372036854775807 : Int) + 1 = 9223372036854775808 from by decide, sd_hi, pa_hi] at h
  exact h.mono fun _ _ h => ⟨h.1, h.2.1⟩
theorem al_compare (w : World) : Calls Try.prog 71 #[.agg #[.int .i64 0, .int .i64 3], .agg #[.int .i64 0, .int .i64 3]] w fun e w' => e = .returned (.int .i64 0) ∧ Below w.heap.size w w' := by
  have h := compare_any 0 3 0 3 w ⟨by decide, by decide⟩ ⟨by decide, by decide⟩
  rw [kcmp_eq _ _ rfl] at h
  exact h.mono fun _ _ h => ⟨h.1, h.2.1⟩
theorem first_b (w : World) : Calls Try.prog 70 #[] w fun e w' => e = .returned (.agg #[.int .i64 (-1), .int .i64 0]) ∧ Below w.heap.size w w' := (first_any w).mono fun _ _ h => ⟨h.1, h.2.1⟩
theorem last_b (w : World) : Calls Try.prog 72 #[] w fun e w' => e = .returned (.agg #[.int .i64 1, .int .i64 0]) ∧ Below w.heap.size w w' := (last_any w).mono fun _ _ h => ⟨h.1, h.2.1⟩

end Go.Proofs.Ytkokilbnhhmicaa

/- The walk of the law CutOrder. -/
namespace Go.Proofs.Ytkokilbnhhmicaa
open Go.RowKit Go.Sort Go.Proofs.Ytkokilbnhhmicaa.Bo
set_option linter.unusedVariables false

theorem i64_of_wf2 {n : Int} (h : (Lit.int .i64 n).wf = true) : I64 n := by
  have := bounds_i64 h; unfold I64; omega
theorem compare_b (s a t b : Int) (v : Int) (h : kcmp (key s a) (key t b) = v) (ha : I64 a) (hb : I64 b) (w : World) :
    Calls Try.prog 71 #[.agg #[.int .i64 s, .int .i64 a], .agg #[.int .i64 t, .int .i64 b]] w fun e w' => e = .returned (.int .i64 v) ∧ Below w.heap.size w w' := by
  subst h; exact (compare_any s a t b w ha hb).mono fun _ _ h => ⟨h.1, h.2.1⟩
theorem canon_b (s a : Int) (ha : I64 a) (w : World) :
    Calls Try.prog 55 #[.agg #[.int .i64 s, .int .i64 a]] w fun e w' => e = .returned (.agg #[.int .i64 (sd (key s a)), .int .i64 (pa (key s a))]) ∧ Below w.heap.size w w' := (canon_any s a w ha).mono fun _ _ h => ⟨h.1, h.2.1⟩

/-- The cells of three boxes that lie side by side. -/
theorem three_boxes (w : World) (s a t b u c : Int) :
    (((w.alloc (.cells #[.int .i64 s, .int .i64 a] 23)).alloc (.cells #[.int .i64 t, .int .i64 b] 23)).alloc (.cells #[.int .i64 u, .int .i64 c] 23)).heap[w.heap.size]? = some (.cells #[.int .i64 s, .int .i64 a] 23 (0, 0)) ∧
    (((w.alloc (.cells #[.int .i64 s, .int .i64 a] 23)).alloc (.cells #[.int .i64 t, .int .i64 b] 23)).alloc (.cells #[.int .i64 u, .int .i64 c] 23)).heap[w.heap.size + 1]? = some (.cells #[.int .i64 t, .int .i64 b] 23 (0, 0)) ∧
    (((w.alloc (.cells #[.int .i64 s, .int .i64 a] 23)).alloc (.cells #[.int .i64 t, .int .i64 b] 23)).alloc (.cells #[.int .i64 u, .int .i64 c] 23)).heap[w.heap.size + 1 + 1]? = some (.cells #[.int .i64 u, .int .i64 c] 23 (0, 0)) ∧
    Below w.heap.size w (((w.alloc (.cells #[.int .i64 s, .int .i64 a] 23)).alloc (.cells #[.int .i64 t, .int .i64 b] 23)).alloc (.cells #[.int .i64 u, .int .i64 c] 23)) := by
  refine ⟨?_, ?_, ?_, (((Below.refl _ _).alloc (Nat.le_refl _) _).alloc (by simp) _).alloc (by simp; omega) _⟩
  · rw [heap_alloc_old _ _ (by simp; omega)]; exact heap_alloc2_old _ _ _
  · rw [heap_alloc_old _ _ (by simp)]; exact heap_alloc2_new _ _ _
  · have h := heap_alloc_new ((w.alloc (.cells #[.int .i64 s, .int .i64 a] 23)).alloc (.cells #[.int .i64 t, .int .i64 b] 23)) (.cells #[.int .i64 u, .int .i64 c] 23)
    simpa using h

end Go.Proofs.Ytkokilbnhhmicaa
