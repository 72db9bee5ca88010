/- Contract of cut.Compare. -/
import Derived.Test.YtbpplhlkpfdegaaCutB
import Derived.Deep.CutRange
import Derived.RegionTactic
namespace Go.Proofs.Ytbpplhlkpfdegaa
open Go.RowKit Go.Sort Go.Proofs.Ytbpplhlkpfdegaa.Bo
set_option linter.unusedVariables false

theorem ret_cmp {a b : Int} (h : a = b) : Ending.returned (.int .i64 a) = .returned (.int .i64 b) := by rw [h]
theorem cmpi_any (x y : Int) (w : World) : Calls Try.prog 22 #[.int .i64 x, .int .i64 y] w fun e w' => e = .returned (.int .i64 (kcmp x y)) ∧ w = w' := by
  rcases Int.lt_trichotomy x y with h | h | h
  · have t1 : decide (x < y) = true := decide_eq_true h
    rw [kcmp_lt x y h]
    go_enter Try.func22, Try.ntmps22
    go_wp2
    go_ret
    exact ⟨rfl, rfl⟩
  · subst h
    rw [kcmp_eq x x rfl]
    have t1 : decide (x < x) = false := decide_eq_false (by omega)
    go_enter Try.func22, Try.ntmps22
    go_wp2
    go_ret
    exact ⟨rfl, rfl⟩
  · have t1 : decide (x < y) = false := decide_eq_false (by omega)
    have t2 : decide (y < x) = true := decide_eq_true h
    rw [kcmp_gt x y h]
    go_enter Try.func22, Try.ntmps22
    go_wp2
    go_ret
    exact ⟨rfl, rfl⟩

/-- The two cells of two boxes that lie side by side. -/
def Two (b : Nat) (s a t c : Int) (w : World) : Prop :=
  w.heap[b]? = some (.cells #[.int .i64 s, .int .i64 a] 27 (0, 0)) ∧ w.heap[b + 1]? = some (.cells #[.int .i64 t, .int .i64 c] 27 (0, 0))
theorem Two.below {b : Nat} {s a t c : Int} {w w' : World} (h : Two b s a t c w) (hb : Below w.heap.size w w') : Two b s a t c w' :=
  ⟨(hb.block _ (lt_of_block h.1)).trans h.1, (hb.block _ (lt_of_block h.2)).trans h.2⟩
theorem Two.cells {b : Nat} {s a t c : Int} {w : World} (h : Two b s a t c w) : w.cell? ⟨b, 0, none⟩ = some (.int .i64 s) ∧ w.cell? ⟨b, 1, none⟩ = some (.int .i64 a) ∧ w.cell? ⟨b + 1, 0, none⟩ = some (.int .i64 t) ∧ w.cell? ⟨b + 1, 1, none⟩ = some (.int .i64 c) ∧
    w.frozen? ⟨b, 0, none⟩ = false ∧ w.frozen? ⟨b, 1, none⟩ = false ∧ w.frozen? ⟨b + 1, 0, none⟩ = false ∧ w.frozen? ⟨b + 1, 1, none⟩ = false :=
  ⟨(two_cells h.1).1, (two_cells h.1).2.1, (two_cells h.2).1, (two_cells h.2).2.1, (two_cells h.1).2.2.1, (two_cells h.1).2.2.2, (two_cells h.2).2.2.1, (two_cells h.2).2.2.2⟩
theorem Two.put {b : Nat} {s a t c : Int} {w : World} (h : Two b s a t c w) (s' a' t' c' : Int) :
    Two b s' a' t' c' ((((w.setCell ⟨b, 0, none⟩ (.int .i64 s')).setCell ⟨b, 1, none⟩ (.int .i64 a')).setCell ⟨b + 1, 0, none⟩ (.int .i64 t')).setCell ⟨b + 1, 1, none⟩ (.int .i64 c')) := by
  refine ⟨?_, ?_⟩
  · rw [heap_setCell_other _ _ _ _ (by simp), heap_setCell_other _ _ _ _ (by simp)]; exact two_put h.1
  · refine two_put (x := .int .i64 t) (y := .int .i64 c) ?_
    rw [heap_setCell_other _ _ _ _ (by simp), heap_setCell_other _ _ _ _ (by simp)]; exact h.2

set_option maxRecDepth 100000 in
set_option maxHeartbeats 1000000 in
theorem compare_any (s a t b : Int) (w : World) (ha : I64 a) (hb : I64 b) :
    Calls Try.prog 6 #[.agg #[.int .i64 s, .int .i64 a], .agg #[.int .i64 t, .int .i64 b]] w fun e w' => e = .returned (.int .i64 (kcmp (key s a) (key t b))) ∧ Lays w w' := by
  have mx := mixed
  have HC := Lib.hid (fun W => canon_any s a W ha)
  have HD := Lib.hid (fun W => canon_any t b W hb)
  have hk := key_ky s a ha
  have hl := key_ky t b hb
  generalize key s a = k at *
  generalize key t b = l at *
  have HE : Hid (∃ x y u v, x = sd k ∧ y = pa k ∧ u = sd l ∧ v = pa l) := ⟨_, _, _, _, rfl, rfl, rfl, rfl⟩
  obtain ⟨x, y, u, v, e1, e2, e3, e4⟩ := HE.out
  rw [← e1, ← e2] at HC
  rw [← e3, ← e4] at HD
  have E := Lib.hid (And.intro e1 (And.intro e2 (And.intro e3 e4)))
  clear e1 e2 e3 e4 HE
  have eqc := eql_cut
  go_enter Try.func6, Try.ntmps6
  go_upto_region 1 with fail
  have hT0 : Two w.heap.size s a t b ((w.alloc (.cells #[.int .i64 s, .int .i64 a] 27)).alloc (.cells #[.int .i64 t, .int .i64 b] 27)) := ⟨heap_alloc2_old _ _ _, heap_alloc2_new _ _ _⟩
  have hL0 := ((Lays.refl w).alloc (.cells #[.int .i64 s, .int .i64 a] 27)).alloc (.cells #[.int .i64 t, .int .i64 b] 27)
  generalize (w.alloc (.cells #[.int .i64 s, .int .i64 a] 27)).alloc (.cells #[.int .i64 t, .int .i64 b] 27) = X at *
  have HT := Lib.hid hT0
  go_cut [] from 5 to 35 (fun wx => Two w.heap.size x y u v wx ∧ Lays w wx)
  case first =>
    obtain ⟨p1, p2, p3, p4, p5, p6, p7, p8⟩ := hT0.cells
    clear hT0
    go_region_with (first
      | (go_at_call 19; (with_reducible refine (HC.out _).mono ?_); rintro e x4 ⟨rfl, hL4'⟩; have hL4 := (Lays.refl X).drew.trans hL4'; have hT4 := Lib.hid (HT.out.below hL4.1); obtain ⟨c1, c2, c3, c4, c5, c6, c7, c8⟩ := hT4.out.cells; clear hL4')
      | (go_at_call 19; (with_reducible refine (HD.out _).mono ?_); rintro e x5 ⟨rfl, hL5⟩; have hT5 := Lib.hid (hT4.out.below hL5.1); obtain ⟨d1, d2, d3, d4, d5, d6, d7, d8⟩ := hT5.out.cells))
    all_goals (go_wp2_with fail; go_meet; exact ⟨hT5.out.put x y u v, ((((hL0.trans hL4).trans hL5).setCell (by simp) _).setCell (by simp) _).setCell (by simp) _ |>.setCell (by simp) _⟩)
  case rest =>
  obtain ⟨hT, hL⟩ := hcut
  obtain ⟨e1, e2, e3, e4⟩ := E.out
  clear HC HD HT hL0 hT0 ha hb
  generalize wc = Y at *
  rcases ky_cases k hk with ⟨hk1, g1, g2⟩ | ⟨hk1, g1, g2⟩ | ⟨hk1, hk2, g1, g2⟩
  · rw [g1] at e1
    rw [g2] at e2
    subst e1 e2
    clear g1 g2 hk
    rcases ky_cases l hl with ⟨hl1, g1, g2⟩ | ⟨hl1, g1, g2⟩ | ⟨hl1, hl2, g1, g2⟩
    · rw [g1] at e3
      rw [g2] at e4
      subst e3 e4
      clear g1 g2 hl E
      obtain ⟨c1, c2, c3, c4, c5, c6, c7, c8⟩ := hT.cells
      go_wp2_with fail
      go_ret
      exact ⟨ret_cmp (kcmp_eq _ _ (by omega)).symm, hL⟩
    · rw [g1] at e3
      rw [g2] at e4
      subst e3 e4
      clear g1 g2 hl E
      obtain ⟨c1, c2, c3, c4, c5, c6, c7, c8⟩ := hT.cells
      go_wp2_with fail
      clear c1 c2 c3 c4 c5 c6 c7 c8
      obtain ⟨p1, p2⟩ := cut_grown hT.1
      obtain ⟨p3, p4⟩ := cut_grown hT.2
      go_quiet_grown (first | (go_at_call 13; exact Calls.grown_of (first_g _)) | (go_at_call 17; exact Calls.grown_of (last_g _)))
      have hL1 := hL.trans (lays_grow Y nq osq)
      go_wp2_with fail
      go_ret
      exact ⟨ret_cmp (kcmp_lt _ _ (by omega)).symm, hL1⟩
    · rw [g1] at e3
      rw [g2] at e4
      subst e3 e4
      clear g1 g2 hl E
      obtain ⟨c1, c2, c3, c4, c5, c6, c7, c8⟩ := hT.cells
      go_wp2_with fail
      clear c1 c2 c3 c4 c5 c6 c7 c8
      obtain ⟨p1, p2⟩ := cut_grown hT.1
      obtain ⟨p3, p4⟩ := cut_grown hT.2
      go_quiet_grown (first | (go_at_call 13; exact Calls.grown_of (first_g _)) | (go_at_call 17; exact Calls.grown_of (last_g _)))
      have hL1 := hL.trans (lays_grow Y nq osq)
      go_wp2_with fail
      go_ret
      exact ⟨ret_cmp (kcmp_lt _ _ (by omega)).symm, hL1⟩
  · rw [g1] at e1
    rw [g2] at e2
    subst e1 e2
    clear g1 g2 hk
    rcases ky_cases l hl with ⟨hl1, g1, g2⟩ | ⟨hl1, g1, g2⟩ | ⟨hl1, hl2, g1, g2⟩
    · rw [g1] at e3
      rw [g2] at e4
      subst e3 e4
      clear g1 g2 hl E
      obtain ⟨c1, c2, c3, c4, c5, c6, c7, c8⟩ := hT.cells
      go_wp2_with fail
      clear c1 c2 c3 c4 c5 c6 c7 c8
      obtain ⟨p1, p2⟩ := cut_grown hT.1
      obtain ⟨p3, p4⟩ := cut_grown hT.2
      go_quiet_grown (first | (go_at_call 13; exact Calls.grown_of (first_g _)) | (go_at_call 17; exact Calls.grown_of (last_g _)))
      have hT1 := hT.below (lays_grow Y nq osq).1
      have hL1 := hL.trans (lays_grow Y nq osq)
      clear p1 p2 p3 p4 hT hL
      go_wp2_with fail
      generalize grow (Y.drewN nq) osq = Z at *
      have hT := hT1
      have hL := hL1
      clear hT1 hL1
      obtain ⟨p1, p2⟩ := cut_grown hT.1
      obtain ⟨p3, p4⟩ := cut_grown hT.2
      go_quiet_grown (first | (go_at_call 13; exact Calls.grown_of (first_g _)) | (go_at_call 17; exact Calls.grown_of (last_g _)))
      have hL1 := hL.trans (lays_grow Z nq osq)
      go_wp2_with fail
      go_ret
      exact ⟨ret_cmp (kcmp_gt _ _ (by omega)).symm, hL1⟩
    · rw [g1] at e3
      rw [g2] at e4
      subst e3 e4
      clear g1 g2 hl E
      obtain ⟨c1, c2, c3, c4, c5, c6, c7, c8⟩ := hT.cells
      go_wp2_with fail
      go_ret
      exact ⟨ret_cmp (kcmp_eq _ _ (by omega)).symm, hL⟩
    · rw [g1] at e3
      rw [g2] at e4
      subst e3 e4
      clear g1 g2 hl E
      obtain ⟨c1, c2, c3, c4, c5, c6, c7, c8⟩ := hT.cells
      go_wp2_with fail
      clear c1 c2 c3 c4 c5 c6 c7 c8
      obtain ⟨p1, p2⟩ := cut_grown hT.1
      obtain ⟨p3, p4⟩ := cut_grown hT.2
      go_quiet_grown (first | (go_at_call 13; exact Calls.grown_of (first_g _)) | (go_at_call 17; exact Calls.grown_of (last_g _)))
      have hT1 := hT.below (lays_grow Y nq osq).1
      have hL1 := hL.trans (lays_grow Y nq osq)
      clear p1 p2 p3 p4 hT hL
      go_wp2_with fail
      generalize grow (Y.drewN nq) osq = Z at *
      have hT := hT1
      have hL := hL1
      clear hT1 hL1
      obtain ⟨p1, p2⟩ := cut_grown hT.1
      obtain ⟨p3, p4⟩ := cut_grown hT.2
      go_quiet_grown (first | (go_at_call 13; exact Calls.grown_of (first_g _)) | (go_at_call 17; exact Calls.grown_of (last_g _)))
      have hL1 := hL.trans (lays_grow Z nq osq)
      go_wp2_with fail
      go_ret
      exact ⟨ret_cmp (kcmp_gt _ _ (by omega)).symm, hL1⟩
  · rw [g1] at e1
    rw [g2] at e2
    subst e1 e2
    clear g1 g2 hk
    rcases ky_cases l hl with ⟨hl1, g1, g2⟩ | ⟨hl1, g1, g2⟩ | ⟨hl1, hl2, g1, g2⟩
    · rw [g1] at e3
      rw [g2] at e4
      subst e3 e4
      clear g1 g2 hl E
      obtain ⟨c1, c2, c3, c4, c5, c6, c7, c8⟩ := hT.cells
      go_wp2_with fail
      clear c1 c2 c3 c4 c5 c6 c7 c8
      obtain ⟨p1, p2⟩ := cut_grown hT.1
      obtain ⟨p3, p4⟩ := cut_grown hT.2
      go_quiet_grown (first | (go_at_call 13; exact Calls.grown_of (first_g _)) | (go_at_call 17; exact Calls.grown_of (last_g _)))
      have hT1 := hT.below (lays_grow Y nq osq).1
      have hL1 := hL.trans (lays_grow Y nq osq)
      clear p1 p2 p3 p4 hT hL
      go_wp2_with fail
      generalize grow (Y.drewN nq) osq = Z at *
      have hT := hT1
      have hL := hL1
      clear hT1 hL1
      obtain ⟨p1, p2⟩ := cut_grown hT.1
      obtain ⟨p3, p4⟩ := cut_grown hT.2
      go_quiet_grown (first | (go_at_call 13; exact Calls.grown_of (first_g _)) | (go_at_call 17; exact Calls.grown_of (last_g _)))
      have hL1 := hL.trans (lays_grow Z nq osq)
      go_wp2_with fail
      go_ret
      exact ⟨ret_cmp (kcmp_gt _ _ (by omega)).symm, hL1⟩
    · rw [g1] at e3
      rw [g2] at e4
      subst e3 e4
      clear g1 g2 hl E
      obtain ⟨c1, c2, c3, c4, c5, c6, c7, c8⟩ := hT.cells
      go_wp2_with fail
      clear c1 c2 c3 c4 c5 c6 c7 c8
      obtain ⟨p1, p2⟩ := cut_grown hT.1
      obtain ⟨p3, p4⟩ := cut_grown hT.2
      go_quiet_grown (first | (go_at_call 13; exact Calls.grown_of (first_g _)) | (go_at_call 17; exact Calls.grown_of (last_g _)))
      have hL1 := hL.trans (lays_grow Y nq osq)
      go_wp2_with fail
      go_ret
      exact ⟨ret_cmp (kcmp_lt _ _ (by omega)).symm, hL1⟩
    · rw [g1] at e3
      rw [g2] at e4
      subst e3 e4
      clear g1 g2 hl E
      by_cases hq : y = v
      · subst hq
        have tq : (y == y) = true := beq_self_eq_true _
        obtain ⟨c1, c2, c3, c4, c5, c6, c7, c8⟩ := hT.cells
        go_wp2_with fail
        go_ret
        exact ⟨ret_cmp (kcmp_eq _ _ (by omega)).symm, hL⟩
      · have tq : (y == v) = false := beq_eq_false_iff_ne.2 hq
        clear hq
        obtain ⟨c1, c2, c3, c4, c5, c6, c7, c8⟩ := hT.cells
        go_wp2_with fail
        clear c1 c2 c3 c4 c5 c6 c7 c8
        obtain ⟨p1, p2⟩ := cut_grown hT.1
        obtain ⟨p3, p4⟩ := cut_grown hT.2
        go_quiet_grown (first | (go_at_call 13; exact Calls.grown_of (first_g _)) | (go_at_call 17; exact Calls.grown_of (last_g _)))
        have hT1 := hT.below (lays_grow Y nq osq).1
        have hL1 := hL.trans (lays_grow Y nq osq)
        clear p1 p2 p3 p4 hT hL
        go_wp2_with fail
        generalize grow (Y.drewN nq) osq = Z at *
        have hT := hT1
        have hL := hL1
        clear hT1 hL1
        obtain ⟨p1, p2⟩ := cut_grown hT.1
        obtain ⟨p3, p4⟩ := cut_grown hT.2
        go_quiet_grown (first | (go_at_call 13; exact Calls.grown_of (first_g _)) | (go_at_call 17; exact Calls.grown_of (last_g _)))
        have hL1 := hL.trans (lays_grow Z nq osq)
        go_wp2_with fail
        refine (cmpi_any _ _ _).mono ?_
        rintro e w9 ⟨rfl, rfl⟩
        go_wp2_with fail
        go_ret
        exact ⟨rfl, hL1⟩
end Go.Proofs.Ytbpplhlkpfdegaa
