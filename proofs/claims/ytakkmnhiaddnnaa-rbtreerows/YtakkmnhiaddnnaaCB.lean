/- A part of the proof: contracts of the functions that the statements reach. -/
import Derived.Test.YtakkmnhiaddnnaaRows
import Derived.Test.YtakkmnhiaddnnaaCA
import Derived.WalkKit
import Derived.WalkSpells
import Derived.WalkLawsBesides
import Derived.Lib.Hide
import Derived.Laws.EntriesVeiled
import Derived.Deep.CutRange
import Derived.RegionTactic
import Derived.Lib.QuietBelow
import Derived.BigQuiet

/- Contracts of the plain arithmetic functions of package sat. -/
namespace Go.Proofs.Ytakkmnhiaddnnaa
open Go.RowKit Go.Proofs.Ytakkmnhiaddnnaa.Bo

theorem ret_int {k : IntKind} {a b : Int} (h : a = b) : Ending.returned (.int k a) = .returned (.int k b) := by rw [h]

theorem ret_int_bool {k : IntKind} {a b : Int} {c : Bool} (h : a = b) : Ending.returned (.tuple #[.int k a, .bool c]) = .returned (.tuple #[.int k b, .bool c]) := by rw [h]

theorem wrap64_hi (n : Int) (h : 9223372036854775807 < n) (h2 : n < 18446744073709551616) : wrap64 n = n - 18446744073709551616 := by unfold wrap64; omega
theorem wrap64_lo (n : Int) (h : n < -9223372036854775808) (h2 : -18446744073709551617 < n) : wrap64 n = n + 18446744073709551616 := by unfold wrap64; omega

/-! ### Ceil -/
/-! ### size -/
theorem u64_neg (n : Int) (h1 : -9223372036854775808 ≤ n) (h2 : n < 0) : IntKind.u64.wrap (-IntKind.u64.wrap n) = -n := by
  simp [IntKind.wrap, IntKind.bits, IntKind.signed]; omega
end Go.Proofs.Ytakkmnhiaddnnaa

/- Contract of sat.Text. -/
namespace Go.Proofs.Ytakkmnhiaddnnaa
open Go.RowKit Go.Proofs.Ytakkmnhiaddnnaa.Bo

theorem ret_int' {k : IntKind} {a b : Int} (h : a = b) : Value.int k a = .int k b := by rw [h]

def bv (c : UInt8) : Value := .int .u8 (c.toNat : Int)

theorem drop_set_pred (l : List Value) (j : Nat) (v : Value) (h : j < l.length) : (l.set j v).drop j = v :: l.drop (j + 1) := by
  rw [List.drop_eq_getElem_cons (by simpa using h), List.drop_set_of_lt (by omega)]; simp

theorem ret_str {a b : List UInt8} (h : a = b) : Ending.returned (.string ⟨a.toArray⟩) = .returned (.string ⟨b.toArray⟩) := by rw [h]

end Go.Proofs.Ytakkmnhiaddnnaa

/- Contracts of readDigits and Read. -/
namespace Go.Proofs.Ytakkmnhiaddnnaa
open Go.RowKit Go.Proofs.Ytakkmnhiaddnnaa.Bo
set_option linter.unusedVariables false

theorem bytes_at (s : ByteArray) (k : Nat) (h : k < s.size) : s.data.toList[k]'(by simpa using h) = s[k]'h := by simp [ByteArray.getElem_eq_getElem_data]

theorem ret_pair {k1 k2 : IntKind} {a b c d : Int} (h : a = b) (h2 : c = d) : Ending.returned (.tuple #[.int k1 a, .int k2 c]) = .returned (.tuple #[.int k1 b, .int k2 d]) := by rw [h, h2]

end Go.Proofs.Ytakkmnhiaddnnaa

/- Contracts of strings.CutPrefix at "-", Read and Parse. -/
namespace Go.Proofs.Ytakkmnhiaddnnaa
open Go.RowKit Go.Proofs.Ytakkmnhiaddnnaa.Bo
set_option linter.unusedVariables false

theorem i64_neg_u64 (n : Nat) (h0 : n ≠ 0) (h : n ≤ 9223372036854775808) : wrap64 (IntKind.u64.wrap (-(n : Int))) = -(n : Int) := by
  simp [IntKind.wrap, IntKind.bits, IntKind.signed]; unfold wrap64; omega

end Go.Proofs.Ytakkmnhiaddnnaa

/- Contracts of cut.Text and cut.Read. -/
namespace Go.Proofs.Ytakkmnhiaddnnaa
open Go.RowKit Go.Sort Go.Proofs.Ytakkmnhiaddnnaa.Bo
set_option linter.unusedVariables false

end Go.Proofs.Ytakkmnhiaddnnaa

/- Contract of cut.Compare. -/
namespace Go.Proofs.Ytakkmnhiaddnnaa
open Go.RowKit Go.Sort Go.Proofs.Ytakkmnhiaddnnaa.Bo
set_option linter.unusedVariables false

theorem ret_cmp {a b : Int} (h : a = b) : Ending.returned (.int .i64 a) = .returned (.int .i64 b) := by rw [h]
theorem cmpi_any (x y : Int) (w : World) : Calls Try.prog 75 #[.int .i64 x, .int .i64 y] w fun e w' => e = .returned (.int .i64 (kcmp x y)) ∧ w = w' := by
  rcases Int.lt_trichotomy x y with h | h | h
  · have t1 : decide (x < y) = true := decide_eq_true h
    rw [kcmp_lt x y h]
    go_enter Try.func75, Try.ntmps75
    go_wp2
    go_ret
    exact ⟨rfl, rfl⟩
  · subst h
    rw [kcmp_eq x x rfl]
    have t1 : decide (x < x) = false := decide_eq_false (by omega)
    go_enter Try.func75, Try.ntmps75
    go_wp2
    go_ret
    exact ⟨rfl, rfl⟩
  · have t1 : decide (x < y) = false := decide_eq_false (by omega)
    have t2 : decide (y < x) = true := decide_eq_true h
    rw [kcmp_gt x y h]
    go_enter Try.func75, Try.ntmps75
    go_wp2
    go_ret
    exact ⟨rfl, rfl⟩

/-- The two cells of two boxes that lie side by side. -/
def Two (b : Nat) (s a t c : Int) (w : World) : Prop :=
  w.heap[b]? = some (.cells #[.int .i64 s, .int .i64 a] 31 (0, 0)) ∧ w.heap[b + 1]? = some (.cells #[.int .i64 t, .int .i64 c] 31 (0, 0))
theorem Two.below {b : Nat} {s a t c : Int} {w w' : World} (h : Two b s a t c w) (hb : Below w.heap.size w w') : Two b s a t c w' :=
  ⟨(hb.block _ (lt_of_block h.1)).trans h.1, (hb.block _ (lt_of_block h.2)).trans h.2⟩
theorem Two.cells {b : Nat} {s a t c : Int} {w : World} (h : Two b s a t c w) : w.cell? ⟨b, 0, none⟩ = some (.int .i64 s) ∧ w.cell? ⟨b, 1, none⟩ = some (.int .i64 a) ∧ w.cell? ⟨b + 1, 0, none⟩ = some (.int .i64 t) ∧ w.cell? ⟨b + 1, 1, none⟩ = some (.int .i64 c) ∧
    w.frozen? ⟨b, 0, none⟩ = false ∧ w.frozen? ⟨b, 1, none⟩ = false ∧ w.frozen? ⟨b + 1, 0, none⟩ = false ∧ w.frozen? ⟨b + 1, 1, none⟩ = false :=
  ⟨(two_cells h.1).1, (two_cells h.1).2.1, (two_cells h.2).1, (two_cells h.2).2.1, (two_cells h.1).2.2.1, (two_cells h.1).2.2.2, (two_cells h.2).2.2.1, (two_cells h.2).2.2.2⟩
theorem Two.put {b : Nat} {s a t c : Int} {w : World} (h : Two b s a t c w) (s' a' t' c' : Int) :
    Two b s' a' t' c' ((((w.setCell ⟨b, 0, none⟩ (.int .i64 s')).setCell ⟨b, 1, none⟩ (.int .i64 a')).setCell ⟨b + 1, 0, none⟩ (.int .i64 t')).setCell ⟨b + 1, 1, none⟩ (.int .i64 c')) := by
  refine ⟨?_, ?_⟩
  · rw [heap_setCell_other _ _ _ _ (by simp), heap_setCell_other _ _ _ _ (by simp)]; exact two_put h.1
  · refine two_put (x := .int .i64 t) (y := .int .i64 c) ?_
    rw [heap_setCell_other _ _ _ _ (by simp), heap_setCell_other _ _ _ _ (by simp)]; exact h.2

set_option maxRecDepth 100000 in
set_option maxHeartbeats 1000000 in
theorem compare_any (s a t b : Int) (w : World) (ha : I64 a) (hb : I64 b) :
    Calls Try.prog 48 #[.agg #[.int .i64 s, .int .i64 a], .agg #[.int .i64 t, .int .i64 b]] w fun e w' => e = .returned (.int .i64 (kcmp (key s a) (key t b))) ∧ Lays w w' := by
  have mx := mixed
  have HC := Lib.hid (fun W => canon_any s a W ha)
  have HD := Lib.hid (fun W => canon_any t b W hb)
  have hk := key_ky s a ha
  have hl := key_ky t b hb
  generalize key s a = k at *
  generalize key t b = l at *
  have HE : Hid (∃ x y u v, x = sd k ∧ y = pa k ∧ u = sd l ∧ v = pa l) := ⟨_, _, _, _, rfl, rfl, rfl, rfl⟩
  obtain ⟨x, y, u, v, e1, e2, e3, e4⟩ := HE.out
  rw [← e1, ← e2] at HC
  rw [← e3, ← e4] at HD
  have E := Lib.hid (And.intro e1 (And.intro e2 (And.intro e3 e4)))
  clear e1 e2 e3 e4 HE
  have eqc := eql_cut
  go_enter Try.func48, Try.ntmps48
  go_upto_region 1 with fail
  have hT0 : Two w.heap.size s a t b ((w.alloc (.cells #[.int .i64 s, .int .i64 a] 31)).alloc (.cells #[.int .i64 t, .int .i64 b] 31)) := ⟨heap_alloc2_old _ _ _, heap_alloc2_new _ _ _⟩
  have hL0 := ((Lays.refl w).alloc (.cells #[.int .i64 s, .int .i64 a] 31)).alloc (.cells #[.int .i64 t, .int .i64 b] 31)
  generalize (w.alloc (.cells #[.int .i64 s, .int .i64 a] 31)).alloc (.cells #[.int .i64 t, .int .i64 b] 31) = X at *
  have HT := Lib.hid hT0
  go_cut [] from 5 to 35 (fun wx => Two w.heap.size x y u v wx ∧ Lays w wx)
  case first =>
    obtain ⟨p1, p2, p3, p4, p5, p6, p7, p8⟩ := hT0.cells
    clear hT0
    go_region_with (first
      | (go_at_call 74; (with_reducible refine (HC.out _).mono ?_); rintro e x4 ⟨rfl, hL4'⟩; have hL4 := (Lays.refl X).drew.trans hL4'; have hT4 := Lib.hid (HT.out.below hL4.1); obtain ⟨c1, c2, c3, c4, c5, c6, c7, c8⟩ := hT4.out.cells; clear hL4')
      | (go_at_call 74; (with_reducible refine (HD.out _).mono ?_); rintro e x5 ⟨rfl, hL5⟩; have hT5 := Lib.hid (hT4.out.below hL5.1); obtain ⟨d1, d2, d3, d4, d5, d6, d7, d8⟩ := hT5.out.cells))
    all_goals (go_wp2_with fail; go_meet; exact ⟨hT5.out.put x y u v, ((((hL0.trans hL4).trans hL5).setCell (by simp) _).setCell (by simp) _).setCell (by simp) _ |>.setCell (by simp) _⟩)
  case rest =>
  obtain ⟨hT, hL⟩ := hcut
  obtain ⟨e1, e2, e3, e4⟩ := E.out
  clear HC HD HT hL0 hT0 ha hb
  generalize wc = Y at *
  rcases ky_cases k hk with ⟨hk1, g1, g2⟩ | ⟨hk1, g1, g2⟩ | ⟨hk1, hk2, g1, g2⟩
  · rw [g1] at e1
    rw [g2] at e2
    subst e1 e2
    clear g1 g2 hk
    rcases ky_cases l hl with ⟨hl1, g1, g2⟩ | ⟨hl1, g1, g2⟩ | ⟨hl1, hl2, g1, g2⟩
    · rw [g1] at e3
      rw [g2] at e4
      subst e3 e4
      clear g1 g2 hl E
      obtain ⟨c1, c2, c3, c4, c5, c6, c7, c8⟩ := hT.cells
      go_wp2_with fail
      go_ret
      exact ⟨ret_cmp (kcmp_eq _ _ (by omega)).symm, hL⟩
    · rw [g1] at e3
      rw [g2] at e4
      subst e3 e4
      clear g1 g2 hl E
      obtain ⟨c1, c2, c3, c4, c5, c6, c7, c8⟩ := hT.cells
      go_wp2_with fail
      clear c1 c2 c3 c4 c5 c6 c7 c8
      obtain ⟨p1, p2⟩ := cut_grown hT.1
      obtain ⟨p3, p4⟩ := cut_grown hT.2
      go_quiet_grown (first | (go_at_call 54; exact Calls.grown_of (first_g _)) | (go_at_call 55; exact Calls.grown_of (last_g _)))
      have hL1 := hL.trans (lays_grow Y nq osq)
      go_wp2_with fail
      go_ret
      exact ⟨ret_cmp (kcmp_lt _ _ (by omega)).symm, hL1⟩
    · rw [g1] at e3
      rw [g2] at e4
      subst e3 e4
      clear g1 g2 hl E
      obtain ⟨c1, c2, c3, c4, c5, c6, c7, c8⟩ := hT.cells
      go_wp2_with fail
      clear c1 c2 c3 c4 c5 c6 c7 c8
      obtain ⟨p1, p2⟩ := cut_grown hT.1
      obtain ⟨p3, p4⟩ := cut_grown hT.2
      go_quiet_grown (first | (go_at_call 54; exact Calls.grown_of (first_g _)) | (go_at_call 55; exact Calls.grown_of (last_g _)))
      have hL1 := hL.trans (lays_grow Y nq osq)
      go_wp2_with fail
      go_ret
      exact ⟨ret_cmp (kcmp_lt _ _ (by omega)).symm, hL1⟩
  · rw [g1] at e1
    rw [g2] at e2
    subst e1 e2
    clear g1 g2 hk
    rcases ky_cases l hl with ⟨hl1, g1, g2⟩ | ⟨hl1, g1, g2⟩ | ⟨hl1, hl2, g1, g2⟩
    · rw [g1] at e3
      rw [g2] at e4
      subst e3 e4
      clear g1 g2 hl E
      obtain ⟨c1, c2, c3, c4, c5, c6, c7, c8⟩ := hT.cells
      go_wp2_with fail
      clear c1 c2 c3 c4 c5 c6 c7 c8
      obtain ⟨p1, p2⟩ := cut_grown hT.1
      obtain ⟨p3, p4⟩ := cut_grown hT.2
      go_quiet_grown (first | (go_at_call 54; exact Calls.grown_of (first_g _)) | (go_at_call 55; exact Calls.grown_of (last_g _)))
      have hT1 := hT.below (lays_grow Y nq osq).1
      have hL1 := hL.trans (lays_grow Y nq osq)
      clear p1 p2 p3 p4 hT hL
      go_wp2_with fail
      generalize grow (Y.drewN nq) osq = Z at *
      have hT := hT1
      have hL := hL1
      clear hT1 hL1
      obtain ⟨p1, p2⟩ := cut_grown hT.1
      obtain ⟨p3, p4⟩ := cut_grown hT.2
      go_quiet_grown (first | (go_at_call 54; exact Calls.grown_of (first_g _)) | (go_at_call 55; exact Calls.grown_of (last_g _)))
      have hL1 := hL.trans (lays_grow Z nq osq)
      go_wp2_with fail
      go_ret
      exact ⟨ret_cmp (kcmp_gt _ _ (by omega)).symm, hL1⟩
    · rw [g1] at e3
      rw [g2] at e4
      subst e3 e4
      clear g1 g2 hl E
      obtain ⟨c1, c2, c3, c4, c5, c6, c7, c8⟩ := hT.cells
      go_wp2_with fail
      go_ret
      exact ⟨ret_cmp (kcmp_eq _ _ (by omega)).symm, hL⟩
    · rw [g1] at e3
      rw [g2] at e4
      subst e3 e4
      clear g1 g2 hl E
      obtain ⟨c1, c2, c3, c4, c5, c6, c7, c8⟩ := hT.cells
      go_wp2_with fail
      clear c1 c2 c3 c4 c5 c6 c7 c8
      obtain ⟨p1, p2⟩ := cut_grown hT.1
      obtain ⟨p3, p4⟩ := cut_grown hT.2
      go_quiet_grown (first | (go_at_call 54; exact Calls.grown_of (first_g _)) | (go_at_call 55; exact Calls.grown_of (last_g _)))
      have hT1 := hT.below (lays_grow Y nq osq).1
      have hL1 := hL.trans (lays_grow Y nq osq)
      clear p1 p2 p3 p4 hT hL
      go_wp2_with fail
      generalize grow (Y.drewN nq) osq = Z at *
      have hT := hT1
      have hL := hL1
      clear hT1 hL1
      obtain ⟨p1, p2⟩ := cut_grown hT.1
      obtain ⟨p3, p4⟩ := cut_grown hT.2
      go_quiet_grown (first | (go_at_call 54; exact Calls.grown_of (first_g _)) | (go_at_call 55; exact Calls.grown_of (last_g _)))
      have hL1 := hL.trans (lays_grow Z nq osq)
      go_wp2_with fail
      go_ret
      exact ⟨ret_cmp (kcmp_gt _ _ (by omega)).symm, hL1⟩
  · rw [g1] at e1
    rw [g2] at e2
    subst e1 e2
    clear g1 g2 hk
    rcases ky_cases l hl with ⟨hl1, g1, g2⟩ | ⟨hl1, g1, g2⟩ | ⟨hl1, hl2, g1, g2⟩
    · rw [g1] at e3
      rw [g2] at e4
      subst e3 e4
      clear g1 g2 hl E
      obtain ⟨c1, c2, c3, c4, c5, c6, c7, c8⟩ := hT.cells
      go_wp2_with fail
      clear c1 c2 c3 c4 c5 c6 c7 c8
      obtain ⟨p1, p2⟩ := cut_grown hT.1
      obtain ⟨p3, p4⟩ := cut_grown hT.2
      go_quiet_grown (first | (go_at_call 54; exact Calls.grown_of (first_g _)) | (go_at_call 55; exact Calls.grown_of (last_g _)))
      have hT1 := hT.below (lays_grow Y nq osq).1
      have hL1 := hL.trans (lays_grow Y nq osq)
      clear p1 p2 p3 p4 hT hL
      go_wp2_with fail
      generalize grow (Y.drewN nq) osq = Z at *
      have hT := hT1
      have hL := hL1
      clear hT1 hL1
      obtain ⟨p1, p2⟩ := cut_grown hT.1
      obtain ⟨p3, p4⟩ := cut_grown hT.2
      go_quiet_grown (first | (go_at_call 54; exact Calls.grown_of (first_g _)) | (go_at_call 55; exact Calls.grown_of (last_g _)))
      have hL1 := hL.trans (lays_grow Z nq osq)
      go_wp2_with fail
      go_ret
      exact ⟨ret_cmp (kcmp_gt _ _ (by omega)).symm, hL1⟩
    · rw [g1] at e3
      rw [g2] at e4
      subst e3 e4
      clear g1 g2 hl E
      obtain ⟨c1, c2, c3, c4, c5, c6, c7, c8⟩ := hT.cells
      go_wp2_with fail
      clear c1 c2 c3 c4 c5 c6 c7 c8
      obtain ⟨p1, p2⟩ := cut_grown hT.1
      obtain ⟨p3, p4⟩ := cut_grown hT.2
      go_quiet_grown (first | (go_at_call 54; exact Calls.grown_of (first_g _)) | (go_at_call 55; exact Calls.grown_of (last_g _)))
      have hL1 := hL.trans (lays_grow Y nq osq)
      go_wp2_with fail
      go_ret
      exact ⟨ret_cmp (kcmp_lt _ _ (by omega)).symm, hL1⟩
    · rw [g1] at e3
      rw [g2] at e4
      subst e3 e4
      clear g1 g2 hl E
      by_cases hq : y = v
      · subst hq
        have tq : (y == y) = true := beq_self_eq_true _
        obtain ⟨c1, c2, c3, c4, c5, c6, c7, c8⟩ := hT.cells
        go_wp2_with fail
        go_ret
        exact ⟨ret_cmp (kcmp_eq _ _ (by omega)).symm, hL⟩
      · have tq : (y == v) = false := beq_eq_false_iff_ne.2 hq
        clear hq
        obtain ⟨c1, c2, c3, c4, c5, c6, c7, c8⟩ := hT.cells
        go_wp2_with fail
        clear c1 c2 c3 c4 c5 c6 c7 c8
        obtain ⟨p1, p2⟩ := cut_grown hT.1
        obtain ⟨p3, p4⟩ := cut_grown hT.2
        go_quiet_grown (first | (go_at_call 54; exact Calls.grown_of (first_g _)) | (go_at_call 55; exact Calls.grown_of (last_g _)))
        have hT1 := hT.below (lays_grow Y nq osq).1
        have hL1 := hL.trans (lays_grow Y nq osq)
        clear p1 p2 p3 p4 hT hL
        go_wp2_with fail
        generalize grow (Y.drewN nq) osq = Z at *
        have hT := hT1
        have hL := hL1
        clear hT1 hL1
        obtain ⟨p1, p2⟩ := cut_grown hT.1
        obtain ⟨p3, p4⟩ := cut_grown hT.2
        go_quiet_grown (first | (go_at_call 54; exact Calls.grown_of (first_g _)) | (go_at_call 55; exact Calls.grown_of (last_g _)))
        have hL1 := hL.trans (lays_grow Z nq osq)
        go_wp2_with fail
        refine (cmpi_any _ _ _).mono ?_
        rintro e w9 ⟨rfl, rfl⟩
        go_wp2_with fail
        go_ret
        exact ⟨rfl, hL1⟩
end Go.Proofs.Ytakkmnhiaddnnaa

/- Contracts of the reference's cuts. -/
namespace Go.Proofs.Ytakkmnhiaddnnaa
open Go.RowKit Go.Sort Go.Proofs.Ytakkmnhiaddnnaa.Bo
set_option linter.unusedVariables false

theorem rleast_any (w : World) : Calls Try.prog 77 #[] w fun e w' => e = .returned (.int .i64 (-9223372036854775808)) ∧ Below w.heap.size w w' := by
  go_enter Try.func77, Try.ntmps77
  go_wp2
  go_ret
  exact ⟨rfl, Below.refl _ _⟩

/-- A cut in a block: its two cells in every world in which what was there stays. -/
theorem cut_regrown {X : World} {b : Nat} {x y : Value} {t : TypeId} (h : X.heap[b]? = some (.cells #[x, y] t (0, 0))) :
    (∀ d os, (grow (redrawn X d) os).cell? ⟨b, 0, none⟩ = some x) ∧ (∀ d os, (grow (redrawn X d) os).cell? ⟨b, 1, none⟩ = some y) :=
  ⟨cell_regrown (two_cells h).1, cell_regrown (two_cells h).2.1⟩

set_option maxRecDepth 100000 in
set_option maxHeartbeats 1000000 in
theorem rcanon_neg (s a : Int) (w : World) (h : s < 0) :
    Calls Try.prog 53 #[.agg #[.int .i64 s, .int .i64 a]] w fun e w' => e = .returned (.agg #[.int .i64 (-1), .int .i64 0]) ∧ Below w.heap.size w w' := by
  have mx := mixed
  have t1 : decide (s < 0) = true := decide_eq_true h
  clear h
  go_enter Try.func53, Try.ntmps53
  go_wp2_with fail
  have hb1 : ((w.alloc (.cells #[.int .i64 s, .int .i64 a] 31)).alloc (.cells #[.int .i64 0, .int .i64 0] 31)).heap[w.heap.size]? = some (.cells #[.int .i64 s, .int .i64 a] 31 (0, 0)) := heap_alloc2_old _ _ _
  have hb2 : ((w.alloc (.cells #[.int .i64 s, .int .i64 a] 31)).alloc (.cells #[.int .i64 0, .int .i64 0] 31)).heap[w.heap.size + 1]? = some (.cells #[.int .i64 0, .int .i64 0] 31 (0, 0)) := heap_alloc2_new _ _ _
  have hL : Below w.heap.size w ((w.alloc (.cells #[.int .i64 s, .int .i64 a] 31)).alloc (.cells #[.int .i64 0, .int .i64 0] 31)) := ((Below.refl _ _).alloc (Nat.le_refl _) _).alloc (by simp) _
  generalize (w.alloc (.cells #[.int .i64 s, .int .i64 a] 31)).alloc (.cells #[.int .i64 0, .int .i64 0] 31) = X at *
  obtain ⟨p1, p2⟩ := cut_regrown hb1
  have HB1 := Lib.hid hb1
  have HB2 := Lib.hid hb2
  clear hb1 hb2
  refine wp_region_quiet_below (by assumption) (by kernel_rfl) ?_
  repeat (go_big_quiet_step (first | (go_at_call 77; exact Calls.regrown_of (rleast_any _))))
  refine wpQuiet_nil ?_
  intro _ hw'
  obtain ⟨⟨nq, osq⟩, hw''⟩ := hw'
  subst hw''

  have hB := below_regrown X nq osq
  have hb1 := (hB.block _ (lt_of_block HB1.out)).trans HB1.out
  have hb2 := (hB.block _ (lt_of_block HB2.out)).trans HB2.out
  have hL2 := bt hL hB
  show Exit.then _ _ Exit.normal _ (grow (redrawn X nq) osq)
  generalize grow (redrawn X nq) osq = Y at *
  obtain ⟨c1, c2, _, _⟩ := two_cells hb1
  obtain ⟨d1, d2, d3, d4⟩ := two_cells hb2
  obtain ⟨q1, q2, _, _⟩ := two_cells (two_put (p := .int .i64 (-1)) (q := .int .i64 0) hb2)
  have hL3 := (hL2.setCell (p := ⟨w.heap.size + 1, 0, none⟩) (by simp) (.int .i64 (-1))).setCell (p := ⟨w.heap.size + 1, 1, none⟩) (by simp) (.int .i64 0)
  clear p1 p2 hb1 hb2 HB1 HB2
  go_wp2_with fail
  refine bodyPost_ret (v := .agg #[.int .i64 (-1), .int .i64 0]) (by simp [results, Try.results53, go_sem, q1, q2]) rfl ?_
  exact ⟨rfl, hL3⟩
set_option maxRecDepth 100000 in
theorem rcanon_least  (w : World)  :
    Calls Try.prog 53 #[.agg #[.int .i64 0, .int .i64 (-9223372036854775808)]] w fun e w' => e = .returned (.agg #[.int .i64 (-1), .int .i64 0]) ∧ Below w.heap.size w w' := by
  have mx := mixed

  go_enter Try.func53, Try.ntmps53
  go_wp2_with fail
  have hb1 : ((w.alloc (.cells #[.int .i64 0, .int .i64 (-9223372036854775808)] 31)).alloc (.cells #[.int .i64 0, .int .i64 0] 31)).heap[w.heap.size]? = some (.cells #[.int .i64 0, .int .i64 (-9223372036854775808)] 31 (0, 0)) := heap_alloc2_old _ _ _
  have hb2 : ((w.alloc (.cells #[.int .i64 0, .int .i64 (-9223372036854775808)] 31)).alloc (.cells #[.int .i64 0, .int .i64 0] 31)).heap[w.heap.size + 1]? = some (.cells #[.int .i64 0, .int .i64 0] 31 (0, 0)) := heap_alloc2_new _ _ _
  have hL : Below w.heap.size w ((w.alloc (.cells #[.int .i64 0, .int .i64 (-9223372036854775808)] 31)).alloc (.cells #[.int .i64 0, .int .i64 0] 31)) := ((Below.refl _ _).alloc (Nat.le_refl _) _).alloc (by simp) _
  generalize (w.alloc (.cells #[.int .i64 0, .int .i64 (-9223372036854775808)] 31)).alloc (.cells #[.int .i64 0, .int .i64 0] 31) = X at *
  obtain ⟨p1, p2⟩ := cut_regrown hb1
  have HB1 := Lib.hid hb1
  have HB2 := Lib.hid hb2
  clear hb1 hb2
  refine wp_region_quiet_below (by assumption) (by kernel_rfl) ?_
  repeat (go_big_quiet_step (first | (go_at_call 77; exact Calls.regrown_of (rleast_any _))))
  refine wpQuiet_nil ?_
  intro _ hw'
  obtain ⟨⟨nq, osq⟩, hw''⟩ := hw'
  subst hw''

  have hB := below_regrown X nq osq
  have hb1 := (hB.block _ (lt_of_block HB1.out)).trans HB1.out
  have hb2 := (hB.block _ (lt_of_block HB2.out)).trans HB2.out
  have hL2 := bt hL hB
  show Exit.then _ _ Exit.normal _ (grow (redrawn X nq) osq)
  generalize grow (redrawn X nq) osq = Y at *
  obtain ⟨c1, c2, _, _⟩ := two_cells hb1
  obtain ⟨d1, d2, d3, d4⟩ := two_cells hb2
  obtain ⟨q1, q2, _, _⟩ := two_cells (two_put (p := .int .i64 (-1)) (q := .int .i64 0) hb2)
  have hL3 := (hL2.setCell (p := ⟨w.heap.size + 1, 0, none⟩) (by simp) (.int .i64 (-1))).setCell (p := ⟨w.heap.size + 1, 1, none⟩) (by simp) (.int .i64 0)
  clear p1 p2 hb1 hb2 HB1 HB2
  go_wp2_with fail
  refine bodyPost_ret (v := .agg #[.int .i64 (-1), .int .i64 0]) (by simp [results, Try.results53, go_sem, q1, q2]) rfl ?_
  exact ⟨rfl, hL3⟩
set_option maxRecDepth 100000 in
theorem rcanon_pos (s a : Int) (w : World) (h : 0 < s) :
    Calls Try.prog 53 #[.agg #[.int .i64 s, .int .i64 a]] w fun e w' => e = .returned (.agg #[.int .i64 1, .int .i64 0]) ∧ Below w.heap.size w w' := by
  have mx := mixed
  have t1 : decide (s < 0) = false := decide_eq_false (by omega)
  have t2 : (s == 0) = false := beq_eq_false_iff_ne.2 (by omega)
  have t3 : decide (0 < s) = true := decide_eq_true h
  clear h
  go_enter Try.func53, Try.ntmps53
  go_wp2_with fail
  have hb1 : ((w.alloc (.cells #[.int .i64 s, .int .i64 a] 31)).alloc (.cells #[.int .i64 0, .int .i64 0] 31)).heap[w.heap.size]? = some (.cells #[.int .i64 s, .int .i64 a] 31 (0, 0)) := heap_alloc2_old _ _ _
  have hb2 : ((w.alloc (.cells #[.int .i64 s, .int .i64 a] 31)).alloc (.cells #[.int .i64 0, .int .i64 0] 31)).heap[w.heap.size + 1]? = some (.cells #[.int .i64 0, .int .i64 0] 31 (0, 0)) := heap_alloc2_new _ _ _
  have hL : Below w.heap.size w ((w.alloc (.cells #[.int .i64 s, .int .i64 a] 31)).alloc (.cells #[.int .i64 0, .int .i64 0] 31)) := ((Below.refl _ _).alloc (Nat.le_refl _) _).alloc (by simp) _
  generalize (w.alloc (.cells #[.int .i64 s, .int .i64 a] 31)).alloc (.cells #[.int .i64 0, .int .i64 0] 31) = X at *
  obtain ⟨p1, p2⟩ := cut_regrown hb1
  have HB1 := Lib.hid hb1
  have HB2 := Lib.hid hb2
  clear hb1 hb2
  refine wp_region_quiet_below (by assumption) (by kernel_rfl) ?_
  repeat (go_big_quiet_step (first | (go_at_call 77; exact Calls.regrown_of (rleast_any _))))
  refine wpQuiet_nil ?_
  intro _ hw'
  obtain ⟨⟨nq, osq⟩, hw''⟩ := hw'
  subst hw''

  have hB := below_regrown X nq osq
  have hb1 := (hB.block _ (lt_of_block HB1.out)).trans HB1.out
  have hb2 := (hB.block _ (lt_of_block HB2.out)).trans HB2.out
  have hL2 := bt hL hB
  show Exit.then _ _ Exit.normal _ (grow (redrawn X nq) osq)
  generalize grow (redrawn X nq) osq = Y at *
  obtain ⟨c1, c2, _, _⟩ := two_cells hb1
  obtain ⟨d1, d2, d3, d4⟩ := two_cells hb2
  obtain ⟨q1, q2, _, _⟩ := two_cells (two_put (p := .int .i64 1) (q := .int .i64 0) hb2)
  have hL3 := (hL2.setCell (p := ⟨w.heap.size + 1, 0, none⟩) (by simp) (.int .i64 1)).setCell (p := ⟨w.heap.size + 1, 1, none⟩) (by simp) (.int .i64 0)
  clear p1 p2 hb1 hb2 HB1 HB2
  go_wp2_with fail
  refine bodyPost_ret (v := .agg #[.int .i64 1, .int .i64 0]) (by simp [results, Try.results53, go_sem, q1, q2]) rfl ?_
  exact ⟨rfl, hL3⟩
set_option maxRecDepth 100000 in
theorem rcanon_mid (a : Int) (w : World) (h : a ≠ -9223372036854775808) :
    Calls Try.prog 53 #[.agg #[.int .i64 0, .int .i64 a]] w fun e w' => e = .returned (.agg #[.int .i64 0, .int .i64 a]) ∧ Below w.heap.size w w' := by
  have mx := mixed
  have t2 : (a == -9223372036854775808) = false := beq_eq_false_iff_ne.2 h
  clear h
  go_enter Try.func53, Try.ntmps53
  go_wp2_with fail
  have hb1 : ((w.alloc (.cells #[.int .i64 0, .int .i64 a] 31)).alloc (.cells #[.int .i64 0, .int .i64 0] 31)).heap[w.heap.size]? = some (.cells #[.int .i64 0, .int .i64 a] 31 (0, 0)) := heap_alloc2_old _ _ _
  have hb2 : ((w.alloc (.cells #[.int .i64 0, .int .i64 a] 31)).alloc (.cells #[.int .i64 0, .int .i64 0] 31)).heap[w.heap.size + 1]? = some (.cells #[.int .i64 0, .int .i64 0] 31 (0, 0)) := heap_alloc2_new _ _ _
  have hL : Below w.heap.size w ((w.alloc (.cells #[.int .i64 0, .int .i64 a] 31)).alloc (.cells #[.int .i64 0, .int .i64 0] 31)) := ((Below.refl _ _).alloc (Nat.le_refl _) _).alloc (by simp) _
  generalize (w.alloc (.cells #[.int .i64 0, .int .i64 a] 31)).alloc (.cells #[.int .i64 0, .int .i64 0] 31) = X at *
  obtain ⟨p1, p2⟩ := cut_regrown hb1
  have HB1 := Lib.hid hb1
  have HB2 := Lib.hid hb2
  clear hb1 hb2
  refine wp_region_quiet_below (by assumption) (by kernel_rfl) ?_
  repeat (go_big_quiet_step (first | (go_at_call 77; exact Calls.regrown_of (rleast_any _))))
  refine wpQuiet_nil ?_
  intro _ hw'
  obtain ⟨⟨nq, osq⟩, hw''⟩ := hw'
  subst hw''

  have hB := below_regrown X nq osq
  have hb1 := (hB.block _ (lt_of_block HB1.out)).trans HB1.out
  have hb2 := (hB.block _ (lt_of_block HB2.out)).trans HB2.out
  have hL2 := bt hL hB
  show Exit.then _ _ Exit.normal _ (grow (redrawn X nq) osq)
  generalize grow (redrawn X nq) osq = Y at *
  obtain ⟨c1, c2, _, _⟩ := two_cells hb1
  obtain ⟨d1, d2, d3, d4⟩ := two_cells hb2
  obtain ⟨q1, q2, _, _⟩ := two_cells (two_put (p := .int .i64 0) (q := .int .i64 a) hb2)
  have hL3 := (hL2.setCell (p := ⟨w.heap.size + 1, 0, none⟩) (by simp) (.int .i64 0)).setCell (p := ⟨w.heap.size + 1, 1, none⟩) (by simp) (.int .i64 a)
  clear p1 p2 hb1 hb2 HB1 HB2
  go_wp2_with fail
  refine bodyPost_ret (v := .agg #[.int .i64 0, .int .i64 a]) (by simp [results, Try.results53, go_sem, q1, q2]) rfl ?_
  exact ⟨rfl, hL3⟩
theorem rcanon_any (s a : Int) (w : World) (ha : I64 a) :
    Calls Try.prog 53 #[.agg #[.int .i64 s, .int .i64 a]] w fun e w' => e = .returned (.agg #[.int .i64 (sd (key s a)), .int .i64 (pa (key s a))]) ∧ Below w.heap.size w w' := by
  by_cases h1 : s < 0
  · rw [key_neg s a h1, sd_lo, pa_lo]; exact rcanon_neg s a w h1
  · by_cases h2 : 0 < s
    · rw [key_pos s a h2, sd_hi, pa_hi]; exact rcanon_pos s a w h2
    · obtain rfl : s = 0 := by omega
      rw [key_zero]
      by_cases h3 : a = -9223372036854775808
      · subst h3; rw [sd_lo, pa_lo]; exact rcanon_least w
      · have h4 : a ≠ 9223372036854775808 := by unfold I64 at ha; omega
        rw [sd_mid a h3 h4, pa_mid a h3 h4]; exact rcanon_mid a w h3
end Go.Proofs.Ytakkmnhiaddnnaa
