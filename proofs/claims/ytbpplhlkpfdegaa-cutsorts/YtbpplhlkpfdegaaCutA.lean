/- Contracts of package cut's small functions. -/
import Derived.Test.YtbpplhlkpfdegaaRows
import Derived.Test.YtbpplhlkpfdegaaCutMath
import Derived.Test.YtbpplhlkpfdegaaBigA
import Derived.Laws.StructEq
import Derived.WalkKit
import Derived.WalkSpells
import Derived.WalkLawsBesides
import Derived.Shelf.SlSortCmp.QuietGrown
import Derived.Lib.Hide
namespace Go.Proofs.Ytbpplhlkpfdegaa
open Go.RowKit Go.Sort Go.Proofs.Ytbpplhlkpfdegaa.Bo
set_option linter.unusedVariables false

/-- What was there stays, and draws go on: all that the small functions of cut do to the world. -/
def Lays (w w' : World) : Prop := Below w.heap.size w w' ∧ w.drawn ≤ w'.drawn
theorem Lays.refl (w : World) : Lays w w := ⟨Below.refl _ _, Nat.le_refl _⟩
theorem Lays.trans {a b c : World} (h1 : Lays a b) (h2 : Lays b c) : Lays a c := ⟨bt h1.1 h2.1, Nat.le_trans h1.2 h2.2⟩
theorem Lays.drew {a b : World} (h : Lays a b) : Lays a b.drew := ⟨h.1.drew, Nat.le_trans h.2 (Nat.le_succ _)⟩
theorem Lays.alloc {a b : World} (h : Lays a b) (o : Obj) : Lays a (b.alloc o) := ⟨h.1.alloc h.1.size o, h.2⟩
theorem Lays.setCell {a b : World} (h : Lays a b) {p : Addr} (hp : a.heap.size ≤ p.block) (u : Value) : Lays a (b.setCell p u) := ⟨h.1.setCell hp u, h.2⟩
/-- Such a world is the old one, draws on, with blocks behind it. -/
theorem Lays.grown {a b : World} (h : Lays a b) : ∃ q os, b = grow (a.drewN q) os := by
  obtain ⟨⟨h1, h2, h3, h4, h5⟩, h6⟩ := h
  refine ⟨b.drawn - a.drawn, b.heap.extract a.heap.size b.heap.size, ?_⟩
  obtain ⟨bh, bt, bd, bo, bou⟩ := b
  obtain ⟨ah, at_, ad, ao, aou⟩ := a
  simp only at h1 h2 h3 h4 h5 h6
  subst h1 h2 h3
  unfold grow World.drewN
  simp only [World.mk.injEq, and_true, true_and]
  refine ⟨?_, by omega⟩
  apply Array.ext_getElem?
  intro k
  rw [Array.getElem?_append]
  split
  · rename_i hk; exact h5 k hk
  · rename_i hk
    rw [Array.getElem?_extract]
    split
    · congr 1; omega
    · rename_i h7
      rw [Array.getElem?_eq_none]; omega
theorem lays_grow (w : World) (q : Nat) (os : Array Obj) : Lays w (grow (w.drewN q) os) :=
  ⟨⟨rfl, rfl, rfl, by simp, fun k hk => by rw [heap_grow_old _ _ (by exact hk)]; rfl⟩, Nat.le_add_right _ _⟩

theorem two_put {W : World} {b : Nat} {x y p q : Value} {t : TypeId} (h : W.heap[b]? = some (.cells #[x, y] t (0, 0))) :
    ((W.setCell ⟨b, 0, none⟩ p).setCell ⟨b, 1, none⟩ q).heap[b]? = some (.cells #[p, q] t (0, 0)) := by
  have h1 := heap_setCell_same W b 0 _ _ p h
  have h2 := heap_setCell_same _ b 1 _ _ q h1
  rw [h2]; rfl
/-- A block of two cells: what is read there, and that it may be written. -/
theorem two_cells {W : World} {b : Nat} {x y : Value} {t : TypeId} (h : W.heap[b]? = some (.cells #[x, y] t (0, 0))) :
    W.cell? ⟨b, 0, none⟩ = some x ∧ W.cell? ⟨b, 1, none⟩ = some y ∧ W.frozen? ⟨b, 0, none⟩ = false ∧ W.frozen? ⟨b, 1, none⟩ = false :=
  ⟨(cell_of_row _ _ 0 _ _ _ h).trans rfl, (cell_of_row _ _ 1 _ _ _ h).trans rfl, frozen_of_row _ _ 0 _ _ h, frozen_of_row _ _ 1 _ _ h⟩

theorem first_any (w : World) : Calls Try.prog 13 #[] w fun e w' => e = .returned (.agg #[.int .i64 (-1), .int .i64 0]) ∧ Lays w w' := by
  go_enter Try.func13, Try.ntmps13
  go_wp2
  refine bodyPost_ret (v := .agg #[.int .i64 (-1), .int .i64 0]) (by simp [results, Try.results13, go_sem]) rfl ?_
  exact ⟨rfl, (Lays.refl _).alloc _⟩
theorem last_any (w : World) : Calls Try.prog 17 #[] w fun e w' => e = .returned (.agg #[.int .i64 1, .int .i64 0]) ∧ Lays w w' := by
  go_enter Try.func17, Try.ntmps17
  go_wp2
  refine bodyPost_ret (v := .agg #[.int .i64 1, .int .i64 0]) (by simp [results, Try.results17, go_sem]) rfl ?_
  exact ⟨rfl, (Lays.refl _).alloc _⟩

/-- A cut's value, by its key. -/
theorem ret_cut {s a s' a' : Int} (h1 : s = s') (h2 : a = a') : Ending.returned (.agg #[.int .i64 s, .int .i64 a]) = .returned (.agg #[.int .i64 s', .int .i64 a']) := by rw [h1, h2]

theorem canon_first (s a : Int) (w : World) (h : s < 0 ∨ (s = 0 ∧ a = -9223372036854775808)) :
    Calls Try.prog 19 #[.agg #[.int .i64 s, .int .i64 a]] w fun e w' => e = .returned (.agg #[.int .i64 (-1), .int .i64 0]) ∧ Lays w w' := by
  have tail : ∀ w1 : World, Lays ((w.alloc (.cells #[.int .i64 s, .int .i64 a] 27)).alloc (.cells #[.int .i64 0, .int .i64 0] 27)) w1 →
      w1.heap[w.heap.size + 1]? = some (.cells #[.int .i64 0, .int .i64 0] 27 (0, 0)) := fun w1 hL => by
    rw [hL.1.block _ (by simp)]; exact heap_alloc2_new _ _ _
  have HT := Lib.hid tail
  clear tail
  rcases h with h | ⟨rfl, rfl⟩
  · have t1 : decide (s < 0) = true := decide_eq_true h
    go_enter Try.func19, Try.ntmps19
    go_wp2_with fail
    refine (first_any _).mono ?_
    rintro e w1 ⟨rfl, hL⟩
    have hb := HT.out w1 hL
    have hp := two_cells (two_put (p := .int .i64 (-1)) (q := .int .i64 0) hb)
    obtain ⟨p1, p2, _, _⟩ := hp
    obtain ⟨q1, q2, q3, q4⟩ := two_cells hb
    clear hb
    go_wp2_with fail
    refine bodyPost_ret (v := .agg #[.int .i64 (-1), .int .i64 0]) (by simp [results, Try.results19, go_sem, p1, p2]) rfl ?_
    exact ⟨rfl, (((((Lays.refl _).alloc _).alloc _).trans hL).setCell (by simp) _).setCell (by simp) _⟩
  · go_enter Try.func19, Try.ntmps19
    go_wp2_with fail
    refine (first_any _).mono ?_
    rintro e w1 ⟨rfl, hL⟩
    have hb := HT.out w1 hL
    have hp := two_cells (two_put (p := .int .i64 (-1)) (q := .int .i64 0) hb)
    obtain ⟨p1, p2, _, _⟩ := hp
    obtain ⟨q1, q2, q3, q4⟩ := two_cells hb
    clear hb
    go_wp2_with fail
    refine bodyPost_ret (v := .agg #[.int .i64 (-1), .int .i64 0]) (by simp [results, Try.results19, go_sem, p1, p2]) rfl ?_
    exact ⟨rfl, (((((Lays.refl _).alloc _).alloc _).trans hL).setCell (by simp) _).setCell (by simp) _⟩
theorem canon_last (s a : Int) (w : World) (h : 0 < s) :
    Calls Try.prog 19 #[.agg #[.int .i64 s, .int .i64 a]] w fun e w' => e = .returned (.agg #[.int .i64 1, .int .i64 0]) ∧ Lays w w' := by
  have tail : ∀ w1 : World, Lays ((w.alloc (.cells #[.int .i64 s, .int .i64 a] 27)).alloc (.cells #[.int .i64 0, .int .i64 0] 27)) w1 →
      w1.heap[w.heap.size + 1]? = some (.cells #[.int .i64 0, .int .i64 0] 27 (0, 0)) := fun w1 hL => by
    rw [hL.1.block _ (by simp)]; exact heap_alloc2_new _ _ _
  have HT := Lib.hid tail
  clear tail
  have t1 : decide (s < 0) = false := decide_eq_false (by omega)
  have t2 : (s == 0) = false := beq_eq_false_iff_ne.2 (by omega)
  have t3 : decide (0 < s) = true := decide_eq_true h
  go_enter Try.func19, Try.ntmps19
  go_wp2_with fail
  refine (last_any _).mono ?_
  rintro e w1 ⟨rfl, hL⟩
  have hb := HT.out w1 hL
  have hp := two_cells (two_put (p := .int .i64 1) (q := .int .i64 0) hb)
  obtain ⟨p1, p2, _, _⟩ := hp
  obtain ⟨q1, q2, q3, q4⟩ := two_cells hb
  clear hb
  go_wp2_with fail
  refine bodyPost_ret (v := .agg #[.int .i64 1, .int .i64 0]) (by simp [results, Try.results19, go_sem, p1, p2]) rfl ?_
  exact ⟨rfl, (((((Lays.refl _).alloc _).alloc _).trans hL).setCell (by simp) _).setCell (by simp) _⟩
theorem canon_mid (a : Int) (w : World) (h : a ≠ -9223372036854775808) :
    Calls Try.prog 19 #[.agg #[.int .i64 0, .int .i64 a]] w fun e w' => e = .returned (.agg #[.int .i64 0, .int .i64 a]) ∧ Lays w w' := by
  have t2 : (a == -9223372036854775808) = false := beq_eq_false_iff_ne.2 h
  go_enter Try.func19, Try.ntmps19
  go_wp2_with fail
  refine bodyPost_ret (v := .agg #[.int .i64 0, .int .i64 a]) (by simp [results, Try.results19, go_sem]) rfl ?_
  exact ⟨rfl, ((Lays.refl _).alloc _).alloc _⟩
theorem canon_any (s a : Int) (w : World) (ha : I64 a) :
    Calls Try.prog 19 #[.agg #[.int .i64 s, .int .i64 a]] w fun e w' => e = .returned (.agg #[.int .i64 (sd (key s a)), .int .i64 (pa (key s a))]) ∧ Lays w w' := by
  by_cases h1 : s < 0
  · rw [key_neg s a h1, sd_lo, pa_lo]; exact canon_first s a w (.inl h1)
  · by_cases h2 : 0 < s
    · rw [key_pos s a h2, sd_hi, pa_hi]; exact canon_last s a w h2
    · obtain rfl : s = 0 := by omega
      rw [key_zero]
      by_cases h3 : a = -9223372036854775808
      · subst h3; rw [sd_lo, pa_lo]; exact canon_first 0 _ w (.inr ⟨rfl, rfl⟩)
      · have h4 : a ≠ 9223372036854775808 := by unfold I64 at ha; omega
        rw [sd_mid a h3 h4, pa_mid a h3 h4]; exact canon_mid a w h3
/-- Of a right cut it is itself. -/
theorem canon_key (k : Int) (w : World) (hk : Ky k) :
    Calls Try.prog 19 #[.agg #[.int .i64 (sd k), .int .i64 (pa k)]] w fun e w' => e = .returned (.agg #[.int .i64 (sd k), .int .i64 (pa k)]) ∧ Lays w w' := by
  have h := canon_any (sd k) (pa k) w (pa_i64 k hk)
  rw [key_back k hk] at h
  exact h
end Go.Proofs.Ytbpplhlkpfdegaa
