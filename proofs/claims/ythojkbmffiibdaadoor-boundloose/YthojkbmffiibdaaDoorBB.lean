/- A part of the proof: contracts of the functions that the statements reach. -/
import Derived.Test.YthojkbmffiibdaaDoorRows
import Derived.Test.YthojkbmffiibdaaDoorBA
import Derived.WalkKit
import Derived.WalkSpells
import Derived.WalkLawsBesides
import Derived.Lib.Hide
import Derived.Laws.StructEq
import Derived.Shelf.SlSortCmp.QuietGrown
import Derived.Laws.EntriesVeiled
import Derived.Deep.CutRange
import Derived.RegionTactic

/- Rows of digits in memory; contracts of digit, more. -/
namespace Go.Proofs.YthojkbmffiibdaaDoor
open Go.RowKit Go.Proofs.YthojkbmffiibdaaDoor.Bo
set_option linter.unusedVariables false

/-- One call behind the other: what was there stays. -/
theorem bt {a b c : World} (h1 : Below a.heap.size a b) (h2 : Below b.heap.size b c) : Below a.heap.size a c := h1.trans (h2.mono h1.size)

/-- The slice v holds the digits xs, at the head of a block, or is empty. -/
def Dg (w : World) (v : Value) (xs : List Nat) : Prop :=
  ∃ (a : Option Addr) (cap : Nat), v = .slice a xs.length cap ∧ xs.length ≤ cap ∧ (0 < xs.length → ∃ g cur, a = some ⟨g, 0, none⟩ ∧ w.heap[g]? = some (.cells cur 3 (0, 0)) ∧ ∀ (j : Nat) (h : j < xs.length), cur[j]? = some (.int .i64 ((xs[j] : Nat) : Int)))
theorem Dg.below {w w' : World} {v : Value} {xs : List Nat} (h : Dg w v xs) (hb : Below w.heap.size w w') : Dg w' v xs := by
  obtain ⟨a, cap, hv, hc, hg⟩ := h
  refine ⟨a, cap, hv, hc, fun hp => ?_⟩
  obtain ⟨g, cur, ha, hgb, hcur⟩ := hg hp
  exact ⟨g, cur, ha, (hb.block g (lt_of_block hgb)).trans hgb, hcur⟩
/-- A store into a block of another make is not seen. -/
theorem Dg.far {w : World} {v : Value} {xs : List Nat} (h : Dg w v xs) {b : Nat} {cs : Array Value} {t : TypeId} (hb : w.heap[b]? = some (.cells cs t (0, 0))) (ht : t ≠ 3) (i : Nat) (u : Value) : Dg (w.setCell ⟨b, i, none⟩ u) v xs := by
  obtain ⟨a, cap, hv, hc, hg⟩ := h
  refine ⟨a, cap, hv, hc, fun hp => ?_⟩
  obtain ⟨g, cur, ha, hgb, hcur⟩ := hg hp
  refine ⟨g, cur, ha, ?_, hcur⟩
  rw [heap_setCell_other _ _ _ _ ?_]
  · exact hgb
  · rintro rfl
    rw [hgb] at hb
    injection hb with hb
    injection hb with _ h2
    exact ht h2.symm

theorem digit_any (v : Value) (xs : List Nat) (i : Nat) (w : World) (h : Dg w v xs) (hl : xs.length ≤ 100000) (hi : i ≤ 1000000) :
    Calls Tryd.prog 108 #[v, .int .i64 (i : Int)] w fun e w' => e = .returned (.int .i64 ((xs.getD i 0 : Nat) : Int)) ∧ w = w' := by
  obtain ⟨a, cap, rfl, hc, hg⟩ := h
  by_cases hlt : i < xs.length
  · obtain ⟨g, cur, rfl, hgb, hcur⟩ := hg (by omega)
    have hx := (cell_of_row _ _ i _ _ _ hgb).trans (hcur i hlt)
    have e : xs.getD i 0 = xs[i] := by rw [List.getD_eq_getElem?_getD, List.getElem?_eq_getElem hlt]; rfl
    rw [e]
    clear hcur hgb e hg
    go_enter Tryd.func108, Tryd.ntmps108
    go_wp2
    go_ret
    exact ⟨rfl, rfl⟩
  · have e : xs.getD i 0 = 0 := by rw [List.getD_eq_getElem?_getD, List.getElem?_eq_none (by omega)]; rfl
    rw [e]
    clear e hg
    go_enter Tryd.func108, Tryd.ntmps108
    go_wp2
    go_ret
    exact ⟨rfl, rfl⟩

set_option maxHeartbeats 1000000 in
theorem more_any (v u : Value) (xs ys : List Nat) (w : World) (hx : Dg w v xs) (hy : Dg w u ys) (ox : Ok xs) (oy : Ok ys) (lx : xs.length ≤ 100000) (ly : ys.length ≤ 100000) :
    Calls Tryd.prog 102 #[v, u] w fun e w' => e = .returned (.bool (decide (val ys < val xs))) ∧ w = w' := by
  have HX := Lib.hid hx
  have HY := Lib.hid hy
  obtain ⟨a, cap, hv, hc, hg⟩ := hx
  obtain ⟨a2, cap2, hu, hc2, hg2⟩ := hy
  clear hg hg2
  generalize hD : decide (val ys < val xs) = D
  have HDD := Lib.hid hD
  clear hD
  subst hv hu
  go_enter Tryd.func102, Tryd.ntmps102
  go_wp2
  go_loop [5] (fun i => ∃ k : Int, i = .int .i64 k ∧ -1 ≤ k ∧ k ≤ xs.length + ys.length ∧ val (xs.drop (k + 1).toNat) = val (ys.drop (k + 1).toNat)) (fun i => (intOf i + 1).toNat)
  case atStart => 
    refine ⟨(xs.length : Int) + ys.length, rfl, by omega, by omega, ?_⟩
    rw [List.drop_of_length_le (by omega), List.drop_of_length_le (by omega)]
  case round =>
    obtain ⟨k, rfl, hk1, hk2, heq⟩ := hrel
    by_cases hpos : 0 ≤ k
    · obtain ⟨i, rfl⟩ := Int.eq_ofNat_of_zero_le hpos
      have heq' : val (xs.drop (i + 1)) = val (ys.drop (i + 1)) := heq
      have hvx := val_drop xs i
      have hvy := val_drop ys i
      have t0 : decide ((i : Int) ≥ 0) = true := decide_eq_true (by omega)
      have cx := Lib.hid (digit_any _ xs i w HX.out lx (by omega))
      have cy := Lib.hid (digit_any _ ys i w HY.out ly (by omega))
      have gx : val (xs.drop i) < val (ys.drop i) → Hid (false = D) := fun h => by
        show false = D
        rw [← HDD.out]; symm; exact decide_eq_false (by have := val_lt_down xs ys ox i h; omega)
      have gy : val (ys.drop i) < val (xs.drop i) → Hid (true = D) := fun h => by
        show true = D
        rw [← HDD.out]; symm; exact decide_eq_true (val_lt_down ys xs oy i h)
      generalize xs.getD i 0 = X at *
      generalize ys.getD i 0 = Y at *
      rcases Nat.lt_trichotomy X Y with hlt | hq | hgt
      · have t1 : ((X : Int) != (Y : Int)) = true := by rw [bne_iff_ne]; omega
        have t2 : decide ((Y : Int) < (X : Int)) = false := decide_eq_false (by omega)
        have t3 : decide (Y < X) = false := decide_eq_false (by omega)
        have H := gx (by omega)
        clear gx gy hvx hvy heq heq'
        go_wp2_with fail
        refine cx.out.mono ?_
        rintro e w' ⟨rfl, rfl⟩
        go_wp2_with fail
        refine cy.out.mono ?_
        rintro e w' ⟨rfl, rfl⟩
        go_wp2_with fail
        refine cx.out.mono ?_
        rintro e w' ⟨rfl, rfl⟩
        go_wp2_with fail
        refine cy.out.mono ?_
        rintro e w' ⟨rfl, rfl⟩
        go_wp2_with fail
        go_ret
        exact ⟨congrArg (fun b => Ending.returned (.bool b)) H.out, rfl⟩
      · have t1 : ((X : Int) != (Y : Int)) = false := by rw [bne_eq_false_iff_eq]; omega
        have HE : Hid (val (xs.drop i) = val (ys.drop i)) := by show val (xs.drop i) = val (ys.drop i); omega
        have HQ := Lib.hid hq
        clear gx gy hvx hvy heq heq' hq
        go_wp2_with fail
        refine cx.out.mono ?_
        rintro e w' ⟨rfl, rfl⟩
        go_wp2_with fail
        refine cy.out.mono ?_
        rintro e w' ⟨rfl, rfl⟩
        go_wp2_with fail
        go_round
        case rel => exact ⟨(i : Int) - 1, rfl, by omega, by omega, by rw [show ((i : Int) - 1 + 1).toNat = i from by omega]; exact HE.out⟩
        case measure => simp [intOf]
      · have t1 : ((X : Int) != (Y : Int)) = true := by rw [bne_iff_ne]; omega
        have t2 : decide ((Y : Int) < (X : Int)) = true := decide_eq_true (by omega)
        have t3 : decide (Y < X) = true := decide_eq_true (by omega)
        have H := gy (by omega)
        clear gx gy hvx hvy heq heq'
        go_wp2_with fail
        refine cx.out.mono ?_
        rintro e w' ⟨rfl, rfl⟩
        go_wp2_with fail
        refine cy.out.mono ?_
        rintro e w' ⟨rfl, rfl⟩
        go_wp2_with fail
        refine cx.out.mono ?_
        rintro e w' ⟨rfl, rfl⟩
        go_wp2_with fail
        refine cy.out.mono ?_
        rintro e w' ⟨rfl, rfl⟩
        go_wp2_with fail
        go_ret
        exact ⟨congrArg (fun b => Ending.returned (.bool b)) H.out, rfl⟩
    · obtain rfl : k = -1 := by omega
      have H : Hid (false = D) := by
        show false = D
        rw [← HDD.out]; symm; exact decide_eq_false (by have h0 : val (xs.drop 0) = val (ys.drop 0) := heq; simp at h0; omega)
      clear heq
      go_wp2_with fail
      go_ret
      exact ⟨congrArg (fun b => Ending.returned (.bool b)) H.out, rfl⟩
end Go.Proofs.YthojkbmffiibdaaDoor

/- Contracts of package cut's small functions. -/
namespace Go.Proofs.YthojkbmffiibdaaDoor
open Go.RowKit Go.Sort Go.Proofs.YthojkbmffiibdaaDoor.Bo
set_option linter.unusedVariables false

/-- What was there stays, and draws go on: all that the small functions of cut do to the world. -/
def Lays (w w' : World) : Prop := Below w.heap.size w w' ∧ w.drawn ≤ w'.drawn
theorem Lays.refl (w : World) : Lays w w := ⟨Below.refl _ _, Nat.le_refl _⟩
theorem Lays.trans {a b c : World} (h1 : Lays a b) (h2 : Lays b c) : Lays a c := ⟨bt h1.1 h2.1, Nat.le_trans h1.2 h2.2⟩
theorem Lays.drew {a b : World} (h : Lays a b) : Lays a b.drew := ⟨h.1.drew, Nat.le_trans h.2 (Nat.le_succ _)⟩
theorem Lays.alloc {a b : World} (h : Lays a b) (o : Obj) : Lays a (b.alloc o) := ⟨h.1.alloc h.1.size o, h.2⟩
theorem Lays.setCell {a b : World} (h : Lays a b) {p : Addr} (hp : a.heap.size ≤ p.block) (u : Value) : Lays a (b.setCell p u) := ⟨h.1.setCell hp u, h.2⟩
/-- Such a world is the old one, draws on, with blocks behind it. -/
theorem Lays.grown {a b : World} (h : Lays a b) : ∃ q os, b = grow (a.drewN q) os := by
  obtain ⟨⟨h1, h2, h3, h4, h5⟩, h6⟩ := h
  refine ⟨b.drawn - a.drawn, b.heap.extract a.heap.size b.heap.size, ?_⟩
  obtain ⟨bh, bt, bd, bo, bou⟩ := b
  obtain ⟨ah, at_, ad, ao, aou⟩ := a
  simp only at h1 h2 h3 h4 h5 h6
  subst h1 h2 h3
  unfold grow World.drewN
  simp only [World.mk.injEq, and_true, true_and]
  refine ⟨?_, by omega⟩
  apply Array.ext_getElem?
  intro k
  rw [Array.getElem?_append]
  split
  · rename_i hk; exact h5 k hk
  · rename_i hk
    rw [Array.getElem?_extract]
    split
    · congr 1; omega
    · rename_i h7
      rw [Array.getElem?_eq_none]; omega
theorem lays_grow (w : World) (q : Nat) (os : Array Obj) : Lays w (grow (w.drewN q) os) :=
  ⟨⟨rfl, rfl, rfl, by simp, fun k hk => by rw [heap_grow_old _ _ (by exact hk)]; rfl⟩, Nat.le_add_right _ _⟩

theorem two_put {W : World} {b : Nat} {x y p q : Value} {t : TypeId} (h : W.heap[b]? = some (.cells #[x, y] t (0, 0))) :
    ((W.setCell ⟨b, 0, none⟩ p).setCell ⟨b, 1, none⟩ q).heap[b]? = some (.cells #[p, q] t (0, 0)) := by
  have h1 := heap_setCell_same W b 0 _ _ p h
  have h2 := heap_setCell_same _ b 1 _ _ q h1
  rw [h2]; rfl
/-- A block of two cells: what is read there, and that it may be written. -/
theorem two_cells {W : World} {b : Nat} {x y : Value} {t : TypeId} (h : W.heap[b]? = some (.cells #[x, y] t (0, 0))) :
    W.cell? ⟨b, 0, none⟩ = some x ∧ W.cell? ⟨b, 1, none⟩ = some y ∧ W.frozen? ⟨b, 0, none⟩ = false ∧ W.frozen? ⟨b, 1, none⟩ = false :=
  ⟨(cell_of_row _ _ 0 _ _ _ h).trans rfl, (cell_of_row _ _ 1 _ _ _ h).trans rfl, frozen_of_row _ _ 0 _ _ h, frozen_of_row _ _ 1 _ _ h⟩

theorem first_any (w : World) : Calls Tryd.prog 29 #[] w fun e w' => e = .returned (.agg #[.int .i64 (-1), .int .i64 0]) ∧ Lays w w' := by
  go_enter Tryd.func29, Tryd.ntmps29
  go_wp2
  refine bodyPost_ret (v := .agg #[.int .i64 (-1), .int .i64 0]) (by simp [results, Tryd.results29, go_sem]) rfl ?_
  exact ⟨rfl, (Lays.refl _).alloc _⟩
theorem last_any (w : World) : Calls Tryd.prog 32 #[] w fun e w' => e = .returned (.agg #[.int .i64 1, .int .i64 0]) ∧ Lays w w' := by
  go_enter Tryd.func32, Tryd.ntmps32
  go_wp2
  refine bodyPost_ret (v := .agg #[.int .i64 1, .int .i64 0]) (by simp [results, Tryd.results32, go_sem]) rfl ?_
  exact ⟨rfl, (Lays.refl _).alloc _⟩

/-- A cut's value, by its key. -/
theorem ret_cut {s a s' a' : Int} (h1 : s = s') (h2 : a = a') : Ending.returned (.agg #[.int .i64 s, .int .i64 a]) = .returned (.agg #[.int .i64 s', .int .i64 a']) := by rw [h1, h2]

theorem canon_first (s a : Int) (w : World) (h : s < 0 ∨ (s = 0 ∧ a = -9223372036854775808)) :
    Calls Tryd.prog 37 #[.agg #[.int .i64 s, .int .i64 a]] w fun e w' => e = .returned (.agg #[.int .i64 (-1), .int .i64 0]) ∧ Lays w w' := by
  have tail : ∀ w1 : World, Lays ((w.alloc (.cells #[.int .i64 s, .int .i64 a] 25)).alloc (.cells #[.int .i64 0, .int .i64 0] 25)) w1 →
      w1.heap[w.heap.size + 1]? = some (.cells #[.int .i64 0, .int .i64 0] 25 (0, 0)) := fun w1 hL => by
    rw [hL.1.block _ (by simp)]; exact heap_alloc2_new _ _ _
  have HT := Lib.hid tail
  clear tail
  rcases h with h | ⟨rfl, rfl⟩
  · have t1 : decide (s < 0) = true := decide_eq_true h
    go_enter Tryd.func37, Tryd.ntmps37
    go_wp2_with fail
    refine (first_any _).mono ?_
    rintro e w1 ⟨rfl, hL⟩
    have hb := HT.out w1 hL
    have hp := two_cells (two_put (p := .int .i64 (-1)) (q := .int .i64 0) hb)
    obtain ⟨p1, p2, _, _⟩ := hp
    obtain ⟨q1, q2, q3, q4⟩ := two_cells hb
    clear hb
    go_wp2_with fail
    refine bodyPost_ret (v := .agg #[.int .i64 (-1), .int .i64 0]) (by simp [results, Tryd.results37, go_sem, p1, p2]) rfl ?_
    exact ⟨rfl, (((((Lays.refl _).alloc _).alloc _).trans hL).setCell (by simp) _).setCell (by simp) _⟩
  · go_enter Tryd.func37, Tryd.ntmps37
    go_wp2_with fail
    refine (first_any _).mono ?_
    rintro e w1 ⟨rfl, hL⟩
    have hb := HT.out w1 hL
    have hp := two_cells (two_put (p := .int .i64 (-1)) (q := .int .i64 0) hb)
    obtain ⟨p1, p2, _, _⟩ := hp
    obtain ⟨q1, q2, q3, q4⟩ := two_cells hb
    clear hb
    go_wp2_with fail
    refine bodyPost_ret (v := .agg #[.int .i64 (-1), .int .i64 0]) (by simp [results, Tryd.results37, go_sem, p1, p2]) rfl ?_
    exact ⟨rfl, (((((Lays.refl _).alloc _).alloc _).trans hL).setCell (by simp) _).setCell (by simp) _⟩
theorem canon_last (s a : Int) (w : World) (h : 0 < s) :
    Calls Tryd.prog 37 #[.agg #[.int .i64 s, .int .i64 a]] w fun e w' => e = .returned (.agg #[.int .i64 1, .int .i64 0]) ∧ Lays w w' := by
  have tail : ∀ w1 : World, Lays ((w.alloc (.cells #[.int .i64 s, .int .i64 a] 25)).alloc (.cells #[.int .i64 0, .int .i64 0] 25)) w1 →
      w1.heap[w.heap.size + 1]? = some (.cells #[.int .i64 0, .int .i64 0] 25 (0, 0)) := fun w1 hL => by
    rw [hL.1.block _ (by simp)]; exact heap_alloc2_new _ _ _
  have HT := Lib.hid tail
  clear tail
  have t1 : decide (s < 0) = false := decide_eq_false (by omega)
  have t2 : (s == 0) = false := beq_eq_false_iff_ne.2 (by omega)
  have t3 : decide (0 < s) = true := decide_eq_true h
  go_enter Tryd.func37, Tryd.ntmps37
  go_wp2_with fail
  refine (last_any _).mono ?_
  rintro e w1 ⟨rfl, hL⟩
  have hb := HT.out w1 hL
  have hp := two_cells (two_put (p := .int .i64 1) (q := .int .i64 0) hb)
  obtain ⟨p1, p2, _, _⟩ := hp
  obtain ⟨q1, q2, q3, q4⟩ := two_cells hb
  clear hb
  go_wp2_with fail
  refine bodyPost_ret (v := .agg #[.int .i64 1, .int .i64 0]) (by simp [results, Tryd.results37, go_sem, p1, p2]) rfl ?_
  exact ⟨rfl, (((((Lays.refl _).alloc _).alloc _).trans hL).setCell (by simp) _).setCell (by simp) _⟩
theorem canon_mid (a : Int) (w : World) (h : a ≠ -9223372036854775808) :
    Calls Tryd.prog 37 #[.agg #[.int .i64 0, .int .i64 a]] w fun e w' => e = .returned (.agg #[.int .i64 0, .int .i64 a]) ∧ Lays w w' := by
  have t2 : (a == -9223372036854775808) = false := beq_eq_false_iff_ne.2 h
  go_enter Tryd.func37, Tryd.ntmps37
  go_wp2_with fail
  refine bodyPost_ret (v := .agg #[.int .i64 0, .int .i64 a]) (by simp [results, Tryd.results37, go_sem]) rfl ?_
  exact ⟨rfl, ((Lays.refl _).alloc _).alloc _⟩
theorem canon_any (s a : Int) (w : World) (ha : I64 a) :
    Calls Tryd.prog 37 #[.agg #[.int .i64 s, .int .i64 a]] w fun e w' => e = .returned (.agg #[.int .i64 (sd (key s a)), .int .i64 (pa (key s a))]) ∧ Lays w w' := by
  by_cases h1 : s < 0
  · rw [key_neg s a h1, sd_lo, pa_lo]; exact canon_first s a w (.inl h1)
  · by_cases h2 : 0 < s
    · rw [key_pos s a h2, sd_hi, pa_hi]; exact canon_last s a w h2
    · obtain rfl : s = 0 := by omega
      rw [key_zero]
      by_cases h3 : a = -9223372036854775808
      · subst h3; rw [sd_lo, pa_lo]; exact canon_first 0 _ w (.inr ⟨rfl, rfl⟩)
      · have h4 : a ≠ 9223372036854775808 := by unfold I64 at ha; omega
        rw [sd_mid a h3 h4, pa_mid a h3 h4]; exact canon_mid a w h3
/-- Of a right cut it is itself. -/
theorem canon_key (k : Int) (w : World) (hk : Ky k) :
    Calls Tryd.prog 37 #[.agg #[.int .i64 (sd k), .int .i64 (pa k)]] w fun e w' => e = .returned (.agg #[.int .i64 (sd k), .int .i64 (pa k)]) ∧ Lays w w' := by
  have h := canon_any (sd k) (pa k) w (pa_i64 k hk)
  rw [key_back k hk] at h
  exact h
end Go.Proofs.YthojkbmffiibdaaDoor

/- Contracts of package cut: Right, Next, Prev, Ahead, Behind. -/
namespace Go.Proofs.YthojkbmffiibdaaDoor
open Go.RowKit Go.Sort Go.Proofs.YthojkbmffiibdaaDoor.Bo
set_option linter.unusedVariables false

theorem eql_cut (s a t b : Int) (w : World) : Sem.run Tryd.prog (binOp .eql 25 (.agg #[.int .i64 s, .int .i64 a]) (.agg #[.int .i64 t, .int .i64 b])) w = .ok (.bool (s == t && a == b)) w := by
  have hS : Tryd.prog.underlying 25 = some (.struct (Tryd.prog.fieldsOf 25)) := by kernel_rfl
  have hp : Tryd.prog.stoodInHeld 25 = false := by kernel_rfl
  have u3 := Tryd.underlying3
  have u2 := Tryd.underlying2
  rw [run_eql_struct, show (10000 : Nat) = 9999 + 1 from rfl, run_equalIn_agg w 9999 25 _ _ hS hp]
  simp only [Program.fieldsOf, Tryd.underlying25]
  go_simp
  by_cases h1 : s = t <;> by_cases h2 : a = b <;> simp [h1, h2]

theorem mixed : Tryd.prog.follows .mixedOrders = true := by kernel_rfl
theorem first_g (w : World) : Calls Tryd.prog 29 #[] w fun e w' => e = .returned (.agg #[.int .i64 (-1), .int .i64 0]) ∧ ∃ q os, w' = grow (w.drewN q) os := (first_any w).mono fun _ _ h => ⟨h.1, h.2.grown⟩
theorem last_g (w : World) : Calls Tryd.prog 32 #[] w fun e w' => e = .returned (.agg #[.int .i64 1, .int .i64 0]) ∧ ∃ q os, w' = grow (w.drewN q) os := (last_any w).mono fun _ _ h => ⟨h.1, h.2.grown⟩

/-- A cut in a block: its two cells in every world that only lays and draws behind it. -/
theorem cut_grown {X : World} {b : Nat} {x y : Value} {t : TypeId} (h : X.heap[b]? = some (.cells #[x, y] t (0, 0))) :
    (∀ n os, (grow (X.drewN n) os).cell? ⟨b, 0, none⟩ = some x) ∧ (∀ n os, (grow (X.drewN n) os).cell? ⟨b, 1, none⟩ = some y) :=
  ⟨cell_grown (lt_of_block h) (two_cells h).1, cell_grown (lt_of_block h) (two_cells h).2.1⟩

theorem ret_ib {a a' : Int} {b b' : Bool} (h : a' = a ∧ b' = b) : Ending.returned (.tuple #[.int .i64 a, .bool b]) = .returned (.tuple #[.int .i64 a', .bool b']) := by rw [h.1, h.2]

set_option maxRecDepth 100000 in
theorem next_any (s a : Int) (w : World) (ha : I64 a) :
    Calls Tryd.prog 39 #[.agg #[.int .i64 s, .int .i64 a]] w fun e w' => e = .returned (.tuple #[.int .i64 (nx (key s a)), .bool (nxb (key s a))]) ∧ Lays w w' := by
  have mx := mixed
  have HC := Lib.hid (fun W => canon_any s a W ha)
  have hk := key_ky s a ha
  generalize key s a = k at *
  have hcases := ky_cases k hk
  have eqc := eql_cut
  rcases hcases with ⟨rfl, h1, h2⟩ | ⟨rfl, h1, h2⟩ | ⟨g1, g2, h1, h2⟩
  · rw [h1, h2] at HC
    clear h1 h2 hk
    go_enter Tryd.func39, Tryd.ntmps39
    go_wp2_with fail
    refine (HC.out _).mono ?_
    rintro e w1 ⟨rfl, hL⟩
    have hb : w1.heap[w.heap.size]? = some (.cells #[.int .i64 s, .int .i64 a] 25 (0, 0)) := by rw [hL.1.block _ (by simp)]; exact heap_alloc_new _ _
    have hL1 := ((((Lays.refl _).alloc _).trans hL).setCell (p := ⟨w.heap.size, 0, none⟩) (by simp) (.int .i64 (-1))).setCell (p := ⟨w.heap.size, 1, none⟩) (by simp) (.int .i64 0)
    have hb2 := two_put (p := .int .i64 (-1)) (q := .int .i64 0) hb
    obtain ⟨q1, q2, q3, q4⟩ := two_cells hb
    have HB := Lib.hid hb2
    clear hb hb2
    go_wp2_with fail
    have hb2 := HB.out
    generalize (w1.setCell ⟨w.heap.size, 0, none⟩ (.int .i64 (-1))).setCell ⟨w.heap.size, 1, none⟩ (.int .i64 0) = X at *
    obtain ⟨p1, p2⟩ := cut_grown hb2
    clear q1 q2 q3 q4 hb2 HC
    go_quiet_grown (first | (go_at_call 29; exact Calls.grown_of (first_g _)))
    have hL2 := hL1.trans (lays_grow X nq osq)
    go_wp2_with fail
    go_ret2
    exact ⟨ret_ib (nx_in _ (by decide)), hL2⟩
  · rw [h1, h2] at HC
    clear h1 h2 hk
    go_enter Tryd.func39, Tryd.ntmps39
    go_wp2_with fail
    refine (HC.out _).mono ?_
    rintro e w1 ⟨rfl, hL⟩
    have hb : w1.heap[w.heap.size]? = some (.cells #[.int .i64 s, .int .i64 a] 25 (0, 0)) := by rw [hL.1.block _ (by simp)]; exact heap_alloc_new _ _
    have hL1 := ((((Lays.refl _).alloc _).trans hL).setCell (p := ⟨w.heap.size, 0, none⟩) (by simp) (.int .i64 1)).setCell (p := ⟨w.heap.size, 1, none⟩) (by simp) (.int .i64 0)
    have hb2 := two_put (p := .int .i64 1) (q := .int .i64 0) hb
    obtain ⟨q1, q2, q3, q4⟩ := two_cells hb
    have HB := Lib.hid hb2
    clear hb hb2
    go_wp2_with fail
    have hb2 := HB.out
    generalize (w1.setCell ⟨w.heap.size, 0, none⟩ (.int .i64 1)).setCell ⟨w.heap.size, 1, none⟩ (.int .i64 0) = X at *
    obtain ⟨p1, p2⟩ := cut_grown hb2
    clear q1 q2 q3 q4 hb2 HC
    go_quiet_grown (first | (go_at_call 29; exact Calls.grown_of (first_g _)))
    have hY : (grow (X.drewN nq) osq).heap[w.heap.size]? = some (.cells #[.int .i64 1, .int .i64 0] 25 (0, 0)) := by rw [(lays_grow X nq osq).1.block _ (lt_of_block HB.out)]; exact HB.out
    have hL2 := hL1.trans (lays_grow X nq osq)
    have HY := Lib.hid hY
    clear p1 p2 hY HB hL1
    go_wp2_with fail
    generalize grow (X.drewN nq) osq = Y at *
    obtain ⟨p1, p2⟩ := cut_grown HY.out
    go_quiet_grown (first | (go_at_call 32; exact Calls.grown_of (last_g _)))
    have hL3 := hL2.trans (lays_grow Y nq osq)
    go_wp2_with fail
    go_ret2
    exact ⟨ret_ib nx_hi, hL3⟩
  · rw [h1, h2] at HC
    clear h1 h2 hk
    go_enter Tryd.func39, Tryd.ntmps39
    go_wp2_with fail
    refine (HC.out _).mono ?_
    rintro e w1 ⟨rfl, hL⟩
    have hb : w1.heap[w.heap.size]? = some (.cells #[.int .i64 s, .int .i64 a] 25 (0, 0)) := by rw [hL.1.block _ (by simp)]; exact heap_alloc_new _ _
    have hL1 := ((((Lays.refl _).alloc _).trans hL).setCell (p := ⟨w.heap.size, 0, none⟩) (by simp) (.int .i64 0)).setCell (p := ⟨w.heap.size, 1, none⟩) (by simp) (.int .i64 k)
    have hb2 := two_put (p := .int .i64 0) (q := .int .i64 k) hb
    obtain ⟨q1, q2, q3, q4⟩ := two_cells hb
    have HB := Lib.hid hb2
    clear hb hb2
    go_wp2_with fail
    have hb2 := HB.out
    generalize (w1.setCell ⟨w.heap.size, 0, none⟩ (.int .i64 0)).setCell ⟨w.heap.size, 1, none⟩ (.int .i64 k) = X at *
    obtain ⟨p1, p2⟩ := cut_grown hb2
    clear q1 q2 q3 q4 hb2 HC
    go_quiet_grown (first | (go_at_call 29; exact Calls.grown_of (first_g _)))
    have hY : (grow (X.drewN nq) osq).heap[w.heap.size]? = some (.cells #[.int .i64 0, .int .i64 k] 25 (0, 0)) := by rw [(lays_grow X nq osq).1.block _ (lt_of_block HB.out)]; exact HB.out
    have hL2 := hL1.trans (lays_grow X nq osq)
    have HY := Lib.hid hY
    clear p1 p2 hY HB hL1
    go_wp2_with fail
    generalize grow (X.drewN nq) osq = Y at *
    obtain ⟨p1, p2⟩ := cut_grown HY.out
    go_quiet_grown (first | (go_at_call 32; exact Calls.grown_of (last_g _)))
    have hL3 := hL2.trans (lays_grow Y nq osq)
    go_wp2_with fail
    go_ret2
    exact ⟨ret_ib (nx_in k (by omega)), hL3⟩
theorem canon_g (s a : Int) (w : World) (ha : I64 a) : Calls Tryd.prog 37 #[.agg #[.int .i64 s, .int .i64 a]] w fun e w' => e = .returned (.agg #[.int .i64 (sd (key s a)), .int .i64 (pa (key s a))]) ∧ ∃ q os, w' = grow (w.drewN q) os := (canon_any s a w ha).mono fun _ _ h => ⟨h.1, h.2.grown⟩
theorem right_any (s a : Int) (w : World) (ha : I64 a) :
    Calls Tryd.prog 68 #[.agg #[.int .i64 s, .int .i64 a]] w fun e w' => e = .returned (.bool (s == sd (key s a) && a == pa (key s a))) ∧ Lays w w' := by
  have mx := mixed
  have HC := Lib.hid (fun W => canon_g s a W ha)
  generalize sd (key s a) = t at *
  generalize pa (key s a) = b at *
  have eqc := eql_cut
  go_enter Tryd.func68, Tryd.ntmps68
  go_wp2_with fail
  have hb := heap_alloc_new w (.cells #[.int .i64 s, .int .i64 a] 25)
  have hL1 := (Lays.refl w).alloc (.cells #[.int .i64 s, .int .i64 a] 25)
  generalize w.alloc (.cells #[.int .i64 s, .int .i64 a] 25) = X at *
  obtain ⟨p1, p2⟩ := cut_grown hb
  clear hb
  go_quiet_grown (first | (go_at_call 37; exact Calls.grown_of (HC.out _)))
  have hL2 := hL1.trans (lays_grow X nq osq)
  go_wp2_with fail
  go_ret
  exact ⟨rfl, hL2⟩
theorem ahead_any (n : Int) (w : World) (hn : I64 n) :
    Calls Tryd.prog 31 #[.int .i64 n] w fun e w' => e = .returned (.agg #[.int .i64 (sd n), .int .i64 (pa n)]) ∧ Lays w w' := by
  have HC := Lib.hid (fun W => canon_any 0 n W hn)
  rw [key_zero] at HC
  generalize sd n = t at *
  generalize pa n = b at *
  go_enter Tryd.func31, Tryd.ntmps31
  go_wp2_with fail
  refine (HC.out _).mono ?_
  rintro e w1 ⟨rfl, hL⟩
  have hb : w1.heap[w.heap.size]? = some (.cells #[.int .i64 0, .int .i64 0] 25 (0, 0)) := by rw [hL.1.block _ (by simp)]; exact heap_alloc_new _ _
  have hL1 := (((Lays.refl _).alloc _).trans hL).setCell (p := ⟨w.heap.size, 0, none⟩) (by simp) (.int .i64 t) |>.setCell (p := ⟨w.heap.size, 1, none⟩) (by simp) (.int .i64 b)
  obtain ⟨p1, p2, _, _⟩ := two_cells (two_put (p := .int .i64 t) (q := .int .i64 b) hb)
  obtain ⟨q1, q2, q3, q4⟩ := two_cells hb
  clear hb
  go_wp2_with fail
  refine bodyPost_ret (v := .agg #[.int .i64 t, .int .i64 b]) (by simp [results, Tryd.results31, go_sem, p1, p2]) rfl ?_
  exact ⟨rfl, hL1⟩
theorem behind_any (n : Int) (w : World) (hn : I64 n) :
    Calls Tryd.prog 30 #[.int .i64 n] w fun e w' => e = .returned (.agg #[.int .i64 (sd (n + 1)), .int .i64 (pa (n + 1))]) ∧ Lays w w' := by
  unfold I64 at hn
  by_cases h : n = 9223372036854775807
  · subst h
    rw [show (9223372036854775807 : Int) + 1 = 9223372036854775808 from by decide, sd_hi, pa_hi]
    go_enter Tryd.func30, Tryd.ntmps30
    go_wp2_with fail
    refine (last_any _).mono ?_
    rintro e w1 ⟨rfl, hL⟩
    have hb : w1.heap[w.heap.size]? = some (.cells #[.int .i64 0, .int .i64 0] 25 (0, 0)) := by rw [hL.1.block _ (by simp)]; exact heap_alloc_new _ _
    have hL1 := (((Lays.refl _).alloc _).trans hL).setCell (p := ⟨w.heap.size, 0, none⟩) (by simp) (.int .i64 1) |>.setCell (p := ⟨w.heap.size, 1, none⟩) (by simp) (.int .i64 0)
    obtain ⟨p1, p2, _, _⟩ := two_cells (two_put (p := .int .i64 1) (q := .int .i64 0) hb)
    obtain ⟨q1, q2, q3, q4⟩ := two_cells hb
    clear hb
    go_wp2_with fail
    refine bodyPost_ret (v := .agg #[.int .i64 1, .int .i64 0]) (by simp [results, Tryd.results30, go_sem, p1, p2]) rfl ?_
    exact ⟨rfl, hL1⟩
  · rw [sd_mid (n + 1) (by omega) (by omega), pa_mid (n + 1) (by omega) (by omega)]
    have t1 : (n == 9223372036854775807) = false := beq_eq_false_iff_ne.2 h
    go_enter Tryd.func30, Tryd.ntmps30
    go_wp2_with fail
    refine bodyPost_ret (v := .agg #[.int .i64 0, .int .i64 (n + 1)]) (by simp [results, Tryd.results30, go_sem]) rfl ?_
    exact ⟨rfl, (Lays.refl _).alloc _⟩
end Go.Proofs.YthojkbmffiibdaaDoor

/- Contracts of the plain arithmetic functions of package sat. -/
namespace Go.Proofs.YthojkbmffiibdaaDoor
open Go.RowKit Go.Proofs.YthojkbmffiibdaaDoor.Bo

theorem ret_int {k : IntKind} {a b : Int} (h : a = b) : Ending.returned (.int k a) = .returned (.int k b) := by rw [h]

theorem ret_int_bool {k : IntKind} {a b : Int} {c : Bool} (h : a = b) : Ending.returned (.tuple #[.int k a, .bool c]) = .returned (.tuple #[.int k b, .bool c]) := by rw [h]

theorem wrap64_hi (n : Int) (h : 9223372036854775807 < n) (h2 : n < 18446744073709551616) : wrap64 n = n - 18446744073709551616 := by unfold wrap64; omega
theorem wrap64_lo (n : Int) (h : n < -9223372036854775808) (h2 : -18446744073709551617 < n) : wrap64 n = n + 18446744073709551616 := by unfold wrap64; omega

/-! ### Ceil -/
/-! ### size -/
theorem size_pos (n : Int) (w : World) (h1 : 0 ≤ n) (h2 : n ≤ 9223372036854775807) :
    Calls Tryd.prog 79 #[.int .i64 n] w fun e w' => e = .returned (.int .u64 n) ∧ w = w' := by
  have t1 : decide (n < 0) = false := by simp; omega
  go_enter Tryd.func79, Tryd.ntmps79
  go_wp2
  go_ret
  exact ⟨rfl, rfl⟩
theorem u64_neg (n : Int) (h1 : -9223372036854775808 ≤ n) (h2 : n < 0) : IntKind.u64.wrap (-IntKind.u64.wrap n) = -n := by
  simp [IntKind.wrap, IntKind.bits, IntKind.signed]; omega
theorem size_neg (n : Int) (w : World) (h1 : -9223372036854775808 ≤ n) (h2 : n < 0) :
    Calls Tryd.prog 79 #[.int .i64 n] w fun e w' => e = .returned (.int .u64 (-n)) ∧ w = w' := by
  have t1 : decide (n < 0) = true := by simp; omega
  go_enter Tryd.func79, Tryd.ntmps79
  go_wp2
  go_ret
  exact ⟨ret_int (u64_neg n h1 h2), rfl⟩
end Go.Proofs.YthojkbmffiibdaaDoor

/- Contract of sat.Text. -/
namespace Go.Proofs.YthojkbmffiibdaaDoor
open Go.RowKit Go.Proofs.YthojkbmffiibdaaDoor.Bo

theorem ret_int' {k : IntKind} {a b : Int} (h : a = b) : Value.int k a = .int k b := by rw [h]

/-- The closure that takes a digit off. -/
theorem takeoff_any (B r : Nat) (w : World) (hr : r ≤ 9223372036854775808) (hb : w.heap[B]? = some (.cells #[.int .u64 (r : Int)] 85 (0, 0))) :
    Calls Tryd.prog 80 #[.pointer (some ⟨B, 0, none⟩)] w fun e w' =>
      e = .returned (.int .u8 ((48 + r % 10 : Nat) : Int)) ∧ w.setCell ⟨B, 0, none⟩ (.int .u64 ((r / 10 : Nat) : Int)) = w' := by
  have hc := cell_of_one hb
  have hf := free_of_one hb
  clear hb
  go_enter Tryd.func80, Tryd.ntmps80
  go_wp2
  go_ret
  exact ⟨rfl, rfl⟩

theorem size_nat (n : Int) (w : World) (hn : I64 n) :
    Calls Tryd.prog 79 #[.int .i64 n] w fun e w' => e = .returned (.int .u64 (n.natAbs : Int)) ∧ w = w' := by
  obtain ⟨h1, h2⟩ := hn
  by_cases h : n < 0
  · rw [show (n.natAbs : Int) = -n from by omega]; exact size_neg n w h1 h
  · rw [show (n.natAbs : Int) = n from by omega]; exact size_pos n w (by omega) h2

def bv (c : UInt8) : Value := .int .u8 (c.toNat : Int)

/-- What stands in memory while the digits are taken off: B holds what is left, B + 1 the signs. -/
structure TextAt (w : World) (m : Nat) (j : Nat) (wr : World) : Prop where
  mem : ∃ (r : Nat) (cs : Array Value) (out : List UInt8), r ≤ 9223372036854775808 ∧ wr.heap[w.heap.size]? = some (.cells #[.int .u64 (r : Int)] 85 (0, 0)) ∧
    wr.heap[w.heap.size + 1]? = some (.cells cs 88 (0, 0)) ∧ cs.size = 20 ∧ cs.toList.drop j = out.map bv ∧ pre r ++ out = dg m ∧ j + out.length = 20
  below : Below w.heap.size w wr

theorem drop_set_pred (l : List Value) (j : Nat) (v : Value) (h : j < l.length) : (l.set j v).drop j = v :: l.drop (j + 1) := by
  rw [List.drop_eq_getElem_cons (by simpa using h), List.drop_set_of_lt (by omega)]; simp

theorem text_step (w : World) (m j r : Nat) (cs : Array Value) (out : List UInt8) (wr : World) (hB : Below w.heap.size w wr)
    (h1 : wr.heap[w.heap.size]? = some (.cells #[.int .u64 (r : Int)] 85 (0, 0))) (h2 : wr.heap[w.heap.size + 1]? = some (.cells cs 88 (0, 0)))
    (hs : cs.size = 20) (hd : cs.toList.drop (j + 1) = out.map bv) (hp : (pre (r / 10) ++ [ch (r % 10)]) ++ out = dg m) (hl : j + 1 + out.length = 20) (hr : r ≤ 9223372036854775808) :
    TextAt w m j ((wr.setCell ⟨w.heap.size, 0, none⟩ (.int .u64 ((r / 10 : Nat) : Int))).setCell ⟨w.heap.size + 1, j, none⟩ (.int .u8 ((48 + r % 10 : Nat) : Int))) := by
  have hlt := lt_of_block h2
  have h1' := one_setCell (u := .int .u64 ((r / 10 : Nat) : Int)) h1
  have h2' := (heap_setCell_other wr ⟨w.heap.size, 0, none⟩ (w.heap.size + 1) (.int .u64 ((r / 10 : Nat) : Int)) (by simp)).trans h2
  refine ⟨⟨r / 10, cs.setIfInBounds j (.int .u8 ((48 + r % 10 : Nat) : Int)), ch (r % 10) :: out, by omega, ?_, ?_, by simpa using hs, ?_, by simpa using hp, by simp; omega⟩, ?_⟩
  · rw [heap_setCell_other _ _ _ _ (by simp)]; exact h1'
  · exact heap_setCell_same _ _ _ _ _ _ h2'
  · rw [Array.toList_setIfInBounds, drop_set_pred _ _ _ (by simp; omega), hd]
    simp [bv, ch_toNat (r % 10) (by omega)]
  · exact (hB.setCell (Nat.le_refl _) _).setCell (by simp) _

theorem take_text (w : World) (j : Nat) (cs : Array Value) (out : List UInt8) (h2 : w.heap[j]? = some (.cells cs 88 (0, 0))) (a : Nat)
    (hd : cs.toList.drop a = out.map bv) (k : Nat) (hk : k < out.length) : w.cell? ((⟨j, a, none⟩ : Addr).add k) = some (.int .u8 (out[k].toNat : Int)) := by
  rw [Addr.add_lit, cell_of_row w j (a + k) cs _ _ h2]
  have : (cs.toList.drop a)[k]? = some (bv out[k]) := by rw [hd]; simp [hk]
  rw [List.getElem?_drop] at this
  simpa [bv] using this

theorem text_start (w : World) (m : Nat) (hm : m ≤ 9223372036854775808) (cs : Array Value) (hs : cs.size = 20) (hd : cs.toList.drop 19 = [bv (ch (m % 10))]) :
    TextAt w m 19 ((w.alloc (.cells #[.int .u64 ((m / 10 : Nat) : Int)] 85)).alloc (.cells cs 88)) := by
  refine ⟨⟨m / 10, cs, [ch (m % 10)], by omega, heap_alloc2_old _ _ _, heap_alloc2_new _ _ _, hs, by simpa using hd, (dg_step m).symm, by simp⟩, ?_⟩
  exact ((Below.refl _ _).alloc (Nat.le_refl _) _).alloc (by simp) _

theorem signs_len : Tryd.prog.arrayLen 88 = 20 := by kernel_rfl
theorem signs_under : Tryd.prog.underlying 88 = some (.array (Tryd.prog.arrayLen 88) (Tryd.prog.elem 88)) := by kernel_rfl
theorem signs_elem (w : World) : (sizeOf (Tryd.prog.elem 88)).run Tryd.prog w = .ok 1 w := by kernel_rfl
theorem slice_signs (j B : Nat) (w : World) (hj : j < 20) :
    (Instr.sliceAt 88 (.pointer (some ⟨B, 0, none⟩)) (some (.int .i64 (j : Int))) none none).run Tryd.prog w = .ok (.slice (some ⟨B, j, none⟩) (20 - j) (20 - j)) w := by
  rw [run_sliceAt_array_l (P := Tryd.prog) w 88 _ signs_under .i64 (j : Int) (by omega) (by rw [signs_len]; omega), signs_len, signs_elem]
  have : ¬ (20 = j) := by omega
  simp [Result.andThen, slicedAt, this]
  rw [Addr.add_lit]; simp

theorem ret_str {a b : List UInt8} (h : a = b) : Ending.returned (.string ⟨a.toArray⟩) = .returned (.string ⟨b.toArray⟩) := by rw [h]

set_option maxRecDepth 100000 in
theorem text_any (n : Int) (w : World) (hn : I64 n) :
    Calls Tryd.prog 70 #[.int .i64 n] w fun e w' => e = .returned (.string ⟨(textOf n).toArray⟩) ∧ Below w.heap.size w w' := by
  have hmf : ∀ (fn : Fn) (first cap : Array Value) (w : World), (Instr.makeFunc fn first cap).run Tryd.prog w = .ok (.func fn first cap) w := fun _ _ _ _ => rfl
  have HN := Lib.hid hn
  obtain ⟨hn1, hn2⟩ := hn
  have hm : n.natAbs ≤ 9223372036854775808 := by omega
  have HT : Hid (textOf n = if n < 0 then 45 :: dg n.natAbs else dg n.natAbs) := rfl
  go_enter Tryd.func70, Tryd.ntmps70
  go_wp2_with fail
  refine (size_nat _ _ HN.out).mono ?_
  rintro e w' ⟨rfl, rfl⟩
  generalize n.natAbs = m at *
  have hdl := dg_len m hm
  obtain ⟨hdl1, hdl2⟩ := hdl
  go_wp2_with fail
  refine (takeoff_any w.heap.size m _ hm ?_).mono ?_
  · exact heap_alloc2_old _ _ _
  rintro e w' ⟨rfl, rfl⟩
  go_wp2_with fail
  go_loopw [6] (fun at_ wr => ∃ j : Nat, at_ = .int .i64 j ∧ j < 20 ∧ TextAt w m j wr) (fun at_ _ => (intOf at_).toNat)
  case atStart =>
    exact ⟨19, rfl, by omega, text_start w m hm _ rfl (by simp [bv, ch_toNat (m % 10) (by omega)])⟩
  case round =>
    obtain ⟨j, rfl, hj, ⟨⟨r, cs, out, hr, h1, h2, hs, hd, hp, hl⟩, hB⟩⟩ := hrel
    have c1 := cell_of_one h1
    have f1 := free_of_one h1
    have f2 : ∀ i, wr.frozen? ⟨w.heap.size + 1, i, none⟩ = false := fun i => frozen_of_row _ _ _ _ _ h2
    have hsz := lt_of_block h2
    have hpl : (pre r).length + out.length ≤ 19 := by rw [← List.length_append, hp]; exact hdl2
    by_cases hz : 0 < r
    · have hpp := pre_pos r (by omega)
      have hpl1 : 1 ≤ (pre r).length := by rw [hpp]; simp
      obtain ⟨i, rfl⟩ : ∃ i, j = i + 1 := ⟨j - 1, by omega⟩
      have tz : decide (0 < (r : Int)) = true := by simp; omega
      have HP : Hid ((pre (r / 10) ++ [ch (r % 10)]) ++ out = dg m) := by rw [← hpp]; exact hp
      have H1 := Lib.hid h1
      have H2 := Lib.hid h2
      have HS := Lib.hid hs
      have HD := Lib.hid hd
      have HL := Lib.hid hl
      have hst := text_step w m i r cs out wr hB h1 h2 hs hd HP.out hl hr
      obtain ⟨v0, hc2⟩ : ∃ v, wr.cell? ⟨w.heap.size + 1, i, none⟩ = some v := by
        rw [cell_of_row wr _ i cs _ _ h2]; exact ⟨cs[i], by simp⟩
      clear h1 h2 hs hd hp hpp hl
      go_wp2_with fail
      refine (takeoff_any w.heap.size r _ hr H1.out).mono ?_
      rintro e w' ⟨rfl, rfl⟩
      go_wp2_with fail
      go_roundw
      case rel => exact ⟨i, rfl, by omega, hst⟩
      case measure => simp [intOf]
    · have tz : decide (0 < (r : Int)) = false := by simp; omega
      obtain rfl : r = 0 := by omega
      have ho : out = dg m := by simpa [pre_zero] using hp
      subst ho
      have HR := Lib.hid hl
      by_cases hneg : n < 0
      · have tn : decide (n < 0) = true := by simpa using hneg
        obtain ⟨i, rfl⟩ : ∃ i, j = i + 1 := ⟨j - 1, by omega⟩
        obtain ⟨v0, hc2⟩ : ∃ v, wr.cell? ⟨w.heap.size + 1, i, none⟩ = some v := by
          rw [cell_of_row wr _ i cs _ _ h2]; exact ⟨cs[i], by simp⟩
        have h2' := heap_setCell_same wr (w.heap.size + 1) i cs _ (.int .u8 45) h2
        have hd' : (cs.setIfInBounds i (.int .u8 45)).toList.drop i = (45 :: dg m).map bv := by
          rw [Array.toList_setIfInBounds, drop_set_pred _ _ _ (by simp; omega), hd]; rfl
        have HC := run_convert_bytes_back (P := Tryd.prog) _ 89 9 5 ⟨w.heap.size + 1, i, none⟩ (20 - i) (45 :: dg m) Tryd.underlying89 Tryd.underlying5 Tryd.underlying9 (take_text _ _ _ _ h2' i hd')
        rw [show (45 :: dg m).length = 20 - i from by simp; omega] at HC
        have hsl := fun (W : World) => slice_signs i (w.heap.size + 1) W (by omega)
        have HF : Hid (45 :: dg m = textOf n) := by rw [HT.out, if_pos hneg]; exact rfl
        have hB' : Below w.heap.size w (wr.setCell ⟨w.heap.size + 1, i, none⟩ (.int .u8 45)) := hB.setCell (by simp) _
        clear h1 h2 hs hd hp hl h2' hd'
        go_wp2_with fail
        go_ret
        exact ⟨ret_str HF.out, hB'⟩
      · have tn : decide (n < 0) = false := by simpa using hneg
        have HC := run_convert_bytes_back (P := Tryd.prog) wr 89 9 5 ⟨w.heap.size + 1, j, none⟩ (20 - j) (dg m) Tryd.underlying89 Tryd.underlying5 Tryd.underlying9 (take_text wr _ cs _ h2 j hd)
        rw [show (dg m).length = 20 - j from by omega] at HC
        have hsl := fun (W : World) => slice_signs j (w.heap.size + 1) W (by omega)
        have HF : Hid (dg m = textOf n) := by rw [HT.out, if_neg hneg]; exact rfl
        clear h1 h2 hs hd hp hl
        go_wp2_with fail
        go_ret
        exact ⟨ret_str HF.out, hB⟩
end Go.Proofs.YthojkbmffiibdaaDoor

/- Contracts of readDigits and Read. -/
namespace Go.Proofs.YthojkbmffiibdaaDoor
open Go.RowKit Go.Proofs.YthojkbmffiibdaaDoor.Bo
set_option linter.unusedVariables false

/-- The sign is no digit. -/
theorem take_no (B v M : Nat) (c : UInt8) (w : World) (h : c.toNat < 48 ∨ 57 < c.toNat) :
    Calls Tryd.prog 95 #[.int .u8 (c.toNat : Int), .pointer (some ⟨B + 1, 0, none⟩), .pointer (some ⟨B, 0, none⟩)] w fun e w' =>
      e = .returned (.bool false) ∧ w = w' := by
  by_cases h1 : c.toNat < 48
  · have t1 : decide ((c.toNat : Int) < 48) = true := by simp; omega
    go_enter Tryd.func95, Tryd.ntmps95
    go_wp2
    go_ret
    exact ⟨rfl, rfl⟩
  · have t1 : decide ((c.toNat : Int) < 48) = false := by simp; omega
    have t2 : decide (57 < (c.toNat : Int)) = true := by simp; omega
    go_enter Tryd.func95, Tryd.ntmps95
    go_wp2
    go_ret
    exact ⟨rfl, rfl⟩

theorem take_big (B v M : Nat) (c : UInt8) (w : World) (h1 : 48 ≤ c.toNat) (h2 : c.toNat ≤ 57) (hM : 9 ≤ M) (hM2 : M ≤ 9223372036854775808) (hv : v ≤ M) (h : (M - (c.toNat - 48)) / 10 < v)
    (b1 : w.heap[B]? = some (.cells #[.int .u64 (M : Int)] 85 (0, 0))) (b2 : w.heap[B + 1]? = some (.cells #[.int .u64 (v : Int)] 85 (0, 0))) :
    Calls Tryd.prog 95 #[.int .u8 (c.toNat : Int), .pointer (some ⟨B + 1, 0, none⟩), .pointer (some ⟨B, 0, none⟩)] w fun e w' =>
      e = .returned (.bool false) ∧ w = w' := by
  have c1 := cell_of_one b1
  have c2 := cell_of_one b2
  clear b1 b2
  have t1 : decide ((c.toNat : Int) < 48) = false := by simp; omega
  have t2 : decide (57 < (c.toNat : Int)) = false := by simp; omega
  have t3 : ((M : Int) - ((c.toNat : Int) - 48)) / 10 < (v : Int) := by omega
  go_enter Tryd.func95, Tryd.ntmps95
  go_wp2
  go_ret
  exact ⟨rfl, rfl⟩

theorem take_yes (B v M : Nat) (c : UInt8) (w : World) (h1 : 48 ≤ c.toNat) (h2 : c.toNat ≤ 57) (hM : 9 ≤ M) (hM2 : M ≤ 9223372036854775808) (hv : v ≤ M) (h : ¬ (M - (c.toNat - 48)) / 10 < v)
    (b1 : w.heap[B]? = some (.cells #[.int .u64 (M : Int)] 85 (0, 0))) (b2 : w.heap[B + 1]? = some (.cells #[.int .u64 (v : Int)] 85 (0, 0))) :
    Calls Tryd.prog 95 #[.int .u8 (c.toNat : Int), .pointer (some ⟨B + 1, 0, none⟩), .pointer (some ⟨B, 0, none⟩)] w fun e w' =>
      e = .returned (.bool true) ∧ w.setCell ⟨B + 1, 0, none⟩ (.int .u64 ((10 * v + (c.toNat - 48) : Nat) : Int)) = w' := by
  have c1 := cell_of_one b1
  have c2 := cell_of_one b2
  have f2 := free_of_one b2
  clear b1 b2
  have t1 : decide ((c.toNat : Int) < 48) = false := by simp; omega
  have t2 : decide (57 < (c.toNat : Int)) = false := by simp; omega
  have t3 : (v : Int) ≤ ((M : Int) - ((c.toNat : Int) - 48)) / 10 := by omega
  have e : ((10 * v + (c.toNat - 48) : Nat) : Int) = 10 * (v : Int) + ((c.toNat : Int) - 48) := by omega
  rw [e]
  clear e
  go_enter Tryd.func95, Tryd.ntmps95
  go_wp2
  go_ret
  exact ⟨rfl, rfl⟩

/-- What stands in memory while digits are read: B the most, B + 1 what was read. -/
structure DigAt (w : World) (M : Nat) (l : List UInt8) (R : Nat × Nat) (k v : Nat) (wr : World) : Prop where
  most : wr.heap[w.heap.size]? = some (.cells #[.int .u64 (M : Int)] 85 (0, 0))
  val : wr.heap[w.heap.size + 1]? = some (.cells #[.int .u64 (v : Int)] 85 (0, 0))
  le : v ≤ M
  run : rd M (l.drop k) k v = R
  below : Below w.heap.size w wr

theorem dig_step (w wr : World) (M : Nat) (l : List UInt8) (R : Nat × Nat) (k v : Nat) (hM : 9 ≤ M) (h : DigAt w M l R k v wr) (hk : k < l.length) (hs : ¬ stops M l[k] k v) :
    DigAt w M l R (k + 1) (10 * v + (l[k].toNat - 48)) (wr.setCell ⟨w.heap.size + 1, 0, none⟩ (.int .u64 ((10 * v + (l[k].toNat - 48) : Nat) : Int))) := by
  refine ⟨(heap_setCell_other wr _ _ _ (by simp)).trans h.most, one_setCell h.val, ?_, ?_, h.below.setCell (by simp) _⟩
  · unfold stops at hs
    have := h.le; omega
  · have hr := h.run
    rw [List.drop_eq_getElem_cons hk, rd_go _ _ _ _ _ hs] at hr
    exact hr

theorem bytes_at (s : ByteArray) (k : Nat) (h : k < s.size) : s.data.toList[k]'(by simpa using h) = s[k]'h := by simp [ByteArray.getElem_eq_getElem_data]

theorem ret_pair {k1 k2 : IntKind} {a b c d : Int} (h : a = b) (h2 : c = d) : Ending.returned (.tuple #[.int k1 a, .int k2 c]) = .returned (.tuple #[.int k1 b, .int k2 d]) := by rw [h, h2]

set_option maxRecDepth 100000 in
set_option maxHeartbeats 1000000 in
theorem digits_any (s : ByteArray) (M : Nat) (w : World) (hM : 9 ≤ M) (hM2 : M ≤ 9223372036854775808) (hs : s.size ≤ maxLen) :
    Calls Tryd.prog 87 #[.string s, .int .u64 (M : Int)] w fun e w' =>
      e = .returned (.tuple #[.int .u64 ((rd M s.data.toList 0 0).1 : Int), .int .i64 ((rd M s.data.toList 0 0).2 : Int)]) ∧ Below w.heap.size w w' := by
  have hmf : ∀ (fn : Fn) (first cap : Array Value) (w : World), (Instr.makeFunc fn first cap).run Tryd.prog w = .ok (.func fn first cap) w := fun _ _ _ _ => rfl
  unfold maxLen at hs
  generalize hR : rd M s.data.toList 0 0 = R
  have HR := Lib.hid hR
  clear hR
  go_enter Tryd.func87, Tryd.ntmps87
  go_wp2_with fail
  go_loopw [13] (fun i wr => ∃ k v : Nat, k ≤ s.size ∧ i = .int .i64 k ∧ DigAt w M s.data.toList R k v wr) (fun i _ => s.size - (intOf i).toNat)
  case atStart =>
    refine ⟨0, 0, Nat.zero_le _, rfl, heap_alloc2_old _ _ _, heap_alloc2_new _ _ _, Nat.zero_le _, HR.out, ((Below.refl _ _).alloc (Nat.le_refl _) _).alloc (by simp) _⟩
  case round =>
    obtain ⟨k, v, hk, rfl, hd⟩ := hrel
    have c1 := cell_of_one hd.most
    have c2 := cell_of_one hd.val
    have hv := hd.le
    have HD := Lib.hid hd
    clear hd
    by_cases hlt : k < s.size
    · have hrun : rd M (s[k] :: s.data.toList.drop (k + 1)) k v = R := by
        have hl : k < s.data.toList.length := by simpa using hlt
        rw [← HD.out.run, List.drop_eq_getElem_cons hl, bytes_at s k hlt]
      by_cases hst : stops M s[k] k v
      · -- it ends here
        rw [rd_stop _ _ _ _ _ hst] at hrun
        have H1 : Hid ((v : Int) = (R.1 : Int)) := by rw [← hrun]; exact rfl
        have H2 : Hid ((k : Int) = (R.2 : Int)) := by rw [← hrun]; exact rfl
        clear hrun
        by_cases hlead : k = 1 ∧ v = 0
        · have tk : ((k : Int) == 1) = true := by simp; omega
          have tv : ((v : Int) == 0) = true := by simp; omega
          clear hst
          have HLE := Lib.hid hlead
          clear hlead
          go_wp2_with fail
          go_ret2
          exact ⟨ret_pair (by have h1 := H1.out; have h2 := HLE.out; omega) (by have h1 := H2.out; have h2 := HLE.out; omega), HD.out.below⟩
        · have hcase : ((k : Int) == 1) = false ∨ (((k : Int) == 1) = true ∧ ((v : Int) == 0) = false) := by
            by_cases h1 : k = 1
            · right; refine ⟨by simp; omega, by simp; omega⟩
            · left; simp; omega
          by_cases hdig : s[k].toNat < 48 ∨ 57 < s[k].toNat
          · have HDIG := Lib.hid hdig
            clear hst hlead hdig
            rcases hcase with tk | ⟨tk, tv⟩
            all_goals
              go_wp2_with fail
              refine (take_no w.heap.size v M s[k] _ HDIG.out).mono ?_
              rintro e w' ⟨rfl, rfl⟩
              go_wp2_with fail
              go_ret2
              exact ⟨ret_pair H1.out H2.out, HD.out.below⟩
          · have hbig : Hid ((M - (s[k].toNat - 48)) / 10 < v) := by
              show (M - (s[k].toNat - 48)) / 10 < v
              unfold stops at hst; omega
            have HDIG : Hid (48 ≤ s[k].toNat ∧ s[k].toNat ≤ 57) := ⟨by omega, by omega⟩
            clear hst hlead hdig
            rcases hcase with tk | ⟨tk, tv⟩
            all_goals
              go_wp2_with fail
              refine (take_big w.heap.size v M s[k] _ HDIG.out.1 HDIG.out.2 hM hM2 hv hbig.out HD.out.most HD.out.val).mono ?_
              rintro e w' ⟨rfl, rfl⟩
              go_wp2_with fail
              go_ret2
              exact ⟨ret_pair H1.out H2.out, HD.out.below⟩
      · -- it goes on
        have hstep := dig_step w wr M s.data.toList R k v hM HD.out (by simpa using hlt) (by rw [bytes_at s k hlt]; exact hst)
        rw [bytes_at s k hlt] at hstep
        have HST := Lib.hid hstep
        have hcase : ((k : Int) == 1) = false ∨ (((k : Int) == 1) = true ∧ ((v : Int) == 0) = false) := by
          unfold stops at hst
          by_cases h1 : k = 1
          · right; refine ⟨by simp; omega, by simp; omega⟩
          · left; simp; omega
        have hbig : Hid (¬ (M - (s[k].toNat - 48)) / 10 < v) := by
          show ¬ (M - (s[k].toNat - 48)) / 10 < v
          unfold stops at hst; omega
        have HDIG : Hid (48 ≤ s[k].toNat ∧ s[k].toNat ≤ 57) := by
          show 48 ≤ s[k].toNat ∧ s[k].toNat ≤ 57
          unfold stops at hst; omega
        clear hst hrun hstep
        rcases hcase with tk | ⟨tk, tv⟩
        all_goals
          go_wp2_with fail
          refine (take_yes w.heap.size v M s[k] _ HDIG.out.1 HDIG.out.2 hM hM2 hv hbig.out HD.out.most HD.out.val).mono ?_
          rintro e w' ⟨rfl, rfl⟩
          go_wp2_with fail
          go_roundw
          case rel => exact ⟨k + 1, _, by omega, by go_num, HST.out⟩
          case measure => simp [intOf]; omega
    · have hke : k = s.size := by omega
      have hrun := HD.out.run
      rw [List.drop_of_length_le (by simp; omega), rd_nil] at hrun
      have H1 : Hid ((v : Int) = (R.1 : Int)) := by rw [← hrun]; exact rfl
      have H2 : Hid ((s.size : Int) = (R.2 : Int)) := by rw [← hrun, hke]; exact rfl
      clear hrun hke
      go_wp2_with fail
      go_ret2
      exact ⟨ret_pair H1.out H2.out, HD.out.below⟩
end Go.Proofs.YthojkbmffiibdaaDoor

/- Contracts of strings.CutPrefix at "-", Read and Parse. -/
namespace Go.Proofs.YthojkbmffiibdaaDoor
open Go.RowKit Go.Proofs.YthojkbmffiibdaaDoor.Bo
set_option linter.unusedVariables false

theorem hasp_yes (s : ByteArray) (w : World) (hs : s.size ≤ maxLen) (h : s.data.toList[0]? = some 45) :
    Calls Tryd.prog 85 #[.string s, .string ⟨#[45]⟩] w fun e w' => e = .returned (.bool true) ∧ w = w' := by
  unfold maxLen at hs
  have hlt : 0 < s.size := by have := (List.getElem?_eq_some_iff.1 h).1; simpa using this
  have t1 : ((s.extract 0 1).toList == [45]) = true := by
    rw [ByteArray.toList_eq, beq_iff_eq]
    have : s.data.toList.take 1 = [45] := by
      cases hl : s.data.toList with
      | nil => rw [hl] at h; simp at h
      | cons a t => rw [hl] at h; simpa using h
    simpa using this
  clear h
  go_enter Tryd.func85, Tryd.ntmps85
  go_wp2
  go_ret
  exact ⟨rfl, rfl⟩
theorem hasp_no (s : ByteArray) (w : World) (hs : s.size ≤ maxLen) (h : ¬ s.data.toList[0]? = some 45) :
    Calls Tryd.prog 85 #[.string s, .string ⟨#[45]⟩] w fun e w' => e = .returned (.bool false) ∧ w = w' := by
  unfold maxLen at hs
  by_cases hlt : 0 < s.size
  · have t1 : ((s.extract 0 1).toList == [45]) = false := by
      rw [ByteArray.toList_eq, beq_eq_false_iff_ne]
      intro he
      have : s.data.toList.take 1 = [45] := by simpa using he
      cases hl : s.data.toList with
      | nil => rw [hl] at this; simp at this
      | cons a t => rw [hl] at this h; simp at this h; exact h this
    clear h
    go_enter Tryd.func85, Tryd.ntmps85
    go_wp2
    go_ret
    exact ⟨rfl, rfl⟩
  · clear h
    go_enter Tryd.func85, Tryd.ntmps85
    go_wp2
    go_ret
    exact ⟨rfl, rfl⟩

theorem cutl_yes (s : ByteArray) (w : World) (hs : s.size ≤ maxLen) (h : s.data.toList[0]? = some 45) :
    Calls Tryd.prog 94 #[.string s, .string ⟨#[45]⟩] w fun e w' => e = .returned (.tuple #[.string (s.extract 1 s.size), .bool true]) ∧ w = w' := by
  have hlt : 0 < s.size := by have := (List.getElem?_eq_some_iff.1 h).1; simpa using this
  have H := Lib.hid h
  have HS := Lib.hid hs
  unfold maxLen at hs
  clear h
  go_enter Tryd.func94, Tryd.ntmps94
  go_wp2_with fail
  refine (hasp_yes _ _ HS.out H.out).mono ?_
  rintro e w' ⟨rfl, rfl⟩
  go_wp2_with fail
  go_ret2
  exact ⟨rfl, rfl⟩
theorem cutl_no (s : ByteArray) (w : World) (hs : s.size ≤ maxLen) (h : ¬ s.data.toList[0]? = some 45) :
    Calls Tryd.prog 94 #[.string s, .string ⟨#[45]⟩] w fun e w' => e = .returned (.tuple #[.string s, .bool false]) ∧ w = w' := by
  have H := Lib.hid h
  have HS := Lib.hid hs
  clear h hs
  go_enter Tryd.func94, Tryd.ntmps94
  go_wp2_with fail
  refine (hasp_no _ _ HS.out H.out).mono ?_
  rintro e w' ⟨rfl, rfl⟩
  go_wp2_with fail
  go_ret2
  exact ⟨rfl, rfl⟩
theorem cutp_yes (s : ByteArray) (w : World) (hs : s.size ≤ maxLen) (h : s.data.toList[0]? = some 45) :
    Calls Tryd.prog 86 #[.string s, .string ⟨#[45]⟩] w fun e w' => e = .returned (.tuple #[.string (s.extract 1 s.size), .bool true]) ∧ w = w' := by
  have H := Lib.hid h
  have HS := Lib.hid hs
  clear h hs
  go_enter Tryd.func86, Tryd.ntmps86
  go_wp2_with fail
  refine (cutl_yes _ _ HS.out H.out).mono ?_
  rintro e w' ⟨rfl, rfl⟩
  go_wp2_with fail
  go_ret2
  exact ⟨rfl, rfl⟩
theorem cutp_no (s : ByteArray) (w : World) (hs : s.size ≤ maxLen) (h : ¬ s.data.toList[0]? = some 45) :
    Calls Tryd.prog 86 #[.string s, .string ⟨#[45]⟩] w fun e w' => e = .returned (.tuple #[.string s, .bool false]) ∧ w = w' := by
  have H := Lib.hid h
  have HS := Lib.hid hs
  clear h hs
  go_enter Tryd.func86, Tryd.ntmps86
  go_wp2_with fail
  refine (cutl_no _ _ HS.out H.out).mono ?_
  rintro e w' ⟨rfl, rfl⟩
  go_wp2_with fail
  go_ret2
  exact ⟨rfl, rfl⟩

theorem i64_neg_u64 (n : Nat) (h0 : n ≠ 0) (h : n ≤ 9223372036854775808) : wrap64 (IntKind.u64.wrap (-(n : Int))) = -(n : Int) := by
  simp [IntKind.wrap, IntKind.bits, IntKind.signed]; unfold wrap64; omega

theorem read_any (s : ByteArray) (w : World) (hs : s.size ≤ maxLen) :
    Calls Tryd.prog 75 #[.string s] w fun e w' =>
      e = .returned (.tuple #[.int .i64 (rdAll s.data.toList).1, .int .i64 ((rdAll s.data.toList).2 : Int)]) ∧ Below w.heap.size w w' := by
  have HS := Lib.hid hs
  by_cases h : s.data.toList[0]? = some 45
  · have H := Lib.hid h
    have hlt : 0 < s.size := by have := (List.getElem?_eq_some_iff.1 h).1; simpa using this
    have hx : (s.extract 1 s.size).data.toList = s.data.toList.drop 1 := by simp; exact List.take_of_length_le (by simp)
    have hxs : Hid ((s.extract 1 s.size).size ≤ maxLen) := by
      show (s.extract 1 s.size).size ≤ maxLen
      simp; omega
    have hb := rd_bounds 9223372036854775808 (by omega) (s.data.toList.drop 1) 0 0 (by omega)
    have HD := fun (W : World) => digits_any (s.extract 1 s.size) 9223372036854775808 W (by omega) (by omega) hxs.out
    rw [hx] at HD
    have hlen : (s.data.toList.drop 1).length ≤ 9223372036854775806 := by unfold maxLen at hs; simp; omega
    have hdef : rdAll s.data.toList = if (rd 9223372036854775808 (s.data.toList.drop 1) 0 0).1 = 0 then (0, 0) else (-((rd 9223372036854775808 (s.data.toList.drop 1) 0 0).1 : Int), (rd 9223372036854775808 (s.data.toList.drop 1) 0 0).2 + 1) := by
      unfold rdAll; rw [if_pos h]
    generalize rd 9223372036854775808 (s.data.toList.drop 1) 0 0 = R at *
    obtain ⟨v, k⟩ := R
    simp only at hb HD hdef
    obtain ⟨hb1, hb2, hb3⟩ := hb
    by_cases hv : v = 0
    · rw [if_pos hv] at hdef
      rw [hdef]
      subst hv
      have HDD := Lib.hid HD
      clear h hs hx hdef HD
      go_enter Tryd.func75, Tryd.ntmps75
      go_wp2_with fail
      refine (cutp_yes _ _ HS.out H.out).mono ?_
      rintro e w' ⟨rfl, rfl⟩
      go_wp2_with fail
      refine (size_neg _ _ (by omega) (by omega)).mono ?_
      rintro e w' ⟨rfl, rfl⟩
      go_wp2_with fail
      refine (HDD.out _).mono ?_
      rintro e w' ⟨rfl, hB⟩
      go_wp2_with fail
      go_ret2
      exact ⟨rfl, hB⟩
    · rw [if_neg hv] at hdef
      rw [hdef]
      have HDD := Lib.hid HD
      have HV := Lib.hid (i64_neg_u64 v hv hb1)
      have tv : ((v : Int) == 0) = false := by simp; omega
      have hk : (k : Int) + 1 ≤ 9223372036854775807 := by omega
      clear h hs hx hdef HD hv
      go_enter Tryd.func75, Tryd.ntmps75
      go_wp2_with fail
      refine (cutp_yes _ _ HS.out H.out).mono ?_
      rintro e w' ⟨rfl, rfl⟩
      go_wp2_with fail
      refine (size_neg _ _ (by omega) (by omega)).mono ?_
      rintro e w' ⟨rfl, rfl⟩
      go_wp2_with fail
      refine (HDD.out _).mono ?_
      rintro e w' ⟨rfl, hB⟩
      go_wp2_with fail
      go_ret2
      exact ⟨ret_pair HV.out (by omega), hB⟩
  · have H := Lib.hid h
    have hb := rd_bounds 9223372036854775807 (by omega) s.data.toList 0 0 (by omega)
    have HD := fun (W : World) => digits_any s 9223372036854775807 W (by omega) (by omega) hs
    have hdef : rdAll s.data.toList = (((rd 9223372036854775807 s.data.toList 0 0).1 : Int), (rd 9223372036854775807 s.data.toList 0 0).2) := by
      unfold rdAll; rw [if_neg h]
    generalize rd 9223372036854775807 s.data.toList 0 0 = R at *
    obtain ⟨v, k⟩ := R
    simp only at hb HD hdef
    obtain ⟨hb1, hb2, hb3⟩ := hb
    rw [hdef]
    have HDD := Lib.hid HD
    clear h hs hdef HD
    go_enter Tryd.func75, Tryd.ntmps75
    go_wp2_with fail
    refine (cutp_no _ _ HS.out H.out).mono ?_
    rintro e w' ⟨rfl, rfl⟩
    go_wp2_with fail
    refine (HDD.out _).mono ?_
    rintro e w' ⟨rfl, hB⟩
    go_wp2_with fail
    go_ret2
    exact ⟨rfl, hB⟩

end Go.Proofs.YthojkbmffiibdaaDoor

/- Contracts of cut.Text and cut.Read. -/
namespace Go.Proofs.YthojkbmffiibdaaDoor
open Go.RowKit Go.Sort Go.Proofs.YthojkbmffiibdaaDoor.Bo
set_option linter.unusedVariables false

set_option maxRecDepth 100000 in
theorem ctext_any (s a : Int) (w : World) (ha : I64 a) :
    Calls Tryd.prog 53 #[.agg #[.int .i64 s, .int .i64 a]] w fun e w' => e = .returned (.string ⟨(ktext (key s a)).toArray⟩) ∧ Below w.heap.size w w' := by
  have mx := mixed
  have HC := Lib.hid (fun W => canon_any s a W ha)
  have hk := key_ky s a ha
  generalize key s a = k at *
  have hcases := ky_cases k hk
  have eqc := eql_cut
  rcases hcases with ⟨rfl, h1, h2⟩ | ⟨rfl, h1, h2⟩ | ⟨g1, g2, h1, h2⟩
  · rw [h1, h2] at HC
    clear h1 h2 hk
    go_enter Tryd.func53, Tryd.ntmps53
    go_wp2_with fail
    refine (HC.out _).mono ?_
    rintro e w1 ⟨rfl, hL⟩
    have hb : w1.heap[w.heap.size]? = some (.cells #[.int .i64 s, .int .i64 a] 25 (0, 0)) := by rw [hL.1.block _ (by simp)]; exact heap_alloc_new _ _
    have hL1 := ((((Lays.refl _).alloc _).trans hL).setCell (p := ⟨w.heap.size, 0, none⟩) (by simp) (.int .i64 (-1))).setCell (p := ⟨w.heap.size, 1, none⟩) (by simp) (.int .i64 0)
    have hb2 := two_put (p := .int .i64 (-1)) (q := .int .i64 0) hb
    obtain ⟨q1, q2, q3, q4⟩ := two_cells hb
    have HB := Lib.hid hb2
    clear hb hb2
    go_wp2_with fail
    have hb2 := HB.out
    generalize (w1.setCell ⟨w.heap.size, 0, none⟩ (.int .i64 (-1))).setCell ⟨w.heap.size, 1, none⟩ (.int .i64 0) = X at *
    obtain ⟨p1, p2⟩ := cut_grown hb2
    clear q1 q2 q3 q4 hb2 HC
    go_quiet_grown (first | (go_at_call 29; exact Calls.grown_of (first_g _)))
    have hL2 := hL1.trans (lays_grow X nq osq)
    go_wp2_with fail
    go_ret
    exact ⟨ret_str ktext_lo.symm, hL2.1⟩
  · rw [h1, h2] at HC
    clear h1 h2 hk
    go_enter Tryd.func53, Tryd.ntmps53
    go_wp2_with fail
    refine (HC.out _).mono ?_
    rintro e w1 ⟨rfl, hL⟩
    have hb : w1.heap[w.heap.size]? = some (.cells #[.int .i64 s, .int .i64 a] 25 (0, 0)) := by rw [hL.1.block _ (by simp)]; exact heap_alloc_new _ _
    have hL1 := ((((Lays.refl _).alloc _).trans hL).setCell (p := ⟨w.heap.size, 0, none⟩) (by simp) (.int .i64 1)).setCell (p := ⟨w.heap.size, 1, none⟩) (by simp) (.int .i64 0)
    have hb2 := two_put (p := .int .i64 1) (q := .int .i64 0) hb
    obtain ⟨q1, q2, q3, q4⟩ := two_cells hb
    have HB := Lib.hid hb2
    clear hb hb2
    go_wp2_with fail
    have hb2 := HB.out
    generalize (w1.setCell ⟨w.heap.size, 0, none⟩ (.int .i64 1)).setCell ⟨w.heap.size, 1, none⟩ (.int .i64 0) = X at *
    obtain ⟨p1, p2⟩ := cut_grown hb2
    clear q1 q2 q3 q4 hb2 HC
    go_quiet_grown (first | (go_at_call 29; exact Calls.grown_of (first_g _)))
    have hY : (grow (X.drewN nq) osq).heap[w.heap.size]? = some (.cells #[.int .i64 1, .int .i64 0] 25 (0, 0)) := by rw [(lays_grow X nq osq).1.block _ (lt_of_block HB.out)]; exact HB.out
    have hL2 := hL1.trans (lays_grow X nq osq)
    have HY := Lib.hid hY
    clear p1 p2 hY HB hL1
    go_wp2_with fail
    generalize grow (X.drewN nq) osq = Y at *
    obtain ⟨p1, p2⟩ := cut_grown HY.out
    go_quiet_grown (first | (go_at_call 32; exact Calls.grown_of (last_g _)))
    have hL3 := hL2.trans (lays_grow Y nq osq)
    go_wp2_with fail
    go_ret
    exact ⟨ret_str ktext_hi.symm, hL3.1⟩
  · rw [h1, h2] at HC
    clear h1 h2 hk
    go_enter Tryd.func53, Tryd.ntmps53
    go_wp2_with fail
    refine (HC.out _).mono ?_
    rintro e w1 ⟨rfl, hL⟩
    have hb : w1.heap[w.heap.size]? = some (.cells #[.int .i64 s, .int .i64 a] 25 (0, 0)) := by rw [hL.1.block _ (by simp)]; exact heap_alloc_new _ _
    have hL1 := ((((Lays.refl _).alloc _).trans hL).setCell (p := ⟨w.heap.size, 0, none⟩) (by simp) (.int .i64 0)).setCell (p := ⟨w.heap.size, 1, none⟩) (by simp) (.int .i64 k)
    have hb2 := two_put (p := .int .i64 0) (q := .int .i64 k) hb
    obtain ⟨q1, q2, q3, q4⟩ := two_cells hb
    have HB := Lib.hid hb2
    clear hb hb2
    go_wp2_with fail
    have hb2 := HB.out
    generalize (w1.setCell ⟨w.heap.size, 0, none⟩ (.int .i64 0)).setCell ⟨w.heap.size, 1, none⟩ (.int .i64 k) = X at *
    obtain ⟨p1, p2⟩ := cut_grown hb2
    clear q1 q2 q3 q4 hb2 HC
    go_quiet_grown (first | (go_at_call 29; exact Calls.grown_of (first_g _)))
    have hY : (grow (X.drewN nq) osq).heap[w.heap.size]? = some (.cells #[.int .i64 0, .int .i64 k] 25 (0, 0)) := by rw [(lays_grow X nq osq).1.block _ (lt_of_block HB.out)]; exact HB.out
    have hL2 := hL1.trans (lays_grow X nq osq)
    have HY := Lib.hid hY
    clear p1 p2 hY HB hL1
    go_wp2_with fail
    generalize grow (X.drewN nq) osq = Y at *
    obtain ⟨p1, p2⟩ := cut_grown HY.out
    go_quiet_grown (first | (go_at_call 32; exact Calls.grown_of (last_g _)))
    have hL3 := hL2.trans (lays_grow Y nq osq)
    have HI : Hid (I64 k) := ⟨by omega, by omega⟩
    have HK := Lib.hid (ktext_mid k (by omega) (by omega))
    go_wp2_with fail
    refine (text_any k _ HI.out).mono ?_
    rintro e w9 ⟨rfl, hB9⟩
    go_wp2_with fail
    go_ret
    exact ⟨ret_str HK.out.symm, bt hL3.1 hB9⟩

/-- strings.HasPrefix at a text of four bytes. -/
theorem hasp4 (s : ByteArray) (p : Array UInt8) (w : World) (hp : p.size = 4) (hs : s.size ≤ maxLen) :
    Calls Tryd.prog 74 #[.string s, .string ⟨p⟩] w fun e w' => e = .returned (.bool (decide (s.data.toList.take 4 = p.toList))) ∧ w = w' := by
  unfold maxLen at hs
  have hsz : (⟨p⟩ : ByteArray).size = 4 := hp
  by_cases hlt : 4 ≤ s.size
  · have t0 : decide ((4 : Int) ≤ (s.size : Int)) = true := decide_eq_true (by omega)
    have hD : ((s.extract 0 4).toList == (⟨p⟩ : ByteArray).toList) = decide (s.data.toList.take 4 = p.toList) := by
      rw [ByteArray.toList_eq, ByteArray.toList_eq]
      have : (s.extract 0 4).data.toList = s.data.toList.take 4 := by simp
      rw [this]
      by_cases h : s.data.toList.take 4 = p.toList
      · rw [decide_eq_true h, h]; exact beq_self_eq_true _
      · rw [decide_eq_false h]; exact beq_eq_false_iff_ne.2 h
    generalize decide (s.data.toList.take 4 = p.toList) = D at *
    go_enter Tryd.func74, Tryd.ntmps74
    go_wp2
    go_ret
    exact ⟨rfl, rfl⟩
  · have t0 : decide ((4 : Int) ≤ (s.size : Int)) = false := decide_eq_false (by omega)
    have hD : decide (s.data.toList.take 4 = p.toList) = false := by
      refine decide_eq_false fun h => ?_
      have := congrArg List.length h
      simp at this
      omega
    rw [hD]
    clear hD
    go_enter Tryd.func74, Tryd.ntmps74
    go_wp2
    go_ret
    exact ⟨rfl, rfl⟩

set_option maxRecDepth 100000 in
theorem cread_any (s : ByteArray) (w : World) (hs : s.size ≤ maxLen) :
    Calls Tryd.prog 61 #[.string s] w fun e w' => e = .returned (.tuple #[.agg #[.int .i64 (sd (rdCut s.data.toList).1), .int .i64 (pa (rdCut s.data.toList).1)], .int .i64 ((rdCut s.data.toList).2 : Int)]) ∧ Below w.heap.size w w' := by
  have HA := Lib.hid (fun W => hasp4 s #[45, 105, 110, 102] W rfl hs)
  have HP := Lib.hid (fun W => hasp4 s #[43, 105, 110, 102] W rfl hs)
  by_cases h1 : s.data.toList.take 4 = [45, 105, 110, 102]
  · have HE : Hid (rdCut s.data.toList = (-9223372036854775808, 4)) := by unfold rdCut; show _ = _; rw [if_pos h1]
    rw [HE.out, sd_lo, pa_lo]
    rw [show decide (s.data.toList.take 4 = (#[45, 105, 110, 102] : Array UInt8).toList) = true from decide_eq_true h1] at HA
    clear h1 HE HP hs
    go_enter Tryd.func61, Tryd.ntmps61
    go_wp2_with fail
    refine (HA.out _).mono ?_
    rintro e w' ⟨rfl, rfl⟩
    go_wp2_with fail
    refine (first_any _).mono ?_
    rintro e w1 ⟨rfl, hL⟩
    have hB := hL.1
    have hb : w1.heap[w.heap.size]? = some (.cells #[.int .i64 0, .int .i64 0] 25 (0, 0)) := by rw [hB.block _ (by simp)]; exact heap_alloc_new _ _
    have hL1 := ((bt ((Below.refl w.heap.size w).alloc (Nat.le_refl _) _) hB).setCell (p := ⟨w.heap.size, 0, none⟩) (by simp) (.int .i64 (-1))).setCell (p := ⟨w.heap.size, 1, none⟩) (by simp) (.int .i64 0)
    obtain ⟨p1, p2, _, _⟩ := two_cells (two_put (p := .int .i64 (-1)) (q := .int .i64 0) hb)
    obtain ⟨q1, q2, q3, q4⟩ := two_cells hb
    clear hb
    go_wp2_with fail
    refine bodyPost_ret (v := .tuple #[.agg #[.int .i64 (-1), .int .i64 0], .int .i64 4]) (by simp [results, Tryd.results61, go_sem, p1, p2]) rfl ?_
    exact ⟨rfl, hL1⟩
  · rw [show decide (s.data.toList.take 4 = (#[45, 105, 110, 102] : Array UInt8).toList) = false from decide_eq_false h1] at HA
    by_cases h2 : s.data.toList.take 4 = [43, 105, 110, 102]
    · have HE : Hid (rdCut s.data.toList = (9223372036854775808, 4)) := by unfold rdCut; show _ = _; rw [if_neg h1, if_pos h2]
      rw [HE.out, sd_hi, pa_hi]
      rw [show decide (s.data.toList.take 4 = (#[43, 105, 110, 102] : Array UInt8).toList) = true from decide_eq_true h2] at HP
      clear h1 h2 HE hs
      go_enter Tryd.func61, Tryd.ntmps61
      go_wp2_with fail
      refine (HA.out _).mono ?_
      rintro e w' ⟨rfl, rfl⟩
      go_wp2_with fail
      refine (HP.out _).mono ?_
      rintro e w' ⟨rfl, rfl⟩
      go_wp2_with fail
      refine (last_any _).mono ?_
      rintro e w1 ⟨rfl, hL⟩
      have hB := hL.1
      have hb : w1.heap[w.heap.size]? = some (.cells #[.int .i64 0, .int .i64 0] 25 (0, 0)) := by rw [hB.block _ (by simp)]; exact heap_alloc_new _ _
      have hL1 := ((bt ((Below.refl w.heap.size w).alloc (Nat.le_refl _) _) hB).setCell (p := ⟨w.heap.size, 0, none⟩) (by simp) (.int .i64 1)).setCell (p := ⟨w.heap.size, 1, none⟩) (by simp) (.int .i64 0)
      obtain ⟨p1, p2, _, _⟩ := two_cells (two_put (p := .int .i64 1) (q := .int .i64 0) hb)
      obtain ⟨q1, q2, q3, q4⟩ := two_cells hb
      clear hb
      go_wp2_with fail
      refine bodyPost_ret (v := .tuple #[.agg #[.int .i64 1, .int .i64 0], .int .i64 4]) (by simp [results, Tryd.results61, go_sem, p1, p2]) rfl ?_
      exact ⟨rfl, hL1⟩
    · rw [show decide (s.data.toList.take 4 = (#[43, 105, 110, 102] : Array UInt8).toList) = false from decide_eq_false h2] at HP
      have HR := Lib.hid (fun W => read_any s W hs)
      have hbd := rdAll_bounds s.data.toList
      by_cases h3 : (rdAll s.data.toList).1 = -9223372036854775808
      · have HE : Hid (rdCut s.data.toList = (-922337203685477580, 19)) := by unfold rdCut; show _ = _; rw [if_neg h1, if_neg h2, if_pos h3]
        obtain ⟨h4, h5, h6⟩ := rdAll_least _ h3
        have hsz : 20 ≤ s.size := by simpa using h5
        have HR2 := Lib.hid (fun W => read_any (s.extract 0 19) W (by simp; omega))
        have hx : (s.extract 0 19).data.toList = s.data.toList.take 19 := by simp
        rw [hx, h6] at HR2
        rw [HE.out]
        rw [h3, h4] at HR
        have hmx := hs
        unfold maxLen at hmx
        clear h1 h2 HE hs h3 h4 h5 h6 hx hbd
        rw [sd_mid _ (by decide) (by decide), pa_mid _ (by decide) (by decide)]
        go_enter Tryd.func61, Tryd.ntmps61
        go_wp2_with fail
        refine (HA.out _).mono ?_
        rintro e w' ⟨rfl, rfl⟩
        go_wp2_with fail
        refine (HP.out _).mono ?_
        rintro e w' ⟨rfl, rfl⟩
        go_wp2_with fail
        refine (HR.out _).mono ?_
        rintro e w1 ⟨rfl, hB1⟩
        go_wp2_with fail
        refine (HR2.out _).mono ?_
        rintro e w2 ⟨rfl, hB2⟩
        have hB := bt hB1 hB2
        have hb : w2.heap[w.heap.size]? = some (.cells #[.int .i64 0, .int .i64 0] 25 (0, 0)) := by rw [hB.block _ (by simp)]; exact heap_alloc_new _ _
        have hL1 := ((bt ((Below.refl w.heap.size w).alloc (Nat.le_refl _) _) hB).setCell (p := ⟨w.heap.size, 0, none⟩) (by simp) (.int .i64 0)).setCell (p := ⟨w.heap.size, 1, none⟩) (by simp) (.int .i64 (-922337203685477580))
        obtain ⟨p1, p2, _, _⟩ := two_cells (two_put (p := .int .i64 0) (q := .int .i64 (-922337203685477580)) hb)
        obtain ⟨q1, q2, q3, q4⟩ := two_cells hb
        clear hb
        go_wp2_with fail
        refine bodyPost_ret (v := .tuple #[.agg #[.int .i64 0, .int .i64 (-922337203685477580)], .int .i64 19]) (by simp [results, Tryd.results61, go_sem, p1, p2]) rfl ?_
        exact ⟨rfl, hL1⟩
      · have HE : Hid (rdCut s.data.toList = rdAll s.data.toList) := by unfold rdCut; show _ = _; rw [if_neg h1, if_neg h2, if_neg h3]
        rw [HE.out]
        obtain ⟨hi, _⟩ := hbd
        have h7 : (rdAll s.data.toList).1 ≠ 9223372036854775808 := by unfold I64 at hi; omega
        rw [sd_mid _ h3 h7, pa_mid _ h3 h7]
        have t3 : ((rdAll s.data.toList).1 == -9223372036854775808) = false := beq_eq_false_iff_ne.2 h3
        generalize (rdAll s.data.toList).1 = N at *
        generalize (rdAll s.data.toList).2 = M at *
        clear h1 h2 HE hs h3 h7 hi
        go_enter Tryd.func61, Tryd.ntmps61
        go_wp2_with fail
        refine (HA.out _).mono ?_
        rintro e w' ⟨rfl, rfl⟩
        go_wp2_with fail
        refine (HP.out _).mono ?_
        rintro e w' ⟨rfl, rfl⟩
        go_wp2_with fail
        refine (HR.out _).mono ?_
        rintro e w1 ⟨rfl, hB⟩
        have hb : w1.heap[w.heap.size]? = some (.cells #[.int .i64 0, .int .i64 0] 25 (0, 0)) := by rw [hB.block _ (by simp)]; exact heap_alloc_new _ _
        have hL1 := ((bt ((Below.refl w.heap.size w).alloc (Nat.le_refl _) _) hB).setCell (p := ⟨w.heap.size, 0, none⟩) (by simp) (.int .i64 0)).setCell (p := ⟨w.heap.size, 1, none⟩) (by simp) (.int .i64 N)
        obtain ⟨p1, p2, _, _⟩ := two_cells (two_put (p := .int .i64 0) (q := .int .i64 N) hb)
        obtain ⟨q1, q2, q3, q4⟩ := two_cells hb
        clear hb
        go_wp2_with fail
        refine bodyPost_ret (v := .tuple #[.agg #[.int .i64 0, .int .i64 N], .int .i64 (M : Int)]) (by simp [results, Tryd.results61, go_sem, p1, p2]) rfl ?_
        exact ⟨rfl, hL1⟩
end Go.Proofs.YthojkbmffiibdaaDoor

/- Contract of cut.Compare. -/
namespace Go.Proofs.YthojkbmffiibdaaDoor
open Go.RowKit Go.Sort Go.Proofs.YthojkbmffiibdaaDoor.Bo
set_option linter.unusedVariables false

theorem ret_cmp {a b : Int} (h : a = b) : Ending.returned (.int .i64 a) = .returned (.int .i64 b) := by rw [h]
theorem cmpi_any (x y : Int) (w : World) : Calls Tryd.prog 90 #[.int .i64 x, .int .i64 y] w fun e w' => e = .returned (.int .i64 (kcmp x y)) ∧ w = w' := by
  rcases Int.lt_trichotomy x y with h | h | h
  · have t1 : decide (x < y) = true := decide_eq_true h
    rw [kcmp_lt x y h]
    go_enter Tryd.func90, Tryd.ntmps90
    go_wp2
    go_ret
    exact ⟨rfl, rfl⟩
  · subst h
    rw [kcmp_eq x x rfl]
    have t1 : decide (x < x) = false := decide_eq_false (by omega)
    go_enter Tryd.func90, Tryd.ntmps90
    go_wp2
    go_ret
    exact ⟨rfl, rfl⟩
  · have t1 : decide (x < y) = false := decide_eq_false (by omega)
    have t2 : decide (y < x) = true := decide_eq_true h
    rw [kcmp_gt x y h]
    go_enter Tryd.func90, Tryd.ntmps90
    go_wp2
    go_ret
    exact ⟨rfl, rfl⟩

/-- The two cells of two boxes that lie side by side. -/
def Two (b : Nat) (s a t c : Int) (w : World) : Prop :=
  w.heap[b]? = some (.cells #[.int .i64 s, .int .i64 a] 25 (0, 0)) ∧ w.heap[b + 1]? = some (.cells #[.int .i64 t, .int .i64 c] 25 (0, 0))
theorem Two.below {b : Nat} {s a t c : Int} {w w' : World} (h : Two b s a t c w) (hb : Below w.heap.size w w') : Two b s a t c w' :=
  ⟨(hb.block _ (lt_of_block h.1)).trans h.1, (hb.block _ (lt_of_block h.2)).trans h.2⟩
theorem Two.cells {b : Nat} {s a t c : Int} {w : World} (h : Two b s a t c w) : w.cell? ⟨b, 0, none⟩ = some (.int .i64 s) ∧ w.cell? ⟨b, 1, none⟩ = some (.int .i64 a) ∧ w.cell? ⟨b + 1, 0, none⟩ = some (.int .i64 t) ∧ w.cell? ⟨b + 1, 1, none⟩ = some (.int .i64 c) ∧
    w.frozen? ⟨b, 0, none⟩ = false ∧ w.frozen? ⟨b, 1, none⟩ = false ∧ w.frozen? ⟨b + 1, 0, none⟩ = false ∧ w.frozen? ⟨b + 1, 1, none⟩ = false :=
  ⟨(two_cells h.1).1, (two_cells h.1).2.1, (two_cells h.2).1, (two_cells h.2).2.1, (two_cells h.1).2.2.1, (two_cells h.1).2.2.2, (two_cells h.2).2.2.1, (two_cells h.2).2.2.2⟩
theorem Two.put {b : Nat} {s a t c : Int} {w : World} (h : Two b s a t c w) (s' a' t' c' : Int) :
    Two b s' a' t' c' ((((w.setCell ⟨b, 0, none⟩ (.int .i64 s')).setCell ⟨b, 1, none⟩ (.int .i64 a')).setCell ⟨b + 1, 0, none⟩ (.int .i64 t')).setCell ⟨b + 1, 1, none⟩ (.int .i64 c')) := by
  refine ⟨?_, ?_⟩
  · rw [heap_setCell_other _ _ _ _ (by simp), heap_setCell_other _ _ _ _ (by simp)]; exact two_put h.1
  · refine two_put (x := .int .i64 t) (y := .int .i64 c) ?_
    rw [heap_setCell_other _ _ _ _ (by simp), heap_setCell_other _ _ _ _ (by simp)]; exact h.2

set_option maxRecDepth 100000 in
set_option maxHeartbeats 1000000 in
theorem compare_any (s a t b : Int) (w : World) (ha : I64 a) (hb : I64 b) :
    Calls Tryd.prog 78 #[.agg #[.int .i64 s, .int .i64 a], .agg #[.int .i64 t, .int .i64 b]] w fun e w' => e = .returned (.int .i64 (kcmp (key s a) (key t b))) ∧ Lays w w' := by
  have mx := mixed
  have HC := Lib.hid (fun W => canon_any s a W ha)
  have HD := Lib.hid (fun W => canon_any t b W hb)
  have hk := key_ky s a ha
  have hl := key_ky t b hb
  generalize key s a = k at *
  generalize key t b = l at *
  have HE : Hid (∃ x y u v, x = sd k ∧ y = pa k ∧ u = sd l ∧ v = pa l) := ⟨_, _, _, _, rfl, rfl, rfl, rfl⟩
  obtain ⟨x, y, u, v, e1, e2, e3, e4⟩ := HE.out
  rw [← e1, ← e2] at HC
  rw [← e3, ← e4] at HD
  have E := Lib.hid (And.intro e1 (And.intro e2 (And.intro e3 e4)))
  clear e1 e2 e3 e4 HE
  have eqc := eql_cut
  go_enter Tryd.func78, Tryd.ntmps78
  go_upto_region 1 with fail
  have hT0 : Two w.heap.size s a t b ((w.alloc (.cells #[.int .i64 s, .int .i64 a] 25)).alloc (.cells #[.int .i64 t, .int .i64 b] 25)) := ⟨heap_alloc2_old _ _ _, heap_alloc2_new _ _ _⟩
  have hL0 := ((Lays.refl w).alloc (.cells #[.int .i64 s, .int .i64 a] 25)).alloc (.cells #[.int .i64 t, .int .i64 b] 25)
  generalize (w.alloc (.cells #[.int .i64 s, .int .i64 a] 25)).alloc (.cells #[.int .i64 t, .int .i64 b] 25) = X at *
  have HT := Lib.hid hT0
  go_cut [] from 5 to 35 (fun wx => Two w.heap.size x y u v wx ∧ Lays w wx)
  case first =>
    obtain ⟨p1, p2, p3, p4, p5, p6, p7, p8⟩ := hT0.cells
    clear hT0
    go_region_with (first
      | (go_at_call 37; (with_reducible refine (HC.out _).mono ?_); rintro e x4 ⟨rfl, hL4'⟩; have hL4 := (Lays.refl X).drew.trans hL4'; have hT4 := Lib.hid (HT.out.below hL4.1); obtain ⟨c1, c2, c3, c4, c5, c6, c7, c8⟩ := hT4.out.cells; clear hL4')
      | (go_at_call 37; (with_reducible refine (HD.out _).mono ?_); rintro e x5 ⟨rfl, hL5⟩; have hT5 := Lib.hid (hT4.out.below hL5.1); obtain ⟨d1, d2, d3, d4, d5, d6, d7, d8⟩ := hT5.out.cells))
    all_goals (go_wp2_with fail; go_meet; exact ⟨hT5.out.put x y u v, ((((hL0.trans hL4).trans hL5).setCell (by simp) _).setCell (by simp) _).setCell (by simp) _ |>.setCell (by simp) _⟩)
  case rest =>
  obtain ⟨hT, hL⟩ := hcut
  obtain ⟨e1, e2, e3, e4⟩ := E.out
  clear HC HD HT hL0 hT0 ha hb
  generalize wc = Y at *
  rcases ky_cases k hk with ⟨hk1, g1, g2⟩ | ⟨hk1, g1, g2⟩ | ⟨hk1, hk2, g1, g2⟩
  · rw [g1] at e1
    rw [g2] at e2
    subst e1 e2
    clear g1 g2 hk
    rcases ky_cases l hl with ⟨hl1, g1, g2⟩ | ⟨hl1, g1, g2⟩ | ⟨hl1, hl2, g1, g2⟩
    · rw [g1] at e3
      rw [g2] at e4
      subst e3 e4
      clear g1 g2 hl E
      obtain ⟨c1, c2, c3, c4, c5, c6, c7, c8⟩ := hT.cells
      go_wp2_with fail
      go_ret
      exact ⟨ret_cmp (kcmp_eq _ _ (by omega)).symm, hL⟩
    · rw [g1] at e3
      rw [g2] at e4
      subst e3 e4
      clear g1 g2 hl E
      obtain ⟨c1, c2, c3, c4, c5, c6, c7, c8⟩ := hT.cells
      go_wp2_with fail
      clear c1 c2 c3 c4 c5 c6 c7 c8
      obtain ⟨p1, p2⟩ := cut_grown hT.1
      obtain ⟨p3, p4⟩ := cut_grown hT.2
      go_quiet_grown (first | (go_at_call 29; exact Calls.grown_of (first_g _)) | (go_at_call 32; exact Calls.grown_of (last_g _)))
      have hL1 := hL.trans (lays_grow Y nq osq)
      go_wp2_with fail
      go_ret
      exact ⟨ret_cmp (kcmp_lt _ _ (by omega)).symm, hL1⟩
    · rw [g1] at e3
      rw [g2] at e4
      subst e3 e4
      clear g1 g2 hl E
      obtain ⟨c1, c2, c3, c4, c5, c6, c7, c8⟩ := hT.cells
      go_wp2_with fail
      clear c1 c2 c3 c4 c5 c6 c7 c8
      obtain ⟨p1, p2⟩ := cut_grown hT.1
      obtain ⟨p3, p4⟩ := cut_grown hT.2
      go_quiet_grown (first | (go_at_call 29; exact Calls.grown_of (first_g _)) | (go_at_call 32; exact Calls.grown_of (last_g _)))
      have hL1 := hL.trans (lays_grow Y nq osq)
      go_wp2_with fail
      go_ret
      exact ⟨ret_cmp (kcmp_lt _ _ (by omega)).symm, hL1⟩
  · rw [g1] at e1
    rw [g2] at e2
    subst e1 e2
    clear g1 g2 hk
    rcases ky_cases l hl with ⟨hl1, g1, g2⟩ | ⟨hl1, g1, g2⟩ | ⟨hl1, hl2, g1, g2⟩
    · rw [g1] at e3
      rw [g2] at e4
      subst e3 e4
      clear g1 g2 hl E
      obtain ⟨c1, c2, c3, c4, c5, c6, c7, c8⟩ := hT.cells
      go_wp2_with fail
      clear c1 c2 c3 c4 c5 c6 c7 c8
      obtain ⟨p1, p2⟩ := cut_grown hT.1
      obtain ⟨p3, p4⟩ := cut_grown hT.2
      go_quiet_grown (first | (go_at_call 29; exact Calls.grown_of (first_g _)) | (go_at_call 32; exact Calls.grown_of (last_g _)))
      have hT1 := hT.below (lays_grow Y nq osq).1
      have hL1 := hL.trans (lays_grow Y nq osq)
      clear p1 p2 p3 p4 hT hL
      go_wp2_with fail
      generalize grow (Y.drewN nq) osq = Z at *
      have hT := hT1
      have hL := hL1
      clear hT1 hL1
      obtain ⟨p1, p2⟩ := cut_grown hT.1
      obtain ⟨p3, p4⟩ := cut_grown hT.2
      go_quiet_grown (first | (go_at_call 29; exact Calls.grown_of (first_g _)) | (go_at_call 32; exact Calls.grown_of (last_g _)))
      have hL1 := hL.trans (lays_grow Z nq osq)
      go_wp2_with fail
      go_ret
      exact ⟨ret_cmp (kcmp_gt _ _ (by omega)).symm, hL1⟩
    · rw [g1] at e3
      rw [g2] at e4
      subst e3 e4
      clear g1 g2 hl E
      obtain ⟨c1, c2, c3, c4, c5, c6, c7, c8⟩ := hT.cells
      go_wp2_with fail
      go_ret
      exact ⟨ret_cmp (kcmp_eq _ _ (by omega)).symm, hL⟩
    · rw [g1] at e3
      rw [g2] at e4
      subst e3 e4
      clear g1 g2 hl E
      obtain ⟨c1, c2, c3, c4, c5, c6, c7, c8⟩ := hT.cells
      go_wp2_with fail
      clear c1 c2 c3 c4 c5 c6 c7 c8
      obtain ⟨p1, p2⟩ := cut_grown hT.1
      obtain ⟨p3, p4⟩ := cut_grown hT.2
      go_quiet_grown (first | (go_at_call 29; exact Calls.grown_of (first_g _)) | (go_at_call 32; exact Calls.grown_of (last_g _)))
      have hT1 := hT.below (lays_grow Y nq osq).1
      have hL1 := hL.trans (lays_grow Y nq osq)
      clear p1 p2 p3 p4 hT hL
      go_wp2_with fail
      generalize grow (Y.drewN nq) osq = Z at *
      have hT := hT1
      have hL := hL1
      clear hT1 hL1
      obtain ⟨p1, p2⟩ := cut_grown hT.1
      obtain ⟨p3, p4⟩ := cut_grown hT.2
      go_quiet_grown (first | (go_at_call 29; exact Calls.grown_of (first_g _)) | (go_at_call 32; exact Calls.grown_of (last_g _)))
      have hL1 := hL.trans (lays_grow Z nq osq)
      go_wp2_with fail
      go_ret
      exact ⟨ret_cmp (kcmp_gt _ _ (by omega)).symm, hL1⟩
  · rw [g1] at e1
    rw [g2] at e2
    subst e1 e2
    clear g1 g2 hk
    rcases ky_cases l hl with ⟨hl1, g1, g2⟩ | ⟨hl1, g1, g2⟩ | ⟨hl1, hl2, g1, g2⟩
    · rw [g1] at e3
      rw [g2] at e4
      subst e3 e4
      clear g1 g2 hl E
      obtain ⟨c1, c2, c3, c4, c5, c6, c7, c8⟩ := hT.cells
      go_wp2_with fail
      clear c1 c2 c3 c4 c5 c6 c7 c8
      obtain ⟨p1, p2⟩ := cut_grown hT.1
      obtain ⟨p3, p4⟩ := cut_grown hT.2
      go_quiet_grown (first | (go_at_call 29; exact Calls.grown_of (first_g _)) | (go_at_call 32; exact Calls.grown_of (last_g _)))
      have hT1 := hT.below (lays_grow Y nq osq).1
      have hL1 := hL.trans (lays_grow Y nq osq)
      clear p1 p2 p3 p4 hT hL
      go_wp2_with fail
      generalize grow (Y.drewN nq) osq = Z at *
      have hT := hT1
      have hL := hL1
      clear hT1 hL1
      obtain ⟨p1, p2⟩ := cut_grown hT.1
      obtain ⟨p3, p4⟩ := cut_grown hT.2
      go_quiet_grown (first | (go_at_call 29; exact Calls.grown_of (first_g _)) | (go_at_call 32; exact Calls.grown_of (last_g _)))
      have hL1 := hL.trans (lays_grow Z nq osq)
      go_wp2_with fail
      go_ret
      exact ⟨ret_cmp (kcmp_gt _ _ (by omega)).symm, hL1⟩
    · rw [g1] at e3
      rw [g2] at e4
      subst e3 e4
      clear g1 g2 hl E
      obtain ⟨c1, c2, c3, c4, c5, c6, c7, c8⟩ := hT.cells
      go_wp2_with fail
      clear c1 c2 c3 c4 c5 c6 c7 c8
      obtain ⟨p1, p2⟩ := cut_grown hT.1
      obtain ⟨p3, p4⟩ := cut_grown hT.2
      go_quiet_grown (first | (go_at_call 29; exact Calls.grown_of (first_g _)) | (go_at_call 32; exact Calls.grown_of (last_g _)))
      have hL1 := hL.trans (lays_grow Y nq osq)
      go_wp2_with fail
      go_ret
      exact ⟨ret_cmp (kcmp_lt _ _ (by omega)).symm, hL1⟩
    · rw [g1] at e3
      rw [g2] at e4
      subst e3 e4
      clear g1 g2 hl E
      by_cases hq : y = v
      · subst hq
        have tq : (y == y) = true := beq_self_eq_true _
        obtain ⟨c1, c2, c3, c4, c5, c6, c7, c8⟩ := hT.cells
        go_wp2_with fail
        go_ret
        exact ⟨ret_cmp (kcmp_eq _ _ (by omega)).symm, hL⟩
      · have tq : (y == v) = false := beq_eq_false_iff_ne.2 hq
        clear hq
        obtain ⟨c1, c2, c3, c4, c5, c6, c7, c8⟩ := hT.cells
        go_wp2_with fail
        clear c1 c2 c3 c4 c5 c6 c7 c8
        obtain ⟨p1, p2⟩ := cut_grown hT.1
        obtain ⟨p3, p4⟩ := cut_grown hT.2
        go_quiet_grown (first | (go_at_call 29; exact Calls.grown_of (first_g _)) | (go_at_call 32; exact Calls.grown_of (last_g _)))
        have hT1 := hT.below (lays_grow Y nq osq).1
        have hL1 := hL.trans (lays_grow Y nq osq)
        clear p1 p2 p3 p4 hT hL
        go_wp2_with fail
        generalize grow (Y.drewN nq) osq = Z at *
        have hT := hT1
        have hL := hL1
        clear hT1 hL1
        obtain ⟨p1, p2⟩ := cut_grown hT.1
        obtain ⟨p3, p4⟩ := cut_grown hT.2
        go_quiet_grown (first | (go_at_call 29; exact Calls.grown_of (first_g _)) | (go_at_call 32; exact Calls.grown_of (last_g _)))
        have hL1 := hL.trans (lays_grow Z nq osq)
        go_wp2_with fail
        refine (cmpi_any _ _ _).mono ?_
        rintro e w9 ⟨rfl, rfl⟩
        go_wp2_with fail
        go_ret
        exact ⟨rfl, hL1⟩
end Go.Proofs.YthojkbmffiibdaaDoor
