/- A part of the proof: contracts of the functions that the statements reach. -/
import Derived.Test.YtakkmnhiaddnnaaRows
import Derived.Test.YtakkmnhiaddnnaaCA
import Derived.Test.YtakkmnhiaddnnaaCB
import Derived.Test.YtakkmnhiaddnnaaCC
import Derived.Maps.AppendAt

/- Contracts of Of and Minus. -/
namespace Go.Proofs.Ytakkmnhiaddnnaa
open Go.RowKit Go.Proofs.Ytakkmnhiaddnnaa.Bo
set_option linter.unusedVariables false

def iv (d : Nat) : Value := .int .i64 (d : Int)
theorem iv_one (l : List Nat) : ∀ u ∈ l.map iv, u.oneCell' = true := by
  intro u hu
  obtain ⟨d, _, rfl⟩ := List.mem_map.1 hu
  rfl
theorem Try.infoInt : (Try.prog.info? 3).map (fun i => (i.zero, i.size, i.bytes)) = some (some (.int .i64 0), 1, 8) := by kernel_rfl
theorem dg_of_own {w : World} {base : Nat} {v : Value} {xs : List Nat} (h : w.ownsRow base 3 1 v xs.length (xs.map iv)) : Dg w v xs := by
  rcases h.2 with ⟨rfl, h0⟩ | ⟨g, cap, cur, rfl, hb, hh, hnc, hcm, hcs, htake⟩
  · exact ⟨none, 0, by rw [h0], by omega, fun hp => absurd h0 (by omega)⟩
  · refine ⟨_, cap, rfl, hnc, fun _ => ⟨g, cur, rfl, hh, fun j hj => ?_⟩⟩
    have h1 : (cur.toList.take (xs.length * 1))[j]? = some (iv xs[j]) := by rw [htake]; simp [hj]
    rw [List.getElem?_take, if_pos (by omega)] at h1
    simpa [iv] using h1

theorem own_form {wr : World} {v : Value} {n b : Nat} {xs : List Value} (h : wr.ownsRow b 3 1 v n xs) (hn : 0 < n) : ∃ g cap, v = .slice (some ⟨g, 0, none⟩) n cap := by
  rcases h.2 with ⟨_, h0⟩ | ⟨g, cap, cur, h1, _⟩
  · omega
  · exact ⟨g, cap, h1⟩
theorem own_ne {wr : World} {v : Value} {n b : Nat} {xs : List Value} (h : wr.ownsRow (b + 1) 3 1 v n xs) {j : Nat} (hj : j ≤ b) : some j ≠ v.ownBlock := by
  intro e
  have := (h.lt j e.symm).1
  omega
theorem two_set {W : World} {b : Nat} {x y p q : Value} {t : TypeId} (h : W.heap[b]? = some (.cells #[x, y] t (0, 0))) :
    ((W.setCell ⟨b, 0, none⟩ p).setCell ⟨b, 1, none⟩ q).heap[b]? = some (.cells #[p, q] t (0, 0)) := by
  have h1 := heap_setCell_same W b 0 _ _ p h
  have h2 := heap_setCell_same _ b 1 _ _ q h1
  rw [h2]; rfl

def sgn (n : Int) : Int := if n < 0 then -1 else if n = 0 then 0 else 1
def OfPost (n : Int) (w : World) (e : Ending) (w' : World) : Prop := ∃ v, e = .returned (.agg #[.int .i64 (sgn n), v]) ∧ Dg w' v (low n.natAbs) ∧ Below w.heap.size w w'

theorem low_nil (m : Nat) : (low m).length = 0 ↔ m = 0 := by
  constructor
  · intro h
    by_cases h0 : m = 0
    · exact h0
    · rw [low_pos m h0] at h; simp at h
  · rintro rfl; rw [low_zero]; rfl

theorem neg_tmod10 (k : Nat) : (-(k : Int)).tmod 10 = -((k % 10 : Nat) : Int) := by rw [Int.neg_tmod]; rfl
theorem neg_tdiv10 (k : Nat) : (-(k : Int)).tdiv 10 = -((k / 10 : Nat) : Int) := by rw [Int.neg_tdiv]; rfl

def BigPost (z : Int) (L : Nat) (w : World) (e : Ending) (w' : World) : Prop := ∃ V, e = .returned V ∧ BigAt w' V z L ∧ Below w.heap.size w w'
theorem sgn_val (n : Int) : sgn n * (val (low n.natAbs) : Int) = n := by
  rw [val_low]; unfold sgn
  split
  · omega
  · split <;> omega
end Go.Proofs.Ytakkmnhiaddnnaa

/- Adding and taking away, digit by digit. No Go in sight. -/
namespace Go.Proofs.Ytakkmnhiaddnnaa.Bo

/-- What was added up so far: the digits os, and c over. -/
def AddInv (xs ys os : List Nat) (k c : Nat) : Prop := os.length = k ∧ Ok os ∧ c ≤ 1 ∧ val os + 10 ^ k * (c + val (xs.drop k) + val (ys.drop k)) = val xs + val ys
theorem addInv_start (xs ys : List Nat) : AddInv xs ys [] 0 0 := ⟨rfl, Ok.nil, by omega, by simp [val]⟩
theorem addInv_step (xs ys os : List Nat) (k c : Nat) (ox : Ok xs) (oy : Ok ys) (h : AddInv xs ys os k c) :
    AddInv xs ys (os ++ [(xs.getD k 0 + ys.getD k 0 + c) % 10]) (k + 1) ((xs.getD k 0 + ys.getD k 0 + c) / 10) := by
  obtain ⟨hl, ho, hc, hv⟩ := h
  have hx := ox.getD k
  have hy := oy.getD k
  refine ⟨by simp [hl], ho.snoc (by omega), by omega, ?_⟩
  rw [val_snoc, hl, Nat.pow_succ]
  rw [val_drop xs k, val_drop ys k] at hv
  generalize xs.getD k 0 = X at *
  generalize ys.getD k 0 = Y at *
  generalize val (xs.drop (k + 1)) = A at *
  generalize val (ys.drop (k + 1)) = B at *
  rw [← hv]
  have e1 : c + (X + 10 * A) + (Y + 10 * B) = (X + Y + c) % 10 + 10 * ((X + Y + c) / 10 + A + B) := by omega
  rw [e1]
  generalize (X + Y + c) % 10 = d
  generalize (X + Y + c) / 10 + A + B = Q
  rw [Nat.mul_add, Nat.mul_assoc, Nat.add_assoc]
theorem addInv_end (xs ys os : List Nat) (c : Nat) (ox : Ok xs) (oy : Ok ys) (h : AddInv xs ys os (xs.length + ys.length + 1) c) : val os = val xs + val ys := by
  obtain ⟨hl, ho, hc, hv⟩ := h
  rw [List.drop_of_length_le (by omega), List.drop_of_length_le (by omega)] at hv
  have hx := val_lt xs ox
  have hy := val_lt ys oy
  have h1 : 10 ^ xs.length ≤ 10 ^ (xs.length + ys.length) := Nat.pow_le_pow_right (by omega) (by omega)
  have h2 : 10 ^ ys.length ≤ 10 ^ (xs.length + ys.length) := Nat.pow_le_pow_right (by omega) (by omega)
  have h3 : 10 ^ (xs.length + ys.length + 1) = 10 ^ (xs.length + ys.length) * 10 := Nat.pow_succ ..
  have h4 : c = 0 := by
    rcases Nat.eq_zero_or_pos c with h0 | h0
    · exact h0
    · obtain rfl : c = 1 := by omega
      simp [val] at hv
      omega
  subst h4
  simpa [val] using hv

/-- What was taken away so far: the digits os, and b borrowed. -/
def SubInv (xs ys os : List Nat) (k b : Nat) : Prop := os.length = k ∧ Ok os ∧ b ≤ 1 ∧ val os + val ys + 10 ^ k * val (xs.drop k) = val xs + 10 ^ k * (b + val (ys.drop k))
theorem subInv_start (xs ys : List Nat) : SubInv xs ys [] 0 0 := ⟨rfl, Ok.nil, by omega, by simp [val]; omega⟩
theorem subInv_step (xs ys os : List Nat) (k b d b' : Nat) (hd : d < 10) (hb : b' ≤ 1) (h : SubInv xs ys os k b) (he : xs.getD k 0 + 10 * b' = d + ys.getD k 0 + b) :
    SubInv xs ys (os ++ [d]) (k + 1) b' := by
  obtain ⟨hl, ho, hc, hv⟩ := h
  refine ⟨by simp [hl], ho.snoc hd, hb, ?_⟩
  rw [val_snoc, hl, Nat.pow_succ]
  rw [val_drop xs k, val_drop ys k] at hv
  generalize xs.getD k 0 = X at *
  generalize ys.getD k 0 = Y at *
  generalize val (xs.drop (k + 1)) = A at *
  generalize val (ys.drop (k + 1)) = B at *
  generalize 10 ^ k = P at *
  have e1 : P * (X + 10 * A) = P * X + P * 10 * A := by rw [Nat.mul_add, Nat.mul_assoc]
  have e2 : P * (b + (Y + 10 * B)) = P * b + P * Y + P * 10 * B := by rw [Nat.mul_add, Nat.mul_add, Nat.mul_assoc, Nat.add_assoc]
  have e3 : P * 10 * (b' + B) = P * (10 * b') + P * 10 * B := by rw [Nat.mul_add, Nat.mul_assoc]
  have e4 : P * X + P * (10 * b') = P * d + P * Y + P * b := by rw [← Nat.mul_add, he, Nat.mul_add, Nat.mul_add]
  rw [e1, e2] at hv
  rw [e3]
  omega
theorem subInv_end (xs ys os : List Nat) (b : Nat) (hle : val ys ≤ val xs) (h : SubInv xs ys os xs.length b) : val os = val xs - val ys := by
  obtain ⟨hl, ho, hc, hv⟩ := h
  rw [List.drop_of_length_le (Nat.le_refl _)] at hv
  have hlt := val_lt os ho
  rw [hl] at hlt
  have h4 : b + val (ys.drop xs.length) = 0 := by
    rcases Nat.eq_zero_or_pos (b + val (ys.drop xs.length)) with h0 | h0
    · exact h0
    · have := Nat.mul_le_mul_left (10 ^ xs.length) h0
      simp [val] at hv this
      omega
  rw [h4] at hv
  simp [val] at hv
  omega
end Go.Proofs.Ytakkmnhiaddnnaa.Bo

/- Contract of Plus. -/
namespace Go.Proofs.Ytakkmnhiaddnnaa
open Go.RowKit Go.Proofs.Ytakkmnhiaddnnaa.Bo
set_option linter.unusedVariables false

theorem Dg.drewN {w : World} {v : Value} {xs : List Nat} (h : Dg w v xs) (n : Nat) : Dg (w.drewN n) v xs := h.below (below_drewN (Below.refl _ _) n)

theorem al4 (w : World) (A B C D : Obj) :
    ((((w.alloc A).alloc B).alloc C).alloc D).heap[w.heap.size]? = some A ∧ ((((w.alloc A).alloc B).alloc C).alloc D).heap[w.heap.size + 1]? = some B ∧
    ((((w.alloc A).alloc B).alloc C).alloc D).heap[w.heap.size + 2]? = some C ∧ ((((w.alloc A).alloc B).alloc C).alloc D).heap[w.heap.size + 3]? = some D := by
  have e1 := heap_alloc2_old w A B
  have e2 := heap_alloc2_new w A B
  have e3 : (((w.alloc A).alloc B).alloc C).heap[w.heap.size + 2]? = some C := by have := heap_alloc_new ((w.alloc A).alloc B) C; simpa using this
  have e4 : ((((w.alloc A).alloc B).alloc C).alloc D).heap[w.heap.size + 3]? = some D := by have := heap_alloc_new (((w.alloc A).alloc B).alloc C) D; simpa using this
  refine ⟨?_, ?_, ?_, e4⟩
  · rw [heap_alloc_old _ _ (by simp; omega), heap_alloc_old _ _ (by simp; omega)]; exact e1
  · rw [heap_alloc_old _ _ (by simp), heap_alloc_old _ _ (by simp)]; exact e2
  · rw [heap_alloc_old _ _ (by simp)]; exact e3

def SamePost (s : Int) (xs ys : List Nat) (w : World) (e : Ending) (w' : World) : Prop :=
  ∃ v zs, e = .returned (.agg #[.int .i64 s, v]) ∧ Dg w' v zs ∧ Ok zs ∧ zs.length ≤ xs.length + ys.length + 1 ∧ val zs = val xs + val ys ∧ Below w.heap.size w w'

end Go.Proofs.Ytakkmnhiaddnnaa

/- Contract of Plus, the signs unlike. -/
namespace Go.Proofs.Ytakkmnhiaddnnaa
open Go.RowKit Go.Proofs.Ytakkmnhiaddnnaa.Bo
set_option linter.unusedVariables false

theorem al6 (w : World) (A B C D E F : Obj) :
    ((((((w.alloc A).alloc B).alloc C).alloc D).alloc E).alloc F).heap[w.heap.size]? = some A ∧ ((((((w.alloc A).alloc B).alloc C).alloc D).alloc E).alloc F).heap[w.heap.size + 1]? = some B ∧
    ((((((w.alloc A).alloc B).alloc C).alloc D).alloc E).alloc F).heap[w.heap.size + 2]? = some C ∧ ((((((w.alloc A).alloc B).alloc C).alloc D).alloc E).alloc F).heap[w.heap.size + 3]? = some D ∧
    ((((((w.alloc A).alloc B).alloc C).alloc D).alloc E).alloc F).heap[w.heap.size + 4]? = some E ∧ ((((((w.alloc A).alloc B).alloc C).alloc D).alloc E).alloc F).heap[w.heap.size + 5]? = some F := by
  obtain ⟨h1, h2, h3, h4⟩ := al4 w A B C D
  have e5 : (((((w.alloc A).alloc B).alloc C).alloc D).alloc E).heap[w.heap.size + 4]? = some E := by have := heap_alloc_new ((((w.alloc A).alloc B).alloc C).alloc D) E; simpa using this
  have e6 : ((((((w.alloc A).alloc B).alloc C).alloc D).alloc E).alloc F).heap[w.heap.size + 5]? = some F := by have := heap_alloc_new (((((w.alloc A).alloc B).alloc C).alloc D).alloc E) F; simpa using this
  refine ⟨?_, ?_, ?_, ?_, ?_, e6⟩
  · rw [heap_alloc_old _ _ (by simp <;> omega), heap_alloc_old _ _ (by simp <;> omega)]; exact h1
  · rw [heap_alloc_old _ _ (by simp <;> omega), heap_alloc_old _ _ (by simp <;> omega)]; exact h2
  · rw [heap_alloc_old _ _ (by simp), heap_alloc_old _ _ (by simp)]; exact h3
  · rw [heap_alloc_old _ _ (by simp), heap_alloc_old _ _ (by simp)]; exact h4
  · rw [heap_alloc_old _ _ (by simp)]; exact e5
theorem below6 (w : World) (A B C D E F : Obj) : Below w.heap.size w ((((((w.alloc A).alloc B).alloc C).alloc D).alloc E).alloc F) :=
  ((((((Below.refl _ _).alloc (Nat.le_refl _) _).alloc (by simp) _).alloc (by simp <;> omega) _).alloc (by simp <;> omega) _).alloc (by simp <;> omega) _).alloc (by simp <;> omega) _

theorem diff_a (sa sb : Int) (x y o : Nat) (hs : (sa = 1 ∧ sb = -1) ∨ (sa = -1 ∧ sb = 1)) (hle : y ≤ x) (h : o = x - y) : sa * (x : Int) + sb * (y : Int) = sa * (o : Int) := by
  rcases hs with ⟨rfl, rfl⟩ | ⟨rfl, rfl⟩ <;> omega
theorem diff_b (sa sb : Int) (x y o : Nat) (hs : (sa = 1 ∧ sb = -1) ∨ (sa = -1 ∧ sb = 1)) (hle : x ≤ y) (h : o = y - x) : sa * (x : Int) + sb * (y : Int) = sb * (o : Int) := by
  rcases hs with ⟨rfl, rfl⟩ | ⟨rfl, rfl⟩ <;> omega

theorem slice_of_dg {w : World} {v : Value} {xs : List Nat} (h : Dg w v xs) : ∃ a n c, v = .slice a n c := by
  obtain ⟨a, c, h, _⟩ := h
  exact ⟨a, _, c, h⟩
end Go.Proofs.Ytakkmnhiaddnnaa

/- Contract of the reference's Shift. -/
namespace Go.Proofs.Ytakkmnhiaddnnaa
open Go.RowKit Go.Sort Go.Proofs.Ytakkmnhiaddnnaa.Bo
set_option linter.unusedVariables false

end Go.Proofs.Ytakkmnhiaddnnaa
