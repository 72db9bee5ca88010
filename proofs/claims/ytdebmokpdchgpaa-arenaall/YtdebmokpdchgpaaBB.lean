/- A part of the proof: contracts of the functions that the statements reach. -/
import Derived.Test.YtdebmokpdchgpaaRows
import Derived.Test.YtdebmokpdchgpaaBA
import Derived.Deep.RegionHeld3
import Derived.BigQuiet
import Derived.Deep.QuietTactic
import Derived.Maps.AppendAt
import Derived.Laws.IdiomCopy
import Derived.Deep.AppendLies
import Derived.Deep.LoopGhost

/- Contracts of cut, ends, Is. -/
namespace Go.Proofs.Ytdebmokpdchgpaa
open Go.RowKit Go.Proofs.Ytdebmokpdchgpaa.Bo
set_option linter.unusedVariables false

theorem Dg.cellAt {w : World} {a : Option Addr} {n cap : Nat} {xs : List Nat} (h : Dg w (.slice a n cap) xs) : n = xs.length ∧ n ≤ cap ∧ (0 < n → ∃ g, a = some ⟨g, 0, none⟩ ∧ g < w.heap.size ∧ ∀ (j : Nat) (h : j < xs.length), w.cell? ⟨g, j, none⟩ = some (.int .i64 ((xs[j] : Nat) : Int))) := by
  obtain ⟨a', cap', e, hc, hg⟩ := h
  injection e with e1 e2 e3
  subst e1 e2 e3
  refine ⟨rfl, hc, fun hp => ?_⟩
  obtain ⟨g, cur, ha, hgb, hcur⟩ := hg hp
  exact ⟨g, ha, lt_of_block hgb, fun j hj => (cell_of_row _ _ j _ _ _ hgb).trans (hcur j hj)⟩

def CutPost (a : Option Addr) (cap : Nat) (xs : List Nat) (w : World) (e : Ending) (w' : World) : Prop := ∃ n, e = .returned (.slice a n cap) ∧ n ≤ xs.length ∧ val (xs.take n) = val xs ∧ w = w'

theorem take_zero_last (xs : List Nat) (n : Nat) (h : n + 1 ≤ xs.length) (h0 : xs[n] = 0) : val (xs.take n) = val (xs.take (n + 1)) := by
  rw [val_take_succ xs n (by omega), h0]; simp

def slLen : Value → Nat | .slice _ n _ => n | _ => 0
theorem Dg.take {w : World} {a : Option Addr} {cap : Nat} {xs : List Nat} (h : Dg w (.slice a xs.length cap) xs) (n : Nat) (hn : n ≤ xs.length) : Dg w (.slice a n cap) (xs.take n) := by
  obtain ⟨a', cap', e, hc, hg⟩ := h
  injection e with e1 e2 e3
  subst e1 e3
  have hl : (xs.take n).length = n := by rw [List.length_take, Nat.min_eq_left hn]
  refine ⟨a, cap, by rw [hl], by omega, fun hp => ?_⟩
  obtain ⟨g, cur, ha, hgb, hcur⟩ := hg (by omega)
  exact ⟨g, cur, ha, hgb, fun j hj => by rw [List.getElem_take]; exact hcur j (by omega)⟩
theorem dg_new (w : World) (cs : Array Value) (xs : List Nat) (n : Nat) (hn : xs.length = n) (hcs : cs.toList = xs.map (fun (d : Nat) => Value.int .i64 (d : Int))) :
    Dg (w.alloc (.cells cs 3)) (.slice (some ⟨w.heap.size, 0, none⟩) n n) xs := by
  subst hn
  refine ⟨_, _, rfl, Nat.le_refl _, fun _ => ⟨w.heap.size, cs, rfl, heap_alloc_new _ _, fun j hj => ?_⟩⟩
  have h1 : cs.toList[j]? = some (.int .i64 ((xs[j] : Nat) : Int)) := by rw [hcs]; simp [hj]
  simpa using h1

def endsL (s : Int) : List Nat := (if s < 0 then 8 else 7) :: [0, 8, 5, 7, 7, 4, 5, 8, 6, 3, 0, 2, 7, 3, 3, 2, 2, 9]
theorem val_ends (s : Int) : val (endsL s) = lim s := by unfold endsL lim; split <;> decide +kernel
theorem ok_ends (s : Int) : Ok (endsL s) := by unfold endsL Ok; split <;> decide
theorem len_ends (s : Int) : (endsL s).length = 19 := by unfold endsL; rfl
def EndsPost (s : Int) (w : World) (e : Ending) (w' : World) : Prop := ∃ v, e = .returned v ∧ Dg w' v (endsL s) ∧ Below w.heap.size w w'

/-- A whole number as the reference keeps it: its sign, and its digits. -/
def BigAt (w : World) (V : Value) (z : Int) (L : Nat) : Prop :=
  ∃ (s : Int) (v : Value) (xs : List Nat), V = .agg #[.int .i64 s, v] ∧ (s = -1 ∨ s = 0 ∨ s = 1) ∧ Dg w v xs ∧ Ok xs ∧ xs.length ≤ L ∧ z = s * (val xs : Int) ∧ (s = 0 → val xs = 0)
theorem BigAt.below {w w' : World} {V : Value} {z : Int} {L : Nat} (h : BigAt w V z L) (hb : Below w.heap.size w w') : BigAt w' V z L := by
  obtain ⟨s, v, xs, hV, hs, hd, ok, hl, hz, h0⟩ := h
  exact ⟨s, v, xs, hV, hs, hd.below hb, ok, hl, hz, h0⟩

end Go.Proofs.Ytdebmokpdchgpaa

/- Contract of End. -/
namespace Go.Proofs.Ytdebmokpdchgpaa
open Go.RowKit Go.Proofs.Ytdebmokpdchgpaa.Bo
set_option linter.unusedVariables false

theorem ret_i64 {a b : Int} (h : a = b) : Ending.returned (.int .i64 a) = .returned (.int .i64 b) := by rw [h]

end Go.Proofs.Ytdebmokpdchgpaa

/- Contracts of Of and Minus. -/
namespace Go.Proofs.Ytdebmokpdchgpaa
open Go.RowKit Go.Proofs.Ytdebmokpdchgpaa.Bo
set_option linter.unusedVariables false

def iv (d : Nat) : Value := .int .i64 (d : Int)
theorem iv_one (l : List Nat) : ∀ u ∈ l.map iv, u.oneCell' = true := by
  intro u hu
  obtain ⟨d, _, rfl⟩ := List.mem_map.1 hu
  rfl
theorem Try.infoInt : (Try.prog.info? 3).map (fun i => (i.zero, i.size, i.bytes)) = some (some (.int .i64 0), 1, 8) := by kernel_rfl
theorem dg_of_own {w : World} {base : Nat} {v : Value} {xs : List Nat} (h : w.ownsRow base 3 1 v xs.length (xs.map iv)) : Dg w v xs := by
  rcases h.2 with ⟨rfl, h0⟩ | ⟨g, cap, cur, rfl, hb, hh, hnc, hcm, hcs, htake⟩
  · exact ⟨none, 0, by rw [h0], by omega, fun hp => absurd h0 (by omega)⟩
  · refine ⟨_, cap, rfl, hnc, fun _ => ⟨g, cur, rfl, hh, fun j hj => ?_⟩⟩
    have h1 : (cur.toList.take (xs.length * 1))[j]? = some (iv xs[j]) := by rw [htake]; simp [hj]
    rw [List.getElem?_take, if_pos (by omega)] at h1
    simpa [iv] using h1

theorem own_form {wr : World} {v : Value} {n b : Nat} {xs : List Value} (h : wr.ownsRow b 3 1 v n xs) (hn : 0 < n) : ∃ g cap, v = .slice (some ⟨g, 0, none⟩) n cap := by
  rcases h.2 with ⟨_, h0⟩ | ⟨g, cap, cur, h1, _⟩
  · omega
  · exact ⟨g, cap, h1⟩
theorem own_ne {wr : World} {v : Value} {n b : Nat} {xs : List Value} (h : wr.ownsRow (b + 1) 3 1 v n xs) {j : Nat} (hj : j ≤ b) : some j ≠ v.ownBlock := by
  intro e
  have := (h.lt j e.symm).1
  omega
theorem two_set {W : World} {b : Nat} {x y p q : Value} {t : TypeId} (h : W.heap[b]? = some (.cells #[x, y] t (0, 0))) :
    ((W.setCell ⟨b, 0, none⟩ p).setCell ⟨b, 1, none⟩ q).heap[b]? = some (.cells #[p, q] t (0, 0)) := by
  have h1 := heap_setCell_same W b 0 _ _ p h
  have h2 := heap_setCell_same _ b 1 _ _ q h1
  rw [h2]; rfl

def sgn (n : Int) : Int := if n < 0 then -1 else if n = 0 then 0 else 1
def OfPost (n : Int) (w : World) (e : Ending) (w' : World) : Prop := ∃ v, e = .returned (.agg #[.int .i64 (sgn n), v]) ∧ Dg w' v (low n.natAbs) ∧ Below w.heap.size w w'

theorem low_nil (m : Nat) : (low m).length = 0 ↔ m = 0 := by
  constructor
  · intro h
    by_cases h0 : m = 0
    · exact h0
    · rw [low_pos m h0] at h; simp at h
  · rintro rfl; rw [low_zero]; rfl

theorem neg_tmod10 (k : Nat) : (-(k : Int)).tmod 10 = -((k % 10 : Nat) : Int) := by rw [Int.neg_tmod]; rfl
theorem neg_tdiv10 (k : Nat) : (-(k : Int)).tdiv 10 = -((k / 10 : Nat) : Int) := by rw [Int.neg_tdiv]; rfl

def BigPost (z : Int) (L : Nat) (w : World) (e : Ending) (w' : World) : Prop := ∃ V, e = .returned V ∧ BigAt w' V z L ∧ Below w.heap.size w w'
theorem sgn_val (n : Int) : sgn n * (val (low n.natAbs) : Int) = n := by
  rw [val_low]; unfold sgn
  split
  · omega
  · split <;> omega
end Go.Proofs.Ytdebmokpdchgpaa

/- Adding and taking away, digit by digit. No Go in sight. -/
namespace Go.Proofs.Ytdebmokpdchgpaa.Bo

/-- What was added up so far: the digits os, and c over. -/
def AddInv (xs ys os : List Nat) (k c : Nat) : Prop := os.length = k ∧ Ok os ∧ c ≤ 1 ∧ val os + 10 ^ k * (c + val (xs.drop k) + val (ys.drop k)) = val xs + val ys
theorem addInv_start (xs ys : List Nat) : AddInv xs ys [] 0 0 := ⟨rfl, Ok.nil, by omega, by simp [val]⟩
theorem addInv_step (xs ys os : List Nat) (k c : Nat) (ox : Ok xs) (oy : Ok ys) (h : AddInv xs ys os k c) :
    AddInv xs ys (os ++ [(xs.getD k 0 + ys.getD k 0 + c) % 10]) (k + 1) ((xs.getD k 0 + ys.getD k 0 + c) / 10) := by
  obtain ⟨hl, ho, hc, hv⟩ := h
  have hx := ox.getD k
  have hy := oy.getD k
  refine ⟨by simp [hl], ho.snoc (by omega), by omega, ?_⟩
  rw [val_snoc, hl, Nat.pow_succ]
  rw [val_drop xs k, val_drop ys k] at hv
  generalize xs.getD k 0 = X at *
  generalize ys.getD k 0 = Y at *
  generalize val (xs.drop (k + 1)) = A at *
  generalize val (ys.drop (k + 1)) = B at *
  rw [← hv]
  have e1 : c + (X + 10 * A) + (Y + 10 * B) = (X + Y + c) % 10 + 10 * ((X + Y + c) / 10 + A + B) := by omega
  rw [e1]
  generalize (X + Y + c) % 10 = d
  generalize (X + Y + c) / 10 + A + B = Q
  rw [Nat.mul_add, Nat.mul_assoc, Nat.add_assoc]
theorem addInv_end (xs ys os : List Nat) (c : Nat) (ox : Ok xs) (oy : Ok ys) (h : AddInv xs ys os (xs.length + ys.length + 1) c) : val os = val xs + val ys := by
  obtain ⟨hl, ho, hc, hv⟩ := h
  rw [List.drop_of_length_le (by omega), List.drop_of_length_le (by omega)] at hv
  have hx := val_lt xs ox
  have hy := val_lt ys oy
  have h1 : 10 ^ xs.length ≤ 10 ^ (xs.length + ys.length) := Nat.pow_le_pow_right (by omega) (by omega)
  have h2 : 10 ^ ys.length ≤ 10 ^ (xs.length + ys.length) := Nat.pow_le_pow_right (by omega) (by omega)
  have h3 : 10 ^ (xs.length + ys.length + 1) = 10 ^ (xs.length + ys.length) * 10 := Nat.pow_succ ..
  have h4 : c = 0 := by
    rcases Nat.eq_zero_or_pos c with h0 | h0
    · exact h0
    · obtain rfl : c = 1 := by omega
      simp [val] at hv
      omega
  subst h4
  simpa [val] using hv

/-- What was taken away so far: the digits os, and b borrowed. -/
def SubInv (xs ys os : List Nat) (k b : Nat) : Prop := os.length = k ∧ Ok os ∧ b ≤ 1 ∧ val os + val ys + 10 ^ k * val (xs.drop k) = val xs + 10 ^ k * (b + val (ys.drop k))
theorem subInv_start (xs ys : List Nat) : SubInv xs ys [] 0 0 := ⟨rfl, Ok.nil, by omega, by simp [val]; omega⟩
theorem subInv_step (xs ys os : List Nat) (k b d b' : Nat) (hd : d < 10) (hb : b' ≤ 1) (h : SubInv xs ys os k b) (he : xs.getD k 0 + 10 * b' = d + ys.getD k 0 + b) :
    SubInv xs ys (os ++ [d]) (k + 1) b' := by
  obtain ⟨hl, ho, hc, hv⟩ := h
  refine ⟨by simp [hl], ho.snoc hd, hb, ?_⟩
  rw [val_snoc, hl, Nat.pow_succ]
  rw [val_drop xs k, val_drop ys k] at hv
  generalize xs.getD k 0 = X at *
  generalize ys.getD k 0 = Y at *
  generalize val (xs.drop (k + 1)) = A at *
  generalize val (ys.drop (k + 1)) = B at *
  generalize 10 ^ k = P at *
  have e1 : P * (X + 10 * A) = P * X + P * 10 * A := by rw [Nat.mul_add, Nat.mul_assoc]
  have e2 : P * (b + (Y + 10 * B)) = P * b + P * Y + P * 10 * B := by rw [Nat.mul_add, Nat.mul_add, Nat.mul_assoc, Nat.add_assoc]
  have e3 : P * 10 * (b' + B) = P * (10 * b') + P * 10 * B := by rw [Nat.mul_add, Nat.mul_assoc]
  have e4 : P * X + P * (10 * b') = P * d + P * Y + P * b := by rw [← Nat.mul_add, he, Nat.mul_add, Nat.mul_add]
  rw [e1, e2] at hv
  rw [e3]
  omega
theorem subInv_end (xs ys os : List Nat) (b : Nat) (hle : val ys ≤ val xs) (h : SubInv xs ys os xs.length b) : val os = val xs - val ys := by
  obtain ⟨hl, ho, hc, hv⟩ := h
  rw [List.drop_of_length_le (Nat.le_refl _)] at hv
  have hlt := val_lt os ho
  rw [hl] at hlt
  have h4 : b + val (ys.drop xs.length) = 0 := by
    rcases Nat.eq_zero_or_pos (b + val (ys.drop xs.length)) with h0 | h0
    · exact h0
    · have := Nat.mul_le_mul_left (10 ^ xs.length) h0
      simp [val] at hv this
      omega
  rw [h4] at hv
  simp [val] at hv
  omega
end Go.Proofs.Ytdebmokpdchgpaa.Bo

/- Contract of Plus. -/
namespace Go.Proofs.Ytdebmokpdchgpaa
open Go.RowKit Go.Proofs.Ytdebmokpdchgpaa.Bo
set_option linter.unusedVariables false

theorem Dg.drewN {w : World} {v : Value} {xs : List Nat} (h : Dg w v xs) (n : Nat) : Dg (w.drewN n) v xs := h.below (below_drewN (Below.refl _ _) n)

theorem al4 (w : World) (A B C D : Obj) :
    ((((w.alloc A).alloc B).alloc C).alloc D).heap[w.heap.size]? = some A ∧ ((((w.alloc A).alloc B).alloc C).alloc D).heap[w.heap.size + 1]? = some B ∧
    ((((w.alloc A).alloc B).alloc C).alloc D).heap[w.heap.size + 2]? = some C ∧ ((((w.alloc A).alloc B).alloc C).alloc D).heap[w.heap.size + 3]? = some D := by
  have e1 := heap_alloc2_old w A B
  have e2 := heap_alloc2_new w A B
  have e3 : (((w.alloc A).alloc B).alloc C).heap[w.heap.size + 2]? = some C := by have := heap_alloc_new ((w.alloc A).alloc B) C; simpa using this
  have e4 : ((((w.alloc A).alloc B).alloc C).alloc D).heap[w.heap.size + 3]? = some D := by have := heap_alloc_new (((w.alloc A).alloc B).alloc C) D; simpa using this
  refine ⟨?_, ?_, ?_, e4⟩
  · rw [heap_alloc_old _ _ (by simp; omega), heap_alloc_old _ _ (by simp; omega)]; exact e1
  · rw [heap_alloc_old _ _ (by simp), heap_alloc_old _ _ (by simp)]; exact e2
  · rw [heap_alloc_old _ _ (by simp)]; exact e3

def SamePost (s : Int) (xs ys : List Nat) (w : World) (e : Ending) (w' : World) : Prop :=
  ∃ v zs, e = .returned (.agg #[.int .i64 s, v]) ∧ Dg w' v zs ∧ Ok zs ∧ zs.length ≤ xs.length + ys.length + 1 ∧ val zs = val xs + val ys ∧ Below w.heap.size w w'

end Go.Proofs.Ytdebmokpdchgpaa

/- Contract of Plus, the signs unlike. -/
namespace Go.Proofs.Ytdebmokpdchgpaa
open Go.RowKit Go.Proofs.Ytdebmokpdchgpaa.Bo
set_option linter.unusedVariables false

theorem al6 (w : World) (A B C D E F : Obj) :
    ((((((w.alloc A).alloc B).alloc C).alloc D).alloc E).alloc F).heap[w.heap.size]? = some A ∧ ((((((w.alloc A).alloc B).alloc C).alloc D).alloc E).alloc F).heap[w.heap.size + 1]? = some B ∧
    ((((((w.alloc A).alloc B).alloc C).alloc D).alloc E).alloc F).heap[w.heap.size + 2]? = some C ∧ ((((((w.alloc A).alloc B).alloc C).alloc D).alloc E).alloc F).heap[w.heap.size + 3]? = some D ∧
    ((((((w.alloc A).alloc B).alloc C).alloc D).alloc E).alloc F).heap[w.heap.size + 4]? = some E ∧ ((((((w.alloc A).alloc B).alloc C).alloc D).alloc E).alloc F).heap[w.heap.size + 5]? = some F := by
  obtain ⟨h1, h2, h3, h4⟩ := al4 w A B C D
  have e5 : (((((w.alloc A).alloc B).alloc C).alloc D).alloc E).heap[w.heap.size + 4]? = some E := by have := heap_alloc_new ((((w.alloc A).alloc B).alloc C).alloc D) E; simpa using this
  have e6 : ((((((w.alloc A).alloc B).alloc C).alloc D).alloc E).alloc F).heap[w.heap.size + 5]? = some F := by have := heap_alloc_new (((((w.alloc A).alloc B).alloc C).alloc D).alloc E) F; simpa using this
  refine ⟨?_, ?_, ?_, ?_, ?_, e6⟩
  · rw [heap_alloc_old _ _ (by simp <;> omega), heap_alloc_old _ _ (by simp <;> omega)]; exact h1
  · rw [heap_alloc_old _ _ (by simp <;> omega), heap_alloc_old _ _ (by simp <;> omega)]; exact h2
  · rw [heap_alloc_old _ _ (by simp), heap_alloc_old _ _ (by simp)]; exact h3
  · rw [heap_alloc_old _ _ (by simp), heap_alloc_old _ _ (by simp)]; exact h4
  · rw [heap_alloc_old _ _ (by simp)]; exact e5
theorem below6 (w : World) (A B C D E F : Obj) : Below w.heap.size w ((((((w.alloc A).alloc B).alloc C).alloc D).alloc E).alloc F) :=
  ((((((Below.refl _ _).alloc (Nat.le_refl _) _).alloc (by simp) _).alloc (by simp <;> omega) _).alloc (by simp <;> omega) _).alloc (by simp <;> omega) _).alloc (by simp <;> omega) _

theorem diff_a (sa sb : Int) (x y o : Nat) (hs : (sa = 1 ∧ sb = -1) ∨ (sa = -1 ∧ sb = 1)) (hle : y ≤ x) (h : o = x - y) : sa * (x : Int) + sb * (y : Int) = sa * (o : Int) := by
  rcases hs with ⟨rfl, rfl⟩ | ⟨rfl, rfl⟩ <;> omega
theorem diff_b (sa sb : Int) (x y o : Nat) (hs : (sa = 1 ∧ sb = -1) ∨ (sa = -1 ∧ sb = 1)) (hle : x ≤ y) (h : o = y - x) : sa * (x : Int) + sb * (y : Int) = sb * (o : Int) := by
  rcases hs with ⟨rfl, rfl⟩ | ⟨rfl, rfl⟩ <;> omega

theorem slice_of_dg {w : World} {v : Value} {xs : List Nat} (h : Dg w v xs) : ∃ a n c, v = .slice a n c := by
  obtain ⟨a, c, h, _⟩ := h
  exact ⟨a, _, c, h⟩
end Go.Proofs.Ytdebmokpdchgpaa

/- Contract of the reference's Shift. -/
namespace Go.Proofs.Ytdebmokpdchgpaa
open Go.RowKit Go.Sort Go.Proofs.Ytdebmokpdchgpaa.Bo
set_option linter.unusedVariables false

end Go.Proofs.Ytdebmokpdchgpaa

/- The walk of the law CutBetween. -/
namespace Go.Proofs.Ytdebmokpdchgpaa
open Go.RowKit Go.Sort Go.Proofs.Ytdebmokpdchgpaa.Bo
set_option linter.unusedVariables false

theorem ky_of_i64 (n : Int) (h : I64 n) : Ky n ∧ Ky (n + 1) := by unfold I64 at h; unfold Ky; omega

end Go.Proofs.Ytdebmokpdchgpaa

/- The walk of the law CutNumbers. -/
namespace Go.Proofs.Ytdebmokpdchgpaa
open Go.RowKit Go.Sort Go.Proofs.Ytdebmokpdchgpaa.Bo
set_option linter.unusedVariables false

end Go.Proofs.Ytdebmokpdchgpaa

/- The walk of the law CutShifts. -/
namespace Go.Proofs.Ytdebmokpdchgpaa
open Go.RowKit Go.Sort Go.Proofs.Ytdebmokpdchgpaa.Bo
set_option linter.unusedVariables false

/-- A box stays where it is. -/
theorem box_on {w w' : World} {b : Nat} {o : Obj} (h : w.heap[b]? = some o) (hb : Below w.heap.size w w') : w'.heap[b]? = some o := (hb.block _ (lt_of_block h)).trans h
theorem box_new {w w' : World} (o : Obj) (hb : Below (w.alloc o).heap.size (w.alloc o) w') : w'.heap[w.heap.size]? = some o := box_on (heap_alloc_new w o) hb
theorem below_new (w : World) (o : Obj) : Below w.heap.size w (w.alloc o) := (Below.refl _ _).alloc (Nat.le_refl _) _

end Go.Proofs.Ytdebmokpdchgpaa

/- Contracts of cut.Least and cut.Greatest. -/
namespace Go.Proofs.Ytdebmokpdchgpaa
open Go.RowKit Go.Sort Go.Proofs.Ytdebmokpdchgpaa.Bo
set_option linter.unusedVariables false

/-- A slice of cuts that holds cs. -/
def CRow (w : World) (a : Option Addr) (cs : List (Int × Int)) : Prop :=
  0 < cs.length → ∃ b off, a = some ⟨b, off, none⟩ ∧ ∀ (j : Nat) (h : j < cs.length), w.cell? ⟨b, off + j * 2, none⟩ = some (.int .i64 cs[j].1) ∧ w.cell? ⟨b, off + j * 2 + 1, none⟩ = some (.int .i64 cs[j].2)
theorem CRow.below {w w' : World} {a : Option Addr} {cs : List (Int × Int)} (h : CRow w a cs) (hb : Below w.heap.size w w') : CRow w' a cs := by
  intro hp
  obtain ⟨b, off, e, hc⟩ := h hp
  refine ⟨b, off, e, fun j hj => ?_⟩
  obtain ⟨h1, h2⟩ := hc j hj
  exact ⟨(hb.cell (p := ⟨b, off + j * 2, none⟩) (World.block_lt_of_cell? w _ h1)).trans h1, (hb.cell (p := ⟨b, off + j * 2 + 1, none⟩) (World.block_lt_of_cell? w _ h2)).trans h2⟩

def kOf (c : Int × Int) : Int := key c.1 c.2
def leastK (cs : List (Int × Int)) : Int := (cs.map kOf).foldl klow 9223372036854775808
def greatK (cs : List (Int × Int)) : Int := (cs.map kOf).foldl khigh (-9223372036854775808)

theorem foldK_ky (f : Int → Int → Int) (hf : ∀ k l, f k l = k ∨ f k l = l) : ∀ (cs : List (Int × Int)) (m : Int), Ky m → (∀ c ∈ cs, I64 c.2) → Ky ((cs.map kOf).foldl f m)
  | [], m, h, _ => h
  | c :: l, m, h, hz => by
    refine foldK_ky f hf l _ ?_ (fun d hd => hz d (List.mem_cons_of_mem _ hd))
    rcases hf m (kOf c) with e | e
    · rw [e]; exact h
    · rw [e]; exact key_ky _ _ (hz c (List.mem_cons_self ..))
theorem klow_or (k l : Int) : klow k l = k ∨ klow k l = l := by unfold klow; split <;> simp
theorem khigh_or (k l : Int) : khigh k l = k ∨ khigh k l = l := by unfold khigh; split <;> simp
theorem leastK_ky (cs : List (Int × Int)) (hz : ∀ c ∈ cs, I64 c.2) : Ky (leastK cs) := foldK_ky klow klow_or cs _ ⟨by decide, by decide⟩ hz
theorem greatK_ky (cs : List (Int × Int)) (hz : ∀ c ∈ cs, I64 c.2) : Ky (greatK cs) := foldK_ky khigh khigh_or cs _ ⟨by decide, by decide⟩ hz
theorem leastK_snoc (cs : List (Int × Int)) (c : Int × Int) : leastK (cs ++ [c]) = klow (leastK cs) (kOf c) := by unfold leastK; rw [List.map_append, List.foldl_append]; rfl
theorem greatK_snoc (cs : List (Int × Int)) (c : Int × Int) : greatK (cs ++ [c]) = khigh (greatK cs) (kOf c) := by unfold greatK; rw [List.map_append, List.foldl_append]; rfl

end Go.Proofs.Ytdebmokpdchgpaa

/- A row of cuts in a block of its own; the contract of slices.Compact over it. -/
namespace Go.Proofs.Ytdebmokpdchgpaa
open Go.RowKit Go.Sort Go.Proofs.Ytdebmokpdchgpaa.Bo
set_option linter.unusedVariables false

theorem below_setCells (B g : Nat) (hB : B ≤ g) : ∀ (vs : List Value) (o : Nat) (w w0 : World), Below B w0 w → Below B w0 (w.setCells g o vs)
  | [], _, _, _, h => h
  | v :: r, o, w, w0, h => below_setCells B g hB r (o + 1) _ w0 (h.setCell hB v)
end Go.Proofs.Ytdebmokpdchgpaa

/- The contract of slices.Compact over a row of cuts. -/
namespace Go.Proofs.Ytdebmokpdchgpaa
open Go.RowKit Go.Sort Go.Proofs.Ytdebmokpdchgpaa.Bo
set_option linter.unusedVariables false

theorem below_any {B : Nat} {a b c : World} (h : Below B a b) (hB : B ≤ b.heap.size) (h2 : Below b.heap.size b c) : Below B a c := h.trans (h2.mono hB)

end Go.Proofs.Ytdebmokpdchgpaa

/- slices.SortFunc by cut.Compare over a row of cuts. -/
namespace Go.Proofs.Ytdebmokpdchgpaa
open Go.RowKit Go.Sort Go.Shelf Go.Proofs.Ytdebmokpdchgpaa.Bo
set_option linter.unusedVariables false

/-- A key, with the word that it is one. -/
abbrev KY := {k : Int // Ky k}
instance : Inhabited KY := ⟨⟨0, by decide, by decide⟩⟩
def encK (x : KY) : List Value := [.int .i64 (sd x.1), .int .i64 (pa x.1)]
def cfK (x y : KY) : Int := kcmp x.1 y.1
theorem ltK (x y : KY) : ltOf cfK x y = decide (x.1 < y.1) := by
  unfold ltOf cfK kcmp
  by_cases h : x.1 < y.1
  · simp [h]
  · by_cases h2 : y.1 < x.1 <;> simp [h, h2]
theorem swoK : SWO (ltOf cfK) where
  irrefl x := by rw [ltK]; simp
  trans x y z h1 h2 := by rw [ltK] at *; simp at *; omega
  ntrans x y z h1 h2 := by rw [ltK] at *; simp at *; omega

theorem below_sorted {w : World} {B g : Nat} (hB : B ≤ g) (hg : g < w.heap.size) (m : Nat) (d : Array KY) (os : Array Obj) : Go.RowKit.Below B w (sortWorldK encK 2 w g 0 m d os) := by
  refine ⟨rfl, rfl, rfl, ?_, fun k hk => ?_⟩
  · unfold sortWorldK; rw [size_grow]; simp [putRowK]
  · unfold sortWorldK putRowK putRow mapBlock grow
    rw [Array.getElem?_append_left (by simp; omega)]
    simp only [Array.getElem?_modify, heap_ahead]
    rw [if_neg (by omega)]

end Go.Proofs.Ytdebmokpdchgpaa

/- The contract of cut.Sort. -/
namespace Go.Proofs.Ytdebmokpdchgpaa
open Go.RowKit Go.Sort Go.Proofs.Ytdebmokpdchgpaa.Bo
set_option linter.unusedVariables false

/-- The cells of the right cuts of these. -/
def flatC (cs : List (Int × Int)) : List Value := cs.flatMap fun c => [.int .i64 (sd (kOf c)), .int .i64 (pa (kOf c))]
theorem flatC_len (cs : List (Int × Int)) : (flatC cs).length = cs.length * 2 := by
  unfold flatC
  induction cs with
  | nil => rfl
  | cons a l ih => rw [List.flatMap_cons, List.length_append, ih]; simp; omega
theorem flatC_snoc (cs : List (Int × Int)) (c : Int × Int) : flatC (cs ++ [c]) = flatC cs ++ [.int .i64 (sd (kOf c)), .int .i64 (pa (kOf c))] := by
  unfold flatC; rw [List.flatMap_append]; simp
theorem flatC_get (cs : List (Int × Int)) (j : Nat) (hj : j < cs.length) : (flatC cs)[j * 2]? = some (.int .i64 (sd (kOf cs[j]))) ∧ (flatC cs)[j * 2 + 1]? = some (.int .i64 (pa (kOf cs[j]))) := by
  induction cs generalizing j with
  | nil => simp at hj
  | cons a l ih =>
    cases j with
    | zero => exact ⟨rfl, rfl⟩
    | succ j =>
      have := ih j (by simpa using hj)
      unfold flatC at *
      rw [List.flatMap_cons]
      rw [show (j + 1) * 2 = j * 2 + 2 by omega]
      simpa [List.getElem?_append] using this
theorem own_on {w w' : World} {base : Nat} {e : TypeId} {size : Nat} {v : Value} {n : Nat} {xs : List Value} (h : w.ownsRow base e size v n xs) (hb : Go.RowKit.Below w.heap.size w w') : w'.ownsRow base e size v n xs := by
  obtain ⟨h1, h2⟩ := h
  refine ⟨h1, ?_⟩
  rcases h2 with h2 | ⟨g, cap, cur, hv, hg, hh, r⟩
  · exact .inl h2
  · exact .inr ⟨g, cap, cur, hv, hg, (hb.block _ (lt_of_block hh)).trans hh, r⟩
theorem one_two (a b : Int) : ∀ u ∈ ([.int .i64 a, .int .i64 b] : List Value), u.oneCell' = true := by
  intro u hu
  simp at hu
  rcases hu with rfl | rfl <;> rfl
end Go.Proofs.Ytdebmokpdchgpaa

/- What the reference's sort does, on keys. -/
namespace Go.Proofs.Ytdebmokpdchgpaa.Bo
/-- The last key of a row; below all keys, if there is none. -/
def lb (os : List Int) : Int := (os.getLast?).getD (-9223372036854775809)
theorem lb_nil : lb [] = -9223372036854775809 := rfl
theorem lb_snoc (os : List Int) (m : Int) : lb (os ++ [m]) = m := by unfold lb; simp
theorem lb_get (os : List Int) (h : 0 < os.length) : lb os = os[os.length - 1] := by
  unfold lb
  rw [List.getLast?_eq_some_getLast (by intro e; rw [e] at h; simp at h), List.getLast_eq_getElem]
  rfl
/-- What has been put: rising keys of ks, all of those up to the last one. -/
def Put (ks os : List Int) : Prop := Up os ∧ (∀ x ∈ os, x ∈ ks) ∧ (∀ x ∈ ks, x ≤ lb os → x ∈ os)
theorem put_nil (ks : List Int) (h : ∀ k ∈ ks, Ky k) : Put ks [] := by
  refine ⟨List.Pairwise.nil, by simp, fun x hx h2 => ?_⟩
  have := h x hx
  unfold Ky at this
  rw [lb_nil] at h2
  omega
theorem up_lb (os : List Int) (h : Up os) : ∀ x ∈ os, x ≤ lb os := by
  intro x hx
  obtain ⟨i, hi, rfl⟩ := List.getElem_of_mem hx
  rw [lb_get os (by omega)]
  rcases Nat.lt_or_ge i (os.length - 1) with h2 | h2
  · have := List.pairwise_iff_getElem.1 h i (os.length - 1) hi (by omega) h2
    omega
  · have : i = os.length - 1 := by omega
    subst this
    exact Int.le_refl _
theorem put_snoc (ks os : List Int) (m : Int) (h : Put ks os) (hm : m ∈ ks) (hl : lb os < m) (hmin : ∀ x ∈ ks, lb os < x → m ≤ x) : Put ks (os ++ [m]) := by
  obtain ⟨h1, h2, h3⟩ := h
  refine ⟨?_, ?_, ?_⟩
  · unfold Up
    rw [List.pairwise_append]
    refine ⟨h1, List.pairwise_singleton .., fun x hx y hy => ?_⟩
    rw [List.mem_singleton] at hy
    subst hy
    have := up_lb os h1 x hx
    omega
  · intro x hx
    rcases List.mem_append.1 hx with h | h
    · exact h2 x h
    · rw [List.mem_singleton] at h; subst h; exact hm
  · intro x hx hle
    rw [lb_snoc] at hle
    rw [List.mem_append, List.mem_singleton]
    by_cases hq : lb os < x
    · right
      have := hmin x hx hq
      omega
    · left
      exact h3 x hx (by omega)
theorem put_done (ks os : List Int) (h : Put ks os) (hno : ∀ x ∈ ks, ¬ lb os < x) : Up os ∧ (∀ x, x ∈ os ↔ x ∈ ks) :=
  ⟨h.1, fun x => ⟨h.2.1 x, fun hx => h.2.2 x hx (by have := hno x hx; omega)⟩⟩
/-- How many are still to come. -/
def left (ks os : List Int) : Nat := ks.countP fun x => decide (lb os < x)
theorem countP_lt (p q : Int → Bool) (l : List Int) (hpq : ∀ x, q x = true → p x = true) (m : Int) (hm : m ∈ l) (h1 : p m = true) (h2 : q m = false) : l.countP q < l.countP p := by
  induction l with
  | nil => simp at hm
  | cons a l ih =>
    have hle : l.countP q ≤ l.countP p := List.countP_mono_left fun x _ h => hpq x h
    rw [List.countP_cons, List.countP_cons]
    rcases List.mem_cons.1 hm with e | e
    · subst e
      simp [h1, h2]; omega
    · have := ih e
      by_cases hq : q a = true
      · simp [hq, hpq a hq]; omega
      · simp [hq]; split <;> omega
theorem left_snoc (ks os : List Int) (m : Int) (hm : m ∈ ks) (hl : lb os < m) : left ks (os ++ [m]) < left ks os := by
  unfold left
  rw [lb_snoc]
  refine countP_lt _ _ ks (fun x hx => ?_) m hm (decide_eq_true hl) (decide_eq_false (by omega))
  simp at hx ⊢
  omega
/-- The least one above, among those that were seen. -/
def Seen (ks os : List Int) (f : Bool) (m : Int) : Prop := (f = true ∧ m ∈ ks ∧ lb os < m ∧ ∀ x ∈ ks, lb os < x → m ≤ x) ∨ (f = false ∧ ∀ x ∈ ks, ¬ lb os < x)
theorem seen_nil (os : List Int) (m : Int) : Seen [] os false m := .inr ⟨rfl, by simp⟩
theorem seen_take (ks os : List Int) (f : Bool) (m x : Int) (h : Seen ks os f m) (hl : lb os < x) (hc : f = false ∨ x < m) : Seen (ks ++ [x]) os true x := by
  refine .inl ⟨rfl, by simp, hl, fun y hy hly => ?_⟩
  rcases List.mem_append.1 hy with h1 | h1
  · rcases h with ⟨hf, _, _, h2⟩ | ⟨_, h2⟩
    · rcases hc with hc | hc
      · rw [hc] at hf; cases hf
      · have := h2 y h1 hly; omega
    · exact absurd hly (h2 y h1)
  · rw [List.mem_singleton] at h1; omega
theorem seen_skip (ks os : List Int) (f : Bool) (m x : Int) (h : Seen ks os f m) (hc : ¬ lb os < x ∨ (f = true ∧ ¬ x < m)) : Seen (ks ++ [x]) os f m := by
  rcases h with ⟨hf, h1, h2, h3⟩ | ⟨hf, h1⟩
  · refine .inl ⟨hf, List.mem_append_left _ h1, h2, fun y hy hly => ?_⟩
    rcases List.mem_append.1 hy with h4 | h4
    · exact h3 y h4 hly
    · rw [List.mem_singleton] at h4
      subst h4
      rcases hc with hc | hc
      · exact absurd hly hc
      · omega
  · refine .inr ⟨hf, fun y hy => ?_⟩
    rcases List.mem_append.1 hy with h4 | h4
    · exact h1 y h4
    · rw [List.mem_singleton] at h4
      subst h4
      rcases hc with hc | hc
      · exact hc
      · rw [hf] at hc; cases hc.1
end Go.Proofs.Ytdebmokpdchgpaa.Bo

/- The contract of the reference's Sort of cuts. -/
namespace Go.Proofs.Ytdebmokpdchgpaa
open Go.RowKit Go.Sort Go.Proofs.Ytdebmokpdchgpaa.Bo
set_option linter.unusedVariables false

/-- The cells of the cuts of these keys. -/
def flatL (ks : List Int) : List Value := ks.flatMap fun k => [.int .i64 (sd k), .int .i64 (pa k)]
theorem flatL_snoc (ks : List Int) (k : Int) : flatL (ks ++ [k]) = flatL ks ++ [.int .i64 (sd k), .int .i64 (pa k)] := by
  unfold flatL; rw [List.flatMap_append]; simp
theorem flatL_get (cs : List Int) (j : Nat) (hj : j < cs.length) : (flatL cs)[j * 2]? = some (.int .i64 (sd cs[j])) ∧ (flatL cs)[j * 2 + 1]? = some (.int .i64 (pa cs[j])) := by
  induction cs generalizing j with
  | nil => simp at hj
  | cons a l ih =>
    cases j with
    | zero => exact ⟨rfl, rfl⟩
    | succ j =>
      have := ih j (by simpa using hj)
      unfold flatL at *
      rw [List.flatMap_cons]
      rw [show (j + 1) * 2 = j * 2 + 2 by omega]
      simpa [List.getElem?_append] using this
theorem own_far {w : World} {base : Nat} {e : TypeId} {size : Nat} {v : Value} {n : Nat} {xs : List Value} (h : w.ownsRow base e size v n xs) (N i : Nat) (u : Value) (hN : ∀ k, v.ownBlock = some k → k ≠ N) : (w.setCell ⟨N, i, none⟩ u).ownsRow base e size v n xs := by
  obtain ⟨h1, h2⟩ := h
  refine ⟨h1, ?_⟩
  rcases h2 with h2 | ⟨g, cap, cur, hv, hg, hh, r⟩
  · exact .inl h2
  · refine .inr ⟨g, cap, cur, hv, hg, ?_, r⟩
    rw [heap_setCell_other _ _ _ _ (by have := hN g (by rw [hv]; rfl); simpa using this)]
    exact hh
/-- How the row that was put stands. -/
def OutIs (N : Nat) (os : List Int) (v : Value) : Prop := (os = [] ∧ v = .slice none 0 0) ∨ ∃ g cap q, os.length = q + 1 ∧ v = .slice (some ⟨g, 0, none⟩) (q + 1) cap ∧ g < N

theorem up_len : ∀ (l m : List Int), Up l → (∀ x ∈ l, x ∈ m) → l.length ≤ m.length := by
  intro l
  induction l with
  | nil => intro m _ _; exact Nat.zero_le _
  | cons a l ih =>
    intro m h hs
    have h' := List.pairwise_cons.1 h
    have ha := hs a (List.mem_cons_self ..)
    have := ih (m.erase a) h'.2 (fun x hx => by
      have hne : x ≠ a := by have := h'.1 x hx; omega
      exact (List.mem_erase_of_ne hne).2 (hs x (List.mem_cons_of_mem _ hx)))
    rw [List.length_erase_of_mem ha] at this
    have hp : 0 < m.length := List.length_pos_of_mem ha
    simp; omega
/-- A cut's two cells. -/
def CellsAt (w : World) (b o : Nat) (c1 c2 : Int) : Prop := w.cell? ⟨b, o, none⟩ = some (.int .i64 c1) ∧ w.cell? ⟨b, o + 1, none⟩ = some (.int .i64 c2)
theorem CellsAt.below {w w' : World} {b o : Nat} {c1 c2 : Int} (h : CellsAt w b o c1 c2) (hb : Go.RowKit.Below w.heap.size w w') : CellsAt w' b o c1 c2 :=
  ⟨(hb.cell (World.block_lt_of_cell? w _ h.1)).trans h.1, (hb.cell (World.block_lt_of_cell? w _ h.2)).trans h.2⟩

end Go.Proofs.Ytdebmokpdchgpaa

/- Contracts of the reference's spans: Right, Has. -/
namespace Go.Proofs.Ytdebmokpdchgpaa
open Go.RowKit Go.Sort Go.Proofs.Ytdebmokpdchgpaa.Bo
set_option linter.unusedVariables false

/-- A span's value. -/
abbrev vS (q : S4) : Value := .agg #[.int .i64 q.ls, .int .i64 q.la, .int .i64 q.hs, .int .i64 q.ha]
end Go.Proofs.Ytdebmokpdchgpaa

/- Contracts of the reference's spans: Any, One, Same, Sorted. -/
namespace Go.Proofs.Ytdebmokpdchgpaa
open Go.RowKit Go.Sort Go.Proofs.Ytdebmokpdchgpaa.Bo
set_option linter.unusedVariables false

/-- A span's four cells. -/
def Cells4 (w : World) (b o : Nat) (q : S4) : Prop := w.cell? ⟨b, o, none⟩ = some (.int .i64 q.ls) ∧ w.cell? ⟨b, o + 1, none⟩ = some (.int .i64 q.la) ∧ w.cell? ⟨b, o + 2, none⟩ = some (.int .i64 q.hs) ∧ w.cell? ⟨b, o + 3, none⟩ = some (.int .i64 q.ha)
theorem Cells4.below {w w' : World} {b o : Nat} {q : S4} (h : Cells4 w b o q) (hb : Go.RowKit.Below w.heap.size w w') : Cells4 w' b o q :=
  ⟨(hb.cell (World.block_lt_of_cell? w _ h.1)).trans h.1, (hb.cell (World.block_lt_of_cell? w _ h.2.1)).trans h.2.1, (hb.cell (World.block_lt_of_cell? w _ h.2.2.1)).trans h.2.2.1, (hb.cell (World.block_lt_of_cell? w _ h.2.2.2)).trans h.2.2.2⟩
theorem Cells4.re {w : World} {b o : Nat} {q : S4} (h : Cells4 w b o q) : (∀ d os, (grow (redrawn w d) os).cell? ⟨b, o, none⟩ = some (.int .i64 q.ls)) ∧ (∀ d os, (grow (redrawn w d) os).cell? ⟨b, o + 1, none⟩ = some (.int .i64 q.la)) ∧ (∀ d os, (grow (redrawn w d) os).cell? ⟨b, o + 2, none⟩ = some (.int .i64 q.hs)) ∧ (∀ d os, (grow (redrawn w d) os).cell? ⟨b, o + 3, none⟩ = some (.int .i64 q.ha)) :=
  ⟨cell_regrown h.1, cell_regrown h.2.1, cell_regrown h.2.2.1, cell_regrown h.2.2.2⟩
/-- A slice of spans that holds l. -/
def SRow (w : World) (a : Option Addr) (l : List S4) : Prop := 0 < l.length → ∃ b off, a = some ⟨b, off, none⟩ ∧ ∀ (j : Nat) (h : j < l.length), Cells4 w b (off + j * 4) l[j]
theorem SRow.below {w w' : World} {a : Option Addr} {l : List S4} (h : SRow w a l) (hb : Go.RowKit.Below w.heap.size w w') : SRow w' a l := by
  intro hp
  obtain ⟨b, off, e, hc⟩ := h hp
  exact ⟨b, off, e, fun j hj => (hc j hj).below hb⟩

/-- Is each right, and behind the one ahead? -/
def okAt (l : List S4) (j : Nat) (h : j < l.length) : Bool := l[j].right && (if hj : 0 < j then !decide (l[j].lo < (l[j - 1]'(by omega)).hi) else true)
/-- All of a row's are as they must be. -/
def sortedL (l : List S4) : Prop := ∀ j (h : j < l.length), okAt l j h = true

end Go.Proofs.Ytdebmokpdchgpaa

/- Contracts of the reference's spans: Cuts. -/
namespace Go.Proofs.Ytdebmokpdchgpaa
open Go.RowKit Go.Sort Go.Proofs.Ytdebmokpdchgpaa.Bo
set_option linter.unusedVariables false

/-- The keys of a row of pairs. -/
def keysOf (ps : List (Int × Int)) : List Int := ps.flatMap fun p => [p.1, p.2]
theorem keysOf_snoc (ps : List (Int × Int)) (p : Int × Int) : keysOf (ps ++ [p]) = keysOf ps ++ [p.1, p.2] := by
  unfold keysOf; rw [List.flatMap_append]; simp
theorem keysOf_len (ps : List (Int × Int)) : (keysOf ps).length = ps.length * 2 := by
  unfold keysOf
  induction ps with
  | nil => rfl
  | cons a l ih => rw [List.flatMap_cons, List.length_append, ih]; simp; omega
theorem keysOf_mem (ps : List (Int × Int)) (x : Int) : x ∈ keysOf ps ↔ ∃ p ∈ ps, x = p.1 ∨ x = p.2 := by
  unfold keysOf; rw [List.mem_flatMap]; simp
theorem flatL_two (ks : List Int) (k l : Int) : flatL (ks ++ [k, l]) = flatL ks ++ [.int .i64 (sd k), .int .i64 (pa k), .int .i64 (sd l), .int .i64 (pa l)] := by
  unfold flatL; rw [List.flatMap_append]; simp
theorem rights_take (l : List S4) (j : Nat) (hj : j < l.length) : rights (l.take (j + 1)) = rights (l.take j) ++ (if l[j].right = true then [(l[j].lo, l[j].hi)] else []) := by
  unfold rights
  rw [List.take_succ_eq_append_getElem hj, List.filter_append, List.map_append]
  congr 1
  by_cases h : l[j].right = true <;> simp [h]
theorem rights_len (l : List S4) : (rights l).length ≤ l.length := by
  unfold rights; rw [List.length_map]; exact List.length_filter_le ..
theorem one_four (a b c d : Int) : ∀ u ∈ ([.int .i64 a, .int .i64 b, .int .i64 c, .int .i64 d] : List Value), u.oneCell' = true := by
  intro u hu
  simp at hu
  rcases hu with rfl | rfl | rfl | rfl <;> rfl
theorem Cells4.far {w w' : World} {row : Option Nat} {b o : Nat} {q : S4} (h : Cells4 w b o q) (hg : w.grownBy w' row) (hne : some b ≠ row) : Cells4 w' b o q :=
  ⟨hg.cell h.1 hne, hg.cell h.2.1 hne, hg.cell h.2.2.1 hne, hg.cell h.2.2.2 hne⟩
/-- A slice of cuts that holds those of these keys. -/
def KRow (w : World) (a : Option Addr) (ks : List Int) : Prop := 0 < ks.length → ∃ b off, a = some ⟨b, off, none⟩ ∧ ∀ (j : Nat) (h : j < ks.length), CellsAt w b (off + j * 2) (sd ks[j]) (pa ks[j])
theorem KRow.below {w w' : World} {a : Option Addr} {ks : List Int} (h : KRow w a ks) (hb : Go.RowKit.Below w.heap.size w w') : KRow w' a ks := by
  intro hp
  obtain ⟨b, off, e, hc⟩ := h hp
  exact ⟨b, off, e, fun j hj => (hc j hj).below hb⟩
theorem KRow.crow {w : World} {a : Option Addr} {ks : List Int} (h : KRow w a ks) : CRow w a (ks.map fun k => (sd k, pa k)) := by
  intro hp
  rw [List.length_map] at hp
  obtain ⟨b, off, e, hc⟩ := h hp
  refine ⟨b, off, e, fun j hj => ?_⟩
  rw [List.length_map] at hj
  rw [List.getElem_map]
  exact hc j hj
theorem map_kOf (ks : List Int) (h : ∀ k ∈ ks, Ky k) : (ks.map fun k => (sd k, pa k)).map kOf = ks := by
  rw [List.map_map]
  conv => rhs; rw [← List.map_id ks]
  exact List.map_congr_left fun k hk => key_back k (h k hk)
/-- The keys of a row of right spans, rising, each once. -/
def CutsPost (l : List S4) (w : World) (e : Ending) (w' : World) : Prop :=
  ∃ (a : Option Addr) (cap : Nat) (ks : List Int), (e = .returned (.slice a ks.length cap) ∧ Up ks ∧ (∀ x, x ∈ ks ↔ x ∈ keysOf (rights l)) ∧ KRow w' a ks) ∧ Go.RowKit.Below w.heap.size w w'
end Go.Proofs.Ytdebmokpdchgpaa

/- The joining of pieces between rising cuts. -/
namespace Go.Proofs.Ytdebmokpdchgpaa.Bo
theorem up_lt (ks : List Int) (h : Up ks) (i j : Nat) (hj : j < ks.length) (hij : i < j) : ks[i] < ks[j] := List.pairwise_iff_getElem.1 h i j (by omega) hj hij
theorem up_le (ks : List Int) (h : Up ks) (i j : Nat) (hj : j < ks.length) (hij : i ≤ j) : ks[i] ≤ ks[j] := by
  rcases Nat.lt_or_ge i j with h1 | h1
  · exact Int.le_of_lt (up_lt ks h i j hj h1)
  · have : i = j := by omega
    subst this; exact Int.le_refl _
/-- All cuts of a row are named. -/
def Named (ps : List (Int × Int)) (ks : List Int) : Prop := ∀ p ∈ ps, p.1 ∈ ks ∧ p.2 ∈ ks
theorem cov_piece (ps : List (Int × Int)) (ks : List Int) (hup : Up ks) (hs : Named ps ks) (i : Nat) (hi : i + 1 < ks.length) (n : Int) (h1 : ks[i] ≤ n) (h2 : n < ks[i + 1]) : cov ps n ↔ cov ps ks[i] := by
  constructor
  · rintro ⟨p, hp, h3, h4⟩
    obtain ⟨a, b⟩ := hs p hp
    obtain ⟨x, hx, ex⟩ := List.mem_iff_getElem.1 a
    refine ⟨p, hp, ?_, by omega⟩
    rcases Nat.lt_or_ge i x with h5 | h5
    · have := up_le ks hup (i + 1) x hx (by omega); omega
    · have := up_le ks hup x i (by omega) h5; omega
  · rintro ⟨p, hp, h3, h4⟩
    obtain ⟨a, b⟩ := hs p hp
    obtain ⟨x, hx, ex⟩ := List.mem_iff_getElem.1 b
    refine ⟨p, hp, by omega, ?_⟩
    rcases Nat.lt_or_ge i x with h5 | h5
    · have := up_le ks hup (i + 1) x hx (by omega); omega
    · have := up_le ks hup x i (by omega) h5; omega
theorem cov_first (ps : List (Int × Int)) (ks : List Int) (hup : Up ks) (hs : Named ps ks) (n : Int) (h : cov ps n) : ∃ h : 0 < ks.length, ks[0] ≤ n := by
  obtain ⟨p, hp, h3, h4⟩ := h
  obtain ⟨x, hx, ex⟩ := List.mem_iff_getElem.1 (hs p hp).1
  refine ⟨by omega, ?_⟩
  have := up_le ks hup 0 x hx (by omega); omega
theorem cov_last (ps : List (Int × Int)) (ks : List Int) (hup : Up ks) (hs : Named ps ks) (n : Int) (h : cov ps n) : ∃ h : ks.length - 1 < ks.length, n < ks[ks.length - 1] := by
  obtain ⟨p, hp, h3, h4⟩ := h
  obtain ⟨x, hx, ex⟩ := List.mem_iff_getElem.1 (hs p hp).2
  refine ⟨by omega, ?_⟩
  have := up_le ks hup x (ks.length - 1) (by omega) (by omega); omega

/-- Up to the key k, ps has just the numbers of C. -/
structure Upto (C : Int → Prop) (ks : List Int) (k : Int) (ps : List (Int × Int)) : Prop where
  lt : ∀ p ∈ ps, p.1 < p.2
  named : Named ps ks
  le : ∀ p ∈ ps, p.2 ≤ k
  cov : ∀ n, cov ps n ↔ C n ∧ n < k
theorem Upto.skip {C : Int → Prop} {ks : List Int} {k k' : Int} {ps : List (Int × Int)} (h : Upto C ks k ps) (hk : k < k') (hC : ∀ n, k ≤ n → n < k' → (C n ↔ C k)) (hno : ¬ C k) : Upto C ks k' ps := by
  refine ⟨h.lt, h.named, fun p hp => by have := h.le p hp; omega, fun n => ?_⟩
  rw [h.cov n]
  constructor
  · rintro ⟨a, b⟩; exact ⟨a, by omega⟩
  · rintro ⟨a, b⟩
    refine ⟨a, ?_⟩
    rcases Int.lt_or_le n k with h1 | h1
    · exact h1
    · exact absurd ((hC n h1 b).1 a) hno
theorem Upto.put {C : Int → Prop} {ks : List Int} {k k' : Int} {ps : List (Int × Int)} (h : Upto C ks k ps) (hk : k < k') (hC : ∀ n, k ≤ n → n < k' → (C n ↔ C k)) (hyes : C k) (m1 : k ∈ ks) (m2 : k' ∈ ks) : Upto C ks k' (ps ++ [(k, k')]) := by
  refine ⟨?_, ?_, ?_, fun n => ?_⟩
  · intro p hp
    rcases List.mem_append.1 hp with e | e
    · exact h.lt p e
    · rw [List.mem_singleton.1 e]; exact hk
  · intro p hp
    rcases List.mem_append.1 hp with e | e
    · exact h.named p e
    · rw [List.mem_singleton.1 e]; exact ⟨m1, m2⟩
  · intro p hp
    rcases List.mem_append.1 hp with e | e
    · have := h.le p e; omega
    · rw [List.mem_singleton.1 e]; exact Int.le_refl _
  · rw [cov_append, h.cov n, cov_cons]
    constructor
    · rintro (⟨a, b⟩ | a | a)
      · exact ⟨a, by omega⟩
      · exact ⟨(hC n a.1 a.2).2 hyes, a.2⟩
      · exact absurd a (cov_nil _)
    · rintro ⟨a, b⟩
      rcases Int.lt_or_le n k with h1 | h1
      · exact .inl ⟨a, h1⟩
      · exact .inr (.inl ⟨h1, b⟩)
theorem Upto.join {C : Int → Prop} {ks : List Int} {k k' x : Int} {ps : List (Int × Int)} (h : Upto C ks k (ps ++ [(x, k)])) (hk : k < k') (hC : ∀ n, k ≤ n → n < k' → (C n ↔ C k)) (hyes : C k) (m2 : k' ∈ ks) : Upto C ks k' (ps ++ [(x, k')]) := by
  have hx : x < k := h.lt (x, k) (by simp)
  refine ⟨?_, ?_, ?_, fun n => ?_⟩
  · intro p hp
    rcases List.mem_append.1 hp with e | e
    · exact h.lt p (List.mem_append_left _ e)
    · rw [List.mem_singleton.1 e]; show x < k'; omega
  · intro p hp
    rcases List.mem_append.1 hp with e | e
    · exact h.named p (List.mem_append_left _ e)
    · rw [List.mem_singleton.1 e]; exact ⟨(h.named (x, k) (by simp)).1, m2⟩
  · intro p hp
    rcases List.mem_append.1 hp with e | e
    · have := h.le p (List.mem_append_left _ e); omega
    · rw [List.mem_singleton.1 e]; exact Int.le_refl _
  · have h1 := h.cov n
    rw [cov_append, cov_cons] at h1 ⊢
    constructor
    · rintro (a | a | a)
      · have := h1.1 (.inl a); exact ⟨this.1, by omega⟩
      · rcases Int.lt_or_le n k with h2 | h2
        · exact ⟨(h1.1 (.inr (.inl ⟨a.1, h2⟩))).1, a.2⟩
        · exact ⟨(hC n h2 a.2).2 hyes, a.2⟩
      · exact absurd a (cov_nil _)
    · rintro ⟨a, b⟩
      rcases Int.lt_or_le n k with h2 | h2
      · rcases h1.2 ⟨a, h2⟩ with c | c | c
        · exact .inl c
        · exact .inr (.inl ⟨c.1, by have := c.2; show n < k'; omega⟩)
        · exact absurd c (cov_nil _)
      · exact .inr (.inl ⟨by show x ≤ n; omega, b⟩)
theorem norm_put {ps : List (Int × Int)} {k k' : Int} (h : Norm ps) (hk : k < k') (hl : ∀ p ∈ ps, p.2 < k) : Norm (ps ++ [(k, k')]) := by
  refine ⟨?_, List.pairwise_append.2 ⟨h.2, List.pairwise_singleton .., ?_⟩⟩
  · intro p hp
    rcases List.mem_append.1 hp with e | e
    · exact h.1 p e
    · rw [List.mem_singleton.1 e]; exact hk
  · intro p hp q hq
    rw [List.mem_singleton.1 hq]; exact hl p hp
theorem norm_join {ps : List (Int × Int)} {k k' x : Int} (h : Norm (ps ++ [(x, k)])) (hk : k < k') : Norm (ps ++ [(x, k')]) := by
  obtain ⟨h1, h2⟩ := h
  obtain ⟨a, b, c⟩ := List.pairwise_append.1 h2
  have hx : x < k := h1 (x, k) (by simp)
  refine ⟨?_, List.pairwise_append.2 ⟨a, List.pairwise_singleton .., ?_⟩⟩
  · intro p hp
    rcases List.mem_append.1 hp with e | e
    · exact h1 p (List.mem_append_left _ e)
    · rw [List.mem_singleton.1 e]; show x < k'; omega
  · intro p hp q hq
    rw [List.mem_singleton.1 hq]; exact c p hp (x, k) (by simp)
/-- The last one's end, where it is not k, lies below: and so do all. -/
theorem norm_all_lt {ps : List (Int × Int)} {k : Int} {p : Int × Int} (h : Norm (ps ++ [p])) (hp : p.2 < k) : ∀ q ∈ ps ++ [p], q.2 < k := by
  obtain ⟨h1, h2⟩ := h
  obtain ⟨a, b, c⟩ := List.pairwise_append.1 h2
  intro q hq
  rcases List.mem_append.1 hq with e | e
  · have h3 := c q e p (by simp)
    have h4 := h1 p (by simp)
    omega
  · rw [List.mem_singleton.1 e]; exact hp
theorem upto_nil (C : Int → Prop) (ks : List Int) (k : Int) (h : ∀ n, C n → k ≤ n) : Upto C ks k [] :=
  ⟨by simp, (fun p hp => by simp at hp), by simp, fun n => ⟨fun a => absurd a (cov_nil _), fun ⟨a, b⟩ => by have := h n a; omega⟩⟩
theorem named_rights (ps : List (Int × Int)) (ks : List Int) (h : ∀ p ∈ ps, ∀ x, (x = p.1 ∨ x = p.2) → x ∈ ks) : Named ps ks := fun p hp => ⟨h p hp _ (.inl rfl), h p hp _ (.inr rfl)⟩
end Go.Proofs.Ytdebmokpdchgpaa.Bo

/- Contracts of the reference's spans: List. -/
namespace Go.Proofs.Ytdebmokpdchgpaa
open Go.RowKit Go.Sort Go.Proofs.Ytdebmokpdchgpaa.Bo
set_option linter.unusedVariables false

theorem keysOf_get (ps : List (Int × Int)) (j : Nat) (hj : j < ps.length) : ∃ (h1 : j * 2 < (keysOf ps).length) (h2 : j * 2 + 1 < (keysOf ps).length), (keysOf ps)[j * 2] = ps[j].1 ∧ (keysOf ps)[j * 2 + 1] = ps[j].2 := by
  have hl := keysOf_len ps
  refine ⟨by omega, by omega, ?_⟩
  induction ps generalizing j with
  | nil => simp at hj
  | cons a l ih =>
    cases j with
    | zero => exact ⟨rfl, rfl⟩
    | succ j =>
      have := ih j (by simpa using hj) (keysOf_len l)
      have e1 : keysOf (a :: l) = a.1 :: a.2 :: keysOf l := rfl
      simp only [e1, show (j + 1) * 2 = j * 2 + 1 + 1 by omega, List.getElem_cons_succ]
      exact this
theorem flatL_len (ks : List Int) : (flatL ks).length = ks.length * 2 := by
  unfold flatL
  induction ks with
  | nil => rfl
  | cons a l ih => rw [List.flatMap_cons, List.length_append, ih]; simp; omega
theorem CellsAt.far {w w' : World} {row : Option Nat} {b o : Nat} {c1 c2 : Int} (h : CellsAt w b o c1 c2) (hg : w.grownBy w' row) (hne : some b ≠ row) : CellsAt w' b o c1 c2 := ⟨hg.cell h.1 hne, hg.cell h.2 hne⟩
theorem own_put {w : World} {base g cap n size : Nat} {e : TypeId} {xs : List Value} (h : w.ownsRow base e size (.slice (some ⟨g, 0, none⟩) n cap) n xs) (i : Nat) (v : Value) : (w.setCell ⟨g, i, none⟩ v).ownsRow base e size (.slice (some ⟨g, 0, none⟩) n cap) n (xs.set i v) := by
  obtain ⟨h1, h2⟩ := h
  refine ⟨by rw [List.length_set]; exact h1, ?_⟩
  rcases h2 with ⟨h2, _⟩ | ⟨g', cap', cur, hv, hg, hh, h3, h4, h5, h6⟩
  · cases h2
  · injection hv with e1 e2 e3
    injection e1 with e1
    injection e1 with e1
    subst e1 e3
    refine .inr ⟨g, cap, _, rfl, hg, heap_setCell_same _ _ _ _ _ _ hh, h3, h4, by simpa using h5, ?_⟩
    rw [← h6]
    simp [List.take_set]
abbrev put4 (w : World) (g o : Nat) (v1 v2 v3 v4 : Value) : World := (((w.setCell ⟨g, o, none⟩ v1).setCell ⟨g, o + 1, none⟩ v2).setCell ⟨g, o + 2, none⟩ v3).setCell ⟨g, o + 3, none⟩ v4
theorem cell_drew (w : World) (a : Addr) : w.drew.cell? a = w.cell? a := by rfl
theorem put4_keep {X : World} {g o b i1 i2 : Nat} {v1 v2 v3 v4 u1 u2 : Value} (hne : b ≠ g) (h1 : X.cell? ⟨b, i1, none⟩ = some u1) (h2 : X.cell? ⟨b, i2, none⟩ = some u2) (h3 : X.cell? ⟨g, o, none⟩ = some v1) (h4 : X.cell? ⟨g, o + 1, none⟩ = some v2) :
    (put4 X g o v1 v2 v3 v4).drew.cell? ⟨b, i1, none⟩ = some u1 ∧ (put4 X g o v1 v2 v3 v4).drew.cell? ⟨b, i2, none⟩ = some u2 ∧ (put4 X g o v1 v2 v3 v4).drew.cell? ⟨g, o, none⟩ = some v1 ∧ (put4 X g o v1 v2 v3 v4).drew.cell? ⟨g, o + 1, none⟩ = some v2 := by
  have far : ∀ i, (put4 X g o v1 v2 v3 v4).cell? ⟨b, i, none⟩ = X.cell? ⟨b, i, none⟩ := by
    intro i
    unfold put4
    rw [World.cell?_setCell_other _ _ _ _ (by simp <;> omega), World.cell?_setCell_other _ _ _ _ (by simp <;> omega), World.cell?_setCell_other _ _ _ _ (by simp <;> omega), World.cell?_setCell_other _ _ _ _ (by simp <;> omega)]
  refine ⟨(cell_drew _ _).trans ((far _).trans h1), (cell_drew _ _).trans ((far _).trans h2), (cell_drew _ _).trans ?_, (cell_drew _ _).trans ?_⟩
  · unfold put4
    rw [World.cell?_setCell_other _ _ _ _ (by simp), World.cell?_setCell_other _ _ _ _ (by simp), World.cell?_setCell_other _ _ _ _ (by simp)]
    exact World.cell?_setCell_same _ _ _ h3
  · unfold put4
    rw [World.cell?_setCell_other _ _ _ _ (by simp), World.cell?_setCell_other _ _ _ _ (by simp)]
    exact World.cell?_setCell_same _ _ _ ((World.cell?_setCell_other _ _ _ _ (by simp)).trans h4)
/-- The same numbers, as few spans as can be. -/
def ListPost (C : Int → Prop) (N : Nat) (w : World) (e : Ending) (w' : World) : Prop :=
  ∃ (a : Option Addr) (cap : Nat) (ps : List (Int × Int)), (e = .returned (.slice a ps.length cap) ∧ Norm ps ∧ (∀ n, cov ps n ↔ C n) ∧ (∀ p ∈ ps, Ky p.1 ∧ Ky p.2) ∧ ps.length ≤ N ∧ SRow w' a (ps.map sp)) ∧ Go.RowKit.Below w.heap.size w w'

end Go.Proofs.Ytdebmokpdchgpaa

/- Contracts of the reference's spans: Of, Shift. -/
namespace Go.Proofs.Ytdebmokpdchgpaa
open Go.RowKit Go.Sort Go.Proofs.Ytdebmokpdchgpaa.Bo
set_option linter.unusedVariables false

abbrev OfTwo (w X : World) (s a t b : Int) (w' : World) : Prop := w'.cell? ⟨w.heap.size, 0, none⟩ = some (.int .i64 s) ∧ w'.cell? ⟨w.heap.size, 1, none⟩ = some (.int .i64 a) ∧ w'.cell? ⟨w.heap.size + 1, 0, none⟩ = some (.int .i64 t) ∧ w'.cell? ⟨w.heap.size + 1, 1, none⟩ = some (.int .i64 b) ∧ Go.RowKit.Below X.heap.size X w'
theorem OfTwo.call {w X : World} {s a t b : Int} {w' w'' : World} (h : OfTwo w X s a t b w') (hb : Go.RowKit.Below w'.heap.size w' w'') : OfTwo w X s a t b w'' :=
  ⟨(hb.cell (World.block_lt_of_cell? w' _ h.1)).trans h.1, (hb.cell (World.block_lt_of_cell? w' _ h.2.1)).trans h.2.1, (hb.cell (World.block_lt_of_cell? w' _ h.2.2.1)).trans h.2.2.1, (hb.cell (World.block_lt_of_cell? w' _ h.2.2.2.1)).trans h.2.2.2.1, bt h.2.2.2.2 hb⟩
theorem OfTwo.alloc {w X : World} {s a t b : Int} {w' : World} (h : OfTwo w X s a t b w') (o : Obj) : OfTwo w X s a t b (w'.alloc o) := h.call (below_new w' o)
theorem OfTwo.drew {w X : World} {s a t b : Int} {w' : World} (h : OfTwo w X s a t b w') : OfTwo w X s a t b w'.drew := h.call (Go.RowKit.Below.refl _ _).drew
theorem OfTwo.put {w X : World} {s a t b : Int} {w' : World} (h : OfTwo w X s a t b w') (hX : w.heap.size + 1 < X.heap.size) (N : Nat) (hN : X.heap.size ≤ N) (v1 v2 v3 v4 : Value) : OfTwo w X s a t b ((((w'.setCell ⟨N, 0, none⟩ v1).setCell ⟨N, 1, none⟩ v2).setCell ⟨N, 2, none⟩ v3).setCell ⟨N, 3, none⟩ v4) := by
  have far : ∀ B i, B < X.heap.size → ((((w'.setCell ⟨N, 0, none⟩ v1).setCell ⟨N, 1, none⟩ v2).setCell ⟨N, 2, none⟩ v3).setCell ⟨N, 3, none⟩ v4).cell? ⟨B, i, none⟩ = w'.cell? ⟨B, i, none⟩ := by
    intro B i hB
    have hne : N ≠ B := by omega
    rw [World.cell?_setCell_other _ _ _ _ (by simp <;> omega), World.cell?_setCell_other _ _ _ _ (by simp <;> omega), World.cell?_setCell_other _ _ _ _ (by simp <;> omega), World.cell?_setCell_other _ _ _ _ (by simp <;> omega)]
  exact ⟨(far _ _ (by omega)).trans h.1, (far _ _ (by omega)).trans h.2.1, (far _ _ (by omega)).trans h.2.2.1, (far _ _ (by omega)).trans h.2.2.2.1, (((h.2.2.2.2.setCell hN _).setCell hN _).setCell hN _).setCell hN _⟩
abbrev z4 : S4 := ⟨0, 0, 0, 0⟩
/-- What Of answers of two keys. -/
def ofS (k l : Int) : S4 := if k < l then sp (k, l) else ⟨0, 0, 0, 0⟩
def ofE (k l : Int) : Int := if k < l then 0 else 30

end Go.Proofs.Ytdebmokpdchgpaa
