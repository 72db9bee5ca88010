/- Contracts of Of and Minus. -/
import Derived.Test.YtbpplhlkpfdegaaBigC
import Derived.Maps.AppendAt
namespace Go.Proofs.Ytbpplhlkpfdegaa
open Go.RowKit Go.Proofs.Ytbpplhlkpfdegaa.Bo
set_option linter.unusedVariables false

def iv (d : Nat) : Value := .int .i64 (d : Int)
theorem iv_one (l : List Nat) : ∀ u ∈ l.map iv, u.oneCell' = true := by
  intro u hu
  obtain ⟨d, _, rfl⟩ := List.mem_map.1 hu
  rfl
theorem Try.infoInt : (Try.prog.info? 3).map (fun i => (i.zero, i.size, i.bytes)) = some (some (.int .i64 0), 1, 8) := by kernel_rfl
theorem dg_of_own {w : World} {base : Nat} {v : Value} {xs : List Nat} (h : w.ownsRow base 3 1 v xs.length (xs.map iv)) : Dg w v xs := by
  rcases h.2 with ⟨rfl, h0⟩ | ⟨g, cap, cur, rfl, hb, hh, hnc, hcm, hcs, htake⟩
  · exact ⟨none, 0, by rw [h0], by omega, fun hp => absurd h0 (by omega)⟩
  · refine ⟨_, cap, rfl, hnc, fun _ => ⟨g, cur, rfl, hh, fun j hj => ?_⟩⟩
    have h1 : (cur.toList.take (xs.length * 1))[j]? = some (iv xs[j]) := by rw [htake]; simp [hj]
    rw [List.getElem?_take, if_pos (by omega)] at h1
    simpa [iv] using h1

theorem own_form {wr : World} {v : Value} {n b : Nat} {xs : List Value} (h : wr.ownsRow b 3 1 v n xs) (hn : 0 < n) : ∃ g cap, v = .slice (some ⟨g, 0, none⟩) n cap := by
  rcases h.2 with ⟨_, h0⟩ | ⟨g, cap, cur, h1, _⟩
  · omega
  · exact ⟨g, cap, h1⟩
theorem own_ne {wr : World} {v : Value} {n b : Nat} {xs : List Value} (h : wr.ownsRow (b + 1) 3 1 v n xs) {j : Nat} (hj : j ≤ b) : some j ≠ v.ownBlock := by
  intro e
  have := (h.lt j e.symm).1
  omega
theorem two_set {W : World} {b : Nat} {x y p q : Value} {t : TypeId} (h : W.heap[b]? = some (.cells #[x, y] t (0, 0))) :
    ((W.setCell ⟨b, 0, none⟩ p).setCell ⟨b, 1, none⟩ q).heap[b]? = some (.cells #[p, q] t (0, 0)) := by
  have h1 := heap_setCell_same W b 0 _ _ p h
  have h2 := heap_setCell_same _ b 1 _ _ q h1
  rw [h2]; rfl

def sgn (n : Int) : Int := if n < 0 then -1 else if n = 0 then 0 else 1
def OfPost (n : Int) (w : World) (e : Ending) (w' : World) : Prop := ∃ v, e = .returned (.agg #[.int .i64 (sgn n), v]) ∧ Dg w' v (low n.natAbs) ∧ Below w.heap.size w w'

theorem low_nil (m : Nat) : (low m).length = 0 ↔ m = 0 := by
  constructor
  · intro h
    by_cases h0 : m = 0
    · exact h0
    · rw [low_pos m h0] at h; simp at h
  · rintro rfl; rw [low_zero]; rfl

theorem neg_tmod10 (k : Nat) : (-(k : Int)).tmod 10 = -((k % 10 : Nat) : Int) := by rw [Int.neg_tmod]; rfl
theorem neg_tdiv10 (k : Nat) : (-(k : Int)).tdiv 10 = -((k / 10 : Nat) : Int) := by rw [Int.neg_tdiv]; rfl

def BigPost (z : Int) (L : Nat) (w : World) (e : Ending) (w' : World) : Prop := ∃ V, e = .returned V ∧ BigAt w' V z L ∧ Below w.heap.size w w'
theorem sgn_val (n : Int) : sgn n * (val (low n.natAbs) : Int) = n := by
  rw [val_low]; unfold sgn
  split
  · omega
  · split <;> omega
end Go.Proofs.Ytbpplhlkpfdegaa
