/- Contracts of cut, ends, Is. -/
import Derived.Test.YtbpplhlkpfdegaaBigA
import Derived.Deep.RegionHeld3
import Derived.BigQuiet
import Derived.Deep.QuietTactic
namespace Go.Proofs.Ytbpplhlkpfdegaa
open Go.RowKit Go.Proofs.Ytbpplhlkpfdegaa.Bo
set_option linter.unusedVariables false

theorem Dg.cellAt {w : World} {a : Option Addr} {n cap : Nat} {xs : List Nat} (h : Dg w (.slice a n cap) xs) : n = xs.length ∧ n ≤ cap ∧ (0 < n → ∃ g, a = some ⟨g, 0, none⟩ ∧ g < w.heap.size ∧ ∀ (j : Nat) (h : j < xs.length), w.cell? ⟨g, j, none⟩ = some (.int .i64 ((xs[j] : Nat) : Int))) := by
  obtain ⟨a', cap', e, hc, hg⟩ := h
  injection e with e1 e2 e3
  subst e1 e2 e3
  refine ⟨rfl, hc, fun hp => ?_⟩
  obtain ⟨g, cur, ha, hgb, hcur⟩ := hg hp
  exact ⟨g, ha, lt_of_block hgb, fun j hj => (cell_of_row _ _ j _ _ _ hgb).trans (hcur j hj)⟩

def CutPost (a : Option Addr) (cap : Nat) (xs : List Nat) (w : World) (e : Ending) (w' : World) : Prop := ∃ n, e = .returned (.slice a n cap) ∧ n ≤ xs.length ∧ val (xs.take n) = val xs ∧ w = w'

theorem take_zero_last (xs : List Nat) (n : Nat) (h : n + 1 ≤ xs.length) (h0 : xs[n] = 0) : val (xs.take n) = val (xs.take (n + 1)) := by
  rw [val_take_succ xs n (by omega), h0]; simp

def slLen : Value → Nat | .slice _ n _ => n | _ => 0
theorem Dg.take {w : World} {a : Option Addr} {cap : Nat} {xs : List Nat} (h : Dg w (.slice a xs.length cap) xs) (n : Nat) (hn : n ≤ xs.length) : Dg w (.slice a n cap) (xs.take n) := by
  obtain ⟨a', cap', e, hc, hg⟩ := h
  injection e with e1 e2 e3
  subst e1 e3
  have hl : (xs.take n).length = n := by rw [List.length_take, Nat.min_eq_left hn]
  refine ⟨a, cap, by rw [hl], by omega, fun hp => ?_⟩
  obtain ⟨g, cur, ha, hgb, hcur⟩ := hg (by omega)
  exact ⟨g, cur, ha, hgb, fun j hj => by rw [List.getElem_take]; exact hcur j (by omega)⟩
theorem dg_new (w : World) (cs : Array Value) (xs : List Nat) (n : Nat) (hn : xs.length = n) (hcs : cs.toList = xs.map (fun (d : Nat) => Value.int .i64 (d : Int))) :
    Dg (w.alloc (.cells cs 3)) (.slice (some ⟨w.heap.size, 0, none⟩) n n) xs := by
  subst hn
  refine ⟨_, _, rfl, Nat.le_refl _, fun _ => ⟨w.heap.size, cs, rfl, heap_alloc_new _ _, fun j hj => ?_⟩⟩
  have h1 : cs.toList[j]? = some (.int .i64 ((xs[j] : Nat) : Int)) := by rw [hcs]; simp [hj]
  simpa using h1

def endsL (s : Int) : List Nat := (if s < 0 then 8 else 7) :: [0, 8, 5, 7, 7, 4, 5, 8, 6, 3, 0, 2, 7, 3, 3, 2, 2, 9]
theorem val_ends (s : Int) : val (endsL s) = lim s := by unfold endsL lim; split <;> decide +kernel
theorem ok_ends (s : Int) : Ok (endsL s) := by unfold endsL Ok; split <;> decide
theorem len_ends (s : Int) : (endsL s).length = 19 := by unfold endsL; rfl
def EndsPost (s : Int) (w : World) (e : Ending) (w' : World) : Prop := ∃ v, e = .returned v ∧ Dg w' v (endsL s) ∧ Below w.heap.size w w'

/-- A whole number as the reference keeps it: its sign, and its digits. -/
def BigAt (w : World) (V : Value) (z : Int) (L : Nat) : Prop :=
  ∃ (s : Int) (v : Value) (xs : List Nat), V = .agg #[.int .i64 s, v] ∧ (s = -1 ∨ s = 0 ∨ s = 1) ∧ Dg w v xs ∧ Ok xs ∧ xs.length ≤ L ∧ z = s * (val xs : Int) ∧ (s = 0 → val xs = 0)
theorem BigAt.below {w w' : World} {V : Value} {z : Int} {L : Nat} (h : BigAt w V z L) (hb : Below w.heap.size w w') : BigAt w' V z L := by
  obtain ⟨s, v, xs, hV, hs, hd, ok, hl, hz, h0⟩ := h
  exact ⟨s, v, xs, hV, hs, hd.below hb, ok, hl, hz, h0⟩

end Go.Proofs.Ytbpplhlkpfdegaa
