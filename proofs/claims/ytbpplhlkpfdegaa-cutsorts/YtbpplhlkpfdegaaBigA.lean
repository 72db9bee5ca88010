/- Rows of digits in memory; contracts of digit, more. -/
import Derived.Test.YtbpplhlkpfdegaaRows
import Derived.Test.YtbpplhlkpfdegaaBigMath
import Derived.WalkKit
import Derived.WalkSpells
import Derived.WalkLawsBesides
import Derived.Lib.Hide
namespace Go.Proofs.Ytbpplhlkpfdegaa
open Go.RowKit Go.Proofs.Ytbpplhlkpfdegaa.Bo
set_option linter.unusedVariables false

/-- One call behind the other: what was there stays. -/
theorem bt {a b c : World} (h1 : Below a.heap.size a b) (h2 : Below b.heap.size b c) : Below a.heap.size a c := h1.trans (h2.mono h1.size)

/-- The slice v holds the digits xs, at the head of a block, or is empty. -/
def Dg (w : World) (v : Value) (xs : List Nat) : Prop :=
  ∃ (a : Option Addr) (cap : Nat), v = .slice a xs.length cap ∧ xs.length ≤ cap ∧ (0 < xs.length → ∃ g cur, a = some ⟨g, 0, none⟩ ∧ w.heap[g]? = some (.cells cur 3 (0, 0)) ∧ ∀ (j : Nat) (h : j < xs.length), cur[j]? = some (.int .i64 ((xs[j] : Nat) : Int)))
theorem Dg.below {w w' : World} {v : Value} {xs : List Nat} (h : Dg w v xs) (hb : Below w.heap.size w w') : Dg w' v xs := by
  obtain ⟨a, cap, hv, hc, hg⟩ := h
  refine ⟨a, cap, hv, hc, fun hp => ?_⟩
  obtain ⟨g, cur, ha, hgb, hcur⟩ := hg hp
  exact ⟨g, cur, ha, (hb.block g (lt_of_block hgb)).trans hgb, hcur⟩
/-- A store into a block of another make is not seen. -/
theorem Dg.far {w : World} {v : Value} {xs : List Nat} (h : Dg w v xs) {b : Nat} {cs : Array Value} {t : TypeId} (hb : w.heap[b]? = some (.cells cs t (0, 0))) (ht : t ≠ 3) (i : Nat) (u : Value) : Dg (w.setCell ⟨b, i, none⟩ u) v xs := by
  obtain ⟨a, cap, hv, hc, hg⟩ := h
  refine ⟨a, cap, hv, hc, fun hp => ?_⟩
  obtain ⟨g, cur, ha, hgb, hcur⟩ := hg hp
  refine ⟨g, cur, ha, ?_, hcur⟩
  rw [heap_setCell_other _ _ _ _ ?_]
  · exact hgb
  · rintro rfl
    rw [hgb] at hb
    injection hb with hb
    injection hb with _ h2
    exact ht h2.symm

end Go.Proofs.Ytbpplhlkpfdegaa
