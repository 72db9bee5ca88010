/- Contract of Plus. -/
import Derived.Test.YtbpplhlkpfdegaaBigD
import Derived.Test.YtbpplhlkpfdegaaPlusMath
namespace Go.Proofs.Ytbpplhlkpfdegaa
open Go.RowKit Go.Proofs.Ytbpplhlkpfdegaa.Bo
set_option linter.unusedVariables false

theorem Dg.drewN {w : World} {v : Value} {xs : List Nat} (h : Dg w v xs) (n : Nat) : Dg (w.drewN n) v xs := h.below (below_drewN (Below.refl _ _) n)

theorem al4 (w : World) (A B C D : Obj) :
    ((((w.alloc A).alloc B).alloc C).alloc D).heap[w.heap.size]? = some A ∧ ((((w.alloc A).alloc B).alloc C).alloc D).heap[w.heap.size + 1]? = some B ∧
    ((((w.alloc A).alloc B).alloc C).alloc D).heap[w.heap.size + 2]? = some C ∧ ((((w.alloc A).alloc B).alloc C).alloc D).heap[w.heap.size + 3]? = some D := by
  have e1 := heap_alloc2_old w A B
  have e2 := heap_alloc2_new w A B
  have e3 : (((w.alloc A).alloc B).alloc C).heap[w.heap.size + 2]? = some C := by have := heap_alloc_new ((w.alloc A).alloc B) C; simpa using this
  have e4 : ((((w.alloc A).alloc B).alloc C).alloc D).heap[w.heap.size + 3]? = some D := by have := heap_alloc_new (((w.alloc A).alloc B).alloc C) D; simpa using this
  refine ⟨?_, ?_, ?_, e4⟩
  · rw [heap_alloc_old _ _ (by simp; omega), heap_alloc_old _ _ (by simp; omega)]; exact e1
  · rw [heap_alloc_old _ _ (by simp), heap_alloc_old _ _ (by simp)]; exact e2
  · rw [heap_alloc_old _ _ (by simp)]; exact e3

def SamePost (s : Int) (xs ys : List Nat) (w : World) (e : Ending) (w' : World) : Prop :=
  ∃ v zs, e = .returned (.agg #[.int .i64 s, v]) ∧ Dg w' v zs ∧ Ok zs ∧ zs.length ≤ xs.length + ys.length + 1 ∧ val zs = val xs + val ys ∧ Below w.heap.size w w'

end Go.Proofs.Ytbpplhlkpfdegaa
