/- The walk of the law CutShifts. -/
import Derived.Test.YtbpplhlkpfdegaaCutS2
import Derived.Test.YtbpplhlkpfdegaaCutNumbersW
namespace Go.Proofs.Ytbpplhlkpfdegaa
open Go.RowKit Go.Sort Go.Proofs.Ytbpplhlkpfdegaa.Bo
set_option linter.unusedVariables false

/-- A box stays where it is. -/
theorem box_on {w w' : World} {b : Nat} {o : Obj} (h : w.heap[b]? = some o) (hb : Below w.heap.size w w') : w'.heap[b]? = some o := (hb.block _ (lt_of_block h)).trans h
theorem box_new {w w' : World} (o : Obj) (hb : Below (w.alloc o).heap.size (w.alloc o) w') : w'.heap[w.heap.size]? = some o := box_on (heap_alloc_new w o) hb
theorem below_new (w : World) (o : Obj) : Below w.heap.size w (w.alloc o) := (Below.refl _ _).alloc (Nat.le_refl _) _

end Go.Proofs.Ytbpplhlkpfdegaa
