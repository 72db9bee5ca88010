/- Contract of cut.Shift. -/
import Derived.Test.YtbpplhlkpfdegaaCutAl
import Derived.Test.YtbpplhlkpfdegaaSatA
import Derived.Test.YtbpplhlkpfdegaaCutOrderW
namespace Go.Proofs.Ytbpplhlkpfdegaa
open Go.RowKit Go.Sort Go.Proofs.Ytbpplhlkpfdegaa.Bo
set_option linter.unusedVariables false

theorem ret_cb {x y x' y' : Int} {b b' : Bool} (h1 : x = x') (h2 : y = y') (h3 : b = b') : Ending.returned (.tuple #[.agg #[.int .i64 x, .int .i64 y], .bool b]) = .returned (.tuple #[.agg #[.int .i64 x', .int .i64 y'], .bool b']) := by rw [h1, h2, h3]
end Go.Proofs.Ytbpplhlkpfdegaa
