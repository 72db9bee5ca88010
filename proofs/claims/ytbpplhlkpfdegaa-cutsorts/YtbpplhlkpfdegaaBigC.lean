/- Contract of End. -/
import Derived.Test.YtbpplhlkpfdegaaBigB
namespace Go.Proofs.Ytbpplhlkpfdegaa
open Go.RowKit Go.Proofs.Ytbpplhlkpfdegaa.Bo
set_option linter.unusedVariables false

theorem ret_i64 {a b : Int} (h : a = b) : Ending.returned (.int .i64 a) = .returned (.int .i64 b) := by rw [h]

end Go.Proofs.Ytbpplhlkpfdegaa
