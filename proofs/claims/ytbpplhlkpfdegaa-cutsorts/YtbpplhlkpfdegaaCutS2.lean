/- Contract of the reference's Shift. -/
import Derived.Test.YtbpplhlkpfdegaaCutS
import Derived.Test.YtbpplhlkpfdegaaBigF
namespace Go.Proofs.Ytbpplhlkpfdegaa
open Go.RowKit Go.Sort Go.Proofs.Ytbpplhlkpfdegaa.Bo
set_option linter.unusedVariables false

end Go.Proofs.Ytbpplhlkpfdegaa
