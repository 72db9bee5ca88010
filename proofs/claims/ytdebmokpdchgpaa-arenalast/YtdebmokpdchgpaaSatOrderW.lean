/- The walk of the law SatOrder. -/
import Derived.Test.YtdebmokpdchgpaaSatAlive
import Derived.OpenShut
namespace Go.Proofs.Ytdebmokpdchgpaa
open Go.RowKit Go.Proofs.Ytdebmokpdchgpaa.Bo
set_option linter.unusedVariables false

theorem i64_of_wf {n : Int} (h : (Lit.int .i64 n).wf = true) : I64 n := by
  have := bounds_i64 h; unfold I64; omega

end Go.Proofs.Ytdebmokpdchgpaa
