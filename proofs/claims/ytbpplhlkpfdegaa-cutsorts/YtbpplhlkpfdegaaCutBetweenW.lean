/- The walk of the law CutBetween. -/
import Derived.Test.YtbpplhlkpfdegaaCutOrderW
namespace Go.Proofs.Ytbpplhlkpfdegaa
open Go.RowKit Go.Sort Go.Proofs.Ytbpplhlkpfdegaa.Bo
set_option linter.unusedVariables false

theorem ahead_b (n : Int) (hn : I64 n) (w : World) : Calls Try.prog 14 #[.int .i64 n] w fun e w' => e = .returned (.agg #[.int .i64 (sd n), .int .i64 (pa n)]) ∧ Below w.heap.size w w' := (ahead_any n w hn).mono fun _ _ h => ⟨h.1, h.2.1⟩
theorem behind_b (n : Int) (hn : I64 n) (w : World) : Calls Try.prog 16 #[.int .i64 n] w fun e w' => e = .returned (.agg #[.int .i64 (sd (n + 1)), .int .i64 (pa (n + 1))]) ∧ Below w.heap.size w w' := (behind_any n w hn).mono fun _ _ h => ⟨h.1, h.2.1⟩
theorem next_b (s a : Int) (w : World) (ha : I64 a) : Calls Try.prog 12 #[.agg #[.int .i64 s, .int .i64 a]] w fun e w' => e = .returned (.tuple #[.int .i64 (nx (key s a)), .bool (nxb (key s a))]) ∧ Below w.heap.size w w' := (next_any s a w ha).mono fun _ _ h => ⟨h.1, h.2.1⟩
theorem ky_of_i64 (n : Int) (h : I64 n) : Ky n ∧ Ky (n + 1) := by unfold I64 at h; unfold Ky; omega

end Go.Proofs.Ytbpplhlkpfdegaa
