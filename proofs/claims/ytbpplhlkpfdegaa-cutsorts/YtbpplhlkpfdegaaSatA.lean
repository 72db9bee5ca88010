/- Contracts of the plain arithmetic functions of package sat. -/
import Derived.Test.YtbpplhlkpfdegaaRows
import Derived.Test.YtbpplhlkpfdegaaSatMath
import Derived.Test.YtbpplhlkpfdegaaBigA
import Derived.WalkKit
import Derived.WalkSpells
import Derived.WalkLawsBesides
import Derived.Lib.Hide
namespace Go.Proofs.Ytbpplhlkpfdegaa
open Go.RowKit Go.Proofs.Ytbpplhlkpfdegaa.Bo

theorem ret_int {k : IntKind} {a b : Int} (h : a = b) : Ending.returned (.int k a) = .returned (.int k b) := by rw [h]

theorem ret_int_bool {k : IntKind} {a b : Int} {c : Bool} (h : a = b) : Ending.returned (.tuple #[.int k a, .bool c]) = .returned (.tuple #[.int k b, .bool c]) := by rw [h]

theorem wrap64_hi (n : Int) (h : 9223372036854775807 < n) (h2 : n < 18446744073709551616) : wrap64 n = n - 18446744073709551616 := by unfold wrap64; omega
theorem wrap64_lo (n : Int) (h : n < -9223372036854775808) (h2 : -18446744073709551617 < n) : wrap64 n = n + 18446744073709551616 := by unfold wrap64; omega

/-! ### Ceil -/
/-! ### size -/
theorem size_pos (n : Int) (w : World) (h1 : 0 ≤ n) (h2 : n ≤ 9223372036854775807) :
    Calls Try.prog 34 #[.int .i64 n] w fun e w' => e = .returned (.int .u64 n) ∧ w = w' := by
  have t1 : decide (n < 0) = false := by simp; omega
  go_enter Try.func34, Try.ntmps34
  go_wp2
  go_ret
  exact ⟨rfl, rfl⟩
theorem u64_neg (n : Int) (h1 : -9223372036854775808 ≤ n) (h2 : n < 0) : IntKind.u64.wrap (-IntKind.u64.wrap n) = -n := by
  simp [IntKind.wrap, IntKind.bits, IntKind.signed]; omega
theorem size_neg (n : Int) (w : World) (h1 : -9223372036854775808 ≤ n) (h2 : n < 0) :
    Calls Try.prog 34 #[.int .i64 n] w fun e w' => e = .returned (.int .u64 (-n)) ∧ w = w' := by
  have t1 : decide (n < 0) = true := by simp; omega
  go_enter Try.func34, Try.ntmps34
  go_wp2
  go_ret
  exact ⟨ret_int (u64_neg n h1 h2), rfl⟩
end Go.Proofs.Ytbpplhlkpfdegaa
