/- Contracts of the plain arithmetic functions of package sat. -/
import Derived.Test.YtmdnmcbjpjpgjaaRows
import Derived.Test.YtmdnmcbjpjpgjaaSatMath
import Derived.Test.YtmdnmcbjpjpgjaaBigA
import Derived.WalkKit
import Derived.WalkSpells
import Derived.WalkLawsBesides
import Derived.Lib.Hide
namespace Go.Proofs.Ytmdnmcbjpjpgjaa
open Go.RowKit Go.Proofs.Ytmdnmcbjpjpgjaa.Bo

theorem ret_int {k : IntKind} {a b : Int} (h : a = b) : Ending.returned (.int k a) = .returned (.int k b) := by rw [h]

theorem ret_int_bool {k : IntKind} {a b : Int} {c : Bool} (h : a = b) : Ending.returned (.tuple #[.int k a, .bool c]) = .returned (.tuple #[.int k b, .bool c]) := by rw [h]

theorem wrap64_hi (n : Int) (h : 9223372036854775807 < n) (h2 : n < 18446744073709551616) : wrap64 n = n - 18446744073709551616 := by unfold wrap64; omega
theorem wrap64_lo (n : Int) (h : n < -9223372036854775808) (h2 : -18446744073709551617 < n) : wrap64 n = n + 18446744073709551616 := by unfold wrap64; omega

theorem add_any (a b : Int) (w : World) (ha : I64 a) (hb : I64 b) :
    Calls Try.prog 42 #[.int .i64 a, .int .i64 b] w fun e w' => e = .returned (.int .i64 (clamp (a + b))) ∧ w = w' := by
  obtain ⟨ha1, ha2⟩ := ha
  obtain ⟨hb1, hb2⟩ := hb
  by_cases h1 : 9223372036854775807 < a + b
  · have e1 := wrap64_hi (a + b) h1 (by omega)
    have H : Hid (clamp (a + b) = 9223372036854775807) := clamp_up _ (by omega)
    have t1 : decide (0 < b) = true := by simp; omega
    have t2 : decide (wrap64 (a + b) < a) = true := by rw [e1]; simp; omega
    clear e1
    go_enter Try.func42, Try.ntmps42
    go_wp2
    go_ret
    exact ⟨ret_int H.out.symm, rfl⟩
  · by_cases h2 : a + b < -9223372036854775808
    · have e1 := wrap64_lo (a + b) h2 (by omega)
      have H : Hid (clamp (a + b) = -9223372036854775808) := clamp_down _ (by omega)
      have t1 : decide (0 < b) = false := by simp; omega
      have t0 : decide (b < 0) = true := by simp; omega
      have t2 : decide (a < wrap64 (a + b)) = true := by rw [e1]; simp; omega
      clear e1
      go_enter Try.func42, Try.ntmps42
      go_wp2
      go_ret
      exact ⟨ret_int H.out.symm, rfl⟩
    · have H : Hid (clamp (a + b) = a + b) := clamp_in _ ⟨by omega, by omega⟩
      by_cases h3 : 0 < b
      · have t1 : decide (0 < b) = true := by simp; omega
        have t2 : decide (a + b < a) = false := by simp; omega
        have t3 : decide (b < 0) = false := by simp; omega
        go_enter Try.func42, Try.ntmps42
        go_wp2
        go_ret
        exact ⟨ret_int H.out.symm, rfl⟩
      · by_cases h4 : b < 0
        · have t1 : decide (0 < b) = false := by simp; omega
          have t2 : decide (a < a + b) = false := by simp; omega
          have t3 : decide (b < 0) = true := by simp; omega
          go_enter Try.func42, Try.ntmps42
          go_wp2
          go_ret
          exact ⟨ret_int H.out.symm, rfl⟩
        · have t1 : decide (0 < b) = false := by simp; omega
          have t3 : decide (b < 0) = false := by simp; omega
          go_enter Try.func42, Try.ntmps42
          go_wp2
          go_ret
          exact ⟨ret_int H.out.symm, rfl⟩

theorem sub_any (a b : Int) (w : World) (ha : I64 a) (hb : I64 b) :
    Calls Try.prog 43 #[.int .i64 a, .int .i64 b] w fun e w' => e = .returned (.int .i64 (clamp (a - b))) ∧ w = w' := by
  obtain ⟨ha1, ha2⟩ := ha
  obtain ⟨hb1, hb2⟩ := hb
  by_cases h1 : 9223372036854775807 < a - b
  · have e1 := wrap64_hi (a - b) h1 (by omega)
    have H : Hid (clamp (a - b) = 9223372036854775807) := clamp_up _ (by omega)
    have t1 : decide (0 < b) = false := by simp; omega
    have t3 : decide (b < 0) = true := by simp; omega
    have t2 : decide (wrap64 (a - b) < a) = true := by rw [e1]; simp; omega
    clear e1
    go_enter Try.func43, Try.ntmps43
    go_wp2
    go_ret
    exact ⟨ret_int H.out.symm, rfl⟩
  · by_cases h2 : a - b < -9223372036854775808
    · have e1 := wrap64_lo (a - b) h2 (by omega)
      have H : Hid (clamp (a - b) = -9223372036854775808) := clamp_down _ (by omega)
      have t1 : decide (0 < b) = true := by simp; omega
      have t2 : decide (a < wrap64 (a - b)) = true := by rw [e1]; simp; omega
      clear e1
      go_enter Try.func43, Try.ntmps43
      go_wp2
      go_ret
      exact ⟨ret_int H.out.symm, rfl⟩
    · have H : Hid (clamp (a - b) = a - b) := clamp_in _ ⟨by omega, by omega⟩
      by_cases h3 : 0 < b
      · have t1 : decide (0 < b) = true := by simp; omega
        have t2 : decide (a < a - b) = false := by simp; omega
        have t3 : decide (b < 0) = false := by simp; omega
        go_enter Try.func43, Try.ntmps43
        go_wp2
        go_ret
        exact ⟨ret_int H.out.symm, rfl⟩
      · by_cases h4 : b < 0
        · have t1 : decide (0 < b) = false := by simp; omega
          have t2 : decide (a - b < a) = false := by simp; omega
          have t3 : decide (b < 0) = true := by simp; omega
          go_enter Try.func43, Try.ntmps43
          go_wp2
          go_ret
          exact ⟨ret_int H.out.symm, rfl⟩
        · have t1 : decide (0 < b) = false := by simp; omega
          have t3 : decide (b < 0) = false := by simp; omega
          go_enter Try.func43, Try.ntmps43
          go_wp2
          go_ret
          exact ⟨ret_int H.out.symm, rfl⟩

/-! ### Ceil -/
/-! ### size -/
theorem size_pos (n : Int) (w : World) (h1 : 0 ≤ n) (h2 : n ≤ 9223372036854775807) :
    Calls Try.prog 63 #[.int .i64 n] w fun e w' => e = .returned (.int .u64 n) ∧ w = w' := by
  have t1 : decide (n < 0) = false := by simp; omega
  go_enter Try.func63, Try.ntmps63
  go_wp2
  go_ret
  exact ⟨rfl, rfl⟩
theorem u64_neg (n : Int) (h1 : -9223372036854775808 ≤ n) (h2 : n < 0) : IntKind.u64.wrap (-IntKind.u64.wrap n) = -n := by
  simp [IntKind.wrap, IntKind.bits, IntKind.signed]; omega
theorem size_neg (n : Int) (w : World) (h1 : -9223372036854775808 ≤ n) (h2 : n < 0) :
    Calls Try.prog 63 #[.int .i64 n] w fun e w' => e = .returned (.int .u64 (-n)) ∧ w = w' := by
  have t1 : decide (n < 0) = true := by simp; omega
  go_enter Try.func63, Try.ntmps63
  go_wp2
  go_ret
  exact ⟨ret_int (u64_neg n h1 h2), rfl⟩
end Go.Proofs.Ytmdnmcbjpjpgjaa
