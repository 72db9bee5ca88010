/- Contracts of the plain arithmetic functions of package sat. -/
import Derived.Test.YtgldnpjpmojcnaaRows
import Derived.Test.YtgldnpjpmojcnaaSatMath
import Derived.Test.YtgldnpjpmojcnaaBigA
import Derived.WalkKit
import Derived.WalkSpells
import Derived.WalkLawsBesides
import Derived.Lib.Hide
namespace Go.Proofs.Ytgldnpjpmojcnaa
open Go.RowKit Go.Proofs.Ytgldnpjpmojcnaa.Bo

theorem ret_int {k : IntKind} {a b : Int} (h : a = b) : Ending.returned (.int k a) = .returned (.int k b) := by rw [h]

theorem ret_int_bool {k : IntKind} {a b : Int} {c : Bool} (h : a = b) : Ending.returned (.tuple #[.int k a, .bool c]) = .returned (.tuple #[.int k b, .bool c]) := by rw [h]

theorem wrap64_hi (n : Int) (h : 9223372036854775807 < n) (h2 : n < 18446744073709551616) : wrap64 n = n - 18446744073709551616 := by unfold wrap64; omega
theorem wrap64_lo (n : Int) (h : n < -9223372036854775808) (h2 : -18446744073709551617 < n) : wrap64 n = n + 18446744073709551616 := by unfold wrap64; omega

theorem add_any (a b : Int) (w : World) (ha : I64 a) (hb : I64 b) :
    Calls Try.prog 12 #[.int .i64 a, .int .i64 b] w fun e w' => e = .returned (.int .i64 (clamp (a + b))) ∧ w = w' := by
  obtain ⟨ha1, ha2⟩ := ha
  obtain ⟨hb1, hb2⟩ := hb
  by_cases h1 : 9223372036854775807 < a + b
  · have e1 := wrap64_hi (a + b) h1 (by omega)
    have H : Hid (clamp (a + b) = 9223372036854775807) := clamp_up _ (by omega)
    have t1 : decide (0 < b) = true := by simp; omega
    have t2 : decide (wrap64 (a + b) < a) = true := by rw [e1]; simp; omega
    clear e1
    go_enter Try.func12, Try.ntmps12
    go_wp2
    go_ret
    exact ⟨ret_int H.out.symm, rfl⟩
  · by_cases h2 : a + b < -9223372036854775808
    · have e1 := wrap64_lo (a + b) h2 (by omega)
      have H : Hid (clamp (a + b) = -9223372036854775808) := clamp_down _ (by omega)
      have t1 : decide (0 < b) = false := by simp; omega
      have t0 : decide (b < 0) = true := by simp; omega
      have t2 : decide (a < wrap64 (a + b)) = true := by rw [e1]; simp; omega
      clear e1
      go_enter Try.func12, Try.ntmps12
      go_wp2
      go_ret
      exact ⟨ret_int H.out.symm, rfl⟩
    · have H : Hid (clamp (a + b) = a + b) := clamp_in _ ⟨by omega, by omega⟩
      by_cases h3 : 0 < b
      · have t1 : decide (0 < b) = true := by simp; omega
        have t2 : decide (a + b < a) = false := by simp; omega
        have t3 : decide (b < 0) = false := by simp; omega
        go_enter Try.func12, Try.ntmps12
        go_wp2
        go_ret
        exact ⟨ret_int H.out.symm, rfl⟩
      · by_cases h4 : b < 0
        · have t1 : decide (0 < b) = false := by simp; omega
          have t2 : decide (a < a + b) = false := by simp; omega
          have t3 : decide (b < 0) = true := by simp; omega
          go_enter Try.func12, Try.ntmps12
          go_wp2
          go_ret
          exact ⟨ret_int H.out.symm, rfl⟩
        · have t1 : decide (0 < b) = false := by simp; omega
          have t3 : decide (b < 0) = false := by simp; omega
          go_enter Try.func12, Try.ntmps12
          go_wp2
          go_ret
          exact ⟨ret_int H.out.symm, rfl⟩

theorem sub_any (a b : Int) (w : World) (ha : I64 a) (hb : I64 b) :
    Calls Try.prog 15 #[.int .i64 a, .int .i64 b] w fun e w' => e = .returned (.int .i64 (clamp (a - b))) ∧ w = w' := by
  obtain ⟨ha1, ha2⟩ := ha
  obtain ⟨hb1, hb2⟩ := hb
  by_cases h1 : 9223372036854775807 < a - b
  · have e1 := wrap64_hi (a - b) h1 (by omega)
    have H : Hid (clamp (a - b) = 9223372036854775807) := clamp_up _ (by omega)
    have t1 : decide (0 < b) = false := by simp; omega
    have t3 : decide (b < 0) = true := by simp; omega
    have t2 : decide (wrap64 (a - b) < a) = true := by rw [e1]; simp; omega
    clear e1
    go_enter Try.func15, Try.ntmps15
    go_wp2
    go_ret
    exact ⟨ret_int H.out.symm, rfl⟩
  · by_cases h2 : a - b < -9223372036854775808
    · have e1 := wrap64_lo (a - b) h2 (by omega)
      have H : Hid (clamp (a - b) = -9223372036854775808) := clamp_down _ (by omega)
      have t1 : decide (0 < b) = true := by simp; omega
      have t2 : decide (a < wrap64 (a - b)) = true := by rw [e1]; simp; omega
      clear e1
      go_enter Try.func15, Try.ntmps15
      go_wp2
      go_ret
      exact ⟨ret_int H.out.symm, rfl⟩
    · have H : Hid (clamp (a - b) = a - b) := clamp_in _ ⟨by omega, by omega⟩
      by_cases h3 : 0 < b
      · have t1 : decide (0 < b) = true := by simp; omega
        have t2 : decide (a < a - b) = false := by simp; omega
        have t3 : decide (b < 0) = false := by simp; omega
        go_enter Try.func15, Try.ntmps15
        go_wp2
        go_ret
        exact ⟨ret_int H.out.symm, rfl⟩
      · by_cases h4 : b < 0
        · have t1 : decide (0 < b) = false := by simp; omega
          have t2 : decide (a - b < a) = false := by simp; omega
          have t3 : decide (b < 0) = true := by simp; omega
          go_enter Try.func15, Try.ntmps15
          go_wp2
          go_ret
          exact ⟨ret_int H.out.symm, rfl⟩
        · have t1 : decide (0 < b) = false := by simp; omega
          have t3 : decide (b < 0) = false := by simp; omega
          go_enter Try.func15, Try.ntmps15
          go_wp2
          go_ret
          exact ⟨ret_int H.out.symm, rfl⟩

theorem neg_any (a : Int) (w : World) (ha : I64 a) :
    Calls Try.prog 17 #[.int .i64 a] w fun e w' => e = .returned (.int .i64 (clamp (-a))) ∧ w = w' := by
  have H0 : I64 0 := ⟨by decide, by decide⟩
  have HA := Lib.hid ha
  clear ha
  go_enter Try.func17, Try.ntmps17
  go_wp2_with (go_at_call 15; refine (sub_any _ _ _ H0 HA.out).mono ?_; rintro e w' ⟨rfl, rfl⟩)
  go_ret
  exact ⟨rfl, rfl⟩

/-! ### Ceil -/
theorem ceil_no (n s : Int) (w : World) (h : s < 1) :
    Calls Try.prog 24 #[.int .i64 n, .int .i64 s] w fun e w' => e = .returned (.tuple #[.int .i64 0, .bool false]) ∧ w = w' := by
  have t1 : decide (s < 1) = true := by simp; omega
  go_enter Try.func24, Try.ntmps24
  go_wp2
  go_ret2
  exact ⟨rfl, rfl⟩

theorem ceil_big (n s : Int) (w : World) (hn : I64 n) (hs : I64 s) (h : ¬ s < 1) (hb : 9223372036854775807 < cl n s) :
    Calls Try.prog 24 #[.int .i64 n, .int .i64 s] w fun e w' => e = .returned (.tuple #[.int .i64 0, .bool false]) ∧ w = w' := by
  obtain ⟨hn1, hn2⟩ := hn
  obtain ⟨hs1, hs2⟩ := hs
  have hpos := cl_big_pos n s (by omega) hb
  have hr := cl_pos n s (by omega) hpos
  obtain ⟨r1, r2, r3, r4⟩ := hr
  have hne : 0 < n % s := by
    by_cases hz : 0 < n % s
    · exact hz
    · have := cl_pos0 n s (by omega) hpos (by omega); omega
  have H : Hid (cl n s = n + (s - n % s)) := r4 hne
  have hbig : 9223372036854775807 - (s - n % s) < n := by have := r4 hne; omega
  clear r4 hb
  have t1 : decide (s < 1) = false := by simp; omega
  have t2 : decide (n % s ≤ 0) = false := by simp; omega
  go_enter Try.func24, Try.ntmps24
  go_wp2
  go_ret2
  exact ⟨rfl, rfl⟩

theorem ceil_yes (n s : Int) (w : World) (hn : I64 n) (hs : I64 s) (h : ¬ s < 1) (hb : cl n s ≤ 9223372036854775807) :
    Calls Try.prog 24 #[.int .i64 n, .int .i64 s] w fun e w' => e = .returned (.tuple #[.int .i64 (cl n s), .bool true]) ∧ w = w' := by
  obtain ⟨hn1, hn2⟩ := hn
  obtain ⟨hs1, hs2⟩ := hs
  have t1 : decide (s < 1) = false := by simp; omega
  by_cases hpos : 0 ≤ n
  · have hr := cl_pos n s (by omega) hpos
    obtain ⟨r1, r2, r3, r4⟩ := hr
    by_cases hz : n % s ≤ 0
    · have H : Hid (cl n s = n - n % s) := cl_pos0 n s (by omega) hpos hz
      clear r4 hb
      have t2 : decide (n % s ≤ 0) = true := by simp; omega
      go_enter Try.func24, Try.ntmps24
      go_wp2
      go_ret2
      exact ⟨ret_int_bool H.out.symm, rfl⟩
    · have H : Hid (cl n s = n + (s - n % s)) := r4 (by omega)
      have hbig : n ≤ 9223372036854775807 - (s - n % s) := by have := r4 (by omega); omega
      clear r4 hb
      have t2 : decide (n % s ≤ 0) = false := by simp; omega
      go_enter Try.func24, Try.ntmps24
      go_wp2
      go_ret2
      exact ⟨ret_int_bool H.out.symm, rfl⟩
  · have hr := cl_neg n s (by omega) (by omega)
    obtain ⟨r1, r2, r3⟩ := hr
    have H : Hid (cl n s = n - n.tmod s) := r3
    clear r3 hb
    have t2 : decide (n.tmod s ≤ 0) = true := by simp; omega
    go_enter Try.func24, Try.ntmps24
    go_wp2
    go_ret2
    exact ⟨ret_int_bool H.out.symm, rfl⟩

/-! ### size -/
theorem size_pos (n : Int) (w : World) (h1 : 0 ≤ n) (h2 : n ≤ 9223372036854775807) :
    Calls Try.prog 35 #[.int .i64 n] w fun e w' => e = .returned (.int .u64 n) ∧ w = w' := by
  have t1 : decide (n < 0) = false := by simp; omega
  go_enter Try.func35, Try.ntmps35
  go_wp2
  go_ret
  exact ⟨rfl, rfl⟩
theorem u64_neg (n : Int) (h1 : -9223372036854775808 ≤ n) (h2 : n < 0) : IntKind.u64.wrap (-IntKind.u64.wrap n) = -n := by
  simp [IntKind.wrap, IntKind.bits, IntKind.signed]; omega
theorem size_neg (n : Int) (w : World) (h1 : -9223372036854775808 ≤ n) (h2 : n < 0) :
    Calls Try.prog 35 #[.int .i64 n] w fun e w' => e = .returned (.int .u64 (-n)) ∧ w = w' := by
  have t1 : decide (n < 0) = true := by simp; omega
  go_enter Try.func35, Try.ntmps35
  go_wp2
  go_ret
  exact ⟨ret_int (u64_neg n h1 h2), rfl⟩
end Go.Proofs.Ytgldnpjpmojcnaa
