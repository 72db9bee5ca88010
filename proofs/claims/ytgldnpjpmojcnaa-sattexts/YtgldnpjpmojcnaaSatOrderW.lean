/- The walk of the law SatOrder. -/
import Derived.Test.YtgldnpjpmojcnaaSatAlive
import Derived.OpenShut
namespace Go.Proofs.Ytgldnpjpmojcnaa
open Go.RowKit Go.Proofs.Ytgldnpjpmojcnaa.Bo
set_option linter.unusedVariables false

theorem i64_of_wf {n : Int} (h : (Lit.int .i64 n).wf = true) : I64 n := by
  have := bounds_i64 h; unfold I64; omega

theorem add_top (c : Int) (w : World) (hc : I64 c) (h : 0 ≤ c) : Calls Try.prog 12 #[.int .i64 9223372036854775807, .int .i64 c] w fun e w' => e = .returned (.int .i64 9223372036854775807) ∧ w = w' := by
  have h1 := add_any 9223372036854775807 c w ⟨by decide, by decide⟩ hc
  rw [clamp_hi c h] at h1
  exact h1
theorem add_least (c : Int) (w : World) (hc : I64 c) (h : c ≤ 0) : Calls Try.prog 12 #[.int .i64 (-9223372036854775808), .int .i64 c] w fun e w' => e = .returned (.int .i64 (-9223372036854775808)) ∧ w = w' := by
  have h1 := add_any (-9223372036854775808) c w ⟨by decide, by decide⟩ hc
  rw [clamp_lo c h] at h1
  exact h1

set_option maxRecDepth 100000 in
set_option maxHeartbeats 1000000 in
theorem satOrder_walk (a b c : Int) (w0 : (Lit.int .i64 a).wf = true) (w1 : (Lit.int .i64 b).wf = true) (w2 : (Lit.int .i64 c).wf = true) (w : World) :
    Calls Try.prog 7 #[.int .i64 a, .int .i64 b, .int .i64 c] w fun e w' => e = .returned (.bool true) ∧ Below w.heap.size w w' := by
  have ha := Lib.hid (i64_of_wf w0)
  have hb := Lib.hid (i64_of_wf w1)
  have hc := Lib.hid (i64_of_wf w2)
  clear w0 w1 w2
  by_cases hab : b < a
  · go_enter Try.func7, Try.ntmps7
    go_wp2_with fail
    refine (alive_any _).mono ?_
    rintro e w' ⟨rfl, hB⟩
    go_wp2_with fail
    go_ret
    exact ⟨rfl, hB⟩
  · have t1 : decide (clamp (a + c) ≤ clamp (b + c)) = true := decide_eq_true (clamp_mono _ _ (by omega))
    have t2 : decide (clamp (a - c) ≤ clamp (b - c)) = true := decide_eq_true (clamp_mono _ _ (by omega))
    have t3 : decide (clamp (c - b) ≤ clamp (c - a)) = true := decide_eq_true (clamp_mono _ _ (by omega))
    have t4 : decide (b < a) = false := by simp; omega
    rcases (show c < 0 ∨ c = 0 ∨ 0 < c from by omega) with h | h | h
    · have t5 : decide (c < 0) = true := by simp; omega
      have t6 : decide (0 < c) = false := by simp; omega
      go_enter Try.func7, Try.ntmps7
      go_wp2_with fail
      refine (alive_any _).mono ?_
      rintro e w' ⟨rfl, hB⟩
      go_wp2_with fail
      refine (add_any _ _ _ ha.out hc.out).mono ?_
      rintro e w1 ⟨rfl, rfl⟩
      go_wp2_with fail
      refine (add_any _ _ _ hb.out hc.out).mono ?_
      rintro e w1 ⟨rfl, rfl⟩
      go_wp2_with fail
      refine (sub_any _ _ _ ha.out hc.out).mono ?_
      rintro e w1 ⟨rfl, rfl⟩
      go_wp2_with fail
      refine (sub_any _ _ _ hb.out hc.out).mono ?_
      rintro e w1 ⟨rfl, rfl⟩
      go_wp2_with fail
      refine (sub_any _ _ _ hc.out ha.out).mono ?_
      rintro e w1 ⟨rfl, rfl⟩
      go_wp2_with fail
      refine (sub_any _ _ _ hc.out hb.out).mono ?_
      rintro e w1 ⟨rfl, rfl⟩
      go_wp2_with fail
      refine (add_least _ _ hc.out (by omega)).mono ?_
      rintro e w1 ⟨rfl, rfl⟩
      go_wp2_with fail
      go_ret
      exact ⟨rfl, hB⟩
    · have h0 : 0 ≤ c := by omega
      have h1 : c ≤ 0 := by omega
      clear h
      have t5 : decide (c < 0) = false := by simp; omega
      have t6 : decide (0 < c) = false := by simp; omega
      go_enter Try.func7, Try.ntmps7
      go_wp2_with fail
      refine (alive_any _).mono ?_
      rintro e w' ⟨rfl, hB⟩
      go_wp2_with fail
      refine (add_any _ _ _ ha.out hc.out).mono ?_
      rintro e w1 ⟨rfl, rfl⟩
      go_wp2_with fail
      refine (add_any _ _ _ hb.out hc.out).mono ?_
      rintro e w1 ⟨rfl, rfl⟩
      go_wp2_with fail
      refine (sub_any _ _ _ ha.out hc.out).mono ?_
      rintro e w1 ⟨rfl, rfl⟩
      go_wp2_with fail
      refine (sub_any _ _ _ hb.out hc.out).mono ?_
      rintro e w1 ⟨rfl, rfl⟩
      go_wp2_with fail
      refine (sub_any _ _ _ hc.out ha.out).mono ?_
      rintro e w1 ⟨rfl, rfl⟩
      go_wp2_with fail
      refine (sub_any _ _ _ hc.out hb.out).mono ?_
      rintro e w1 ⟨rfl, rfl⟩
      go_wp2_with fail
      refine (add_top _ _ hc.out (by omega)).mono ?_
      rintro e w1 ⟨rfl, rfl⟩
      go_wp2_with fail
      refine (add_least _ _ hc.out (by omega)).mono ?_
      rintro e w1 ⟨rfl, rfl⟩
      go_wp2_with fail
      go_ret
      exact ⟨rfl, hB⟩
    · have t5 : decide (c < 0) = false := by simp; omega
      have t6 : decide (0 < c) = true := by simp; omega
      go_enter Try.func7, Try.ntmps7
      go_wp2_with fail
      refine (alive_any _).mono ?_
      rintro e w' ⟨rfl, hB⟩
      go_wp2_with fail
      refine (add_any _ _ _ ha.out hc.out).mono ?_
      rintro e w1 ⟨rfl, rfl⟩
      go_wp2_with fail
      refine (add_any _ _ _ hb.out hc.out).mono ?_
      rintro e w1 ⟨rfl, rfl⟩
      go_wp2_with fail
      refine (sub_any _ _ _ ha.out hc.out).mono ?_
      rintro e w1 ⟨rfl, rfl⟩
      go_wp2_with fail
      refine (sub_any _ _ _ hb.out hc.out).mono ?_
      rintro e w1 ⟨rfl, rfl⟩
      go_wp2_with fail
      refine (sub_any _ _ _ hc.out ha.out).mono ?_
      rintro e w1 ⟨rfl, rfl⟩
      go_wp2_with fail
      refine (sub_any _ _ _ hc.out hb.out).mono ?_
      rintro e w1 ⟨rfl, rfl⟩
      go_wp2_with fail
      refine (add_top _ _ hc.out (by omega)).mono ?_
      rintro e w1 ⟨rfl, rfl⟩
      go_wp2_with fail
      go_ret
      exact ⟨rfl, hB⟩
end Go.Proofs.Ytgldnpjpmojcnaa
