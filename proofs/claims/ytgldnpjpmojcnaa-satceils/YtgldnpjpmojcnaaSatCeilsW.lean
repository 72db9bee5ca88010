/- The walk of the law SatCeils. -/
import Derived.Test.YtgldnpjpmojcnaaSatOrderW
import Derived.Test.YtgldnpjpmojcnaaRefCeil
namespace Go.Proofs.Ytgldnpjpmojcnaa
open Go.RowKit Go.Proofs.Ytgldnpjpmojcnaa.Bo
set_option linter.unusedVariables false

theorem cl_tmod (n s : Int) (hs : 1 ≤ s) : (cl n s).tmod s = 0 := by
  have h := cl_mul n s
  have hd := Int.dvd_of_emod_eq_zero h
  exact Int.tmod_eq_zero_of_dvd hd

set_option maxRecDepth 100000 in
set_option maxHeartbeats 2000000 in
theorem satCeils_walk (n s : Int) (w0 : (Lit.int .i64 n).wf = true) (w1 : (Lit.int .i64 s).wf = true) (w : World) :
    Calls Try.prog 6 #[.int .i64 n, .int .i64 s] w fun e w' => e = .returned (.bool true) ∧ Below w.heap.size w w' := by
  have hn := i64_of_wf w0
  have hs := i64_of_wf w1
  clear w0 w1
  by_cases h : s < 1
  · have HH := Lib.hid h
    clear h hn hs
    go_enter Try.func6, Try.ntmps6
    go_wp2_with fail
    refine (ceil_no _ _ _ HH.out).mono ?_
    rintro e x1 ⟨rfl, rfl⟩
    go_wp2_with fail
    refine (rceil_no _ _ _ HH.out).mono ?_
    rintro e x1 ⟨rfl, rfl⟩
    go_wp2_with fail
    refine (alive_any _).mono ?_
    rintro e x1 ⟨rfl, hB⟩
    go_wp2_with fail
    go_ret
    exact ⟨rfl, hB⟩
  · have HN := Lib.hid hn
    have HS := Lib.hid hs
    have HH := Lib.hid h
    have hR := Lib.hid (fun W => rceil_any n s W hn hs h)
    have hge := cl_ge n s (by omega)
    have htm := cl_tmod n s (by omega)
    obtain ⟨hn1, hn2⟩ := hn
    obtain ⟨hs1, hs2⟩ := hs
    by_cases hin : cl n s ≤ 9223372036854775807
    · have hC := Lib.hid (fun W => ceil_yes n s W HN.out HS.out h hin)
      have HU : Hid (I64 (cl n s)) := ⟨by omega, hin⟩
      have HSUB := Lib.hid (fun W => sub_any (cl n s) n W HU.out HN.out)
      have hcs : clamp (cl n s - n) = cl n s - n := clamp_in _ ⟨by omega, by omega⟩
      rw [hcs] at HSUB
      unfold RceilPost at hR
      rw [if_pos hin] at hR
      generalize cl n s = U at *
      obtain ⟨hg1, hg2⟩ := hge
      have t1 : (U != U) = false := by simp
      have t2 : decide (n ≤ U) = true := decide_eq_true hg1
      have t3 : decide (U - n < s) = true := decide_eq_true (by omega)
      have t4 : ((U.tmod s) == 0) = true := beq_iff_eq.2 htm
      have t5 : (s == 0) = false := beq_eq_false_iff_ne.2 (by omega)
      clear hcs htm
      go_enter Try.func6, Try.ntmps6
      go_wp2_with fail
      refine (hC.out _).mono ?_
      rintro e x1 ⟨rfl, rfl⟩
      go_wp2_with fail
      refine (hR.out _).mono ?_
      rintro e x1 ⟨rfl, hB1⟩
      go_wp2_with fail
      refine (alive_any _).mono ?_
      rintro e x2 ⟨rfl, hB2⟩
      go_wp2_with fail
      refine (HSUB.out _).mono ?_
      rintro e x3 ⟨rfl, rfl⟩
      go_wp2_with fail
      go_ret
      exact ⟨rfl, bt hB1 hB2⟩
    · have hC := Lib.hid (fun W => ceil_big n s W HN.out HS.out h (by omega))
      unfold RceilPost at hR
      rw [if_neg hin] at hR
      clear htm hge hin
      go_enter Try.func6, Try.ntmps6
      go_wp2_with fail
      refine (hC.out _).mono ?_
      rintro e x1 ⟨rfl, rfl⟩
      go_wp2_with fail
      refine (hR.out _).mono ?_
      rintro e x1 ⟨rfl, hB1⟩
      go_wp2_with fail
      refine (alive_any _).mono ?_
      rintro e x2 ⟨rfl, hB2⟩
      go_wp2_with fail
      go_ret
      exact ⟨rfl, bt hB1 hB2⟩
end Go.Proofs.Ytgldnpjpmojcnaa
