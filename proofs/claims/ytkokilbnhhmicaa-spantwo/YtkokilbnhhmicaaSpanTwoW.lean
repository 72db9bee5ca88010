/- The walk of the law SpanTwo. -/
import Derived.Test.YtkokilbnhhmicaaSpanTwoB
import Derived.Test.YtkokilbnhhmicaaSpanTwoC
import Derived.Test.YtkokilbnhhmicaaSpanTwoD
import Derived.Test.YtkokilbnhhmicaaSpanTwoE
import Derived.Test.YtkokilbnhhmicaaSpanTwoF
import Derived.Test.YtkokilbnhhmicaaSpanTwoG
namespace Go.Proofs.Ytkokilbnhhmicaa
open Go.RowKit Go.Sort Go.Proofs.Ytkokilbnhhmicaa.Bo
set_option linter.unusedVariables false

theorem spanTwo_walk (q r : S4) (hq : q.ok) (hr : r.ok) (w : World) : Calls Try.prog 3 #[vS q, vS r] w fun e w' => e = .returned (.bool true) ∧ Go.RowKit.Below w.heap.size w w' := by
  have HON1 := Lib.hid (fun W => one_any q W)
  have HON2 := Lib.hid (fun W => one_any r W)
  have HM := Lib.hid (fun W => smeet_any q r W hq hr)
  have HR1 := Lib.hid (fun W => rright_any q W hq)
  have HR2 := Lib.hid (fun W => rright_any r W hr)
  have HOV : Hid (∀ W, Calls Try.prog 13 #[.agg #[.int .i64 q.ls, .int .i64 q.la, .int .i64 q.hs, .int .i64 q.ha], .agg #[.int .i64 r.ls, .int .i64 r.la, .int .i64 r.hs, .int .i64 r.ha]] W fun e w' => e = .returned (.bool (lapB q r)) ∧ Go.RowKit.Below W.heap.size W w') := fun W => soverlap_any q r W hq hr
  have HHO := Lib.hid (fun W => sholds_any q r W hq hr)
  have HTO := Lib.hid (fun W => stouch_any q r W hq hr)
  have HHU := Lib.hid (fun W => shull_any q r W hq hr)
  have HMI := Lib.hid (fun W => sminus_any q r W hq hr)
  by_cases h1 : q.right = true
  · by_cases h2 : r.right = true
    · have l1 := (sp_of_right q h1).2
      have l2 := (sp_of_right r h2).2
      have hm : minusF q r = minusL q r := by unfold minusF; rw [h1, h2]; rfl
      have hu : hullS q r = sp (klow q.lo r.lo, khigh q.hi r.hi) := by unfold hullS; rw [h1, h2]; rfl
      have HMN := Lib.hid (fun a am W h h' => rminus_two q r a am W hq hr h1 h2 h h')
      have HML := Lib.hid (fun a am W h h' => rminus_len r q _ a am W hr hq h2 h1 rfl h h')
      have HLO := Lib.hid (fun W => rlow_any q.ls q.la r.ls r.la W hq.1 hr.1)
      have HHI := Lib.hid (fun W => rhigh_any q.hs q.ha r.hs r.ha W hq.2 hr.2)
      have hpl := minusL_len q r
      rw [h1] at HR1
      rw [h2] at HR2
      rw [hm] at HMI
      rw [hu] at HHU
      have eH : (q.right && r.right && decide (q.lo ≤ r.lo) && decide (r.hi ≤ q.hi)) = (decide (q.lo ≤ r.lo) && decide (r.hi ≤ q.hi)) := by rw [h1, h2]; rfl
      have eT : (q.right && r.right && (decide (q.hi = r.lo) || decide (r.hi = q.lo))) = (decide (q.hi = r.lo) || decide (r.hi = q.lo)) := by rw [h1, h2]; rfl
      rw [eH] at HHO
      rw [eT] at HTO
      obtain ⟨Ho, hHo⟩ : ∃ Ho, (decide (q.lo ≤ r.lo) && decide (r.hi ≤ q.hi)) = Ho := ⟨_, rfl⟩
      obtain ⟨To, hTo⟩ : ∃ To, (decide (q.hi = r.lo) || decide (r.hi = q.lo)) = To := ⟨_, rfl⟩
      rw [hHo] at HHO HML
      rw [hTo] at HTO
      by_cases hD : lapB q r = true
      · have HME := Lib.hid (fun a am W h h' => rmeet_yes q r hD a am W hq hr h h')
        have l3 := lap_lt q r h1 h2 hD
        rw [hD] at HM HOV
        obtain rfl : To = false := by rw [← hTo]; simp; omega
        cases Ho with
        | true => exact spanTwo_v3 q r (meetS q r) (sp (klow q.lo r.lo, khigh q.hi r.hi)) (minusL q r) w HON1 HON2 HME HM HR1 HR2 HOV HHO HTO HHU HMI HMN HML HLO HHI hpl
        | false => exact spanTwo_v4 q r (meetS q r) (sp (klow q.lo r.lo, khigh q.hi r.hi)) (minusL q r) w HON1 HON2 HME HM HR1 HR2 HOV HHO HTO HHU HMI HMN HML HLO HHI hpl
      · have hD : lapB q r = false := by simpa using hD
        have HME := Lib.hid (fun a am W h h' => rmeet_no q r hD a am W hq hr h h')
        have HLI := Lib.hid (fun a W h => rlist_two q r _ a W hq hr h1 h2 hD hTo.symm h)
        have hZ : meetS q r = z4 := by unfold meetS; rw [if_neg (by rw [hD]; decide)]
        rw [hD] at HM HOV
        obtain rfl : Ho = false := by
          rw [lap_iff q r h1 h2] at hD
          simp at hD
          rw [← hHo]
          by_cases a : q.lo ≤ r.lo <;> by_cases b : r.hi ≤ q.hi <;> simp [a, b]
          omega
        cases To with
        | true => exact spanTwo_v5 q r (meetS q r) (sp (klow q.lo r.lo, khigh q.hi r.hi)) (minusL q r) w HON1 HON2 HME HM HR1 HR2 HOV HHO HTO HHU HMI HMN HML HLO HHI HLI hZ hpl
        | false => exact spanTwo_v6 q r (meetS q r) (sp (klow q.lo r.lo, khigh q.hi r.hi)) (minusL q r) w HON1 HON2 HME HM HR1 HR2 HOV HHO HTO HHU HMI HMN HML HLO HHI HLI hZ hpl
    · have h2 : r.right = false := by simpa using h2
      have hR : (q.right && r.right) = false := by rw [h1, h2]; rfl
      have hD : lapB q r = false := by unfold lapB; rw [hR]; rfl
      have HME := Lib.hid (fun a am W h h' => rmeet_no q r hD a am W hq hr h h')
      have hZ : meetS q r = z4 := by unfold meetS; rw [if_neg (by rw [hD]; decide)]
      have hU : hullS q r = z4 := by unfold hullS; rw [if_neg (by rw [hR]; decide)]
      have hps : minusF q r = [] := by unfold minusF; rw [if_neg (by rw [hR]; decide)]
      rw [hD] at HM HOV
      rw [hR] at HHO HTO
      rw [h1] at HR1
      rw [h2] at HR2
      exact spanTwo_v2 q r (meetS q r) (hullS q r) (minusF q r) w HON1 HON2 HME HM HR1 HR2 HOV HHO HTO HHU HMI hU hps hZ (by rw [hps]; simp)
  · have h1 : q.right = false := by simpa using h1
    have hR : (q.right && r.right) = false := by rw [h1]; rfl
    have hD : lapB q r = false := by unfold lapB; rw [hR]; rfl
    have HME := Lib.hid (fun a am W h h' => rmeet_no q r hD a am W hq hr h h')
    have hZ : meetS q r = z4 := by unfold meetS; rw [if_neg (by rw [hD]; decide)]
    have hU : hullS q r = z4 := by unfold hullS; rw [if_neg (by rw [hR]; decide)]
    have hps : minusF q r = [] := by unfold minusF; rw [if_neg (by rw [hR]; decide)]
    rw [hD] at HM HOV
    rw [hR] at HHO HTO
    rw [h1] at HR1
    exact spanTwo_v1 q r (meetS q r) (hullS q r) (minusF q r) w HON1 HON2 HME HM HR1 HR2 HOV HHO HTO HHU HMI hU hps hZ (by rw [hps]; simp)
end Go.Proofs.Ytkokilbnhhmicaa
