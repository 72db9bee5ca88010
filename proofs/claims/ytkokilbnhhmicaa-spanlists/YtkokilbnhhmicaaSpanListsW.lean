/- The walk of the law SpanLists. -/
import Derived.Test.YtkokilbnhhmicaaBH
namespace Go.Proofs.Ytkokilbnhhmicaa
open Go.RowKit Go.Sort Go.Proofs.Ytkokilbnhhmicaa.Bo
set_option linter.unusedVariables false

set_option maxRecDepth 100000 in
set_option maxHeartbeats 4000000 in
theorem spanLists_walk (a : Option Addr) (len cap : Nat) (l : List S4) (n : Int) (w : World) (h : IsSpans w a len l) (wn : (Lit.int .i64 n).wf = true) :
    Calls Try.prog 6 #[.slice a len cap, .int .i64 n] w fun e w' => e = .returned (.bool true) ∧ Go.RowKit.Below w.heap.size w w' := by
  obtain ⟨rfl, hz, hr⟩ := h
  have hn := i64_of_wf2 wn
  clear wn
  have HAL := Lib.hid salive_any
  have HZ := Lib.hid hz
  have HR := Lib.hid hr
  have HN := Lib.hid hn
  clear hz hr hn
  by_cases h40 : 40 < l.length
  · have t1 : (40 : Int) < (l.length : Int) := by omega
    have t2 : decide ((40 : Int) < (l.length : Int)) = true := decide_eq_true t1
    go_enter Try.func6, Try.ntmps6
    go_wp2_with fail
    refine (HAL.out _).mono ?_
    rintro e y1 ⟨rfl, hB1⟩
    go_wp2_with fail
    go_ret
    exact ⟨rfl, hB1⟩
  · have t2 : decide ((40 : Int) < (l.length : Int)) = false := decide_eq_false (by omega)
    have HLS := Lib.hid (slist_any a cap l w HZ.out HR.out (by omega))
    go_enter Try.func6, Try.ntmps6
    go_wp2_with fail
    refine HLS.out.mono ?_
    rintro e y1 ⟨a1, cap1, ps, ⟨rfl, h1, h2, h3, h4, h5⟩, hB1⟩
    have HNO := Lib.hid h1
    have HCO := Lib.hid h2
    have HKY := Lib.hid h3
    have HS1 := Lib.hid h5
    have HR1 := Lib.hid (HR.out.below hB1)
    have HL1 := Lib.hid hB1
    have hpl : ps.length ≤ 40 := by omega
    clear h1 h2 h3 h5 hB1 HR HLS t2
    go_wp2_with fail
    go_loopw [6, 17] (fun hv i wr => ∃ j : Nat, i = .int .i64 (j : Int) ∧ hv = .bool (((ps.map sp).take j).any fun q => q.has n) ∧ j ≤ ps.length ∧ Go.RowKit.Below y1.heap.size y1 wr) (fun _ i _ => ps.length - (intOf i).toNat)
    case atStart => exact ⟨0, rfl, rfl, Nat.zero_le _, Go.RowKit.Below.refl _ _⟩
    case round =>
      obtain ⟨j, rfl, rfl, hj, hBr⟩ := hrel
      by_cases hlt : j < ps.length
      · have hlt' : j < (ps.map sp).length := by rw [List.length_map]; exact hlt
        obtain ⟨b, off, rfl, hc⟩ := (HS1.out.below hBr) (by omega)
        obtain ⟨c1, c2, c3, c4⟩ := hc j hlt'
        have HH := Lib.hid (fun W => shas_any (ps.map sp)[j] n W (map_ok ps HKY.out _ (List.getElem_mem hlt')) HN.out)
        have HTK : Hid (((ps.map sp).take (j + 1)).any (fun q => q.has n) = (((ps.map sp).take j).any (fun q => q.has n) || (ps.map sp)[j].has n)) := by
          show _ = _
          rw [List.take_succ_eq_append_getElem hlt', List.any_append]
          simp
        have ti0 : (0 : Int) ≤ (j : Int) := by omega
        have ti1 : (j : Int) < (ps.length : Int) := by omega
        clear hc
        obtain ⟨A2, hA2⟩ : ∃ A2, ((ps.map sp).take (j + 1)).any (fun q => q.has n) = A2 := ⟨_, rfl⟩
        rw [hA2] at HTK
        have HA2 := Lib.hid hA2
        clear hA2
        generalize ((ps.map sp).take j).any (fun q => q.has n) = A1 at *
        generalize (ps.map sp)[j].has n = H at *
        generalize (ps.map sp)[j] = q at *
        have hBx := bt hBr (below_new wr (.cells #[.int .i64 q.ls, .int .i64 q.la, .int .i64 q.hs, .int .i64 q.ha] 25))
        cases A1 with
        | true =>
          have HT : Hid (Value.bool true = .bool A2) := by rw [HTK.out]; rfl
          go_wp2_with fail
          go_roundw
          case rel => exact ⟨j + 1, by go_num, by rw [HA2.out]; exact HT.out, by omega, hBx⟩
          case measure => simp [intOf]; omega
        | false =>
          have HT : Hid (Value.bool H = .bool A2) := by rw [HTK.out]; rfl
          go_wp2_with fail
          refine (HH.out _).mono ?_
          rintro e y2 ⟨rfl, hB2⟩
          have hB3 := bt hBx hB2
          clear c1 c2 c3 c4
          go_wp2_with fail
          go_roundw
          case rel => exact ⟨j + 1, by go_num, by rw [HA2.out]; exact HT.out, by omega, hB3⟩
          case measure => simp [intOf]; omega
      · obtain rfl : j = ps.length := by omega
        obtain ⟨HV, hHV⟩ : ∃ HV, l.any (fun q => q.has n) = HV := ⟨_, rfl⟩
        have HEQ : Hid (((ps.map sp).take ps.length).any (fun q => q.has n) = HV) := by
          show _ = _
          rw [show ps.length = (ps.map sp).length from (List.length_map ..).symm, List.take_length, ← hHV, Bool.eq_iff_iff, has_cov, has_cov, map_rights ps HNO.out HKY.out]
          exact HCO.out n
        rw [HEQ.out]
        obtain ⟨D, hD⟩ : ∃ D : Bool, D = true ↔ sortedL l := by classical exact ⟨decide (sortedL l), by simp⟩
        have HRL := Lib.hid (fun W (hW : SRow W a l) => rlist_eq a cap l ps W HNO.out HCO.out HZ.out hW (by omega))
        have HSA := Lib.hid (fun a a2 cap cap2 W (h1 : SRow W a (ps.map sp)) (h2 : SRow W a2 (ps.map sp)) => same_ps a a2 cap cap2 ps W h1 h2 (by omega))
        have HSO := Lib.hid (fun W (hW : SRow W a l) => ssorted_any a cap l D hD W HZ.out hW (by omega))
        have HRS := Lib.hid (fun W (hW : SRow W a l) => rsorted_any a cap l D hD W HZ.out hW (by omega))
        have HSM := Lib.hid (fun W (hW : SRow W a1 (ps.map sp)) => ssorted_ps a1 cap1 ps W HNO.out HKY.out hW (by omega))
        have HLM := Lib.hid (fun W (hW : SRow W a1 (ps.map sp)) => slist_ps a1 cap1 ps W HNO.out HKY.out hW (by omega))
        have HAN := Lib.hid (fun W (hW : SRow W a l) => rany_any a cap l n W HZ.out HN.out hW (by omega))
        rw [hHV] at HAN
        have HS2 := Lib.hid (HS1.out.below hBr)
        have HR2 := Lib.hid (HR1.out.below hBr)
        have HL2 := Lib.hid (bt HL1.out hBr)
        have t3 : (D == D) = true := beq_self_eq_true _
        have t4 : (HV == HV) = true := beq_self_eq_true _
        clear hD hHV HEQ hBr HS1 HR1 HL1 HNO HCO HKY HZ HN
        go_wp2_with fail
        refine (HAL.out _).mono ?_
        rintro e y3 ⟨rfl, hB3⟩
        have HS3 := Lib.hid (HS2.out.below hB3)
        have HR3 := Lib.hid (HR2.out.below hB3)
        have HL3 := Lib.hid (bt HL2.out hB3)
        clear hB3 HS2 HR2 HL2
        go_wp2_with fail
        refine (HRL.out _ HR3.out).mono ?_
        rintro e y4 ⟨a4, cap4, ⟨rfl, hs4⟩, hB4⟩
        have HS4 := Lib.hid (HS3.out.below hB4)
        have HR4 := Lib.hid (HR3.out.below hB4)
        have HL4 := Lib.hid (bt HL3.out hB4)
        have HQ4 := Lib.hid hs4
        clear hB4 HS3 HR3 HL3 hs4
        go_wp2_with fail
        refine (HSA.out _ _ _ _ _ HS4.out HQ4.out).mono ?_
        rintro e y5 ⟨rfl, hB5⟩
        have HS5 := Lib.hid (HS4.out.below hB5)
        have HR5 := Lib.hid (HR4.out.below hB5)
        have HL5 := Lib.hid (bt HL4.out hB5)
        clear hB5 HS4 HR4 HL4 HQ4
        go_wp2_with fail
        refine (HSO.out _ HR5.out).mono ?_
        rintro e y6 ⟨rfl, hB6⟩
        have HS6 := Lib.hid (HS5.out.below hB6)
        have HR6 := Lib.hid (HR5.out.below hB6)
        have HL6 := Lib.hid (bt HL5.out hB6)
        clear hB6 HS5 HR5 HL5
        go_wp2_with fail
        refine (HRS.out _ HR6.out).mono ?_
        rintro e y7 ⟨rfl, hB7⟩
        have HS7 := Lib.hid (HS6.out.below hB7)
        have HR7 := Lib.hid (HR6.out.below hB7)
        have HL7 := Lib.hid (bt HL6.out hB7)
        clear hB7 HS6 HR6 HL6
        go_wp2_with fail
        refine (HSM.out _ HS7.out).mono ?_
        rintro e y8 ⟨rfl, hB8⟩
        have HS8 := Lib.hid (HS7.out.below hB8)
        have HR8 := Lib.hid (HR7.out.below hB8)
        have HL8 := Lib.hid (bt HL7.out hB8)
        clear hB8 HS7 HR7 HL7
        go_wp2_with fail
        refine (HLM.out _ HS8.out).mono ?_
        rintro e y9 ⟨a9, cap9, ⟨rfl, hs9⟩, hB9⟩
        have HS9 := Lib.hid (HS8.out.below hB9)
        have HR9 := Lib.hid (HR8.out.below hB9)
        have HL9 := Lib.hid (bt HL8.out hB9)
        have HQ9 := Lib.hid hs9
        clear hB9 HS8 HR8 HL8 hs9
        go_wp2_with fail
        refine (HSA.out _ _ _ _ _ HQ9.out HS9.out).mono ?_
        rintro e y10 ⟨rfl, hB10⟩
        have HR10 := Lib.hid (HR9.out.below hB10)
        have HL10 := Lib.hid (bt HL9.out hB10)
        clear hB10 HS9 HR9 HL9 HQ9
        go_wp2_with fail
        refine (HAN.out _ HR10.out).mono ?_
        rintro e y11 ⟨rfl, hB11⟩
        have HL11 := Lib.hid (bt HL10.out hB11)
        clear hB11 HR10 HL10
        go_wp2_with fail
        go_ret
        exact ⟨rfl, HL11.out⟩
end Go.Proofs.Ytkokilbnhhmicaa
