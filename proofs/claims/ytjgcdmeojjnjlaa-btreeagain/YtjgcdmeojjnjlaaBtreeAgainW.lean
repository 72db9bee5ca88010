/- The walk of the law BtreeAgain. -/
import Derived.Test.YtjgcdmeojjnjlaaCQ
namespace Go.Proofs.Ytjgcdmeojjnjlaa
open Go.RowKit Go.Sort Go.Proofs.Ytjgcdmeojjnjlaa.Bo Go.Proofs.Ytjgcdmeojjnjlaa.Bb
set_option linter.unusedVariables false
set_option maxRecDepth 100000

set_option maxHeartbeats 8000000 in
theorem btreeAgain_walk (dg room : Int) (a : Option Addr) (len cap : Nat) (z : List O6) (a2 : Option Addr) (len2 cap2 : Nat) (z2 : List O6) (w : World) (h : IsOps6 w a len z) (h2 : IsOps6 w a2 len2 z2) :
    Calls Try.prog 8 #[seV dg room, .slice a len cap, .slice a2 len2 cap2] w fun e w' => e = .returned (.bool true) ∧ Go.RowKit.Below w.heap.size w w' := by
  have mx := mixed
  have HAL := Lib.hid balive_any
  have HSE : Hid ((w.alloc (seO dg room)).heap[w.heap.size]? = some (seO dg room)) := heap_alloc_new w _
  have HB0 : Hid (Go.RowKit.Below w.heap.size w (w.alloc (seO dg room))) := below_new w (seO dg room)
  obtain ⟨se1, se2⟩ := seO_cells HSE.out
  by_cases hgood : ¬ (((2 ≤ dg ∧ dg ≤ 64) ∧ 0 ≤ room ∧ room ≤ 4096) ∧ len ≤ 200)
  · have HM : Hid (∀ W, Calls Try.prog 22 #[seV dg room, .slice a len cap] W fun e w' => e = .returned (.tuple #[.pointer none, .slice none 0 0, .bool false]) ∧ Go.RowKit.Below W.heap.size W w') := fun W => by
      by_cases h1 : (2 ≤ dg ∧ dg ≤ 64) ∧ 0 ≤ room ∧ room ≤ 4096
      · obtain ⟨d, rfl⟩ : ∃ d : Nat, dg = (d : Int) := ⟨dg.toNat, by omega⟩
        exact bmade_long d room a len cap W ⟨by omega, by omega⟩ h1.2 (by omega)
      · exact bmade_no dg room a len cap W h1
    clear hgood h h2
    go_enter Try.func8, Try.ntmps8
    go_wp2_with fail
    refine (HM.out _).mono ?_
    rintro e y0 ⟨rfl, hb⟩
    have HY := Lib.hid (bt HB0.out hb)
    clear hb se1 se2
    go_wp2_with fail
    refine (HAL.out _).mono ?_
    rintro e y1 ⟨rfl, hB1⟩
    go_wp2_with fail
    go_ret
    exact ⟨rfl, bt HY.out hB1⟩
  have hgood := Classical.not_not.1 hgood
  obtain ⟨d, rfl⟩ : ∃ d : Nat, dg = (d : Int) := ⟨dg.toNat, by omega⟩
  have HM := Lib.hid (bmade_any d room a len cap z (w.alloc (seO (d : Int) room)) ⟨h.1, h.2.1, h.2.2.below HB0.out⟩ ⟨by omega, by omega⟩ hgood.1.2 hgood.2)
  clear hgood h
  generalize gRunB room z = L0 at *
  obtain ⟨rfl, hz, hr⟩ := h2
  have HZ := Lib.hid hz
  have HR := Lib.hid hr
  clear hz hr
  by_cases h3 : 200 < z2.length
  · have t2 : decide ((200 : Int) < (z2.length : Int)) = true := decide_eq_true (by omega)
    have t3 : decide (200 < z2.length) = true := decide_eq_true (by omega)
    go_enter Try.func8, Try.ntmps8
    go_wp2_with fail
    refine HM.out.mono ?_
    rintro e y0 ⟨T, A, la, lc, rfl, hm⟩
    have HY := Lib.hid (bt HB0.out hm.be)
    clear hm se1 se2
    go_wp2_with fail
    refine (HAL.out _).mono ?_
    rintro e y1 ⟨rfl, hB1⟩
    go_wp2_with fail
    go_ret
    exact ⟨rfl, bt HY.out hB1⟩
  have t2 : decide ((200 : Int) < (z2.length : Int)) = false := decide_eq_false (by omega)
  have t3 : decide (200 < z2.length) = false := decide_eq_false (by omega)
  go_enter Try.func8, Try.ntmps8
  go_wp2_with fail
  refine HM.out.mono ?_
  rintro e y0 ⟨T, A, la, lc, rfl, hm⟩
  have HS0 := Lib.hid (box_on HSE.out hm.be)
  have HMD := Lib.hid (hm.low (K' := fun b => b = w.heap.size) (fun b hb => .inr (by subst hb; exact lt_of_block HSE.out)))
  have HCL := Lib.hid (HMD.out.call (fun B hB => hB.clear))
  clear hm se1 se2 HSE HM
  generalize w.alloc (seO (d : Int) room) = w0 at *
  go_wp2_with fail
  refine HCL.out.mono ?_
  rintro e y1 ⟨rfl, hm1, hk1⟩
  have HS1 := Lib.hid ((hk1 _ rfl).trans HS0.out)
  have HM1 := Lib.hid (hm1.turn (N := []) (a' := none) (cap' := 0) (grow_nil _ _) (Nat.le_refl _) (.inr (fun b off hp => absurd hp (by simp))) (Go.RowKit.Below.refl _ _))
  clear hm1 hk1 HCL HMD HS0
  have HLN := Lib.hid HM1.out.tk.len
  go_wp2_with fail
  refine HLN.out.mono ?_
  rintro e y2 ⟨rfl, hb⟩
  have HM2 := Lib.hid (HM1.out.on hb)
  have HS2 := Lib.hid (box_on HS1.out hb)
  clear hb HLN HM1 HS1
  obtain ⟨N, hN0, hN1, _⟩ := HM2.out.tk.high
  obtain rfl := hN0 rfl
  have HHT := Lib.hid hN1
  clear hN1
  go_wp2_with fail
  refine HHT.out.mono ?_
  rintro e y3 ⟨rfl, hb⟩
  have HM3 := Lib.hid (HM2.out.on hb)
  have HS3 := Lib.hid (box_on HS2.out hb)
  clear hb HHT HM2 HS2
  have HCK := Lib.hid HM3.out.tk.check
  go_wp2_with fail
  refine HCK.out.mono ?_
  rintro e y4 ⟨rfl, hb⟩
  have HT0 := Lib.hid (HM3.out.on hb)
  have HS0 := Lib.hid (box_on HS3.out hb)
  clear hb HCK HM3 HS3 t2 t3
  go_wp2_with fail
  go_loopw [10, 50] (fun l k wr => ∃ (j : Nat) (L : List G5) (la : Option Addr) (lc : Nat), k = .int .i64 (j : Int) ∧ j ≤ z2.length ∧ L.length ≤ j ∧ l = .slice la L.length lc ∧ MdB w0 T A d room L L la lc (fun b => b = w.heap.size) wr ∧ wr.heap[w.heap.size]? = some (seO (d : Int) room)) (fun _ k _ => z2.length - (intOf k).toNat)
  case atStart => exact ⟨0, [], none, 0, rfl, Nat.zero_le _, Nat.le_refl _, rfl, HT0.out, HS0.out⟩
  case round =>
    clear HT0 HS0
    obtain ⟨j, L, la, lc, rfl, hj, HLN, rfl, ht, hs⟩ := hrel
    have HT := Lib.hid ht
    have HS := Lib.hid hs
    by_cases hlt : j < z2.length
    · obtain ⟨b, off, rfl, hc⟩ := (HR.out.below (bt HB0.out ht.be)) (by omega)
      obtain ⟨c1, c2, c3, c4, c5, c6⟩ := hc j hlt
      have HOK := Lib.hid (HZ.out _ (List.getElem_mem hlt))
      have ti0 : (0 : Int) ≤ (j : Int) := by omega
      have ti1 : (j : Int) < (z2.length : Int) := by omega
      clear hc ht hs
      generalize z2[j] = o at *
      have HT1 := Lib.hid (HT.out.on (below_new wr (oOb o.k o.s)))
      have HS1 := Lib.hid (box_on HS.out (below_new wr (oOb o.k o.s)))
      have HDO := Lib.hid (HT1.out.doG o.k o.s HOK.out.2 (by omega))
      have hbo := heap_alloc_new wr (oOb o.k o.s)
      obtain ⟨d0, d1, d2, d3, d4, d5⟩ := ob_cells hbo
      obtain ⟨s0, s1⟩ := seO_cells HS1.out
      have HBO := Lib.hid hbo
      clear hbo
      have HTG : Hid (∀ (a2 : Option Addr) (cap2 : Nat) W, MdB w0 T A d room L (doG L room o.k o.s).1 a2 cap2 (fun b => b = w.heap.size) W → Calls Try.prog 15 #[aP T, vOb o.k o.s] W fun e w' => e = .returned (.tuple #[.bool (doG L room o.k o.s).2.1, .int .i64 (doG L room o.k o.s).2.2]) ∧ MdB w0 T A d room (doG L room o.k o.s).1 (doG L room o.k o.s).1 a2 cap2 (fun b => b = w.heap.size) w' ∧ ∀ b, b = w.heap.size → w'.heap[b]? = W.heap[b]?) := fun a2 cap2 W h => h.does HOK.out.2
      have HL2 := doG_len L room o.k o.s
      generalize (doG L room o.k o.s).1 = L2 at *
      generalize (doG L room o.k o.s).2.1 = rb at *
      generalize (doG L room o.k o.s).2.2 = re at *
      have nrb : (rb != rb) = false := bne_self_eq_false rb
      have nre : (re != re) = false := bne_self_eq_false re
      go_wp2_with fail
      refine HDO.out.mono ?_
      rintro e y1 ⟨la2, lc2, rfl, hmid, hb⟩
      have HMI := Lib.hid hmid
      replace HBO := Lib.hid (box_on HBO.out hb)
      have HS2 := Lib.hid (box_on HS1.out hb)
      clear d0 d1 d2 d3 d4 d5 c1 c2 c3 c4 c5 c6 s0 s1 HDO hmid hb HT1 HS1
      obtain ⟨d0, d1, d2, d3, d4, d5⟩ := ob_cells HBO.out
      go_wp2_with fail
      refine (HTG.out la2 lc2 _ HMI.out).mono ?_
      rintro e y2 ⟨rfl, hm2, hk2⟩
      have HM2 := Lib.hid hm2
      have HS3 := Lib.hid ((hk2 _ rfl).trans HS2.out)
      clear hm2 hk2 d0 d1 d2 d3 d4 d5 HTG HMI HBO HS2
      have HCK := Lib.hid HM2.out.tk.check
      go_wp2_with fail
      refine HCK.out.mono ?_
      rintro e y3 ⟨rfl, hb⟩
      have HM3 := Lib.hid (HM2.out.on hb)
      have HS4 := Lib.hid (box_on HS3.out hb)
      clear hb HCK HM2 HS3
      go_wp2_with fail
      go_roundw
      case rel => exact ⟨j + 1, L2, la2, lc2, by go_num, by omega, by omega, rfl, HM3.out, HS4.out⟩
      case measure => simp [intOf]; omega
    · obtain rfl : j = z2.length := by omega
      clear ht hs
      go_wp2_with fail
      refine (HAL.out _).mono ?_
      rintro e y1 ⟨rfl, hB1⟩
      have HT1 := Lib.hid (HT.out.on hB1)
      have HAA := Lib.hid HT1.out.tk.all
      clear hB1 HT HS
      go_wp2_with fail
      refine HAA.out.mono ?_
      rintro e y3 ⟨a3, c3, ⟨rfl, hg3, hc3⟩, hb⟩
      have HM3 := Lib.hid (HT1.out.on hb)
      have HSM := Lib.hid (rsameG_any a3 la c3 lc L y3 hg3 HM3.out.row (by omega))
      clear hg3 hb HAA HT1
      go_wp2_with fail
      refine HSM.out.mono ?_
      rintro e y4 ⟨rfl, hb⟩
      have HM4 := Lib.hid (HM3.out.on hb)
      clear hb HSM HM3
      go_wp2_with fail
      go_ret
      exact ⟨rfl, bt HB0.out HM4.out.be⟩
end Go.Proofs.Ytjgcdmeojjnjlaa
