/- The walk of the law RbtreeCopies. -/
import Derived.Test.YtakkmnhiaddnnaaCQ
namespace Go.Proofs.Ytakkmnhiaddnnaa
open Go.RowKit Go.Sort Go.Proofs.Ytakkmnhiaddnnaa.Bo
set_option linter.unusedVariables false
set_option maxRecDepth 100000

set_option maxHeartbeats 8000000 in
theorem rbtreeCopies_walk (room : Int) (a : Option Addr) (len cap : Nat) (z : List O6) (a1 : Option Addr) (len1 cap1 : Nat) (z1 : List O6) (w0 : World) (wr0 : (Lit.int .i64 room).wf = true) (h : IsOps6 w0 a len z) (h1 : IsOps6 w0 a1 len1 z1) :
    Calls Try.prog 7 #[.int .i64 room, .slice a len cap, .slice a1 len1 cap1] w0 fun e w' => e = .returned (.bool true) ∧ Go.RowKit.Below w0.heap.size w0 w' := by
  have mx := mixed
  clear wr0
  have HAL := Lib.hid ralive_any
  by_cases hgood : ¬ ((0 ≤ room ∧ room ≤ 4096) ∧ len ≤ 200)
  · have HM : Hid (∀ W, Calls Try.prog 18 #[.int .i64 room, .slice a len cap] W fun e w' => e = .returned (.tuple #[.pointer none, .slice none 0 0, .bool false]) ∧ Go.RowKit.Below W.heap.size W w') := fun W => by
      by_cases h1 : 0 ≤ room ∧ room ≤ 4096
      · exact rmade_long room a len cap W h1 (by omega)
      · exact rmade_no room a len cap W h1
    clear hgood h h1
    go_enter Try.func7, Try.ntmps7
    go_wp2_with fail
    refine (HM.out _).mono ?_
    rintro e y0 ⟨rfl, hb⟩
    have HY := Lib.hid hb
    clear hb
    go_wp2_with fail
    refine (HAL.out _).mono ?_
    rintro e y1 ⟨rfl, hB1⟩
    go_wp2_with fail
    go_ret
    exact ⟨rfl, bt HY.out hB1⟩
  have hgood := Classical.not_not.1 hgood
  have HM := Lib.hid (rmade_any room a len cap z w0 h hgood.1 hgood.2)
  have hzl : (gRun room z).length ≤ 200 := by
    have := gRun_len room z z.length (Nat.le_refl _)
    rw [List.take_length] at this
    have := h.1
    omega
  obtain ⟨rfl, hz, hr⟩ := h1
  have HZ := Lib.hid hz
  have HR := Lib.hid hr
  clear hgood h hz hr
  generalize gRun room z = L0 at *
  by_cases h3 : 200 < z1.length
  · have t2 : decide ((200 : Int) < (z1.length : Int)) = true := decide_eq_true (by omega)
    have t3 : decide (200 < z1.length) = true := decide_eq_true (by omega)
    go_enter Try.func7, Try.ntmps7
    go_wp2_with fail
    refine HM.out.mono ?_
    rintro e y0 ⟨T0, A0, la0, lc0, rfl, hm⟩
    have HY := Lib.hid hm.be
    clear hm
    go_wp2_with fail
    refine (HAL.out _).mono ?_
    rintro e y1 ⟨rfl, hB1⟩
    go_wp2_with fail
    go_ret
    exact ⟨rfl, bt HY.out hB1⟩
  have t2 : decide ((200 : Int) < (z1.length : Int)) = false := decide_eq_false (by omega)
  have t3 : decide (200 < z1.length) = false := decide_eq_false (by omega)
  go_enter Try.func7, Try.ntmps7
  go_wp2_with fail
  refine HM.out.mono ?_
  rintro e w ⟨T0, A0, la0, lc0, rfl, hm⟩
  have HM0 := Lib.hid hm
  have HCP := Lib.hid hm.copy
  clear hm HM
  go_wp2_with fail
  refine HCP.out.mono ?_
  rintro e y0 ⟨T, A, rfl, ht⟩
  have HT0 := Lib.hid ht
  have HAA := Lib.hid ht.all
  clear ht HCP t2 t3
  go_wp2_with fail
  refine HAA.out.mono ?_
  rintro e y3 ⟨a3, c3, ⟨rfl, hg3, hc3⟩, hb⟩
  replace HT0 := Lib.hid (MadeAt.bc _ _ HT0.out hb)
  have HSM := Lib.hid (rsameG_any a3 la0 c3 lc0 L0 y3 hg3 HT0.out.row (by omega))
  clear hg3 hb HAA
  go_wp2_with fail
  refine HSM.out.mono ?_
  rintro e y4 ⟨rfl, hb⟩
  replace HT0 := Lib.hid (MadeAt.bc _ _ HT0.out hb)
  clear hb HSM
  replace HR := Lib.hid (HR.out.below HM0.out.be)
  go_wp2_with fail
  go_loopw [11, 48] (fun l k wr => ∃ (j : Nat) (L : List G5) (la : Option Addr) (lc : Nat), k = .int .i64 (j : Int) ∧ j ≤ z1.length ∧ L.length ≤ 200 + j ∧ l = .slice la L.length lc ∧ MadeAt w T A room L la lc wr) (fun _ k _ => z1.length - (intOf k).toNat)
  case atStart => exact ⟨0, L0, la0, lc0, rfl, Nat.zero_le _, by omega, rfl, HT0.out⟩
  case round =>
    clear HT0
    obtain ⟨j, L, la, lc, rfl, hj, HLN, rfl, ht⟩ := hrel
    have HT := Lib.hid ht
    by_cases hlt : j < z1.length
    · obtain ⟨b, off, rfl, hc⟩ := (HR.out.below ht.be) (by omega)
      obtain ⟨c1, c2, c3, c4, c5, c6⟩ := hc j hlt
      have HOK := Lib.hid (HZ.out _ (List.getElem_mem hlt))
      have ti0 : (0 : Int) ≤ (j : Int) := by omega
      have ti1 : (j : Int) < (z1.length : Int) := by omega
      clear hc ht
      generalize z1[j] = o at *
      have HDO := Lib.hid ((MadeAt.bc _ _ HT.out (below_new wr (oOp o.k o.s))).doG o.k o.s HOK.out.2 (by omega))
      have hbo := heap_alloc_new wr (oOp o.k o.s)
      obtain ⟨d0, d1, d2, d3, d4, d5⟩ := op6_cells hbo
      have HBO := Lib.hid hbo
      clear hbo
      have HTG : Hid (∀ (a2 : Option Addr) (cap2 : Nat) W, MidAt w T A room L (doG L room o.k o.s).1 a2 cap2 W → Calls Try.prog 14 #[aP T, vOp o.k o.s] W fun e w' => e = .returned (.tuple #[.bool (doG L room o.k o.s).2.1, .int .i64 (doG L room o.k o.s).2.2]) ∧ MadeAt w T A room (doG L room o.k o.s).1 a2 cap2 w' ∧ Oth W w') := fun a2 cap2 W h => h.does HOK.out.2
      have HL2 := doG_len L room o.k o.s
      generalize (doG L room o.k o.s).1 = L2 at *
      generalize (doG L room o.k o.s).2.1 = rb at *
      generalize (doG L room o.k o.s).2.2 = re at *
      have nrb : (rb != rb) = false := bne_self_eq_false rb
      have nre : (re != re) = false := bne_self_eq_false re
      go_wp2_with fail
      refine HDO.out.mono ?_
      rintro e y1 ⟨la2, lc2, rfl, hmid, hb⟩
      have HMI := Lib.hid hmid
      replace HBO := Lib.hid (box_on HBO.out hb)
      clear d0 d1 d2 d3 d4 d5 c1 c2 c3 c4 c5 c6 HDO hmid hb
      obtain ⟨d0, d1, d2, d3, d4, d5⟩ := op6_cells HBO.out
      go_wp2_with fail
      refine (HTG.out la2 lc2 _ HMI.out).mono ?_
      rintro e y2 ⟨rfl, hm2, _⟩
      have HM2 := Lib.hid hm2
      clear hm2 d0 d1 d2 d3 d4 d5 HTG HMI HBO
      go_wp2_with fail
      go_roundw
      case rel => exact ⟨j + 1, L2, la2, lc2, by go_num, by omega, by omega, rfl, HM2.out⟩
      case measure => simp [intOf]; omega
    · obtain rfl : j = z1.length := by omega
      have HM1 := Lib.hid (MadeAt.bc _ _ HM0.out HT.out.be)
      clear ht HM0
      go_wp2_with fail
      refine (HAL.out _).mono ?_
      rintro e x1 ⟨rfl, hb⟩
      replace HT := Lib.hid (MadeAt.bc _ _ HT.out hb)
      replace HM1 := Lib.hid (MadeAt.bc _ _ HM1.out hb)
      have HAA := Lib.hid HM1.out.all
      clear hb HAL
      go_wp2_with fail
      refine HAA.out.mono ?_
      rintro e x2 ⟨a3, c3, ⟨rfl, hg3, hc3⟩, hb⟩
      replace HT := Lib.hid (MadeAt.bc _ _ HT.out hb)
      replace HM1 := Lib.hid (MadeAt.bc _ _ HM1.out hb)
      have HSM := Lib.hid (rsameG_any a3 la0 c3 lc0 L0 x2 hg3 HM1.out.row (by omega))
      clear hg3 hb HAA
      go_wp2_with fail
      refine HSM.out.mono ?_
      rintro e x3 ⟨rfl, hb⟩
      replace HT := Lib.hid (MadeAt.bc _ _ HT.out hb)
      replace HM1 := Lib.hid (MadeAt.bc _ _ HM1.out hb)
      have HAA := Lib.hid HT.out.all
      clear hb HSM
      go_wp2_with fail
      refine HAA.out.mono ?_
      rintro e x4 ⟨a4, c4, ⟨rfl, hg4, hc4⟩, hb⟩
      replace HT := Lib.hid (MadeAt.bc _ _ HT.out hb)
      replace HM1 := Lib.hid (MadeAt.bc _ _ HM1.out hb)
      have HSM := Lib.hid (rsameG_any a4 la c4 lc L x4 hg4 HT.out.row (by omega))
      clear hg4 hb HAA
      go_wp2_with fail
      refine HSM.out.mono ?_
      rintro e x5 ⟨rfl, hb⟩
      replace HT := Lib.hid (MadeAt.bc _ _ HT.out hb)
      replace HM1 := Lib.hid (MadeAt.bc _ _ HM1.out hb)
      have HCK := Lib.hid HM1.out.check
      clear hb HSM
      go_wp2_with fail
      refine HCK.out.mono ?_
      rintro e x6 ⟨rfl, hb⟩
      replace HT := Lib.hid (MadeAt.bc _ _ HT.out hb)
      replace HM1 := Lib.hid (MadeAt.bc _ _ HM1.out hb)
      clear hb HCK
      have HCK := Lib.hid HT.out.check
      go_wp2_with fail
      refine HCK.out.mono ?_
      rintro e x7 ⟨rfl, hb⟩
      replace HM1 := Lib.hid (MadeAt.bc _ _ HM1.out hb)
      clear hb HCK
      go_wp2_with fail
      go_ret
      exact ⟨rfl, HM1.out.be⟩
end Go.Proofs.Ytakkmnhiaddnnaa
