/- The walk of the law RbtreeAll. -/
import Derived.Test.YtakkmnhiaddnnaaCQ
namespace Go.Proofs.Ytakkmnhiaddnnaa
open Go.RowKit Go.Sort Go.Proofs.Ytakkmnhiaddnnaa.Bo
set_option linter.unusedVariables false
set_option maxRecDepth 100000

set_option maxHeartbeats 8000000 in
theorem rbtreeAll_walk (room : Int) (a : Option Addr) (len cap : Nat) (z : List O6) (w : World) (wr0 : (Lit.int .i64 room).wf = true) (h : IsOps6 w a len z) :
    Calls Try.prog 3 #[.int .i64 room, .slice a len cap] w fun e w' => e = .returned (.bool true) ∧ Go.RowKit.Below w.heap.size w w' := by
  have mx := mixed
  obtain ⟨rfl, hz, hr⟩ := h
  clear wr0
  have HAL := Lib.hid ralive_any
  have HZ := Lib.hid hz
  have HR := Lib.hid hr
  clear hz hr
  by_cases h3 : 200 < z.length
  · have t2 : decide ((200 : Int) < (z.length : Int)) = true := decide_eq_true (by omega)
    have t3 : decide (200 < z.length) = true := decide_eq_true (by omega)
    go_enter Try.func3, Try.ntmps3
    go_wp2_with fail
    refine (HAL.out _).mono ?_
    rintro e y1 ⟨rfl, hB1⟩
    go_wp2_with fail
    go_ret
    exact ⟨rfl, hB1⟩
  have t2 : decide ((200 : Int) < (z.length : Int)) = false := decide_eq_false (by omega)
  have t3 : decide (200 < z.length) = false := decide_eq_false (by omega)
  by_cases h0 : ¬ (0 ≤ room ∧ room ≤ 4096)
  · have HN := Lib.hid (rbnew_no room w h0)
    by_cases h00 : room < 0
    · have t4 : decide (room < 0) = true := decide_eq_true h00
      clear h0
      go_enter Try.func3, Try.ntmps3
      go_wp2_with fail
      refine HN.out.mono ?_
      rintro e y0 ⟨rfl, rfl⟩
      go_wp2_with fail
      refine (HAL.out _).mono ?_
      rintro e y1 ⟨rfl, hB1⟩
      go_wp2_with fail
      go_ret
      exact ⟨rfl, hB1⟩
    · have t4 : decide (room < 0) = false := decide_eq_false h00
      have t5 : decide (4096 < room) = true := decide_eq_true (by omega)
      clear h0
      go_enter Try.func3, Try.ntmps3
      go_wp2_with fail
      refine HN.out.mono ?_
      rintro e y0 ⟨rfl, rfl⟩
      go_wp2_with fail
      refine (HAL.out _).mono ?_
      rintro e y1 ⟨rfl, hB1⟩
      go_wp2_with fail
      go_ret
      exact ⟨rfl, hB1⟩
  have h1 := Classical.not_not.1 h0
  clear h0
  have t4 : decide (room < 0) = false := decide_eq_false (by omega)
  have t5 : decide (4096 < room) = false := decide_eq_false (by omega)
  have HN := Lib.hid (made_new (w := w) room h1 w (Go.RowKit.Below.refl _ _))
  have nroom : (room != room) = false := bne_self_eq_false room
  go_enter Try.func3, Try.ntmps3
  go_wp2_with fail
  refine HN.out.mono ?_
  rintro e y0 ⟨T, A, rfl, ht⟩
  have HT0 := Lib.hid ht
  have HRM := Lib.hid (ht.room)
  clear ht HN
  go_wp2_with fail
  refine HRM.out.mono ?_
  rintro e y3 ⟨rfl, hb⟩
  replace HT0 := Lib.hid (MadeAt.bc _ _ HT0.out hb)
  clear hb HRM t2 t3 t4 t5
  go_wp2_with fail
  go_loopw [7, 53] (fun l k wr => ∃ (j : Nat) (L : List G5) (la : Option Addr) (lc : Nat), k = .int .i64 (j : Int) ∧ j ≤ z.length ∧ L.length ≤ j ∧ l = .slice la L.length lc ∧ MadeAt w T A room L la lc wr) (fun _ k _ => z.length - (intOf k).toNat)
  case atStart => exact ⟨0, [], none, 0, rfl, Nat.zero_le _, Nat.le_refl _, rfl, HT0.out⟩
  case round =>
    clear HT0
    obtain ⟨j, L, la, lc, rfl, hj, HLN, rfl, ht⟩ := hrel
    have HT := Lib.hid ht
    by_cases hlt : j < z.length
    · obtain ⟨b, off, rfl, hc⟩ := (HR.out.below ht.be) (by omega)
      obtain ⟨c1, c2, c3, c4, c5, c6⟩ := hc j hlt
      have HOK := Lib.hid (HZ.out _ (List.getElem_mem hlt))
      have ti0 : (0 : Int) ≤ (j : Int) := by omega
      have ti1 : (j : Int) < (z.length : Int) := by omega
      clear hc ht
      generalize z[j] = o at *
      have HDO := Lib.hid ((MadeAt.bc _ _ HT.out (below_new wr (oOp o.k o.s))).doG o.k o.s HOK.out.2 (by omega))
      have hbo := heap_alloc_new wr (oOp o.k o.s)
      obtain ⟨d0, d1, d2, d3, d4, d5⟩ := op6_cells hbo
      have HBO := Lib.hid hbo
      clear hbo
      have HTG : Hid (∀ (a2 : Option Addr) (cap2 : Nat) W, MidAt w T A room L (doG L room o.k o.s).1 a2 cap2 W → Calls Try.prog 14 #[aP T, vOp o.k o.s] W fun e w' => e = .returned (.tuple #[.bool (doG L room o.k o.s).2.1, .int .i64 (doG L room o.k o.s).2.2]) ∧ MadeAt w T A room (doG L room o.k o.s).1 a2 cap2 w' ∧ Oth W w') := fun a2 cap2 W h => h.does HOK.out.2
      have HL2 := doG_len L room o.k o.s
      generalize (doG L room o.k o.s).1 = L2 at *
      generalize (doG L room o.k o.s).2.1 = rb at *
      generalize (doG L room o.k o.s).2.2 = re at *
      have nrb : (rb != rb) = false := bne_self_eq_false rb
      have nre : (re != re) = false := bne_self_eq_false re
      go_wp2_with fail
      refine HDO.out.mono ?_
      rintro e y1 ⟨la2, lc2, rfl, hmid, hb⟩
      have HMI := Lib.hid hmid
      replace HBO := Lib.hid (box_on HBO.out hb)
      clear d0 d1 d2 d3 d4 d5 c1 c2 c3 c4 c5 c6 HDO hmid hb
      obtain ⟨d0, d1, d2, d3, d4, d5⟩ := op6_cells HBO.out
      go_wp2_with fail
      refine (HTG.out la2 lc2 _ HMI.out).mono ?_
      rintro e y2 ⟨rfl, hm2, _⟩
      have HM2 := Lib.hid hm2
      clear hm2 d0 d1 d2 d3 d4 d5 HTG HMI HBO
      have HAA := Lib.hid (HM2.out.all)
      go_wp2_with fail
      refine HAA.out.mono ?_
      rintro e y3 ⟨a3, c3, ⟨rfl, hg3, hc3⟩, hb⟩
      have HM3 := Lib.hid (MadeAt.bc _ _ HM2.out hb)
      have HSM := Lib.hid (rsameG_any a3 la2 c3 lc2 L2 y3 hg3 HM3.out.row (by omega))
      clear hg3 hb HAA HM2
      go_wp2_with fail
      refine HSM.out.mono ?_
      rintro e y4 ⟨rfl, hb⟩
      have HM4 := Lib.hid (MadeAt.bc _ _ HM3.out hb)
      have HLE := Lib.hid HM4.out.len
      have nlen : ((L2.length : Int) != (L2.length : Int)) = false := bne_self_eq_false _
      clear hb HSM HM3
      go_wp2_with fail
      refine HLE.out.mono ?_
      rintro e y5 ⟨rfl, hb⟩
      have HM5 := Lib.hid (MadeAt.bc _ _ HM4.out hb)
      clear hb HLE HM4
      go_wp2_with fail
      go_roundw
      case rel => exact ⟨j + 1, L2, la2, lc2, by go_num, by omega, by omega, rfl, HM5.out⟩
      case measure => simp [intOf]; omega
    · obtain rfl : j = z.length := by omega
      clear ht
      go_wp2_with fail
      refine (HAL.out _).mono ?_
      rintro e y1 ⟨rfl, hB1⟩
      go_wp2_with fail
      go_ret
      exact ⟨rfl, bt HT.out.be hB1⟩
end Go.Proofs.Ytakkmnhiaddnnaa
