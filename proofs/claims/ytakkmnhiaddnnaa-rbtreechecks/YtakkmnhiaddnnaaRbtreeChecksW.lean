/- The walk of the law RbtreeChecks. -/
import Derived.Test.YtakkmnhiaddnnaaCP
import Derived.Test.YtakkmnhiaddnnaaCQ
import Derived.Test.YtakkmnhiaddnnaaCM
import Derived.Lib.QuietBelow
namespace Go.Proofs.Ytakkmnhiaddnnaa
open Go.RowKit Go.Sort Go.Proofs.Ytakkmnhiaddnnaa.Bo
set_option linter.unusedVariables false
set_option maxRecDepth 100000

set_option maxHeartbeats 4000000 in
theorem rbtreeChecks_walk (room : Int) (a : Option Addr) (len cap : Nat) (z : List O6) (w : World) (wr0 : (Lit.int .i64 room).wf = true) (h : IsOps6 w a len z) :
    Calls Try.prog 5 #[.int .i64 room, .slice a len cap] w fun e w' => e = .returned (.bool true) ∧ Go.RowKit.Below w.heap.size w w' := by
  have mx := mixed
  obtain ⟨rfl, hz, hr⟩ := h
  clear wr0
  have HAL := Lib.hid ralive_any
  have HZ := Lib.hid hz
  have HR := Lib.hid hr
  clear hz hr
  by_cases h0 : ¬ (0 ≤ room ∧ room ≤ 4096)
  · have HN := Lib.hid (rbnew_no room w h0)
    clear h0
    go_enter Try.func5, Try.ntmps5
    go_wp2_with fail
    refine HN.out.mono ?_
    rintro e y0 ⟨rfl, rfl⟩
    go_wp2_with fail
    refine (HAL.out _).mono ?_
    rintro e y1 ⟨rfl, hB1⟩
    go_wp2_with fail
    go_ret
    exact ⟨rfl, hB1⟩
  have h1 := Classical.not_not.1 h0
  clear h0
  have HN := Lib.hid (trw_new (w := w) room h1 w (Go.RowKit.Below.refl _ _))
  by_cases h3 : 200 < z.length
  · have t2 : decide ((200 : Int) < (z.length : Int)) = true := decide_eq_true (by omega)
    have t3 : decide (200 < z.length) = true := decide_eq_true (by omega)
    go_enter Try.func5, Try.ntmps5
    go_wp2_with fail
    refine HN.out.mono ?_
    rintro e y0 ⟨T, A, ⟨rfl, ht⟩, hb⟩
    have HB := Lib.hid hb
    clear ht hb
    go_wp2_with fail
    refine (HAL.out _).mono ?_
    rintro e y1 ⟨rfl, hB1⟩
    go_wp2_with fail
    go_ret
    exact ⟨rfl, bt HB.out hB1⟩
  have t2 : decide ((200 : Int) < (z.length : Int)) = false := decide_eq_false (by omega)
  have t3 : decide (200 < z.length) = false := decide_eq_false (by omega)
  go_enter Try.func5, Try.ntmps5
  go_wp2_with fail
  refine HN.out.mono ?_
  rintro e y0 ⟨T, A, ⟨rfl, ht⟩, hb⟩
  have HT0 := Lib.hid ht
  clear ht hb HN t2 t3
  go_wp2_with fail
  go_loopw [28] (fun k wr => ∃ (j : Nat) (L : List G5), k = .int .i64 (j : Int) ∧ j ≤ z.length ∧ TrW w T A room L wr) (fun k _ => z.length - (intOf k).toNat)
  case atStart => exact ⟨0, [], rfl, Nat.zero_le _, HT0.out⟩
  case round =>
    clear HT0
    obtain ⟨j, L, rfl, hj, ht⟩ := hrel
    have HT := Lib.hid ht
    by_cases hlt : j < z.length
    · obtain ⟨b, off, rfl, hc⟩ := (HR.out.below ht.be) (by omega)
      obtain ⟨c1, c2, c3, c4, c5, c6⟩ := hc j hlt
      have HOK := Lib.hid (HZ.out _ (List.getElem_mem hlt))
      have ti0 : (0 : Int) ≤ (j : Int) := by omega
      have ti1 : (j : Int) < (z.length : Int) := by omega
      clear hc ht
      generalize z[j] = o at *
      have HDO := Lib.hid ((TrW.bc _ _ HT.out (below_new wr (oOp o.k o.s))).does o.k o.s HOK.out.2)
      generalize (doG L room o.k o.s).1 = L2 at *
      generalize (doG L room o.k o.s).2.1 = rb at *
      generalize (doG L room o.k o.s).2.2 = re at *
      have hbo := heap_alloc_new wr (oOp o.k o.s)
      obtain ⟨d0, d1, d2, d3, d4, d5⟩ := op6_cells hbo
      clear hbo
      go_wp2_with fail
      refine HDO.out.mono ?_
      rintro e y1 ⟨rfl, ht, _⟩
      replace HT := Lib.hid ht
      clear ht d0 d1 d2 d3 d4 d5 c1 c2 c3 c4 c5 c6 HDO
      obtain ⟨t, x, S, hr, hx, _⟩ := HT.out.r
      have hlen := hr.len
      have hhigh := rbt_high x hr.rbt
      have hzero := height_zero x
      have hnn : x.ids.length = L2.length := by rw [← ino_len, hx]
      rw [hnn] at hlen hhigh hzero
      have HCk : Hid (∀ W, Go.RowKit.Below y1.heap.size y1 W → Calls Try.prog 28 #[aP T] W fun e w' => e = .returned (.bool true) ∧ Go.RowKit.Below W.heap.size W w') := fun W hW => rCheck_any (hr.below hW)
      have HHt : Hid (∀ W, Go.RowKit.Below y1.heap.size y1 W → Calls Try.prog 29 #[aP T] W fun e w' => e = .returned (.int .i64 (x.height : Int)) ∧ Go.RowKit.Below W.heap.size W w') := fun W hW => rHeight_any (hr.below hW)
      have HLn : Hid (∀ W, Go.RowKit.Below y1.heap.size y1 W → Calls Try.prog 17 #[aP T] W fun e w' => e = .returned (.int .i64 (L2.length : Int)) ∧ Go.RowKit.Below W.heap.size W w') := fun W hW => by
        obtain ⟨S0, _, hbox, _, hrn⟩ := (hr.below hW).is
        have := rnlen_any hrn hr.rep.ok
        rw [hr.rep.len, hx] at this
        exact rlen_core T A t.root _ W hbox this
      have HBi : Hid (∀ W, Calls Try.prog 30 #[.int .i64 ((L2.length : Int) + 1)] W fun e w' => e = .returned (.int .i64 ((Nat.log2 (L2.length + 1) + 1 : Nat) : Int)) ∧ Go.RowKit.Below W.heap.size W w') := fun W => by
        have := rbits_any (L2.length + 1) W (by omega)
        rw [if_neg (by omega)] at this
        exact this
      have hHle : x.height ≤ 200000 := by have := Nat.log2_le_self (L2.length + 1); omega
      generalize x.height = H at *
      generalize hB2 : Nat.log2 (L2.length + 1) + 1 = Bt at *
      have hBle : Bt ≤ 200000 := by have := Nat.log2_le_self (L2.length + 1); omega
      generalize L2.length = n at *
      have q1 : IntKind.i64.wrap ((n : Int) + 1) = (n : Int) + 1 := IntWalk.i64_in _ (by omega)
      have q2 : IntKind.i64.wrap (2 * (Bt : Int)) = 2 * (Bt : Int) := IntWalk.i64_in _ (by omega)
      have g1 : decide ((H : Int) > 2 * (Bt : Int)) = false := decide_eq_false (by omega)
      have g2 : ¬ 2 * (Bt : Int) < (H : Int) := by omega
      have g3 : (H : Int) ≤ 2 * (Bt : Int) := by omega
      have g4 : decide (2 * (Bt : Int) < (H : Int)) = false := decide_eq_false (by omega)
      obtain ⟨D, hD⟩ : ∃ D, ((H : Int) == 0) = D := ⟨_, rfl⟩
      have hD2 : ((n : Int) == 0) = D := by
        rw [← hD, Bool.eq_iff_iff, beq_iff_eq, beq_iff_eq]
        omega
      clear hlen hhigh hzero hnn hHle hBle hB2 hx hr
      go_wp2_with fail
      refine (HCk.out _ (Go.RowKit.Below.refl _ _)).mono ?_
      rintro e x1 ⟨rfl, hb⟩
      have HB := Lib.hid hb
      clear hb
      go_wp2_with fail
      refine (HHt.out _ HB.out).mono ?_
      rintro e x2 ⟨rfl, hb⟩
      replace HB := Lib.hid (bt HB.out hb)
      clear hb
      go_wp2_with fail
      refine (HLn.out _ HB.out).mono ?_
      rintro e x3 ⟨rfl, hb⟩
      replace HB := Lib.hid (bt HB.out hb)
      clear hb
      go_wp2_with fail
      refine (HBi.out _).mono ?_
      rintro e x4 ⟨rfl, hb⟩
      replace HB := Lib.hid (bt HB.out hb)
      clear hb
      go_wp2_with fail
      refine (HHt.out _ HB.out).mono ?_
      rintro e x5 ⟨rfl, hb⟩
      replace HB := Lib.hid (bt HB.out hb)
      clear hb
      go_wp2_with fail
      refine (HLn.out _ HB.out).mono ?_
      rintro e x6 ⟨rfl, hb⟩
      replace HB := Lib.hid (bt HB.out hb)
      clear hb
      go_wp2_with fail
      go_roundw
      case rel => exact ⟨j + 1, L2, by go_num, by omega, TrW.bc _ _ HT.out HB.out⟩
      case measure => simp [intOf]; omega
    · obtain rfl : j = z.length := by omega
      clear ht
      go_wp2_with fail
      refine (HAL.out _).mono ?_
      rintro e y1 ⟨rfl, hB1⟩
      go_wp2_with fail
      go_ret
      exact ⟨rfl, bt HT.out.be hB1⟩
end Go.Proofs.Ytakkmnhiaddnnaa
