/- The walk of the law RbtreeRows. -/
import Derived.Test.YtakkmnhiaddnnaaCQ
namespace Go.Proofs.Ytakkmnhiaddnnaa
open Go.RowKit Go.Sort Go.Proofs.Ytakkmnhiaddnnaa.Bo
set_option linter.unusedVariables false
set_option maxRecDepth 100000

set_option maxHeartbeats 8000000 in
theorem rbtreeRows_walk (a : Option Addr) (len cap : Nat) (z : List Int) (a1 : Option Addr) (len1 cap1 : Nat) (z1 : List Int) (w : World) (h : IsInts w a len z) (hs : len * 8 ≤ 140737488351232) (h1 : IsInts w a1 len1 z1) (hs1 : len1 * 8 ≤ 140737488351232) :
    Calls Try.prog 8 #[.slice a len cap, .slice a1 len1 cap1] w fun e w' => e = .returned (.bool true) ∧ Go.RowKit.Below w.heap.size w w' := by
  have mx := mixed
  have HAL := Lib.hid ralive_any
  obtain ⟨rfl, hz, hr⟩ := h
  obtain ⟨rfl, hz1, hr1⟩ := h1
  have HZ := Lib.hid hz
  have HR := Lib.hid hr
  have HZ1 := Lib.hid hz1
  have HR1 := Lib.hid hr1
  have HSG := Lib.hid rseg_any
  clear hz hr hz1 hr1
  have q1 : IntKind.i64.wrap ((z.length : Int) + (z1.length : Int)) = (z.length : Int) + (z1.length : Int) := IntWalk.i64_in _ (by omega)
  have HN := Lib.hid (made_new (w := w) 4096 (by decide) w (Go.RowKit.Below.refl _ _))
  by_cases h3 : 300 < z.length + z1.length
  · have t2 : decide ((300 : Int) < (z.length : Int) + (z1.length : Int)) = true := decide_eq_true (by omega)
    go_enter Try.func8, Try.ntmps8
    go_wp2_with fail
    refine HN.out.mono ?_
    rintro e y0 ⟨T, A, rfl, ht⟩
    have HY := Lib.hid ht.be
    clear ht
    go_wp2_with fail
    refine (HAL.out _).mono ?_
    rintro e y1 ⟨rfl, hB1⟩
    go_wp2_with fail
    go_ret
    exact ⟨rfl, bt HY.out hB1⟩
  have t2 : decide ((300 : Int) < (z.length : Int) + (z1.length : Int)) = false := decide_eq_false (by omega)
  go_enter Try.func8, Try.ntmps8
  go_wp2_with fail
  refine HN.out.mono ?_
  rintro e y0 ⟨T, A, rfl, ht⟩
  have HT0 := Lib.hid ht
  clear ht HN
  go_wp2_with fail
  clear t2 q1
  go_loopw [7, 45] (fun l k wr => ∃ (j : Nat) (L : List G5) (la : Option Addr) (lc : Nat), k = .int .i64 (j : Int) ∧ j ≤ z.length ∧ L.length ≤ j ∧ l = .slice la L.length lc ∧ MadeAt w T A 4096 L la lc wr) (fun _ k _ => z.length - (intOf k).toNat)
  case atStart => exact ⟨0, [], none, 0, rfl, Nat.zero_le _, Nat.le_refl _, rfl, HT0.out⟩
  case round =>
    clear HT0
    obtain ⟨j, L, la, lc, rfl, hj, HLN, rfl, ht⟩ := hrel
    have HT := Lib.hid ht
    by_cases hlt : j < z.length
    · obtain ⟨b, off, rfl, hc⟩ := (HR.out.below ht.be) (by omega)
      have c1 := hc j hlt
      have HOK := Lib.hid (sg_okN _ (HZ.out _ (List.getElem_mem hlt)))
      have ti0 : (0 : Int) ≤ (j : Int) := by omega
      have ti1 : (j : Int) < (z.length : Int) := by omega
      clear hc ht
      generalize z[j] = n at *
      have HTP : Hid (∀ W, MadeAt w T A 4096 L la lc W → Calls Try.prog 34 #[.slice la L.length lc, .int .i64 4096, vG (sgN n)] W fun e w' => ∃ a' cap', e = .returned (.tuple #[.slice a' (putG L 4096 (sgN n)).1.length cap', .int .i64 (putG L 4096 (sgN n)).2]) ∧ MidAt w T A 4096 L (putG L 4096 (sgN n)).1 a' cap' w' ∧ Go.RowKit.Below W.heap.size W w') := fun W h => h.putR _ HOK.out (by omega)
      have HTG : Hid (∀ (a2 : Option Addr) (cap2 : Nat) W, MidAt w T A 4096 L (putG L 4096 (sgN n)).1 a2 cap2 W → Calls Try.prog 36 #[aP T, vG (sgN n)] W fun e w' => e = .returned (.int .i64 (putG L 4096 (sgN n)).2) ∧ MadeAt w T A 4096 (putG L 4096 (sgN n)).1 a2 cap2 w') := fun a2 cap2 W h => h.put HOK.out
      have HL2 := putG_len L 4096 (sgN n)
      generalize (putG L 4096 (sgN n)).1 = L2 at *
      generalize (putG L 4096 (sgN n)).2 = re at *
      have nre : (re != re) = false := bne_self_eq_false re
      go_wp2_with fail
      refine (HSG.out n _).mono ?_
      rintro e u1 ⟨rfl, hb⟩
      replace HT := Lib.hid (MadeAt.bc _ _ HT.out hb)
      clear hb c1
      go_wp2_with fail
      refine (HTP.out _ HT.out).mono ?_
      rintro e y1 ⟨la2, lc2, rfl, hmid, hb⟩
      have HMI := Lib.hid hmid
      clear hmid hb HTP HT
      go_wp2_with fail
      refine (HSG.out n _).mono ?_
      rintro e u2 ⟨rfl, hb⟩
      replace HMI := Lib.hid (MidAt.bc _ _ HMI.out hb)
      clear hb
      go_wp2_with fail
      refine (HTG.out la2 lc2 _ HMI.out).mono ?_
      rintro e y2 ⟨rfl, hm2⟩
      have HM2 := Lib.hid hm2
      clear hm2 HTG HMI
      go_wp2_with fail
      go_roundw
      case rel => exact ⟨j + 1, L2, la2, lc2, by go_num, by omega, by omega, rfl, HM2.out⟩
      case measure => simp [intOf]; omega
    · obtain rfl : j = z.length := by omega
      clear ht hlt hj
      have HLZ : L.length ≤ 300 := by omega
      clear HLN
      go_wp2_with fail
      go_loopw [7, 66] (fun l k wx => ∃ (j : Nat) (L : List G5) (la : Option Addr) (lc : Nat), k = .int .i64 (j : Int) ∧ j ≤ z1.length ∧ L.length ≤ 300 ∧ l = .slice la L.length lc ∧ MadeAt w T A 4096 L la lc wx) (fun _ k _ => z1.length - (intOf k).toNat)
      case atStart => exact ⟨0, L, la, lc, rfl, Nat.zero_le _, HLZ, rfl, HT.out⟩
      case round =>
        clear HT HLZ
        obtain ⟨j, L, la, lc, rfl, hj, HLN, rfl, ht⟩ := hrel
        have HT := Lib.hid ht
        by_cases hlt : j < z1.length
        · obtain ⟨b, off, rfl, hc⟩ := (HR1.out.below ht.be) (by omega)
          have c1 := hc j hlt
          have HOK := Lib.hid (HZ1.out _ (List.getElem_mem hlt))
          have ti0 : (0 : Int) ≤ (j : Int) := by omega
          have ti1 : (j : Int) < (z1.length : Int) := by omega
          clear hc ht
          generalize z1[j] = n at *
          have HTP := Lib.hid (HT.out.delR 0 n HOK.out (by omega))
          have HTG : Hid (∀ (a2 : Option Addr) (cap2 : Nat) W, MidAt w T A 4096 L (delG L (key 0 n)).1 a2 cap2 W → Calls Try.prog 38 #[aP T, .agg #[.int .i64 0, .int .i64 n]] W fun e w' => e = .returned (.bool (delG L (key 0 n)).2) ∧ MadeAt w T A 4096 (delG L (key 0 n)).1 a2 cap2 w') := fun a2 cap2 W h => h.del HOK.out
          have HL2 := delG_len L (key 0 n)
          generalize (delG L (key 0 n)).1 = L2 at *
          generalize (delG L (key 0 n)).2 = re at *
          have nre : (re != re) = false := bne_self_eq_false re
          go_wp2_with fail
          refine HTP.out.mono ?_
          rintro e y1 ⟨la2, lc2, rfl, hmid, hb⟩
          have HMI := Lib.hid hmid
          clear hmid hb HTP HT c1
          go_wp2_with fail
          refine (HTG.out la2 lc2 _ HMI.out).mono ?_
          rintro e y2 ⟨rfl, hm2⟩
          have HM2 := Lib.hid hm2
          have HCK := Lib.hid hm2.check
          clear hm2 HTG HMI
          go_wp2_with fail
          refine HCK.out.mono ?_
          rintro e y3 ⟨rfl, hb⟩
          replace HM2 := Lib.hid (MadeAt.bc _ _ HM2.out hb)
          clear hb HCK
          go_wp2_with fail
          go_roundw
          case rel => exact ⟨j + 1, L2, la2, lc2, by go_num, by omega, by omega, rfl, HM2.out⟩
          case measure => simp [intOf]; omega
        · obtain rfl : j = z1.length := by omega
          clear ht
          go_wp2_with fail
          refine (HAL.out _).mono ?_
          rintro e x1 ⟨rfl, hb⟩
          replace HT := Lib.hid (MadeAt.bc _ _ HT.out hb)
          have HAA := Lib.hid HT.out.all
          clear hb HAL
          go_wp2_with fail
          refine HAA.out.mono ?_
          rintro e x2 ⟨a3, c3, ⟨rfl, hg3, hc3⟩, hb⟩
          replace HT := Lib.hid (MadeAt.bc _ _ HT.out hb)
          have HSM := Lib.hid (rsameG_any a3 la c3 lc L x2 hg3 HT.out.row (by omega))
          clear hg3 hb HAA
          go_wp2_with fail
          refine HSM.out.mono ?_
          rintro e x3 ⟨rfl, hb⟩
          replace HT := Lib.hid (MadeAt.bc _ _ HT.out hb)
          clear hb HSM
          go_wp2_with fail
          go_ret
          exact ⟨rfl, HT.out.be⟩
end Go.Proofs.Ytakkmnhiaddnnaa
