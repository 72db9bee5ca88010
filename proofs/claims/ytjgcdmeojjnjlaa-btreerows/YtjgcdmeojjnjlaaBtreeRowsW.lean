/- The walk of the law BtreeRows. -/
import Derived.Test.YtjgcdmeojjnjlaaCP
namespace Go.Proofs.Ytjgcdmeojjnjlaa
open Go.RowKit Go.Sort Go.Proofs.Ytjgcdmeojjnjlaa.Bo Go.Proofs.Ytjgcdmeojjnjlaa.Bb
set_option linter.unusedVariables false
set_option maxRecDepth 100000

set_option maxHeartbeats 8000000 in
theorem btreeRows_walk (dg : Int) (a : Option Addr) (len cap : Nat) (z : List Int) (a1 : Option Addr) (len1 cap1 : Nat) (z1 : List Int) (w : World) (h0 : (Lit.int .i64 dg).wf = true) (h : IsInts w a len z) (hs : len * 8 ≤ 140737488351232) (h1 : IsInts w a1 len1 z1) (hs1 : len1 * 8 ≤ 140737488351232) :
    Calls Try.prog 7 #[.int .i64 dg, .slice a len cap, .slice a1 len1 cap1] w fun e w' => e = .returned (.bool true) ∧ Go.RowKit.Below w.heap.size w w' := by
  have mx := mixed
  have HAL := Lib.hid balive_any
  by_cases hgood : ¬ (2 ≤ dg ∧ dg ≤ 64)
  · have HN := Lib.hid (fun W => btnew_no dg 4096 W (fun h => hgood h.1))
    clear hgood h hs h1 hs1
    go_enter Try.func7, Try.ntmps7
    go_wp2_with fail
    refine (HN.out _).mono ?_
    rintro e y0 ⟨rfl, rfl⟩
    go_wp2_with fail
    refine (HAL.out _).mono ?_
    rintro e y1 ⟨rfl, hB1⟩
    go_wp2_with fail
    go_ret
    exact ⟨rfl, hB1⟩
  have hgood := Classical.not_not.1 hgood
  obtain ⟨d, rfl⟩ : ∃ d : Nat, dg = (d : Int) := ⟨dg.toNat, by omega⟩
  obtain ⟨rfl, hz, hr⟩ := h
  obtain ⟨rfl, hz1, hr1⟩ := h1
  have HZ := Lib.hid hz
  have HR := Lib.hid hr
  have HZ1 := Lib.hid hz1
  have HR1 := Lib.hid hr1
  have HSG := Lib.hid bseg_any
  clear hz hr hz1 hr1
  have q1 : IntKind.i64.wrap ((z.length : Int) + (z1.length : Int)) = (z.length : Int) + (z1.length : Int) := IntWalk.i64_in _ (by omega)
  have HN := Lib.hid (mdb_new (w := w) d 4096 ⟨by omega, by omega⟩ (by decide) noB w (Go.RowKit.Below.refl _ _) (fun b hb => hb.elim))
  clear hgood
  by_cases h3 : 300 < z.length + z1.length
  · have t2 : decide ((300 : Int) < (z.length : Int) + (z1.length : Int)) = true := decide_eq_true (by omega)
    go_enter Try.func7, Try.ntmps7
    go_wp2_with fail
    refine HN.out.mono ?_
    rintro e y0 ⟨T, A, ⟨rfl, ht⟩, hb⟩
    have HY := Lib.hid hb
    clear ht hb
    go_wp2_with fail
    refine (HAL.out _).mono ?_
    rintro e y1 ⟨rfl, hB1⟩
    go_wp2_with fail
    go_ret
    exact ⟨rfl, bt HY.out hB1⟩
  have t2 : decide ((300 : Int) < (z.length : Int) + (z1.length : Int)) = false := decide_eq_false (by omega)
  go_enter Try.func7, Try.ntmps7
  go_wp2_with fail
  refine HN.out.mono ?_
  rintro e y0 ⟨T, A, ⟨rfl, ht⟩, hb⟩
  have HT0 := Lib.hid ht
  clear ht hb HN
  go_wp2_with fail
  clear t2 q1
  go_loopw [9, 42] (fun l k wr => ∃ (j : Nat) (L : List G5) (la : Option Addr) (lc : Nat), k = .int .i64 (j : Int) ∧ j ≤ z.length ∧ L.length ≤ j ∧ l = .slice la L.length lc ∧ MdB w T A d 4096 L L la lc noB wr) (fun _ k _ => z.length - (intOf k).toNat)
  case atStart => exact ⟨0, [], none, 0, rfl, Nat.zero_le _, Nat.le_refl _, rfl, HT0.out⟩
  case round =>
    clear HT0
    obtain ⟨j, L, la, lc, rfl, hj, HLN, rfl, ht⟩ := hrel
    have HT := Lib.hid ht
    by_cases hlt : j < z.length
    · obtain ⟨b, off, rfl, hc⟩ := (HR.out.below ht.be) (by omega)
      have c1 := hc j hlt
      have HOK := Lib.hid (sgB_ok _ (HZ.out _ (List.getElem_mem hlt)))
      have ti0 : (0 : Int) ≤ (j : Int) := by omega
      have ti1 : (j : Int) < (z.length : Int) := by omega
      clear hc ht
      generalize z[j] = n at *
      have HTP : Hid (∀ W, MdB w T A d 4096 L L la lc noB W → Calls Try.prog 36 #[.slice la L.length lc, .int .i64 4096, vG (sgB n)] W fun e w' => ∃ a' cap', e = .returned (.tuple #[.slice a' (putG L 4096 (sgB n)).1.length cap', .int .i64 (putG L 4096 (sgB n)).2]) ∧ MdB w T A d 4096 L (putG L 4096 (sgB n)).1 a' cap' noB w' ∧ Go.RowKit.Below W.heap.size W w') := fun W h => h.putR _ HOK.out (by omega)
      have HTG : Hid (∀ (a2 : Option Addr) (cap2 : Nat) W, MdB w T A d 4096 L (putG L 4096 (sgB n)).1 a2 cap2 noB W → Calls Try.prog 38 #[aP T, vG (sgB n)] W fun e w' => e = .returned (.int .i64 (putG L 4096 (sgB n)).2) ∧ MdB w T A d 4096 (putG L 4096 (sgB n)).1 (putG L 4096 (sgB n)).1 a2 cap2 noB w' ∧ ∀ b, noB b → w'.heap[b]? = W.heap[b]?) := fun a2 cap2 W h => h.call (fun B hB => hB.put _ HOK.out)
      have HL2 := putG_len L 4096 (sgB n)
      generalize (putG L 4096 (sgB n)).1 = L2 at *
      generalize (putG L 4096 (sgB n)).2 = re at *
      have nre : (re != re) = false := bne_self_eq_false re
      go_wp2_with fail
      refine (HSG.out n _).mono ?_
      rintro e u1 ⟨rfl, hb⟩
      replace HT := Lib.hid (HT.out.on hb)
      clear hb c1
      go_wp2_with fail
      refine (HTP.out _ HT.out).mono ?_
      rintro e y1 ⟨la2, lc2, rfl, hmid, hb⟩
      have HMI := Lib.hid hmid
      clear hmid hb HTP HT
      go_wp2_with fail
      refine (HSG.out n _).mono ?_
      rintro e u2 ⟨rfl, hb⟩
      replace HMI := Lib.hid (HMI.out.on hb)
      clear hb
      go_wp2_with fail
      refine (HTG.out la2 lc2 _ HMI.out).mono ?_
      rintro e y2 ⟨rfl, hm2, _⟩
      have HM2 := Lib.hid hm2
      have HCK := Lib.hid hm2.tk.check
      clear hm2 HTG HMI
      go_wp2_with fail
      refine HCK.out.mono ?_
      rintro e y3 ⟨rfl, hb⟩
      replace HM2 := Lib.hid (HM2.out.on hb)
      clear hb HCK
      go_wp2_with fail
      go_roundw
      case rel => exact ⟨j + 1, L2, la2, lc2, by go_num, by omega, by omega, rfl, HM2.out⟩
      case measure => simp [intOf]; omega
    · obtain rfl : j = z.length := by omega
      clear ht hlt hj
      have HLZ : L.length ≤ 300 := by omega
      clear HLN
      have HCO := Lib.hid HT.out.copy
      have HGR := Lib.hid HT.out.row
      go_wp2_with fail
      refine HCO.out.mono ?_
      rintro e y1 ⟨O, C, K, rfl, hm, hk⟩
      have HM0 := Lib.hid hm
      have HC0 := Lib.hid hk
      have HG0 := Lib.hid hm.row
      clear hm hk HCO HGR HT
      have HBL : Hid (∀ wx, MdB w T A d 4096 L L la lc (fun b => K b ∨ GBb la L b) wx → True) := fun _ _ => trivial
      go_wp2_with fail
      go_loopw [9, 73] (fun l k wx => ∃ (j : Nat) (L2 : List G5) (la2 : Option Addr) (lc2 : Nat), k = .int .i64 (j : Int) ∧ j ≤ z1.length ∧ L2.length ≤ 300 ∧ l = .slice la2 L2.length lc2 ∧ MdB w T A d 4096 L2 L2 la2 lc2 (fun b => K b ∨ GBb la L b) wx ∧ CpK w O C d 4096 L K wx ∧ GRow wx la L) (fun _ k _ => z1.length - (intOf k).toNat)
      case atStart => exact ⟨0, L, la, lc, rfl, Nat.zero_le _, HLZ, rfl, HM0.out, HC0.out, HG0.out⟩
      case round =>
        clear HM0 HC0 HG0 HBL
        obtain ⟨j, L2, la2, lc2, rfl, hj, HLN, rfl, ht, hk, hg⟩ := hrel
        have HT := Lib.hid ht
        have HC := Lib.hid hk
        have HG := Lib.hid hg
        clear hk hg
        by_cases hlt : j < z1.length
        · obtain ⟨b, off, rfl, hc⟩ := (HR1.out.below ht.be) (by omega)
          have c1 := hc j hlt
          have HOK := Lib.hid (HZ1.out _ (List.getElem_mem hlt))
          have ti0 : (0 : Int) ≤ (j : Int) := by omega
          have ti1 : (j : Int) < (z1.length : Int) := by omega
          clear hc ht
          generalize z1[j] = n at *
          have HTP := Lib.hid (HT.out.delR 0 n HOK.out (by omega))
          have HTG : Hid (∀ (a3 : Option Addr) (cap3 : Nat) W, MdB w T A d 4096 L2 (delG L2 (key 0 n)).1 a3 cap3 (fun b => K b ∨ GBb la L b) W → Calls Try.prog 41 #[aP T, .agg #[.int .i64 0, .int .i64 n]] W fun e w' => e = .returned (.bool (delG L2 (key 0 n)).2) ∧ MdB w T A d 4096 (delG L2 (key 0 n)).1 (delG L2 (key 0 n)).1 a3 cap3 (fun b => K b ∨ GBb la L b) w' ∧ (∀ b, K b ∨ GBb la L b → w'.heap[b]? = W.heap[b]?) ∧ W.heap.size ≤ w'.heap.size) := fun a3 cap3 W h => h.delS 0 n HOK.out
          have HL2 := delG_len L2 (key 0 n)
          generalize (delG L2 (key 0 n)).1 = L3 at *
          generalize (delG L2 (key 0 n)).2 = re at *
          have nre : (re != re) = false := bne_self_eq_false re
          go_wp2_with fail
          refine HTP.out.mono ?_
          rintro e y1 ⟨la3, lc3, rfl, hmid, hb⟩
          have HMI := Lib.hid hmid
          replace HC := Lib.hid (HC.out.on hb)
          replace HG := Lib.hid (HG.out.below hb)
          clear hmid hb HTP HT c1
          go_wp2_with fail
          refine (HTG.out la3 lc3 _ HMI.out).mono ?_
          rintro e y2 ⟨rfl, hm2, hk2, hs2⟩
          have HM2 := Lib.hid hm2
          have HCK := Lib.hid hm2.tk.check
          replace HC := Lib.hid (HC.out.stay (fun b hb => hk2 b (.inl hb)) hm2.be hs2)
          replace HG := Lib.hid (HG.out.keptBb (fun b hb => hk2 b (.inr hb)))
          clear hm2 hk2 hs2 HTG HMI
          go_wp2_with fail
          refine HCK.out.mono ?_
          rintro e y3 ⟨rfl, hb⟩
          replace HM2 := Lib.hid (HM2.out.on hb)
          replace HC := Lib.hid (HC.out.on hb)
          replace HG := Lib.hid (HG.out.below hb)
          clear hb HCK
          go_wp2_with fail
          go_roundw
          case rel => exact ⟨j + 1, L3, la3, lc3, by go_num, by omega, by omega, rfl, HM2.out, HC.out, HG.out⟩
          case measure => simp [intOf]; omega
        · obtain rfl : j = z1.length := by omega
          clear ht
          go_wp2_with fail
          refine (HAL.out _).mono ?_
          rintro e x1 ⟨rfl, hb⟩
          replace HT := Lib.hid (HT.out.on hb)
          replace HC := Lib.hid (HC.out.on hb)
          replace HG := Lib.hid (HG.out.below hb)
          have HAA := Lib.hid HT.out.tk.all
          clear hb HAL
          go_wp2_with fail
          refine HAA.out.mono ?_
          rintro e x2 ⟨a3, c3, ⟨rfl, hg3, hc3⟩, hb⟩
          replace HT := Lib.hid (HT.out.on hb)
          replace HC := Lib.hid (HC.out.on hb)
          replace HG := Lib.hid (HG.out.below hb)
          have HSM := Lib.hid (rsameG_any a3 la2 c3 lc2 L2 x2 hg3 HT.out.row (by omega))
          clear hg3 hb HAA
          go_wp2_with fail
          refine HSM.out.mono ?_
          rintro e x3 ⟨rfl, hb⟩
          replace HT := Lib.hid (HT.out.on hb)
          replace HC := Lib.hid (HC.out.on hb)
          replace HG := Lib.hid (HG.out.below hb)
          have HAB := Lib.hid HC.out.bk.all
          clear hb HSM
          go_wp2_with fail
          refine HAB.out.mono ?_
          rintro e x4 ⟨a4, c4, ⟨rfl, hg4, hc4⟩, hb⟩
          replace HC := Lib.hid (HC.out.on hb)
          replace HG := Lib.hid (HG.out.below hb)
          have HSN := Lib.hid (rsameG_any a4 la c4 lc L x4 hg4 HG.out (by omega))
          clear hg4 hb HAB
          go_wp2_with fail
          refine HSN.out.mono ?_
          rintro e x5 ⟨rfl, hb⟩
          replace HC := Lib.hid (HC.out.on hb)
          have HCK := Lib.hid HC.out.bk.check
          clear hb HSN
          go_wp2_with fail
          refine HCK.out.mono ?_
          rintro e x6 ⟨rfl, hb⟩
          replace HC := Lib.hid (HC.out.on hb)
          clear hb HCK
          go_wp2_with fail
          go_ret
          exact ⟨rfl, HC.out.be⟩
end Go.Proofs.Ytjgcdmeojjnjlaa
