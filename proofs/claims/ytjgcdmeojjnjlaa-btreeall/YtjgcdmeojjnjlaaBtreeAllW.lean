/- The walk of the law BtreeAll. -/
import Derived.Deep.RegionHeld3
import Derived.Test.YtjgcdmeojjnjlaaCQ
namespace Go.Proofs.Ytjgcdmeojjnjlaa
open Go.RowKit Go.Sort Go.Proofs.Ytjgcdmeojjnjlaa.Bo Go.Proofs.Ytjgcdmeojjnjlaa.Bb
set_option linter.unusedVariables false
set_option maxRecDepth 100000

set_option maxHeartbeats 8000000 in
theorem btreeAll_walk (dg room : Int) (a : Option Addr) (len cap : Nat) (z : List O6) (w : World) (h : IsOps6 w a len z) :
    Calls Try.prog 3 #[seV dg room, .slice a len cap] w fun e w' => e = .returned (.bool true) ∧ Go.RowKit.Below w.heap.size w w' := by
  have mx := mixed
  obtain ⟨rfl, hz, hr⟩ := h
  have HAL := Lib.hid balive_any
  have HZ := Lib.hid hz
  have HR := Lib.hid hr
  clear hz hr
  have HSE : Hid ((w.alloc (seO dg room)).heap[w.heap.size]? = some (seO dg room)) := heap_alloc_new w _
  have HB0 : Hid (Go.RowKit.Below w.heap.size w (w.alloc (seO dg room))) := below_new w (seO dg room)
  obtain ⟨se1, se2⟩ := seO_cells HSE.out
  by_cases h3 : 200 < z.length
  · have t2 : decide ((200 : Int) < (z.length : Int)) = true := decide_eq_true (by omega)
    have t3 : decide (200 < z.length) = true := decide_eq_true (by omega)
    go_enter Try.func3, Try.ntmps3
    go_wp2_with fail
    refine (HAL.out _).mono ?_
    rintro e y1 ⟨rfl, hB1⟩
    clear se1 se2
    go_wp2_with fail
    go_ret
    exact ⟨rfl, bt HB0.out hB1⟩
  have t2 : decide ((200 : Int) < (z.length : Int)) = false := decide_eq_false (by omega)
  have t3 : decide (200 < z.length) = false := decide_eq_false (by omega)
  by_cases h0 : ¬ ((2 ≤ dg ∧ dg ≤ 64) ∧ 0 ≤ room ∧ room ≤ 4096)
  · have HN := Lib.hid (fun W => btnew_no dg room W h0)
    have HRI := Lib.hid (fun W => bright7_no dg room h0 W)
    clear h0
    go_enter Try.func3, Try.ntmps3
    go_wp2_with fail
    refine (HN.out _).mono ?_
    rintro e y0 ⟨rfl, rfl⟩
    go_wp2_with fail
    refine (HRI.out _).mono ?_
    rintro e y0 ⟨rfl, hb⟩
    have HY := Lib.hid (bt HB0.out hb)
    clear hb se1 se2
    go_wp2_with fail
    refine (HAL.out _).mono ?_
    rintro e y1 ⟨rfl, hB1⟩
    go_wp2_with fail
    go_ret
    exact ⟨rfl, bt HY.out hB1⟩
  have h1 := Classical.not_not.1 h0
  clear h0
  obtain ⟨d, rfl⟩ : ∃ d : Nat, dg = (d : Int) := ⟨dg.toNat, by omega⟩
  have HRI := Lib.hid (fun W => bright7_yes (d : Int) room h1 W)
  have HN := Lib.hid (mdb_new (w := w.alloc (seO (d : Int) room)) d room ⟨by omega, by omega⟩ h1.2 (fun b => False) (w.alloc (seO (d : Int) room)) (Go.RowKit.Below.refl _ _) (fun b hb => hb.elim))
  clear h1
  have nroom : (room != room) = false := bne_self_eq_false room
  have ndeg : ((d : Int) != (d : Int)) = false := bne_self_eq_false _
  go_enter Try.func3, Try.ntmps3
  go_wp2_with fail
  refine HN.out.mono ?_
  rintro e y0 ⟨T, A, ⟨rfl, ht⟩, hb⟩
  have HM0 := Lib.hid (ht.low (K' := fun b => b = w.heap.size) (fun b hb => .inr (by subst hb; exact lt_of_block HSE.out)))
  have HS0 := Lib.hid (box_on HSE.out hb)
  clear ht hb HN se1 se2 HSE
  generalize w.alloc (seO (d : Int) room) = w0 at *
  obtain ⟨se1, se2⟩ := seO_cells HS0.out
  go_wp2_with fail
  refine (HRI.out _).mono ?_
  rintro e y1 ⟨rfl, hb⟩
  have HM1 := Lib.hid (HM0.out.on hb)
  have HS1 := Lib.hid (box_on HS0.out hb)
  clear hb se1 se2 HM0 HS0 HRI
  obtain ⟨se1, se2⟩ := seO_cells HS1.out
  have p1 := cell_regrown se1
  have p2 := cell_regrown se2
  have HG : Hid (∀ (n : Nat) (os : Array Obj), MdB w0 T A d room [] [] none 0 (fun b => b = w.heap.size) (grow (redrawn y1 n) os)) := fun n os => HM1.out.on (below_regrown y1 n os)
  clear se1 se2
  go_upto_region 6 with fail
  refine wp_region_quiet_below (by assumption) (by kernel_rfl) ?_
  repeat (go_big_quiet_step (first
    | (go_at_call 12; with_reducible exact Calls.regrown_of (HG.out _ _).tk.room)
    | (go_at_call 13; with_reducible exact Calls.regrown_of (HG.out _ _).tk.degree)))
  refine wpQuiet_nil ?_
  intro _ hw'
  obtain ⟨⟨nq, osq⟩, hw''⟩ := hw'
  subst hw''
  have HT0 := Lib.hid (HG.out nq osq)
  have HS0 := Lib.hid (box_on HS1.out (below_regrown y1 nq osq))
  clear p1 p2 HG HM1 HS1 t2 t3 nroom ndeg
  generalize grow (redrawn y1 nq) osq = Y at *
  go_wp2_with fail
  go_loopw [7, 64] (fun l k wr => ∃ (j : Nat) (L : List G5) (la : Option Addr) (lc : Nat), k = .int .i64 (j : Int) ∧ j ≤ z.length ∧ L.length ≤ j ∧ l = .slice la L.length lc ∧ MdB w0 T A d room L L la lc (fun b => b = w.heap.size) wr ∧ wr.heap[w.heap.size]? = some (seO (d : Int) room)) (fun _ k _ => z.length - (intOf k).toNat)
  case atStart => exact ⟨0, [], none, 0, rfl, Nat.zero_le _, Nat.le_refl _, rfl, HT0.out, HS0.out⟩
  case round =>
    clear HT0 HS0
    obtain ⟨j, L, la, lc, rfl, hj, HLN, rfl, ht, hs⟩ := hrel
    have HT := Lib.hid ht
    have HS := Lib.hid hs
    by_cases hlt : j < z.length
    · obtain ⟨b, off, rfl, hc⟩ := (HR.out.below (bt HB0.out ht.be)) (by omega)
      obtain ⟨c1, c2, c3, c4, c5, c6⟩ := hc j hlt
      have HOK := Lib.hid (HZ.out _ (List.getElem_mem hlt))
      have ti0 : (0 : Int) ≤ (j : Int) := by omega
      have ti1 : (j : Int) < (z.length : Int) := by omega
      clear hc ht hs
      generalize z[j] = o at *
      have HT1 := Lib.hid (HT.out.on (below_new wr (oOb o.k o.s)))
      have HS1 := Lib.hid (box_on HS.out (below_new wr (oOb o.k o.s)))
      have HDO := Lib.hid (HT1.out.doG o.k o.s HOK.out.2 (by omega))
      have hbo := heap_alloc_new wr (oOb o.k o.s)
      obtain ⟨d0, d1, d2, d3, d4, d5⟩ := ob_cells hbo
      obtain ⟨s0, s1⟩ := seO_cells HS1.out
      have HBO := Lib.hid hbo
      clear hbo
      have HTG : Hid (∀ (a2 : Option Addr) (cap2 : Nat) W, MdB w0 T A d room L (doG L room o.k o.s).1 a2 cap2 (fun b => b = w.heap.size) W → Calls Try.prog 15 #[aP T, vOb o.k o.s] W fun e w' => e = .returned (.tuple #[.bool (doG L room o.k o.s).2.1, .int .i64 (doG L room o.k o.s).2.2]) ∧ MdB w0 T A d room (doG L room o.k o.s).1 (doG L room o.k o.s).1 a2 cap2 (fun b => b = w.heap.size) w' ∧ ∀ b, b = w.heap.size → w'.heap[b]? = W.heap[b]?) := fun a2 cap2 W h => h.does HOK.out.2
      have HL2 := doG_len L room o.k o.s
      generalize (doG L room o.k o.s).1 = L2 at *
      generalize (doG L room o.k o.s).2.1 = rb at *
      generalize (doG L room o.k o.s).2.2 = re at *
      have nrb : (rb != rb) = false := bne_self_eq_false rb
      have nre : (re != re) = false := bne_self_eq_false re
      go_wp2_with fail
      refine HDO.out.mono ?_
      rintro e y1 ⟨la2, lc2, rfl, hmid, hb⟩
      have HMI := Lib.hid hmid
      replace HBO := Lib.hid (box_on HBO.out hb)
      have HS2 := Lib.hid (box_on HS1.out hb)
      clear d0 d1 d2 d3 d4 d5 c1 c2 c3 c4 c5 c6 s0 s1 HDO hmid hb HT1 HS1
      obtain ⟨d0, d1, d2, d3, d4, d5⟩ := ob_cells HBO.out
      go_wp2_with fail
      refine (HTG.out la2 lc2 _ HMI.out).mono ?_
      rintro e y2 ⟨rfl, hm2, hk2⟩
      have HM2 := Lib.hid (hm2.on (below_drewB y2))
      have HS3 := Lib.hid (box_on ((hk2 _ rfl).trans HS2.out) (below_drewB y2))
      clear hm2 hk2 d0 d1 d2 d3 d4 d5 HTG HMI HBO HS2
      have nlen : ((L2.length : Int) != (L2.length : Int)) = false := bne_self_eq_false _
      have nlen2 : (L2.length != L2.length) = false := bne_self_eq_false _
      have HL3 := Lib.hid (show L2.length ≤ 100000 by omega)
      go_upto_region 15 with fail
      have HCS : Hid (∀ W : World, W.heap[w.heap.size]? = some (seO (d : Int) room) → W.cell? ⟨w.heap.size, 0, none⟩ = some (.int .i64 (d : Int))) := fun W hW => (seO_cells hW).1
      go_region_held3 (fun w' => w'.cell? ⟨w.heap.size, 0, none⟩ = some (.int .i64 (d : Int)))
        (with_reducible exact HCS.out _ HS3.out)
        (first
        | (go_at_call 17; refine HM2.out.tk.all.mono ?_; rintro e y3 ⟨a3, c3, ⟨rfl, hg3, hc3⟩, hb⟩; have HG3 := Lib.hid hg3; replace HM2 := Lib.hid (HM2.out.on hb); replace HS3 := Lib.hid (box_on HS3.out hb); clear hg3 hc3 hb)
        | (go_at_call 16; refine (rsameG_any _ _ _ _ L2 _ HG3.out HM2.out.row HL3.out).mono ?_; rintro e y4 ⟨rfl, hb⟩; replace HM2 := Lib.hid (HM2.out.on hb); replace HS3 := Lib.hid (box_on HS3.out hb); clear hb)
        | (go_at_call 18; refine HM2.out.tk.len.mono ?_; rintro e y5 ⟨rfl, hb⟩; replace HM2 := Lib.hid (HM2.out.on hb); replace HS3 := Lib.hid (box_on HS3.out hb); clear hb)
        | (go_at_call 19; refine HM2.out.tk.check.mono ?_; rintro e y6 ⟨rfl, hb⟩; replace HM2 := Lib.hid (HM2.out.on hb); replace HS3 := Lib.hid (box_on HS3.out hb); clear hb)
        | (go_at_call 21; obtain ⟨NH, _, hn1, hn2⟩ := HM2.out.tk.high; have HHI := Lib.hid hn2; refine hn1.mono ?_; rintro e y7 ⟨rfl, hb⟩; replace HM2 := Lib.hid (HM2.out.on hb); replace HS3 := Lib.hid (box_on HS3.out hb); clear hb hn1 hn2)
        | (go_at_call 20; refine (HHI.out _).mono ?_; rintro e y8 ⟨rfl, hb⟩; replace HM2 := Lib.hid (HM2.out.on hb); replace HS3 := Lib.hid (box_on HS3.out hb); clear hb))
      all_goals
        go_wp2_with fail
        go_roundw
        case rel => exact ⟨j + 1, L2, la2, lc2, by go_num, by omega, by omega, rfl, HM2.out, HS3.out⟩
        case measure => simp [intOf]; omega
    · obtain rfl : j = z.length := by omega
      clear ht hs
      go_wp2_with fail
      refine (HAL.out _).mono ?_
      rintro e y1 ⟨rfl, hB1⟩
      go_wp2_with fail
      go_ret
      exact ⟨rfl, bt HB0.out (bt HT.out.be hB1)⟩
end Go.Proofs.Ytjgcdmeojjnjlaa
