/- The walk of the law BtreeLoads. -/
import Derived.Deep.RegionHeld3
import Derived.Test.YtjgcdmeojjnjlaaCQ
namespace Go.Proofs.Ytjgcdmeojjnjlaa
open Go.RowKit Go.Sort Go.Proofs.Ytjgcdmeojjnjlaa.Bo Go.Proofs.Ytjgcdmeojjnjlaa.Bb
set_option linter.unusedVariables false
set_option maxRecDepth 100000

set_option maxHeartbeats 8000000 in
theorem btreeLoads_walk (dg room : Int) (a : Option Addr) (len cap : Nat) (l : List G5) (w : World) (h : IsSegs w a len cap l) :
    Calls Try.prog 5 #[seV dg room, .slice a len cap] w fun e w' => e = .returned (.bool true) ∧ Go.RowKit.Below w.heap.size w w' := by
  have mx := mixed
  obtain ⟨rfl, hok, hr, hcap⟩ := h
  have HAL := Lib.hid balive_any
  have HSE : Hid ((w.alloc (seO dg room)).heap[w.heap.size]? = some (seO dg room)) := heap_alloc_new w _
  have HB0 : Hid (Go.RowKit.Below w.heap.size w (w.alloc (seO dg room))) := below_new w (seO dg room)
  obtain ⟨se1, se2⟩ := seO_cells HSE.out
  by_cases h3 : 300 < l.length
  · have t2 : decide ((300 : Int) < (l.length : Int)) = true := decide_eq_true (by omega)
    have t3 : decide (300 < l.length) = true := decide_eq_true (by omega)
    go_enter Try.func5, Try.ntmps5
    go_wp2_with fail
    refine (HAL.out _).mono ?_
    rintro e y1 ⟨rfl, hB1⟩
    clear se1 se2
    go_wp2_with fail
    go_ret
    exact ⟨rfl, bt HB0.out hB1⟩
  have t2 : decide ((300 : Int) < (l.length : Int)) = false := decide_eq_false (by omega)
  have t3 : decide (300 < l.length) = false := decide_eq_false (by omega)
  have hl : l.length ≤ 1000 := by omega
  have HRI : Hid (∀ X, Go.RowKit.Below w.heap.size w X → Calls Try.prog 61 #[.slice a l.length cap] X fun e w' => e = .returned (.bool (riseB l)) ∧ Go.RowKit.Below X.heap.size X w') := fun X hX => brise_row a cap l X hl (hr.below hX) hok
  have bad : ∀ e0 : Int, (e0 = 1 ∨ e0 = 50) → (∀ X, Go.RowKit.Below w.heap.size w X → Calls Try.prog 32 #[.int .i64 dg, .int .i64 room, .slice a l.length cap] X fun e w' => e = .returned (.tuple #[.pointer none, .int .i64 e0]) ∧ Go.RowKit.Below X.heap.size X w') → (∀ X, Go.RowKit.Below w.heap.size w X → Calls Try.prog 33 #[.int .i64 dg, .int .i64 room, .slice a l.length cap] X fun e w' => e = .returned (.int .i64 e0) ∧ Go.RowKit.Below X.heap.size X w') →
      Calls Try.prog 5 #[seV dg room, .slice a l.length cap] w fun e w' => e = .returned (.bool true) ∧ Go.RowKit.Below w.heap.size w w' := fun e0 he hL hF => by
    have HL := Lib.hid hL
    have HF := Lib.hid hF
    have n0 : (e0 != 0) = true := by rcases he with rfl | rfl <;> decide
    have n1 : (e0 == e0) = true := beq_self_eq_true e0
    have n2 : ¬ e0 = 0 := by rcases he with rfl | rfl <;> decide
    clear hL hF he
    go_enter Try.func5, Try.ntmps5
    go_wp2_with fail
    refine (HL.out _ HB0.out).mono ?_
    rintro e y0 ⟨rfl, hb⟩
    have HB1 := Lib.hid (bt HB0.out hb)
    have HS1 := Lib.hid (box_on HSE.out hb)
    clear hb se1 se2
    obtain ⟨se1, se2⟩ := seO_cells HS1.out
    go_wp2_with fail
    refine (HF.out _ HB1.out).mono ?_
    rintro e y1 ⟨rfl, hb⟩
    have HB2 := Lib.hid (bt HB1.out hb)
    clear hb se1 se2
    go_wp2_with fail
    refine (HAL.out _).mono ?_
    rintro e y2 ⟨rfl, hb⟩
    have HB3 := Lib.hid (bt HB2.out hb)
    clear hb
    go_wp2_with fail
    go_ret
    exact ⟨rfl, HB3.out⟩
  by_cases h0 : ¬ ((2 ≤ dg ∧ dg ≤ 64) ∧ 0 ≤ room ∧ room ≤ 4096)
  · exact bad 1 (.inl rfl) (fun X hX => bload_bad dg room a _ cap X h0) (fun X hX => rload_bad dg room a _ cap X h0)
  have h1 := Classical.not_not.1 h0
  clear h0
  obtain ⟨d, rfl⟩ : ∃ d : Nat, dg = (d : Int) := ⟨dg.toNat, by omega⟩
  have hd : 2 ≤ d ∧ d ≤ 64 := ⟨by omega, by omega⟩
  have hF : ∀ X, Go.RowKit.Below w.heap.size w X → Calls Try.prog 33 #[.int .i64 (d : Int), .int .i64 room, .slice a l.length cap] X fun e w' => e = .returned (.int .i64 (if riseB l = false then 1 else if room < (l.length : Int) then 50 else 0)) ∧ Go.RowKit.Below X.heap.size X w' := fun X hX => rload_any (d : Int) room a cap l X h1 hl (hr.below hX) hok
  cases hrb : riseB l with
  | false =>
    rw [hrb] at HRI hF
    exact bad 1 (.inl rfl) (fun X hX => bload_not d room a _ cap 1 X hd h1.2 false (Lib.hid fun Y hY => HRI.out Y (bt hX hY)) (.inl ⟨rfl, rfl⟩)) (fun X hX => hF X hX)
  | true =>
    rw [hrb] at HRI hF
    by_cases hR : room < (l.length : Int)
    · refine bad 50 (.inr rfl) (fun X hX => bload_not d room a _ cap 50 X hd h1.2 true (Lib.hid fun Y hY => HRI.out Y (bt hX hY)) (.inr ⟨rfl, hR, rfl⟩)) (fun X hX => ?_)
      have := hF X hX
      rw [if_neg (by simp), if_pos hR] at this
      exact this
    · have HF : Hid (∀ X, Go.RowKit.Below w.heap.size w X → Calls Try.prog 33 #[.int .i64 (d : Int), .int .i64 room, .slice a l.length cap] X fun e w' => e = .returned (.int .i64 0) ∧ Go.RowKit.Below X.heap.size X w') := fun X hX => by
        have := hF X hX
        rw [if_neg (by simp), if_neg hR] at this
        exact this
      have HLD := Lib.hid (bload_yes d room a cap l (w.alloc (seO (d : Int) room)) hd h1.2 (hr.below HB0.out) hok (riseB_row l hrb) (by omega) (Lib.hid fun Y hY => HRI.out Y (bt HB0.out hY)))
      have HRW := Lib.hid hr
      have HL3 := Lib.hid (show l.length ≤ 100000 by omega)
      clear hF bad hrb h1 hR HRI hr hok
      go_enter Try.func5, Try.ntmps5
      go_wp2_with fail
      refine HLD.out.mono ?_
      rintro e y0 ⟨T, A, rfl, ht⟩
      have HM0 := Lib.hid (ht.low (C := fun b => b = w.heap.size) (fun b hb => .inr (by subst hb; exact lt_of_block HSE.out)))
      have HS0 := Lib.hid (box_on HSE.out ht.be)
      clear ht se1 se2 HSE HLD
      generalize w.alloc (seO (d : Int) room) = w0 at *
      obtain ⟨se1, se2⟩ := seO_cells HS0.out
      go_wp2_with fail
      refine (HF.out _ (bt HB0.out HM0.out.be)).mono ?_
      rintro e y1 ⟨rfl, hb⟩
      have HM2 := Lib.hid ((HM0.out.on hb).on (below_drewB y1))
      have HS3 := Lib.hid (box_on (box_on HS0.out hb) (below_drewB y1))
      clear hb se1 se2 HM0 HS0 HF t2 t3
      have nlen : ((l.length : Int) == (l.length : Int)) = true := beq_self_eq_true _
      have nlen2 : (l.length == l.length) = true := beq_self_eq_true _
      go_upto_region 7 with fail
      have HCS : Hid (∀ W : World, W.heap[w.heap.size]? = some (seO (d : Int) room) → W.cell? ⟨w.heap.size, 0, none⟩ = some (.int .i64 (d : Int))) := fun W hW => (seO_cells hW).1
      go_region_held3 (fun w' => w'.cell? ⟨w.heap.size, 0, none⟩ = some (.int .i64 (d : Int)))
        (with_reducible exact HCS.out _ HS3.out)
        (first
        | (go_at_call 9; refine (HAL.out _).mono ?_; rintro e y2 ⟨rfl, hb⟩; replace HM2 := Lib.hid (HM2.out.on hb); replace HS3 := Lib.hid (box_on HS3.out hb); clear hb)
        | (go_at_call 17; refine HM2.out.all.mono ?_; rintro e y3 ⟨a3, c3, ⟨rfl, hg3, hc3⟩, hb⟩; have HG3 := Lib.hid hg3; replace HM2 := Lib.hid (HM2.out.on hb); replace HS3 := Lib.hid (box_on HS3.out hb); clear hg3 hc3 hb)
        | (go_at_call 16; refine (rsameG_any _ _ _ _ l _ HG3.out (HRW.out.below (bt HB0.out HM2.out.be)) HL3.out).mono ?_; rintro e y4 ⟨rfl, hb⟩; replace HM2 := Lib.hid (HM2.out.on hb); replace HS3 := Lib.hid (box_on HS3.out hb); clear hb)
        | (go_at_call 18; refine HM2.out.len.mono ?_; rintro e y5 ⟨rfl, hb⟩; replace HM2 := Lib.hid (HM2.out.on hb); replace HS3 := Lib.hid (box_on HS3.out hb); clear hb)
        | (go_at_call 19; refine HM2.out.check.mono ?_; rintro e y6 ⟨rfl, hb⟩; replace HM2 := Lib.hid (HM2.out.on hb); replace HS3 := Lib.hid (box_on HS3.out hb); clear hb)
        | (go_at_call 21; obtain ⟨NH, _, hn1, hn2⟩ := HM2.out.high; have HHI := Lib.hid hn2; refine hn1.mono ?_; rintro e y7 ⟨rfl, hb⟩; replace HM2 := Lib.hid (HM2.out.on hb); replace HS3 := Lib.hid (box_on HS3.out hb); clear hb hn1 hn2)
        | (go_at_call 20; refine (HHI.out _).mono ?_; rintro e y8 ⟨rfl, hb⟩; replace HM2 := Lib.hid (HM2.out.on hb); replace HS3 := Lib.hid (box_on HS3.out hb); clear hb))
      all_goals
        go_wp2_with fail
        go_ret
        exact ⟨rfl, bt HB0.out HM2.out.be⟩
end Go.Proofs.Ytjgcdmeojjnjlaa
