/- The walk of the law BoundNumbers. -/
import Derived.Test.YthojkbmffiibdaaDoorBK
namespace Go.Proofs.YthojkbmffiibdaaDoor
open Go.RowKit Go.Sort Go.Proofs.YthojkbmffiibdaaDoor.Bo
set_option linter.unusedVariables false

theorem bd_form (k1 a1 k2 a2 : Int) : bdE k1 a1 k2 a2 = 40 ↔ (kindB k1 && kindB k2) = false := by
  unfold bdE ofE
  by_cases h : (kindB k1 && kindB k2) = true
  · rw [if_pos h, h]
    constructor
    · intro h2; split at h2 <;> cases h2
    · intro h2; cases h2
  · rw [if_neg h]; exact ⟨fun _ => eq_false_of_ne_true h, fun _ => rfl⟩
theorem bd_zero (k1 a1 k2 a2 : Int) (h : bdE k1 a1 k2 a2 = 40) : bdS k1 a1 k2 a2 = ⟨0, 0, 0, 0⟩ := by
  have := (bd_form k1 a1 k2 a2).1 h
  unfold bdS; rw [if_neg (by rw [this]; decide)]
/-- On the right side of a lower, and of a higher bound. -/
def sideL (k a n : Int) : Bool := k == 0 || decide (a < n) || (n == a && k == 2)
def sideH (k a n : Int) : Bool := k == 0 || decide (n < a) || (n == a && k == 2)
theorem kinds (k : Int) (h : kindB k = true) : k = 0 ∨ k = 1 ∨ k = 2 := by
  rcases kind3 k with h1 | h1 | h1 | h1
  · exact .inl h1
  · exact .inr (.inl h1)
  · exact .inr (.inr h1)
  · rw [kindB_bad k h1] at h; cases h
theorem sideL_iff (k a n : Int) (h : kindB k = true) (hn : I64 n) : sideL k a n = decide (lowK k a ≤ n) := by
  unfold I64 at hn
  rcases kinds k h with rfl | rfl | rfl
  · exact (decide_eq_true (show lo64 ≤ n by unfold lo64; omega)).symm
  · show (decide (a < n) || (n == a && false)) = decide (a + 1 ≤ n)
    rw [Bool.and_false, Bool.or_false]
    by_cases h1 : a < n
    · rw [decide_eq_true h1, decide_eq_true (by omega)]
    · rw [decide_eq_false h1, decide_eq_false (by omega)]
  · show (decide (a < n) || (n == a && true)) = decide (a ≤ n)
    rw [Bool.and_true]
    by_cases h1 : a < n
    · rw [decide_eq_true h1, decide_eq_true (by omega)]; rfl
    · rw [decide_eq_false h1, Bool.false_or]
      by_cases h2 : n = a
      · rw [decide_eq_true (by omega)]; exact beq_iff_eq.2 h2
      · rw [decide_eq_false (by omega)]; exact beq_eq_false_iff_ne.2 h2
theorem sideH_iff (k a n : Int) (h : kindB k = true) (hn : I64 n) : sideH k a n = decide (n < highK k a) := by
  unfold I64 at hn
  rcases kinds k h with rfl | rfl | rfl
  · exact (decide_eq_true (show n < hi64 by unfold hi64; omega)).symm
  · show (decide (n < a) || (n == a && false)) = decide (n < a)
    rw [Bool.and_false, Bool.or_false]
  · show (decide (n < a) || (n == a && true)) = decide (n < a + 1)
    rw [Bool.and_true]
    by_cases h1 : n < a
    · rw [decide_eq_true h1, decide_eq_true (by omega)]; rfl
    · rw [decide_eq_false h1, Bool.false_or]
      by_cases h2 : n = a
      · rw [decide_eq_true (by omega)]; exact beq_iff_eq.2 h2
      · rw [decide_eq_false (by omega)]; exact beq_eq_false_iff_ne.2 h2
theorem has_ofS (k l n : Int) (hk : Ky k) (hl : Ky l) : (ofS k l).has n = (decide (k ≤ n) && decide (n < l)) := by
  unfold ofS
  by_cases h : k < l
  · rw [if_pos h]
    unfold S4.has
    rw [sp_right (k, l) hk hl, sp_lo (k, l) hk, sp_hi (k, l) hl, decide_eq_true h]
    rfl
  · rw [if_neg h]
    have e : (⟨0, 0, 0, 0⟩ : S4).has n = false := by
      unfold S4.has
      rw [show S4.right ⟨0, 0, 0, 0⟩ = false from rfl]; rfl
    rw [e]
    by_cases h1 : k ≤ n
    · rw [decide_eq_true h1, decide_eq_false (by omega)]; rfl
    · rw [decide_eq_false h1]; rfl
theorem bd_has (k1 a1 k2 a2 n : Int) (h1 : I64 a1) (h2 : I64 a2) (hn : I64 n) (hE : bdE k1 a1 k2 a2 ≠ 40) : (bdS k1 a1 k2 a2).has n = (sideL k1 a1 n && sideH k2 a2 n) := by
  have hB : (kindB k1 && kindB k2) = true := by
    cases h : (kindB k1 && kindB k2) with
    | true => rfl
    | false => exact absurd ((bd_form k1 a1 k2 a2).2 h) hE
  obtain ⟨hb1, hb2⟩ : kindB k1 = true ∧ kindB k2 = true := by simpa using hB
  unfold bdS
  rw [if_pos hB, has_ofS _ _ _ (lowK_ky _ _ h1) (highK_ky _ _ h2), sideL_iff _ _ _ hb1 hn, sideH_iff _ _ _ hb2 hn]
theorem bd_ok (k1 a1 k2 a2 : Int) (h1 : I64 a1) (h2 : I64 a2) : (bdS k1 a1 k2 a2).ok := by
  have hz : S4.ok ⟨0, 0, 0, 0⟩ := ⟨⟨by decide, by decide⟩, ⟨by decide, by decide⟩⟩
  unfold bdS ofS
  split
  · split
    · exact sp_ok (_, _) (lowK_ky _ _ h1) (highK_ky _ _ h2)
    · exact hz
  · exact hz
/-- Two bounds. -/
structure Bn2 (w : World) (k1 a1 k2 a2 : Int) (X : World) : Prop where
  b1 : X.heap[w.heap.size]? = some (bB k1 a1)
  b2 : X.heap[w.heap.size + 1]? = some (bB k2 a2)
  be : Go.RowKit.Below w.heap.size w X
theorem Bn2.new (w : World) (k1 a1 k2 a2 : Int) : Bn2 w k1 a1 k2 a2 ((w.alloc (bB k1 a1)).alloc (bB k2 a2)) := ⟨box_on (heap_alloc_new w _) (below_new _ _), new_at _ (by simp), bt (below_new _ _) (below_new _ _)⟩
theorem Bn2.on {w : World} {k1 a1 k2 a2 : Int} {W W' : World} (h : Bn2 w k1 a1 k2 a2 W) (hb : Go.RowKit.Below W.heap.size W W') : Bn2 w k1 a1 k2 a2 W' := ⟨box_on h.b1 hb, box_on h.b2 hb, bt h.be hb⟩
set_option maxRecDepth 100000 in
set_option maxHeartbeats 1000000 in
theorem boundNumbers_form (k1 a1 k2 a2 n : Int) (w : World)
    (HS : Hid (∀ W, Calls Tryd.prog 9 #[.agg #[.int .i64 k1, .int .i64 a1], .agg #[.int .i64 k2, .int .i64 a2]] W fun e w' => e = .returned (.tuple #[.agg #[.int .i64 0, .int .i64 0, .int .i64 0, .int .i64 0], .int .i64 40]) ∧ Go.RowKit.Below W.heap.size W w')) :
    Calls Tryd.prog 4 #[.agg #[.int .i64 k1, .int .i64 a1], .agg #[.int .i64 k2, .int .i64 a2], .int .i64 n] w fun e w' => e = .returned (.bool true) ∧ Go.RowKit.Below w.heap.size w w' := by
  have HAL := Lib.hid balive_any
  have hs := eqs_self ⟨0, 0, 0, 0⟩
  have HX := Lib.hid (Bn2.new w k1 a1 k2 a2)
  go_enter Tryd.func4, Tryd.ntmps4
  go_upto_region 1 with fail
  generalize ((w.alloc (bB k1 a1)).alloc (bB k2 a2)) = X at *
  obtain ⟨c1, c2, _, _⟩ := two_cells HX.out.b1
  obtain ⟨c3, c4, _, _⟩ := two_cells HX.out.b2
  go_wp2_with fail
  refine (HS.out _).mono ?_
  rintro e y1 ⟨rfl, hB1⟩
  have hA1 := bt hB1 (below_new y1 (.cells #[.int .i64 0, .int .i64 0, .int .i64 0, .int .i64 0] 27))
  have HX1 := Lib.hid (HX.out.on hA1)
  have HZ1 : Hid (Box4 (y1.alloc (.cells #[.int .i64 0, .int .i64 0, .int .i64 0, .int .i64 0] 27)) y1.heap.size ⟨0, 0, 0, 0⟩) := heap_alloc_new _ _
  clear c1 c2 c3 c4 hB1 hA1 HX
  go_upto_region 2 with fail
  generalize y1.alloc (.cells #[.int .i64 0, .int .i64 0, .int .i64 0, .int .i64 0] 27) = X1 at *
  generalize y1.heap.size = N1 at *
  go_wp2_with fail
  refine (HAL.out _).mono ?_
  rintro e y2 ⟨rfl, hB2⟩
  have hL2 := bt HX1.out.be hB2
  obtain ⟨c1, c2, c3, c4⟩ := (HZ1.out.on hB2).cells
  go_wp2_with fail
  go_ret
  exact ⟨rfl, hL2⟩
set_option maxRecDepth 100000 in
set_option maxHeartbeats 4000000 in
theorem boundNumbers_core (k1 a1 k2 a2 n E : Int) (Z : S4) (H : Bool) (T1 T2 T3 T4 T5 T6 T7 T8 : Bool) (w : World) (hE : E ≠ 40)
    (HS : Hid (∀ W, Calls Tryd.prog 9 #[.agg #[.int .i64 k1, .int .i64 a1], .agg #[.int .i64 k2, .int .i64 a2]] W fun e w' => e = .returned (.tuple #[.agg #[.int .i64 Z.ls, .int .i64 Z.la, .int .i64 Z.hs, .int .i64 Z.ha], .int .i64 E]) ∧ Go.RowKit.Below W.heap.size W w'))
    (HH : Hid (∀ W, Calls Tryd.prog 16 #[.agg #[.int .i64 Z.ls, .int .i64 Z.la, .int .i64 Z.hs, .int .i64 Z.ha], .int .i64 n] W fun e w' => e = .returned (.bool H) ∧ Go.RowKit.Below W.heap.size W w'))
    (t1 : (k1 == 0) = T1) (t2 : decide (a1 < n) = T2) (t3 : (n == a1) = T3) (t4 : (k1 == 2) = T4)
    (t5 : (k2 == 0) = T5) (t6 : decide (n < a2) = T6) (t7 : (n == a2) = T7) (t8 : (k2 == 2) = T8)
    (hH : H = ((T1 || T2 || (T3 && T4)) && (T5 || T6 || (T7 && T8)))) :
    Calls Tryd.prog 4 #[.agg #[.int .i64 k1, .int .i64 a1], .agg #[.int .i64 k2, .int .i64 a2], .int .i64 n] w fun e w' => e = .returned (.bool true) ∧ Go.RowKit.Below w.heap.size w w' := by
  have HAL := Lib.hid balive_any
  have t0 : (E == 40) = false := beq_eq_false_iff_ne.2 hE
  have HHH := Lib.hid hH
  clear hH
  have HX := Lib.hid (Bn2.new w k1 a1 k2 a2)
  go_enter Tryd.func4, Tryd.ntmps4
  go_upto_region 1 with fail
  generalize ((w.alloc (bB k1 a1)).alloc (bB k2 a2)) = X at *
  obtain ⟨c1, c2, _, _⟩ := two_cells HX.out.b1
  obtain ⟨c3, c4, _, _⟩ := two_cells HX.out.b2
  go_wp2_with fail
  refine (HS.out _).mono ?_
  rintro e y1 ⟨rfl, hB1⟩
  have hA1 := bt hB1 (below_new y1 (.cells #[.int .i64 Z.ls, .int .i64 Z.la, .int .i64 Z.hs, .int .i64 Z.ha] 27))
  have HX1 := Lib.hid (HX.out.on hA1)
  have HZ1 : Hid (Box4 (y1.alloc (.cells #[.int .i64 Z.ls, .int .i64 Z.la, .int .i64 Z.hs, .int .i64 Z.ha] 27)) y1.heap.size Z) := heap_alloc_new _ _
  clear c1 c2 c3 c4 hB1 hA1 HX
  go_upto_region 4 with fail
  generalize y1.alloc (.cells #[.int .i64 Z.ls, .int .i64 Z.la, .int .i64 Z.hs, .int .i64 Z.ha] 27) = X1 at *
  generalize y1.heap.size = N1 at *
  obtain ⟨c1, c2, _, _⟩ := two_cells HX1.out.b1
  obtain ⟨c3, c4, _, _⟩ := two_cells HX1.out.b2
  go_cut [9] from 11 to 75 (fun s9 wx => s9 = .bool (T1 || T2 || (T3 && T4)) ∧ wx = X1)
  case first =>
    cases T1 <;> cases T2 <;> cases T3 <;> cases T4 <;> (go_wp2_with fail; go_meet; exact ⟨rfl, rfl⟩)
  case rest =>
    obtain ⟨rfl, rfl⟩ := hcut
    go_upto_region 5 with fail
    go_cut [10] from 11 to 75 (fun s10 wx => s10 = .bool (T5 || T6 || (T7 && T8)) ∧ wx = wc)
    case first =>
      cases T5 <;> cases T6 <;> cases T7 <;> cases T8 <;> (go_wp2_with fail; go_meet; exact ⟨rfl, rfl⟩)
    case rest =>
      obtain ⟨rfl, rfl⟩ := hcut
      clear c1 c2 c3 c4 t1 t2 t3 t4 t5 t6 t7 t8
      generalize (T1 || T2 || (T3 && T4)) = A at *
      generalize (T5 || T6 || (T7 && T8)) = B at *
      rename_i wd
      go_wp2_with fail
      refine (HAL.out _).mono ?_
      rintro e y2 ⟨rfl, hB2⟩
      have hL2 := bt HX1.out.be hB2
      have HZ2 := Lib.hid (HZ1.out.on hB2)
      obtain ⟨c1, c2, c3, c4⟩ := HZ2.out.cells
      go_wp2_with fail
      refine (HH.out _).mono ?_
      rintro e y3 ⟨rfl, hB3⟩
      have hL3 := bt hL2 hB3
      have hHH := HHH.out
      subst hHH
      cases A <;> cases B <;> (go_wp2_with fail; go_ret; exact ⟨rfl, hL3⟩)
theorem boundNumbers_walk (k1 a1 k2 a2 n : Int) (wk1 : (Lit.int .i64 k1).wf = true) (w1 : (Lit.int .i64 a1).wf = true) (wk2 : (Lit.int .i64 k2).wf = true) (w2 : (Lit.int .i64 a2).wf = true) (wn : (Lit.int .i64 n).wf = true) (w : World) :
    Calls Tryd.prog 4 #[.agg #[.int .i64 k1, .int .i64 a1], .agg #[.int .i64 k2, .int .i64 a2], .int .i64 n] w fun e w' => e = .returned (.bool true) ∧ Go.RowKit.Below w.heap.size w w' := by
  have h1 := i64_of_wf2 w1
  have h2 := i64_of_wf2 w2
  have h3 := i64_of_wf2 wn
  by_cases hE : bdE k1 a1 k2 a2 = 40
  · refine boundNumbers_form k1 a1 k2 a2 n w (fun W => ?_)
    have h := bspan_any k1 a1 k2 a2 W h1 h2
    rw [hE, bd_zero _ _ _ _ hE] at h
    exact h
  · exact boundNumbers_core k1 a1 k2 a2 n _ _ _ _ _ _ _ _ _ _ _ w hE (fun W => bspan_any k1 a1 k2 a2 W h1 h2) (fun W => rhas_any _ n W (bd_ok _ _ _ _ h1 h2) h3) rfl rfl rfl rfl rfl rfl rfl rfl (bd_has _ _ _ _ _ h1 h2 h3 hE)
end Go.Proofs.YthojkbmffiibdaaDoor
