/- The walk of the law BoundBack. -/
import Derived.Test.YthojkbmffiibdaaDoorBK
namespace Go.Proofs.YthojkbmffiibdaaDoor
open Go.RowKit Go.Sort Go.Proofs.YthojkbmffiibdaaDoor.Bo
set_option linter.unusedVariables false

abbrev BkS (X : World) (b : Nat) (q : S4) (w' : World) : Prop := w'.cell? ⟨b, 0, none⟩ = some (.int .i64 q.ls) ∧ w'.cell? ⟨b, 1, none⟩ = some (.int .i64 q.la) ∧ w'.cell? ⟨b, 2, none⟩ = some (.int .i64 q.hs) ∧ w'.cell? ⟨b, 3, none⟩ = some (.int .i64 q.ha) ∧ Go.RowKit.Below X.heap.size X w'
theorem BkS.call {X : World} {b : Nat} {q : S4} {w' w'' : World} (h : BkS X b q w') (hb : Go.RowKit.Below w'.heap.size w' w'') : BkS X b q w'' :=
  ⟨(hb.cell (World.block_lt_of_cell? w' _ h.1)).trans h.1, (hb.cell (World.block_lt_of_cell? w' _ h.2.1)).trans h.2.1, (hb.cell (World.block_lt_of_cell? w' _ h.2.2.1)).trans h.2.2.1, (hb.cell (World.block_lt_of_cell? w' _ h.2.2.2.1)).trans h.2.2.2.1, bt h.2.2.2.2 hb⟩
theorem BkS.alloc {X : World} {b : Nat} {q : S4} {w' : World} (h : BkS X b q w') (o : Obj) : BkS X b q (w'.alloc o) := h.call (below_new w' o)
theorem BkS.drew {X : World} {b : Nat} {q : S4} {w' : World} (h : BkS X b q w') : BkS X b q w'.drew := h.call (Go.RowKit.Below.refl _ _).drew
theorem BkS.put {X : World} {b : Nat} {q : S4} {w' : World} (h : BkS X b q w') (h1 : b < X.heap.size) (N : Nat) (hN : X.heap.size ≤ N) (v1 v2 v3 v4 : Value) : BkS X b q ((((w'.setCell ⟨N, 0, none⟩ v1).setCell ⟨N, 1, none⟩ v2).setCell ⟨N, 2, none⟩ v3).setCell ⟨N, 3, none⟩ v4) :=
  ⟨(cell4_far (by omega) _ _ _ _ _).trans h.1, (cell4_far (by omega) _ _ _ _ _).trans h.2.1, (cell4_far (by omega) _ _ _ _ _).trans h.2.2.1, (cell4_far (by omega) _ _ _ _ _).trans h.2.2.2.1, (((h.2.2.2.2.setCell hN _).setCell hN _).setCell hN _).setCell hN _⟩
set_option maxRecDepth 100000 in
set_option maxHeartbeats 4000000 in
theorem boundBack_core (q Z : S4) (E p1 q1 p2 q2 : Int) (w : World)
    (HL : Hid (∀ W, Calls Tryd.prog 12 #[.agg #[.int .i64 q.ls, .int .i64 q.la]] W fun e w' => e = .returned (.agg #[.int .i64 p1, .int .i64 q1]) ∧ Go.RowKit.Below W.heap.size W w'))
    (HH : Hid (∀ W, Calls Tryd.prog 14 #[.agg #[.int .i64 q.hs, .int .i64 q.ha]] W fun e w' => e = .returned (.agg #[.int .i64 p2, .int .i64 q2]) ∧ Go.RowKit.Below W.heap.size W w'))
    (HS : Hid (∀ W, Calls Tryd.prog 9 #[.agg #[.int .i64 p1, .int .i64 q1], .agg #[.int .i64 p2, .int .i64 q2]] W fun e w' => e = .returned (.tuple #[.agg #[.int .i64 Z.ls, .int .i64 Z.la, .int .i64 Z.hs, .int .i64 Z.ha], .int .i64 E]) ∧ Go.RowKit.Below W.heap.size W w'))
    (HO : Hid (∀ W, Calls Tryd.prog 26 #[.agg #[.int .i64 q.ls, .int .i64 q.la], .agg #[.int .i64 q.hs, .int .i64 q.ha]] W fun e w' => e = .returned (.tuple #[.agg #[.int .i64 Z.ls, .int .i64 Z.la, .int .i64 Z.hs, .int .i64 Z.ha], .int .i64 E]) ∧ Go.RowKit.Below W.heap.size W w')) :
    Calls Tryd.prog 7 #[vS q] w fun e w' => e = .returned (.bool true) ∧ Go.RowKit.Below w.heap.size w w' := by
  have mx := mixed
  have HAL := Lib.hid balive_any
  have hs := eqs_self Z
  have t1 : (E == E) = true := beq_self_eq_true _
  have HX : Hid (Box4 (w.alloc (.cells #[.int .i64 q.ls, .int .i64 q.la, .int .i64 q.hs, .int .i64 q.ha] 27)) w.heap.size q) := heap_alloc_new _ _
  have hL0 := below_new w (.cells #[.int .i64 q.ls, .int .i64 q.la, .int .i64 q.hs, .int .i64 q.ha] 27)
  go_enter Tryd.func7, Tryd.ntmps7
  go_upto_region 1 with fail
  generalize w.alloc (.cells #[.int .i64 q.ls, .int .i64 q.la, .int .i64 q.hs, .int .i64 q.ha] 27) = X at *
  go_cut [3, 4] from 5 to 35 (fun s3 s4 wx => ∃ N, s3 = .pointer (some ⟨N, 0, none⟩) ∧ s4 = .int .i64 E ∧ SpIn X Z N wx)
  case first =>
    obtain ⟨c1, c2, c3, c4⟩ := HX.out.cells
    have HB : Hid (BkS X w.heap.size q X) := ⟨c1, c2, c3, c4, Go.RowKit.Below.refl _ _⟩
    have p0 : Go.RowKit.Below X.heap.size X X := Go.RowKit.Below.refl _ _
    have hlt : w.heap.size < X.heap.size := lt_of_block HX.out
    clear HO HAL hL0
    go_region_held3 (fun w' => w'.cell? ⟨w.heap.size, 0, none⟩ = some (.int .i64 q.ls) ∧ w'.cell? ⟨w.heap.size, 1, none⟩ = some (.int .i64 q.la) ∧ w'.cell? ⟨w.heap.size, 2, none⟩ = some (.int .i64 q.hs) ∧ w'.cell? ⟨w.heap.size, 3, none⟩ = some (.int .i64 q.ha) ∧ Go.RowKit.Below X.heap.size X w')
      (with_reducible first | exact hS1 | exact hS2 | exact hS3 | exact BkS.alloc hS3 _ | exact BkS.put hS3 hlt _ (by omega) _ _ _ _ | exact BkS.alloc hS2 _ | exact BkS.alloc hS1 _ | exact BkS.alloc HB.out _ | exact BkS.drew (BkS.alloc HB.out _) | exact BkS.drew HB.out | exact HB.out)
      (first
        | (go_at_call 12; (with_reducible refine (HL.out _).mono ?_); rintro e Y1 ⟨rfl, hB1⟩; have hS1 : BkS X w.heap.size q Y1 := (by with_reducible first | exact BkS.call HB.out.drew hB1 | exact BkS.call (BkS.drew (BkS.alloc HB.out _)) hB1 | exact BkS.call (BkS.alloc HB.out.drew _) hB1); have hs1 := hS1.2.2.2.2.size; (try first | (with_reducible have hN1 := Lib.hid (Box4.on (Box4.drew (Box4.new X)) hB1)) | (with_reducible have hN1 := Lib.hid (Box4.on (Box4.new X.drew) hB1))))
        | (go_at_call 14; (with_reducible refine (HH.out _).mono ?_); rintro e Y2 ⟨rfl, hB2⟩; have hS2 : BkS X w.heap.size q Y2 := (by with_reducible first | exact BkS.call hS1 hB2 | exact BkS.call (BkS.alloc hS1 _) hB2); have hs2 := hS2.2.2.2.2.size; (try first | (with_reducible have hN2 := Lib.hid (Box4.on hN1.out hB2)) | (with_reducible have hN2 := Lib.hid (Box4.on (Box4.new Y1) hB2))))
        | (go_at_call 9; (with_reducible refine (HS.out _).mono ?_); rintro e Y3 ⟨rfl, hB3⟩; have hS3 : BkS X w.heap.size q Y3 := (by with_reducible first | exact BkS.call hS2 hB3 | exact BkS.call (BkS.alloc hS2 _) hB3); have hs3 := hS3.2.2.2.2.size; (try first | (with_reducible have hN3 := Box4.on hN2.out hB3; obtain ⟨⟨d1, d2, d3, d4⟩, e1, e2, e3, e4⟩ := Box4.zero hN3) | (with_reducible have hN3 := Box4.on (Box4.new Y2) hB3; obtain ⟨⟨d1, d2, d3, d4⟩, e1, e2, e3, e4⟩ := Box4.zero hN3))))
    all_goals first
      | (have HQ0 := Lib.hid (SpIn.put Z (by omega) hN3 hS3.2.2.2.2)
         go_wp2_with fail
         go_meet
         exact ⟨_, rfl, rfl, HQ0.out⟩)
      | (have HQ0 := Lib.hid (SpIn.new Z hS3.2.2.2.2)
         go_wp2_with fail
         go_meet
         exact ⟨_, rfl, rfl, HQ0.out⟩)
  case rest =>
    obtain ⟨N, rfl, rfl, hN⟩ := hcut
    have HX1 := Lib.hid (HX.out.on hN.be)
    have HN := Lib.hid hN.box
    have hL1 := bt hL0 hN.be
    clear hN HX hL0
    obtain ⟨c1, c2, c3, c4⟩ := HX1.out.cells
    go_wp2_with fail
    refine (HO.out _).mono ?_
    rintro e y2 ⟨rfl, hB2⟩
    have hA2 := bt hB2 (below_new y2 (.cells #[.int .i64 Z.ls, .int .i64 Z.la, .int .i64 Z.hs, .int .i64 Z.ha] 27))
    have hL2 := bt hL1 hA2
    have HN2 := Lib.hid (HN.out.on hA2)
    have HV2 : Hid (Box4 (y2.alloc (.cells #[.int .i64 Z.ls, .int .i64 Z.la, .int .i64 Z.hs, .int .i64 Z.ha] 27)) y2.heap.size Z) := heap_alloc_new _ _
    clear c1 c2 c3 c4 hB2 hA2 hL1 HN HX1
    go_upto_region 3 with fail
    generalize y2.alloc (.cells #[.int .i64 Z.ls, .int .i64 Z.la, .int .i64 Z.hs, .int .i64 Z.ha] 27) = X2 at *
    generalize y2.heap.size = N2 at *
    go_wp2_with fail
    refine (HAL.out _).mono ?_
    rintro e y3 ⟨rfl, hB3⟩
    have hL3 := bt hL2 hB3
    obtain ⟨c1, c2, c3, c4⟩ := (HN2.out.on hB3).cells
    obtain ⟨c5, c6, c7, c8⟩ := (HV2.out.on hB3).cells
    go_wp2_with fail
    go_ret
    exact ⟨rfl, hL3⟩
theorem low_high_of (k l : Int) (hk : Ky k) (hl : Ky l) (h1 : I64 (lowB k).2) (h2 : I64 (highB l).2) : bdS (lowB k).1 (lowB k).2 (highB l).1 (highB l).2 = ofS k l ∧ bdE (lowB k).1 (lowB k).2 (highB l).1 (highB l).2 = ofE k l := by
  have e1 : kindB (lowB k).1 = true ∧ lowK (lowB k).1 (lowB k).2 = k := by
    unfold lowB
    by_cases ha : k = lo64
    · rw [if_pos ha]; exact ⟨rfl, ha.symm⟩
    · rw [if_neg ha]
      by_cases hb : k = hi64
      · rw [if_pos hb]; exact ⟨rfl, hb ▸ rfl⟩
      · rw [if_neg hb]; exact ⟨rfl, rfl⟩
  have e2 : kindB (highB l).1 = true ∧ highK (highB l).1 (highB l).2 = l := by
    unfold highB
    by_cases ha : l = 9223372036854775808
    · subst ha
      exact ⟨rfl, rfl⟩
    · have h3 := nx_in l (by unfold Ky at hl; omega)
      rw [if_pos h3.2]
      exact ⟨rfl, h3.1⟩
  unfold bdS bdE
  rw [e1.1, e2.1, e1.2, e2.2]
  exact ⟨rfl, rfl⟩
theorem lowB_i64 (k : Int) (hk : Ky k) : I64 (lowB k).2 := by
  unfold lowB Ky at *
  unfold I64
  by_cases ha : k = lo64
  · rw [if_pos ha]; simp
  · rw [if_neg ha]
    by_cases hb : k = hi64
    · rw [if_pos hb]; simp
    · rw [if_neg hb]; unfold lo64 at ha; unfold hi64 at hb; simp; omega
theorem highB_i64 (l : Int) (hl : Ky l) : I64 (highB l).2 := by
  unfold highB
  by_cases ha : l = 9223372036854775808
  · subst ha; exact ⟨by decide, by decide⟩
  · have h3 := nx_in l (by unfold Ky at hl; omega)
    by_cases h4 : l = -9223372036854775808
    · subst h4; exact ⟨by decide, by decide⟩
    · rw [if_pos h3.2]; show I64 (nx l); rw [h3.1]; unfold Ky at hl; unfold I64; omega
theorem boundBack_walk (q : S4) (hq : q.ok) (w : World) : Calls Tryd.prog 7 #[vS q] w fun e w' => e = .returned (.bool true) ∧ Go.RowKit.Below w.heap.size w w' := by
  have hk := key_ky q.ls q.la hq.1
  have hl := key_ky q.hs q.ha hq.2
  have i1 := lowB_i64 _ hk
  have i2 := highB_i64 _ hl
  obtain ⟨e1, e2⟩ := low_high_of _ _ hk hl i1 i2
  refine boundBack_core q (ofS (key q.ls q.la) (key q.hs q.ha)) (ofE (key q.ls q.la) (key q.hs q.ha)) _ _ _ _ w (fun W => lowb_any q.ls q.la W hq.1) (fun W => highb_any q.hs q.ha W hq.2) (fun W => ?_) (fun W => rof_any q.ls q.la q.hs q.ha W hq.1 hq.2)
  have h := bspan_any (lowB (key q.ls q.la)).1 (lowB (key q.ls q.la)).2 (highB (key q.hs q.ha)).1 (highB (key q.hs q.ha)).2 W i1 i2
  rw [e1, e2] at h
  exact h
end Go.Proofs.YthojkbmffiibdaaDoor
