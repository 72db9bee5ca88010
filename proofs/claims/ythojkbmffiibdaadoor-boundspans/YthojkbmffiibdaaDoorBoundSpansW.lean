/- The walk of the law BoundSpans. -/
import Derived.Test.YthojkbmffiibdaaDoorBK
namespace Go.Proofs.YthojkbmffiibdaaDoor
open Go.RowKit Go.Sort Go.Proofs.YthojkbmffiibdaaDoor.Bo
set_option linter.unusedVariables false

/-- Two bounds, and a cut. -/
structure Bs3 (w : World) (k1 a1 k2 a2 s a : Int) (X : World) : Prop where
  b1 : X.heap[w.heap.size]? = some (bB k1 a1)
  b2 : X.heap[w.heap.size + 1]? = some (bB k2 a2)
  c : X.heap[w.heap.size + 1 + 1]? = some (.cells #[.int .i64 s, .int .i64 a] 25)
  be : Go.RowKit.Below w.heap.size w X
theorem Bs3.new (w : World) (k1 a1 k2 a2 s a : Int) : Bs3 w k1 a1 k2 a2 s a (((w.alloc (bB k1 a1)).alloc (bB k2 a2)).alloc (.cells #[.int .i64 s, .int .i64 a] 25)) :=
  ⟨box_on (box_on (heap_alloc_new w _) (below_new _ _)) (below_new _ _), box_on (new_at _ (by simp)) (below_new _ _), new_at _ (by simp), bt (bt (below_new _ _) (below_new _ _)) (below_new _ _)⟩
theorem Bs3.on {w : World} {k1 a1 k2 a2 s a : Int} {W W' : World} (h : Bs3 w k1 a1 k2 a2 s a W) (hb : Go.RowKit.Below W.heap.size W W') : Bs3 w k1 a1 k2 a2 s a W' := ⟨box_on h.b1 hb, box_on h.b2 hb, box_on h.c hb, bt h.be hb⟩
set_option maxRecDepth 100000 in
set_option maxHeartbeats 4000000 in
theorem boundSpans_core (k1 a1 k2 a2 s a E p q p2 q2 : Int) (Z : S4) (w : World)
    (HS : Hid (∀ W, Calls Tryd.prog 9 #[.agg #[.int .i64 k1, .int .i64 a1], .agg #[.int .i64 k2, .int .i64 a2]] W fun e w' => e = .returned (.tuple #[.agg #[.int .i64 Z.ls, .int .i64 Z.la, .int .i64 Z.hs, .int .i64 Z.ha], .int .i64 E]) ∧ Go.RowKit.Below W.heap.size W w'))
    (HRS : Hid (∀ W, Calls Tryd.prog 10 #[.agg #[.int .i64 k1, .int .i64 a1], .agg #[.int .i64 k2, .int .i64 a2]] W fun e w' => e = .returned (.tuple #[.agg #[.int .i64 Z.ls, .int .i64 Z.la, .int .i64 Z.hs, .int .i64 Z.ha], .int .i64 E]) ∧ Go.RowKit.Below W.heap.size W w'))
    (HL : Hid (∀ W, Calls Tryd.prog 12 #[.agg #[.int .i64 s, .int .i64 a]] W fun e w' => e = .returned (.agg #[.int .i64 p, .int .i64 q]) ∧ Go.RowKit.Below W.heap.size W w'))
    (HRL : Hid (∀ W, Calls Tryd.prog 13 #[.agg #[.int .i64 s, .int .i64 a]] W fun e w' => e = .returned (.agg #[.int .i64 p, .int .i64 q]) ∧ Go.RowKit.Below W.heap.size W w'))
    (HH : Hid (∀ W, Calls Tryd.prog 14 #[.agg #[.int .i64 s, .int .i64 a]] W fun e w' => e = .returned (.agg #[.int .i64 p2, .int .i64 q2]) ∧ Go.RowKit.Below W.heap.size W w'))
    (HRH : Hid (∀ W, Calls Tryd.prog 15 #[.agg #[.int .i64 s, .int .i64 a]] W fun e w' => e = .returned (.agg #[.int .i64 p2, .int .i64 q2]) ∧ Go.RowKit.Below W.heap.size W w')) :
    Calls Tryd.prog 3 #[.agg #[.int .i64 k1, .int .i64 a1], .agg #[.int .i64 k2, .int .i64 a2], .agg #[.int .i64 s, .int .i64 a]] w fun e w' => e = .returned (.bool true) ∧ Go.RowKit.Below w.heap.size w w' := by
  have mx := mixed
  have HAL := Lib.hid balive_any
  have hs := eqs_self Z
  have hb1 := eqb_self p q
  have hb2 := eqb_self p2 q2
  have HX := Lib.hid (Bs3.new w k1 a1 k2 a2 s a)
  have t1 : (E == E) = true := beq_self_eq_true _
  go_enter Tryd.func3, Tryd.ntmps3
  go_upto_region 1 with fail
  generalize (((w.alloc (bB k1 a1)).alloc (bB k2 a2)).alloc (.cells #[.int .i64 s, .int .i64 a] 25)) = X at *
  obtain ⟨c1, c2, _, _⟩ := two_cells HX.out.b1
  obtain ⟨c3, c4, _, _⟩ := two_cells HX.out.b2
  go_wp2_with fail
  refine (HS.out _).mono ?_
  rintro e y1 ⟨rfl, hB1⟩
  have hA1 := bt hB1 (below_new y1 (.cells #[.int .i64 Z.ls, .int .i64 Z.la, .int .i64 Z.hs, .int .i64 Z.ha] 27))
  have HX1 := Lib.hid (HX.out.on hA1)
  have HZ1 : Hid (Box4 (y1.alloc (.cells #[.int .i64 Z.ls, .int .i64 Z.la, .int .i64 Z.hs, .int .i64 Z.ha] 27)) y1.heap.size Z) := heap_alloc_new _ _
  clear c1 c2 c3 c4 hB1 hA1 HX
  go_upto_region 2 with fail
  generalize y1.alloc (.cells #[.int .i64 Z.ls, .int .i64 Z.la, .int .i64 Z.hs, .int .i64 Z.ha] 27) = X1 at *
  generalize y1.heap.size = N1 at *
  obtain ⟨c1, c2, _, _⟩ := two_cells HX1.out.b1
  obtain ⟨c3, c4, _, _⟩ := two_cells HX1.out.b2
  go_wp2_with fail
  refine (HRS.out _).mono ?_
  rintro e y2 ⟨rfl, hB2⟩
  have hA2 := bt hB2 (below_new y2 (.cells #[.int .i64 Z.ls, .int .i64 Z.la, .int .i64 Z.hs, .int .i64 Z.ha] 27))
  have HX2 := Lib.hid (HX1.out.on hA2)
  have HZ2 := Lib.hid (HZ1.out.on hA2)
  have HV2 : Hid (Box4 (y2.alloc (.cells #[.int .i64 Z.ls, .int .i64 Z.la, .int .i64 Z.hs, .int .i64 Z.ha] 27)) y2.heap.size Z) := heap_alloc_new _ _
  clear c1 c2 c3 c4 hB2 hA2 HX1 HZ1
  go_upto_region 3 with fail
  generalize y2.alloc (.cells #[.int .i64 Z.ls, .int .i64 Z.la, .int .i64 Z.hs, .int .i64 Z.ha] 27) = X2 at *
  generalize y2.heap.size = N2 at *
  obtain ⟨p1, p2', p3, p4⟩ := HZ2.out.re
  obtain ⟨p5, p6, p7, p8⟩ := HV2.out.re
  obtain ⟨p9, p10⟩ := cut_regrown HX2.out.c
  refine wp_region_quiet_below (by assumption) (by kernel_rfl) ?_
  repeat (go_big_quiet_step (first
    | (go_at_call 11; exact Calls.regrown_of (HAL.out _))
    | (go_at_call 12; exact Calls.regrown_of (HL.out _))
    | (go_at_call 13; exact Calls.regrown_of (HRL.out _))
    | (go_at_call 14; exact Calls.regrown_of (HH.out _))
    | (go_at_call 15; exact Calls.regrown_of (HRH.out _))))
  refine wpQuiet_nil ?_
  intro _ hw'
  obtain ⟨⟨nq, osq⟩, hw''⟩ := hw'
  subst hw''
  have hL4 := bt HX2.out.be (below_regrown X2 nq osq)
  go_wp2_with fail
  go_ret
  exact ⟨rfl, hL4⟩
theorem boundSpans_walk (k1 a1 k2 a2 s a : Int) (wk1 : (Lit.int .i64 k1).wf = true) (w1 : (Lit.int .i64 a1).wf = true) (wk2 : (Lit.int .i64 k2).wf = true) (w2 : (Lit.int .i64 a2).wf = true) (ws : (Lit.int .i64 s).wf = true) (wa : (Lit.int .i64 a).wf = true) (w : World) :
    Calls Tryd.prog 3 #[.agg #[.int .i64 k1, .int .i64 a1], .agg #[.int .i64 k2, .int .i64 a2], .agg #[.int .i64 s, .int .i64 a]] w fun e w' => e = .returned (.bool true) ∧ Go.RowKit.Below w.heap.size w w' :=
  have h1 := i64_of_wf2 w1
  have h2 := i64_of_wf2 w2
  have h3 := i64_of_wf2 wa
  boundSpans_core k1 a1 k2 a2 s a _ _ _ _ _ _ w (fun W => bspan_any k1 a1 k2 a2 W h1 h2) (fun W => rspan_any k1 a1 k2 a2 W h1 h2) (fun W => lowb_any s a W h3) (fun W => rlowb_any s a W h3) (fun W => highb_any s a W h3) (fun W => rhighb_any s a W h3)
end Go.Proofs.YthojkbmffiibdaaDoor
