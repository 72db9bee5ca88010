/- The walk of the law BoundReads. -/
import Derived.Test.YthojkbmffiibdaaDoorBK
import Derived.Test.YthojkbmffiibdaaDoorBI
namespace Go.Proofs.YthojkbmffiibdaaDoor
open Go.RowKit Go.Sort Go.Proofs.YthojkbmffiibdaaDoor.Bo
set_option linter.unusedVariables false

set_option maxRecDepth 100000 in
set_option maxHeartbeats 1000000 in
theorem boundReads_long (s : ByteArray) (w : World) (h : 5000 < s.size) : Calls Tryd.prog 5 #[.string s] w fun e w' => e = .returned (.bool true) ∧ Go.RowKit.Below w.heap.size w w' := by
  have HAL := Lib.hid balive_any
  have t1 : decide (5000 < (s.size : Int)) = true := decide_eq_true (by omega)
  go_enter Tryd.func5, Tryd.ntmps5
  go_wp2_with fail
  refine (HAL.out _).mono ?_
  rintro e y ⟨rfl, hB⟩
  go_wp2_with fail
  go_ret
  exact ⟨rfl, hB⟩
set_option maxRecDepth 100000 in
set_option maxHeartbeats 4000000 in
theorem boundReads_core (s : ByteArray) (w : World) (h : ¬ 5000 < s.size) (Z1 Z2 Z3 : S4) (n1 n2 E1 E2 E3 : Int)
    (H0 : Hid (∀ W, Calls Tryd.prog 17 #[.string s] W fun e w' => e = .returned (.tuple #[.agg #[.int .i64 Z1.ls, .int .i64 Z1.la, .int .i64 Z1.hs, .int .i64 Z1.ha], .int .i64 n1, .int .i64 E1]) ∧ Go.RowKit.Below W.heap.size W w'))
    (H1 : Hid (∀ W, Calls Tryd.prog 18 #[.string s] W fun e w' => e = .returned (.tuple #[.agg #[.int .i64 Z1.ls, .int .i64 Z1.la, .int .i64 Z1.hs, .int .i64 Z1.ha], .int .i64 n1, .int .i64 E1]) ∧ Go.RowKit.Below W.heap.size W w'))
    (H2 : Hid (∀ W, Calls Tryd.prog 19 #[.string s] W fun e w' => e = .returned (.tuple #[.agg #[.int .i64 Z2.ls, .int .i64 Z2.la, .int .i64 Z2.hs, .int .i64 Z2.ha], .int .i64 n2, .int .i64 E2]) ∧ Go.RowKit.Below W.heap.size W w'))
    (H3 : Hid (∀ W, Calls Tryd.prog 20 #[.string s] W fun e w' => e = .returned (.tuple #[.agg #[.int .i64 Z2.ls, .int .i64 Z2.la, .int .i64 Z2.hs, .int .i64 Z2.ha], .int .i64 n2, .int .i64 E2]) ∧ Go.RowKit.Below W.heap.size W w'))
    (H4 : Hid (∀ W, Calls Tryd.prog 21 #[.string s] W fun e w' => e = .returned (.tuple #[.agg #[.int .i64 Z3.ls, .int .i64 Z3.la, .int .i64 Z3.hs, .int .i64 Z3.ha], .int .i64 E3]) ∧ Go.RowKit.Below W.heap.size W w'))
    (H5 : Hid (∀ W, Calls Tryd.prog 22 #[.string s] W fun e w' => e = .returned (.tuple #[.agg #[.int .i64 Z3.ls, .int .i64 Z3.la, .int .i64 Z3.hs, .int .i64 Z3.ha], .int .i64 E3]) ∧ Go.RowKit.Below W.heap.size W w')) :
    Calls Tryd.prog 5 #[.string s] w fun e w' => e = .returned (.bool true) ∧ Go.RowKit.Below w.heap.size w w' := by
  have HAL := Lib.hid balive_any
  have t0 : decide (5000 < (s.size : Int)) = false := decide_eq_false (by omega)
  have hs1 := eqs_self Z1
  have hs2 := eqs_self Z2
  have hs3 := eqs_self Z3
  have t1 : (n1 == n1) = true := beq_self_eq_true _
  have t2 : (n2 == n2) = true := beq_self_eq_true _
  have t3 : (E1 == E1) = true := beq_self_eq_true _
  have t4 : (E2 == E2) = true := beq_self_eq_true _
  have t5 : (E3 == E3) = true := beq_self_eq_true _
  have hL0 := Go.RowKit.Below.refl w.heap.size w
  go_enter Tryd.func5, Tryd.ntmps5
  go_wp2_with fail
  refine (H0.out _).mono ?_
  rintro e y0 ⟨rfl, hB⟩
  have hA := bt hB (below_new y0 (.cells #[.int .i64 Z1.ls, .int .i64 Z1.la, .int .i64 Z1.hs, .int .i64 Z1.ha] 27))
  have hL1 := bt hL0 hA
  have HZ0_0 : Hid (Box4 (y0.alloc (.cells #[.int .i64 Z1.ls, .int .i64 Z1.la, .int .i64 Z1.hs, .int .i64 Z1.ha] 27)) y0.heap.size Z1) := heap_alloc_new _ _
  clear hB hA hL0
  go_upto_region 4 with fail
  generalize y0.alloc (.cells #[.int .i64 Z1.ls, .int .i64 Z1.la, .int .i64 Z1.hs, .int .i64 Z1.ha] 27) = X0 at *
  generalize y0.heap.size = N0 at *
  go_wp2_with fail
  refine (H1.out _).mono ?_
  rintro e y1 ⟨rfl, hB⟩
  have hA := bt hB (below_new y1 (.cells #[.int .i64 Z1.ls, .int .i64 Z1.la, .int .i64 Z1.hs, .int .i64 Z1.ha] 27))
  have hL2 := bt hL1 hA
  have HZ0_1 := Lib.hid (HZ0_0.out.on hA)
  have HZ1_1 : Hid (Box4 (y1.alloc (.cells #[.int .i64 Z1.ls, .int .i64 Z1.la, .int .i64 Z1.hs, .int .i64 Z1.ha] 27)) y1.heap.size Z1) := heap_alloc_new _ _
  clear hB hA hL1 HZ0_0
  go_upto_region 5 with fail
  generalize y1.alloc (.cells #[.int .i64 Z1.ls, .int .i64 Z1.la, .int .i64 Z1.hs, .int .i64 Z1.ha] 27) = X1 at *
  generalize y1.heap.size = N1 at *
  go_wp2_with fail
  refine (H2.out _).mono ?_
  rintro e y2 ⟨rfl, hB⟩
  have hA := bt hB (below_new y2 (.cells #[.int .i64 Z2.ls, .int .i64 Z2.la, .int .i64 Z2.hs, .int .i64 Z2.ha] 27))
  have hL3 := bt hL2 hA
  have HZ0_2 := Lib.hid (HZ0_1.out.on hA)
  have HZ1_2 := Lib.hid (HZ1_1.out.on hA)
  have HZ2_2 : Hid (Box4 (y2.alloc (.cells #[.int .i64 Z2.ls, .int .i64 Z2.la, .int .i64 Z2.hs, .int .i64 Z2.ha] 27)) y2.heap.size Z2) := heap_alloc_new _ _
  clear hB hA hL2 HZ0_1 HZ1_1
  go_upto_region 6 with fail
  generalize y2.alloc (.cells #[.int .i64 Z2.ls, .int .i64 Z2.la, .int .i64 Z2.hs, .int .i64 Z2.ha] 27) = X2 at *
  generalize y2.heap.size = N2 at *
  go_wp2_with fail
  refine (H3.out _).mono ?_
  rintro e y3 ⟨rfl, hB⟩
  have hA := bt hB (below_new y3 (.cells #[.int .i64 Z2.ls, .int .i64 Z2.la, .int .i64 Z2.hs, .int .i64 Z2.ha] 27))
  have hL4 := bt hL3 hA
  have HZ0_3 := Lib.hid (HZ0_2.out.on hA)
  have HZ1_3 := Lib.hid (HZ1_2.out.on hA)
  have HZ2_3 := Lib.hid (HZ2_2.out.on hA)
  have HZ3_3 : Hid (Box4 (y3.alloc (.cells #[.int .i64 Z2.ls, .int .i64 Z2.la, .int .i64 Z2.hs, .int .i64 Z2.ha] 27)) y3.heap.size Z2) := heap_alloc_new _ _
  clear hB hA hL3 HZ0_2 HZ1_2 HZ2_2
  go_upto_region 7 with fail
  generalize y3.alloc (.cells #[.int .i64 Z2.ls, .int .i64 Z2.la, .int .i64 Z2.hs, .int .i64 Z2.ha] 27) = X3 at *
  generalize y3.heap.size = N3 at *
  go_wp2_with fail
  refine (H4.out _).mono ?_
  rintro e y4 ⟨rfl, hB⟩
  have hA := bt hB (below_new y4 (.cells #[.int .i64 Z3.ls, .int .i64 Z3.la, .int .i64 Z3.hs, .int .i64 Z3.ha] 27))
  have hL5 := bt hL4 hA
  have HZ0_4 := Lib.hid (HZ0_3.out.on hA)
  have HZ1_4 := Lib.hid (HZ1_3.out.on hA)
  have HZ2_4 := Lib.hid (HZ2_3.out.on hA)
  have HZ3_4 := Lib.hid (HZ3_3.out.on hA)
  have HZ4_4 : Hid (Box4 (y4.alloc (.cells #[.int .i64 Z3.ls, .int .i64 Z3.la, .int .i64 Z3.hs, .int .i64 Z3.ha] 27)) y4.heap.size Z3) := heap_alloc_new _ _
  clear hB hA hL4 HZ0_3 HZ1_3 HZ2_3 HZ3_3
  go_upto_region 8 with fail
  generalize y4.alloc (.cells #[.int .i64 Z3.ls, .int .i64 Z3.la, .int .i64 Z3.hs, .int .i64 Z3.ha] 27) = X4 at *
  generalize y4.heap.size = N4 at *
  go_wp2_with fail
  refine (H5.out _).mono ?_
  rintro e y5 ⟨rfl, hB⟩
  have hA := bt hB (below_new y5 (.cells #[.int .i64 Z3.ls, .int .i64 Z3.la, .int .i64 Z3.hs, .int .i64 Z3.ha] 27))
  have hL6 := bt hL5 hA
  have HZ0_5 := Lib.hid (HZ0_4.out.on hA)
  have HZ1_5 := Lib.hid (HZ1_4.out.on hA)
  have HZ2_5 := Lib.hid (HZ2_4.out.on hA)
  have HZ3_5 := Lib.hid (HZ3_4.out.on hA)
  have HZ4_5 := Lib.hid (HZ4_4.out.on hA)
  have HZ5_5 : Hid (Box4 (y5.alloc (.cells #[.int .i64 Z3.ls, .int .i64 Z3.la, .int .i64 Z3.hs, .int .i64 Z3.ha] 27)) y5.heap.size Z3) := heap_alloc_new _ _
  clear hB hA hL5 HZ0_4 HZ1_4 HZ2_4 HZ3_4 HZ4_4
  go_upto_region 9 with fail
  generalize y5.alloc (.cells #[.int .i64 Z3.ls, .int .i64 Z3.la, .int .i64 Z3.hs, .int .i64 Z3.ha] 27) = X5 at *
  generalize y5.heap.size = N5 at *
  go_wp2_with fail
  refine (HAL.out _).mono ?_
  rintro e y9 ⟨rfl, hB⟩
  have hL9 := bt hL6 hB
  obtain ⟨c01, c02, c03, c04⟩ := (HZ0_5.out.on hB).cells
  obtain ⟨c11, c12, c13, c14⟩ := (HZ1_5.out.on hB).cells
  obtain ⟨c21, c22, c23, c24⟩ := (HZ2_5.out.on hB).cells
  obtain ⟨c31, c32, c33, c34⟩ := (HZ3_5.out.on hB).cells
  obtain ⟨c41, c42, c43, c44⟩ := (HZ4_5.out.on hB).cells
  obtain ⟨c51, c52, c53, c54⟩ := (HZ5_5.out.on hB).cells
  go_wp2_with fail
  go_ret
  exact ⟨rfl, hL9⟩
theorem boundReads_walk (s : ByteArray) (ws : s.size ≤ maxLen) (w : World) : Calls Tryd.prog 5 #[.string s] w fun e w' => e = .returned (.bool true) ∧ Go.RowKit.Below w.heap.size w w' := by
  by_cases h : 5000 < s.size
  · exact boundReads_long s w h
  · exact boundReads_core s w h _ _ _ _ _ _ _ _ (fun W => brdS_any s W (by omega)) (fun W => rrdS_any s W (by omega)) (fun W => brdL_any s W (by omega)) (fun W => rrdL_any s W (by omega)) (fun W => brdP_any s W (by omega)) (fun W => rrdP_any s W (by omega))
end Go.Proofs.YthojkbmffiibdaaDoor
