/- The walk of the law BoundTexts. -/
import Derived.Test.YthojkbmffiibdaaDoorBK
namespace Go.Proofs.YthojkbmffiibdaaDoor
open Go.RowKit Go.Sort Go.Proofs.YthojkbmffiibdaaDoor.Bo
set_option linter.unusedVariables false

set_option maxRecDepth 100000 in
set_option maxHeartbeats 1000000 in
theorem boundTexts_long (q : S4) (s : ByteArray) (w : World) (h : 1000 < s.size) : Calls Tryd.prog 6 #[vS q, .string s] w fun e w' => e = .returned (.bool true) ∧ Go.RowKit.Below w.heap.size w w' := by
  have HAL := Lib.hid balive_any
  have t1 : decide (1000 < (s.size : Int)) = true := decide_eq_true (by omega)
  have hL0 := below_new w (.cells #[.int .i64 q.ls, .int .i64 q.la, .int .i64 q.hs, .int .i64 q.ha] 27)
  go_enter Tryd.func6, Tryd.ntmps6
  go_upto_region 1 with fail
  generalize w.alloc (.cells #[.int .i64 q.ls, .int .i64 q.la, .int .i64 q.hs, .int .i64 q.ha] 27) = X at *
  go_wp2_with fail
  refine (HAL.out _).mono ?_
  rintro e y ⟨rfl, hB⟩
  have hL1 := bt hL0 hB
  go_wp2_with fail
  go_ret
  exact ⟨rfl, hL1⟩
set_option maxRecDepth 100000 in
set_option maxHeartbeats 4000000 in
theorem boundTexts_wrong (q : S4) (s : ByteArray) (w : World) (h : ¬ 1000 < s.size)
    (HT : Hid (∀ W, Calls Tryd.prog 23 #[vS q] W fun e w' => e = .returned (.string ⟨#[]⟩) ∧ Go.RowKit.Below W.heap.size W w'))
    (HU : Hid (∀ W, Calls Tryd.prog 24 #[vS q] W fun e w' => e = .returned (.string ⟨#[]⟩) ∧ Go.RowKit.Below W.heap.size W w'))
    (HR : Hid (∀ W, Calls Tryd.prog 25 #[vS q] W fun e w' => e = .returned (.bool false) ∧ Go.RowKit.Below W.heap.size W w')) : Calls Tryd.prog 6 #[vS q, .string s] w fun e w' => e = .returned (.bool true) ∧ Go.RowKit.Below w.heap.size w w' := by
  have HAL := Lib.hid balive_any
  have t1 : decide (1000 < (s.size : Int)) = false := decide_eq_false (by omega)
  have hL0 := below_new w (.cells #[.int .i64 q.ls, .int .i64 q.la, .int .i64 q.hs, .int .i64 q.ha] 27)
  have HX : Hid (Box4 (w.alloc (.cells #[.int .i64 q.ls, .int .i64 q.la, .int .i64 q.hs, .int .i64 q.ha] 27)) w.heap.size q) := heap_alloc_new _ _
  go_enter Tryd.func6, Tryd.ntmps6
  go_upto_region 1 with fail
  generalize w.alloc (.cells #[.int .i64 q.ls, .int .i64 q.la, .int .i64 q.hs, .int .i64 q.ha] 27) = X at *
  obtain ⟨c1, c2, c3, c4⟩ := HX.out.cells
  go_wp2_with fail
  refine (HT.out _).mono ?_
  rintro e y1 ⟨rfl, hB⟩
  have hL1 := bt hL0 hB
  have HX1 := Lib.hid (HX.out.on hB)
  clear c1 c2 c3 c4 hB hL0 HX
  obtain ⟨c1, c2, c3, c4⟩ := HX1.out.cells
  go_wp2_with fail
  refine (HU.out _).mono ?_
  rintro e y2 ⟨rfl, hB⟩
  have hL2 := bt hL1 hB
  have HX2 := Lib.hid (HX1.out.on hB)
  clear c1 c2 c3 c4 hB hL1 HX1
  obtain ⟨c1, c2, c3, c4⟩ := HX2.out.cells
  go_wp2_with fail
  refine (HR.out _).mono ?_
  rintro e y3 ⟨rfl, hB⟩
  have hL3 := bt hL2 hB
  clear c1 c2 c3 c4 hB hL2 HX2
  go_wp2_with fail
  refine (HAL.out _).mono ?_
  rintro e y4 ⟨rfl, hB⟩
  have hL4 := bt hL3 hB
  go_wp2_with fail
  go_ret
  exact ⟨rfl, hL4⟩
set_option maxRecDepth 100000 in
set_option maxHeartbeats 4000000 in
theorem boundTexts_right (q : S4) (s T TS : ByteArray) (w : World) (h : ¬ 1000 < s.size) (hadd : ∀ W : World, (Op.stringOp .add T s).run Tryd.prog W = .ok (.string TS) W)
    (HT : Hid (∀ W, Calls Tryd.prog 23 #[vS q] W fun e w' => e = .returned (.string T) ∧ Go.RowKit.Below W.heap.size W w'))
    (HU : Hid (∀ W, Calls Tryd.prog 24 #[vS q] W fun e w' => e = .returned (.string T) ∧ Go.RowKit.Below W.heap.size W w'))
    (HR : Hid (∀ W, Calls Tryd.prog 25 #[vS q] W fun e w' => e = .returned (.bool true) ∧ Go.RowKit.Below W.heap.size W w'))
    (H0 : Hid (∀ W, Calls Tryd.prog 21 #[.string T] W fun e w' => e = .returned (.tuple #[.agg #[.int .i64 q.ls, .int .i64 q.la, .int .i64 q.hs, .int .i64 q.ha], .int .i64 0]) ∧ Go.RowKit.Below W.heap.size W w'))
    (H1 : Hid (∀ W, Calls Tryd.prog 17 #[.string TS] W fun e w' => e = .returned (.tuple #[.agg #[.int .i64 q.ls, .int .i64 q.la, .int .i64 q.hs, .int .i64 q.ha], .int .i64 (T.size : Int), .int .i64 0]) ∧ Go.RowKit.Below W.heap.size W w'))
    (H2 : Hid (∀ W, Calls Tryd.prog 19 #[.string TS] W fun e w' => e = .returned (.tuple #[.agg #[.int .i64 q.ls, .int .i64 q.la, .int .i64 q.hs, .int .i64 q.ha], .int .i64 (T.size : Int), .int .i64 0]) ∧ Go.RowKit.Below W.heap.size W w')) :
    Calls Tryd.prog 6 #[vS q, .string s] w fun e w' => e = .returned (.bool true) ∧ Go.RowKit.Below w.heap.size w w' := by
  have HAL := Lib.hid balive_any
  have t1 : decide (1000 < (s.size : Int)) = false := decide_eq_false (by omega)
  have t2 : (T.toList != T.toList) = false := by simp
  have t3 : ((T.size : Int) == (T.size : Int)) = true := beq_self_eq_true _
  have hs := eqs_self q
  have hL0 := below_new w (.cells #[.int .i64 q.ls, .int .i64 q.la, .int .i64 q.hs, .int .i64 q.ha] 27)
  have HX : Hid (Box4 (w.alloc (.cells #[.int .i64 q.ls, .int .i64 q.la, .int .i64 q.hs, .int .i64 q.ha] 27)) w.heap.size q) := heap_alloc_new _ _
  go_enter Tryd.func6, Tryd.ntmps6
  go_upto_region 1 with fail
  generalize w.alloc (.cells #[.int .i64 q.ls, .int .i64 q.la, .int .i64 q.hs, .int .i64 q.ha] 27) = X at *
  obtain ⟨c1, c2, c3, c4⟩ := HX.out.cells
  go_wp2_with fail
  refine (HT.out _).mono ?_
  rintro e y1 ⟨rfl, hB⟩
  have hL1 := bt hL0 hB
  have HX1 := Lib.hid (HX.out.on hB)
  clear c1 c2 c3 c4 hB hL0 HX
  obtain ⟨c1, c2, c3, c4⟩ := HX1.out.cells
  go_wp2_with fail
  refine (HU.out _).mono ?_
  rintro e y2 ⟨rfl, hB⟩
  have hL2 := bt hL1 hB
  have HX2 := Lib.hid (HX1.out.on hB)
  clear c1 c2 c3 c4 hB hL1 HX1
  obtain ⟨c1, c2, c3, c4⟩ := HX2.out.cells
  go_wp2_with fail
  refine (HR.out _).mono ?_
  rintro e y3 ⟨rfl, hB⟩
  have hL3 := bt hL2 hB
  have HX3 := Lib.hid (HX2.out.on hB)
  clear c1 c2 c3 c4 hB hL2 HX2
  go_wp2_with fail
  refine (H0.out _).mono ?_
  rintro e z0 ⟨rfl, hB⟩
  have hA := bt hB (below_new z0 (.cells #[.int .i64 q.ls, .int .i64 q.la, .int .i64 q.hs, .int .i64 q.ha] 27))
  have hL4 := bt hL3 hA
  have HX4 := Lib.hid (HX3.out.on hA)
  have HA0 : Hid (Box4 (z0.alloc (.cells #[.int .i64 q.ls, .int .i64 q.la, .int .i64 q.hs, .int .i64 q.ha] 27)) z0.heap.size q) := heap_alloc_new _ _
  clear hB hA hL3 HX3
  go_upto_region 9 with fail
  generalize z0.alloc (.cells #[.int .i64 q.ls, .int .i64 q.la, .int .i64 q.hs, .int .i64 q.ha] 27) = X0 at *
  generalize z0.heap.size = N0 at *
  go_wp2_with fail
  refine (H1.out _).mono ?_
  rintro e z1 ⟨rfl, hB⟩
  have hA := bt hB (below_new z1 (.cells #[.int .i64 q.ls, .int .i64 q.la, .int .i64 q.hs, .int .i64 q.ha] 27))
  have hL5 := bt hL4 hA
  have HX5 := Lib.hid (HX4.out.on hA)
  have HA1 := Lib.hid (HA0.out.on hA)
  have HB1 : Hid (Box4 (z1.alloc (.cells #[.int .i64 q.ls, .int .i64 q.la, .int .i64 q.hs, .int .i64 q.ha] 27)) z1.heap.size q) := heap_alloc_new _ _
  clear hB hA hL4 HX4 HA0
  go_upto_region 10 with fail
  generalize z1.alloc (.cells #[.int .i64 q.ls, .int .i64 q.la, .int .i64 q.hs, .int .i64 q.ha] 27) = X1 at *
  generalize z1.heap.size = N1 at *
  go_wp2_with fail
  refine (H2.out _).mono ?_
  rintro e z2 ⟨rfl, hB⟩
  have hA := bt hB (below_new z2 (.cells #[.int .i64 q.ls, .int .i64 q.la, .int .i64 q.hs, .int .i64 q.ha] 27))
  have hL6 := bt hL5 hA
  have HX6 := Lib.hid (HX5.out.on hA)
  have HA2 := Lib.hid (HA1.out.on hA)
  have HB2 := Lib.hid (HB1.out.on hA)
  have HC2 : Hid (Box4 (z2.alloc (.cells #[.int .i64 q.ls, .int .i64 q.la, .int .i64 q.hs, .int .i64 q.ha] 27)) z2.heap.size q) := heap_alloc_new _ _
  clear hB hA hL5 HX5 HA1 HB1
  go_upto_region 11 with fail
  generalize z2.alloc (.cells #[.int .i64 q.ls, .int .i64 q.la, .int .i64 q.hs, .int .i64 q.ha] 27) = X2 at *
  generalize z2.heap.size = N2 at *
  go_wp2_with fail
  refine (HAL.out _).mono ?_
  rintro e y9 ⟨rfl, hB⟩
  have hL9 := bt hL6 hB
  obtain ⟨c1, c2, c3, c4⟩ := (HX6.out.on hB).cells
  obtain ⟨c01, c02, c03, c04⟩ := (HA2.out.on hB).cells
  obtain ⟨c11, c12, c13, c14⟩ := (HB2.out.on hB).cells
  obtain ⟨c21, c22, c23, c24⟩ := (HC2.out.on hB).cells
  go_wp2_with fail
  go_ret
  exact ⟨rfl, hL9⟩
theorem btext_len (q : S4) (hq : q.ok) : (btext q).length ≤ 100 := by
  have l1 := (ktext_len q.lo (q.ky_lo hq)).2
  have l2 := (ktext_len q.hi (q.ky_hi hq)).2
  unfold btext
  split
  · split <;> simp <;> omega
  · simp
theorem boundTexts_walk (q : S4) (s : ByteArray) (hq : q.ok) (ws : s.size ≤ maxLen) (w : World) : Calls Tryd.prog 6 #[vS q, .string s] w fun e w' => e = .returned (.bool true) ∧ Go.RowKit.Below w.heap.size w w' := by
  by_cases h : 1000 < s.size
  · exact boundTexts_long q s w h
  · have HT := fun W => btext_any q W hq
    have HU := fun W => rbtext_any q W hq
    have HR := fun W => rright_any q W hq
    cases hr : q.right with
    | false =>
      have e : btext q = [] := by unfold btext; rw [if_neg (by rw [hr]; decide)]
      rw [e] at HT HU
      rw [hr] at HR
      exact boundTexts_wrong q s w h HT HU HR
    | true =>
      rw [hr] at HR
      have hl := btext_len q hq
      have e1 : ((⟨(btext q).toArray⟩ : ByteArray) ++ s).data.toList = btext q ++ s.data.toList := by simp
      have hz : ((⟨(btext q).toArray⟩ : ByteArray).size : Int) = (btext q).length := by simp [ByteArray.size]
      have z1 : (⟨(btext q).toArray⟩ : ByteArray).size ≤ 100 := by simp [ByteArray.size]; omega
      have z2 : ((⟨(btext q).toArray⟩ : ByteArray) ++ s).size ≤ 100000 := by rw [ByteArray.size_append]; omega
      have R1 := fun W => brdS_any ((⟨(btext q).toArray⟩ : ByteArray) ++ s) W z2
      have R2 := fun W => brdL_any ((⟨(btext q).toArray⟩ : ByteArray) ++ s) W z2
      have R0 := fun W => brdP_any (⟨(btext q).toArray⟩ : ByteArray) W (by omega)
      have eP : rdP (⟨(btext q).toArray⟩ : ByteArray).data.toList = (q, 0) := by
        have h0 := rdB_text q [] false hq hr
        rw [List.append_nil] at h0
        have h1 : (⟨(btext q).toArray⟩ : ByteArray).data.toList = btext q := by simp
        rw [h1]
        unfold rdP
        rw [h0]
        simp
      rw [e1, rdB_text q _ false hq hr] at R1
      rw [e1, rdB_text q _ true hq hr] at R2
      rw [eP] at R0
      refine boundTexts_right q s _ _ w h (fun W => run_string_add_sum W _ _ (by omega)) HT HU HR R0 (fun W => ?_) (fun W => ?_)
      · rw [hz]; exact R1 W
      · rw [hz]; exact R2 W
end Go.Proofs.YthojkbmffiibdaaDoor
