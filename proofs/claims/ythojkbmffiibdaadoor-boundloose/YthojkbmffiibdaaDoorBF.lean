/- A part of the proof: contracts of the functions that the statements reach. -/
import Derived.Test.YthojkbmffiibdaaDoorRows
import Derived.Test.YthojkbmffiibdaaDoorBA
import Derived.Test.YthojkbmffiibdaaDoorBB
import Derived.Test.YthojkbmffiibdaaDoorBC
import Derived.Test.YthojkbmffiibdaaDoorBD
import Derived.Test.YthojkbmffiibdaaDoorBE

/- Contracts of the reference's intervals: Span, Low, High, Text. -/
namespace Go.Proofs.YthojkbmffiibdaaDoor
open Go.RowKit Go.Sort Go.Proofs.YthojkbmffiibdaaDoor.Bo
set_option linter.unusedVariables false

theorem new_at {W : World} {n : Nat} (o : Obj) (h : W.heap.size = n) : (W.alloc o).heap[n]? = some o := h ▸ heap_alloc_new W o
theorem put_same {W : World} {b : Nat} {x y : Value} {t : TypeId} (p q : Value) (h : W.heap[b]? = some (.cells #[x, y] t (0, 0))) : ((W.setCell ⟨b, 0, none⟩ p).setCell ⟨b, 1, none⟩ q).heap[b]? = some (.cells #[p, q] t (0, 0)) := two_put h
theorem put_far {W : World} {b c : Nat} {o : Obj} (h : W.heap[b]? = some o) (hne : b ≠ c) (p q : Value) : ((W.setCell ⟨c, 0, none⟩ p).setCell ⟨c, 1, none⟩ q).heap[b]? = some o := by
  rw [heap_setCell_other _ _ _ _ (by simpa using hne), heap_setCell_other _ _ _ _ (by simpa using hne)]
  exact h
/-- The blocks of the reference's Span. -/
structure Sp5 (w : World) (k1 a1 k2 a2 s a t b : Int) (W : World) : Prop where
  lo : W.heap[w.heap.size]? = some (.cells #[.int .i64 k1, .int .i64 a1] 23 (0, 0))
  hi : W.heap[w.heap.size + 1]? = some (.cells #[.int .i64 k2, .int .i64 a2] 23 (0, 0))
  re : Box4 W (w.heap.size + 1 + 1) z4
  ca : W.heap[w.heap.size + 1 + 1 + 1]? = some (.cells #[.int .i64 s, .int .i64 a] 25 (0, 0))
  cb : W.heap[w.heap.size + 1 + 1 + 1 + 1]? = some (.cells #[.int .i64 t, .int .i64 b] 25 (0, 0))
  be : Go.RowKit.Below w.heap.size w W
theorem Sp5.on {w : World} {k1 a1 k2 a2 s a t b : Int} {W W' : World} (h : Sp5 w k1 a1 k2 a2 s a t b W) (hb : Go.RowKit.Below W.heap.size W W') : Sp5 w k1 a1 k2 a2 s a t b W' :=
  ⟨box_on h.lo hb, box_on h.hi hb, h.re.on hb, box_on h.ca hb, box_on h.cb hb, bt h.be hb⟩
theorem Sp5.putA {w : World} {k1 a1 k2 a2 s a t b : Int} {W : World} (h : Sp5 w k1 a1 k2 a2 s a t b W) (x y : Int) : Sp5 w k1 a1 k2 a2 x y t b ((W.setCell ⟨w.heap.size + 1 + 1 + 1, 0, none⟩ (.int .i64 x)).setCell ⟨w.heap.size + 1 + 1 + 1, 1, none⟩ (.int .i64 y)) :=
  ⟨put_far h.lo (by omega) _ _, put_far h.hi (by omega) _ _, put_far h.re (by omega) _ _, put_same _ _ h.ca, put_far h.cb (by omega) _ _, (h.be.setCell (by show w.heap.size ≤ w.heap.size + 1 + 1 + 1; omega) _).setCell (by show w.heap.size ≤ w.heap.size + 1 + 1 + 1; omega) _⟩
theorem Sp5.putB {w : World} {k1 a1 k2 a2 s a t b : Int} {W : World} (h : Sp5 w k1 a1 k2 a2 s a t b W) (x y : Int) : Sp5 w k1 a1 k2 a2 s a x y ((W.setCell ⟨w.heap.size + 1 + 1 + 1 + 1, 0, none⟩ (.int .i64 x)).setCell ⟨w.heap.size + 1 + 1 + 1 + 1, 1, none⟩ (.int .i64 y)) :=
  ⟨put_far h.lo (by omega) _ _, put_far h.hi (by omega) _ _, put_far h.re (by omega) _ _, put_far h.ca (by omega) _ _, put_same _ _ h.cb, (h.be.setCell (by show w.heap.size ≤ w.heap.size + 1 + 1 + 1 + 1; omega) _).setCell (by show w.heap.size ≤ w.heap.size + 1 + 1 + 1 + 1; omega) _⟩
abbrev bB (k a : Int) : Obj := .cells #[.int .i64 k, .int .i64 a] 23
theorem Sp5.new (w : World) (k1 a1 k2 a2 : Int) : Sp5 w k1 a1 k2 a2 (-1) 0 1 0 (((((w.alloc (bB k1 a1)).alloc (bB k2 a2)).alloc (.cells #[.int .i64 0, .int .i64 0, .int .i64 0, .int .i64 0] 27)).alloc (.cells #[.int .i64 (-1), .int .i64 0] 25)).alloc (.cells #[.int .i64 1, .int .i64 0] 25)) :=
  ⟨box_on (box_on (box_on (box_on (heap_alloc_new w _) (below_new _ _)) (below_new _ _)) (below_new _ _)) (below_new _ _),
   box_on (box_on (box_on (new_at _ (by simp)) (below_new _ _)) (below_new _ _)) (below_new _ _),
   box_on (box_on (new_at _ (by simp)) (below_new _ _)) (below_new _ _),
   box_on (new_at _ (by simp)) (below_new _ _),
   new_at _ (by simp),
   bt (bt (bt (bt (below_new _ _) (below_new _ _)) (below_new _ _)) (below_new _ _)) (below_new _ _)⟩
set_option maxRecDepth 100000 in
set_option maxHeartbeats 2000000 in
theorem rspan_c00 (a1 a2 s a t b E : Int) (Z : S4) (w : World)
    (HOF : Hid (∀ W, Calls Tryd.prog 26 #[.agg #[.int .i64 (-1), .int .i64 0], .agg #[.int .i64 1, .int .i64 0]] W fun e w' => e = .returned (.tuple #[.agg #[.int .i64 Z.ls, .int .i64 Z.la, .int .i64 Z.hs, .int .i64 Z.ha], .int .i64 E]) ∧ Go.RowKit.Below W.heap.size W w')) :
    Calls Tryd.prog 10 #[.agg #[.int .i64 0, .int .i64 a1], .agg #[.int .i64 0, .int .i64 a2]] w fun e w' => e = .returned (.tuple #[.agg #[.int .i64 Z.ls, .int .i64 Z.la, .int .i64 Z.hs, .int .i64 Z.ha], .int .i64 E]) ∧ Go.RowKit.Below w.heap.size w w' := by
  have HX0 := Lib.hid (Sp5.new w 0 a1 0 a2)
  have hb0 := box_on (heap_alloc_new w (bB 0 a1)) (below_new _ (bB 0 a2))
  go_enter Tryd.func10, Tryd.ntmps10
  go_upto_region 5 with fail
  generalize (((((w.alloc (bB 0 a1)).alloc (bB 0 a2)).alloc (.cells #[.int .i64 0, .int .i64 0, .int .i64 0, .int .i64 0] 27)).alloc (.cells #[.int .i64 (-1), .int .i64 0] 25)).alloc (.cells #[.int .i64 1, .int .i64 0] 25)) = X0 at *
  clear hb0
  obtain ⟨l1, l2, _, _⟩ := two_cells HX0.out.lo
  obtain ⟨m1, m2, _, _⟩ := two_cells HX0.out.hi
  obtain ⟨n1, n2, n3, n4⟩ := two_cells HX0.out.ca
  obtain ⟨o1, o2, o3, o4⟩ := two_cells HX0.out.cb
  go_wp2_with fail
  generalize X0 = XL at *
  refine (HOF.out _).mono ?_
  rintro e y3 ⟨rfl, hB3⟩
  have HX5 := Lib.hid (HX0.out.on hB3)
  have HR : Hid (Box4 y3 (w.heap.size + 1 + 1) z4) := HX5.out.re
  obtain ⟨⟨d1, d2, d3, d4⟩, e1, e2, e3, e4⟩ := Box4.zero HR.out
  obtain ⟨f1, f2, f3, f4⟩ := (box_put4 HR.out Z).cells
  have hgy : w.heap.size ≤ w.heap.size + 1 + 1 := by omega
  have hL4 := (((HX5.out.be.setCell (p := ⟨w.heap.size + 1 + 1, 0, none⟩) hgy (.int .i64 Z.ls)).setCell (p := ⟨w.heap.size + 1 + 1, 1, none⟩) hgy (.int .i64 Z.la)).setCell (p := ⟨w.heap.size + 1 + 1, 2, none⟩) hgy (.int .i64 Z.hs)).setCell (p := ⟨w.heap.size + 1 + 1, 3, none⟩) hgy (.int .i64 Z.ha)
  go_wp2_with fail
  refine bodyPost_ret (v := .tuple #[.agg #[.int .i64 Z.ls, .int .i64 Z.la, .int .i64 Z.hs, .int .i64 Z.ha], .int .i64 E]) (by simp [results, Tryd.results10, go_sem, f1, f2, f3, f4]) rfl ?_
  exact ⟨rfl, hL4⟩
set_option maxRecDepth 100000 in
set_option maxHeartbeats 2000000 in
theorem rspan_c01 (a1 a2 s a t b E : Int) (Z : S4) (w : World)
    (H2 : Hid (∀ W, Calls Tryd.prog 35 #[.int .i64 a2] W fun e w' => e = .returned (.agg #[.int .i64 t, .int .i64 b]) ∧ Go.RowKit.Below W.heap.size W w'))
    (HOF : Hid (∀ W, Calls Tryd.prog 26 #[.agg #[.int .i64 (-1), .int .i64 0], .agg #[.int .i64 t, .int .i64 b]] W fun e w' => e = .returned (.tuple #[.agg #[.int .i64 Z.ls, .int .i64 Z.la, .int .i64 Z.hs, .int .i64 Z.ha], .int .i64 E]) ∧ Go.RowKit.Below W.heap.size W w')) :
    Calls Tryd.prog 10 #[.agg #[.int .i64 0, .int .i64 a1], .agg #[.int .i64 1, .int .i64 a2]] w fun e w' => e = .returned (.tuple #[.agg #[.int .i64 Z.ls, .int .i64 Z.la, .int .i64 Z.hs, .int .i64 Z.ha], .int .i64 E]) ∧ Go.RowKit.Below w.heap.size w w' := by
  have HX0 := Lib.hid (Sp5.new w 0 a1 1 a2)
  have hb0 := box_on (heap_alloc_new w (bB 0 a1)) (below_new _ (bB 1 a2))
  go_enter Tryd.func10, Tryd.ntmps10
  go_upto_region 5 with fail
  generalize (((((w.alloc (bB 0 a1)).alloc (bB 1 a2)).alloc (.cells #[.int .i64 0, .int .i64 0, .int .i64 0, .int .i64 0] 27)).alloc (.cells #[.int .i64 (-1), .int .i64 0] 25)).alloc (.cells #[.int .i64 1, .int .i64 0] 25)) = X0 at *
  clear hb0
  obtain ⟨l1, l2, _, _⟩ := two_cells HX0.out.lo
  obtain ⟨m1, m2, _, _⟩ := two_cells HX0.out.hi
  obtain ⟨n1, n2, n3, n4⟩ := two_cells HX0.out.ca
  obtain ⟨o1, o2, o3, o4⟩ := two_cells HX0.out.cb
  go_wp2_with fail
  clear l1 l2 m1 m2 n1 n2 n3 n4 o1 o2 o3 o4
  refine (H2.out _).mono ?_
  rintro e y2 ⟨rfl, hB2⟩
  have HX3 := Lib.hid (HX0.out.on hB2)
  have HX4 := Lib.hid (HX3.out.putB t b)
  clear hB2 HX0
  obtain ⟨o1, o2, o3, o4⟩ := two_cells HX3.out.cb
  obtain ⟨l1, l2, _, _⟩ := two_cells HX4.out.lo
  obtain ⟨m1, m2, _, _⟩ := two_cells HX4.out.hi
  obtain ⟨x1, x2, _, _⟩ := two_cells HX4.out.ca
  obtain ⟨x3, x4, _, _⟩ := two_cells HX4.out.cb
  go_wp2_with fail
  generalize ((y2.setCell ⟨w.heap.size + 1 + 1 + 1 + 1, 0, none⟩ (.int .i64 t)).setCell ⟨w.heap.size + 1 + 1 + 1 + 1, 1, none⟩ (.int .i64 b)) = XL at *
  refine (HOF.out _).mono ?_
  rintro e y3 ⟨rfl, hB3⟩
  have HX5 := Lib.hid (HX4.out.on hB3)
  have HR : Hid (Box4 y3 (w.heap.size + 1 + 1) z4) := HX5.out.re
  obtain ⟨⟨d1, d2, d3, d4⟩, e1, e2, e3, e4⟩ := Box4.zero HR.out
  obtain ⟨f1, f2, f3, f4⟩ := (box_put4 HR.out Z).cells
  have hgy : w.heap.size ≤ w.heap.size + 1 + 1 := by omega
  have hL4 := (((HX5.out.be.setCell (p := ⟨w.heap.size + 1 + 1, 0, none⟩) hgy (.int .i64 Z.ls)).setCell (p := ⟨w.heap.size + 1 + 1, 1, none⟩) hgy (.int .i64 Z.la)).setCell (p := ⟨w.heap.size + 1 + 1, 2, none⟩) hgy (.int .i64 Z.hs)).setCell (p := ⟨w.heap.size + 1 + 1, 3, none⟩) hgy (.int .i64 Z.ha)
  go_wp2_with fail
  refine bodyPost_ret (v := .tuple #[.agg #[.int .i64 Z.ls, .int .i64 Z.la, .int .i64 Z.hs, .int .i64 Z.ha], .int .i64 E]) (by simp [results, Tryd.results10, go_sem, f1, f2, f3, f4]) rfl ?_
  exact ⟨rfl, hL4⟩
set_option maxRecDepth 100000 in
set_option maxHeartbeats 2000000 in
theorem rspan_c02 (a1 a2 s a t b E : Int) (Z : S4) (w : World)
    (H2 : Hid (∀ W, Calls Tryd.prog 34 #[.int .i64 a2] W fun e w' => e = .returned (.agg #[.int .i64 t, .int .i64 b]) ∧ Go.RowKit.Below W.heap.size W w'))
    (HOF : Hid (∀ W, Calls Tryd.prog 26 #[.agg #[.int .i64 (-1), .int .i64 0], .agg #[.int .i64 t, .int .i64 b]] W fun e w' => e = .returned (.tuple #[.agg #[.int .i64 Z.ls, .int .i64 Z.la, .int .i64 Z.hs, .int .i64 Z.ha], .int .i64 E]) ∧ Go.RowKit.Below W.heap.size W w')) :
    Calls Tryd.prog 10 #[.agg #[.int .i64 0, .int .i64 a1], .agg #[.int .i64 2, .int .i64 a2]] w fun e w' => e = .returned (.tuple #[.agg #[.int .i64 Z.ls, .int .i64 Z.la, .int .i64 Z.hs, .int .i64 Z.ha], .int .i64 E]) ∧ Go.RowKit.Below w.heap.size w w' := by
  have HX0 := Lib.hid (Sp5.new w 0 a1 2 a2)
  have hb0 := box_on (heap_alloc_new w (bB 0 a1)) (below_new _ (bB 2 a2))
  go_enter Tryd.func10, Tryd.ntmps10
  go_upto_region 5 with fail
  generalize (((((w.alloc (bB 0 a1)).alloc (bB 2 a2)).alloc (.cells #[.int .i64 0, .int .i64 0, .int .i64 0, .int .i64 0] 27)).alloc (.cells #[.int .i64 (-1), .int .i64 0] 25)).alloc (.cells #[.int .i64 1, .int .i64 0] 25)) = X0 at *
  clear hb0
  obtain ⟨l1, l2, _, _⟩ := two_cells HX0.out.lo
  obtain ⟨m1, m2, _, _⟩ := two_cells HX0.out.hi
  obtain ⟨n1, n2, n3, n4⟩ := two_cells HX0.out.ca
  obtain ⟨o1, o2, o3, o4⟩ := two_cells HX0.out.cb
  go_wp2_with fail
  clear l1 l2 m1 m2 n1 n2 n3 n4 o1 o2 o3 o4
  refine (H2.out _).mono ?_
  rintro e y2 ⟨rfl, hB2⟩
  have HX3 := Lib.hid (HX0.out.on hB2)
  have HX4 := Lib.hid (HX3.out.putB t b)
  clear hB2 HX0
  obtain ⟨o1, o2, o3, o4⟩ := two_cells HX3.out.cb
  obtain ⟨l1, l2, _, _⟩ := two_cells HX4.out.lo
  obtain ⟨m1, m2, _, _⟩ := two_cells HX4.out.hi
  obtain ⟨x1, x2, _, _⟩ := two_cells HX4.out.ca
  obtain ⟨x3, x4, _, _⟩ := two_cells HX4.out.cb
  go_wp2_with fail
  generalize ((y2.setCell ⟨w.heap.size + 1 + 1 + 1 + 1, 0, none⟩ (.int .i64 t)).setCell ⟨w.heap.size + 1 + 1 + 1 + 1, 1, none⟩ (.int .i64 b)) = XL at *
  refine (HOF.out _).mono ?_
  rintro e y3 ⟨rfl, hB3⟩
  have HX5 := Lib.hid (HX4.out.on hB3)
  have HR : Hid (Box4 y3 (w.heap.size + 1 + 1) z4) := HX5.out.re
  obtain ⟨⟨d1, d2, d3, d4⟩, e1, e2, e3, e4⟩ := Box4.zero HR.out
  obtain ⟨f1, f2, f3, f4⟩ := (box_put4 HR.out Z).cells
  have hgy : w.heap.size ≤ w.heap.size + 1 + 1 := by omega
  have hL4 := (((HX5.out.be.setCell (p := ⟨w.heap.size + 1 + 1, 0, none⟩) hgy (.int .i64 Z.ls)).setCell (p := ⟨w.heap.size + 1 + 1, 1, none⟩) hgy (.int .i64 Z.la)).setCell (p := ⟨w.heap.size + 1 + 1, 2, none⟩) hgy (.int .i64 Z.hs)).setCell (p := ⟨w.heap.size + 1 + 1, 3, none⟩) hgy (.int .i64 Z.ha)
  go_wp2_with fail
  refine bodyPost_ret (v := .tuple #[.agg #[.int .i64 Z.ls, .int .i64 Z.la, .int .i64 Z.hs, .int .i64 Z.ha], .int .i64 E]) (by simp [results, Tryd.results10, go_sem, f1, f2, f3, f4]) rfl ?_
  exact ⟨rfl, hL4⟩
set_option maxRecDepth 100000 in
set_option maxHeartbeats 2000000 in
theorem rspan_c10 (a1 a2 s a t b E : Int) (Z : S4) (w : World)
    (H1 : Hid (∀ W, Calls Tryd.prog 34 #[.int .i64 a1] W fun e w' => e = .returned (.agg #[.int .i64 s, .int .i64 a]) ∧ Go.RowKit.Below W.heap.size W w'))
    (HOF : Hid (∀ W, Calls Tryd.prog 26 #[.agg #[.int .i64 s, .int .i64 a], .agg #[.int .i64 1, .int .i64 0]] W fun e w' => e = .returned (.tuple #[.agg #[.int .i64 Z.ls, .int .i64 Z.la, .int .i64 Z.hs, .int .i64 Z.ha], .int .i64 E]) ∧ Go.RowKit.Below W.heap.size W w')) :
    Calls Tryd.prog 10 #[.agg #[.int .i64 1, .int .i64 a1], .agg #[.int .i64 0, .int .i64 a2]] w fun e w' => e = .returned (.tuple #[.agg #[.int .i64 Z.ls, .int .i64 Z.la, .int .i64 Z.hs, .int .i64 Z.ha], .int .i64 E]) ∧ Go.RowKit.Below w.heap.size w w' := by
  have HX0 := Lib.hid (Sp5.new w 1 a1 0 a2)
  have hb0 := box_on (heap_alloc_new w (bB 1 a1)) (below_new _ (bB 0 a2))
  go_enter Tryd.func10, Tryd.ntmps10
  go_upto_region 5 with fail
  generalize (((((w.alloc (bB 1 a1)).alloc (bB 0 a2)).alloc (.cells #[.int .i64 0, .int .i64 0, .int .i64 0, .int .i64 0] 27)).alloc (.cells #[.int .i64 (-1), .int .i64 0] 25)).alloc (.cells #[.int .i64 1, .int .i64 0] 25)) = X0 at *
  clear hb0
  obtain ⟨l1, l2, _, _⟩ := two_cells HX0.out.lo
  obtain ⟨m1, m2, _, _⟩ := two_cells HX0.out.hi
  obtain ⟨n1, n2, n3, n4⟩ := two_cells HX0.out.ca
  obtain ⟨o1, o2, o3, o4⟩ := two_cells HX0.out.cb
  go_wp2_with fail
  clear l1 l2 m1 m2 n1 n2 n3 n4 o1 o2 o3 o4
  refine (H1.out _).mono ?_
  rintro e y1 ⟨rfl, hB1⟩
  have HX1 := Lib.hid (HX0.out.on hB1)
  have HX2 := Lib.hid (HX1.out.putA s a)
  clear hB1 HX0
  obtain ⟨n1, n2, n3, n4⟩ := two_cells HX1.out.ca
  obtain ⟨l1, l2, _, _⟩ := two_cells HX2.out.lo
  obtain ⟨m1, m2, _, _⟩ := two_cells HX2.out.hi
  obtain ⟨o1, o2, o3, o4⟩ := two_cells HX2.out.cb
  obtain ⟨x1, x2, _, _⟩ := two_cells HX2.out.ca
  go_wp2_with fail
  generalize ((y1.setCell ⟨w.heap.size + 1 + 1 + 1, 0, none⟩ (.int .i64 s)).setCell ⟨w.heap.size + 1 + 1 + 1, 1, none⟩ (.int .i64 a)) = XL at *
  refine (HOF.out _).mono ?_
  rintro e y3 ⟨rfl, hB3⟩
  have HX5 := Lib.hid (HX2.out.on hB3)
  have HR : Hid (Box4 y3 (w.heap.size + 1 + 1) z4) := HX5.out.re
  obtain ⟨⟨d1, d2, d3, d4⟩, e1, e2, e3, e4⟩ := Box4.zero HR.out
  obtain ⟨f1, f2, f3, f4⟩ := (box_put4 HR.out Z).cells
  have hgy : w.heap.size ≤ w.heap.size + 1 + 1 := by omega
  have hL4 := (((HX5.out.be.setCell (p := ⟨w.heap.size + 1 + 1, 0, none⟩) hgy (.int .i64 Z.ls)).setCell (p := ⟨w.heap.size + 1 + 1, 1, none⟩) hgy (.int .i64 Z.la)).setCell (p := ⟨w.heap.size + 1 + 1, 2, none⟩) hgy (.int .i64 Z.hs)).setCell (p := ⟨w.heap.size + 1 + 1, 3, none⟩) hgy (.int .i64 Z.ha)
  go_wp2_with fail
  refine bodyPost_ret (v := .tuple #[.agg #[.int .i64 Z.ls, .int .i64 Z.la, .int .i64 Z.hs, .int .i64 Z.ha], .int .i64 E]) (by simp [results, Tryd.results10, go_sem, f1, f2, f3, f4]) rfl ?_
  exact ⟨rfl, hL4⟩
set_option maxRecDepth 100000 in
set_option maxHeartbeats 2000000 in
theorem rspan_c11 (a1 a2 s a t b E : Int) (Z : S4) (w : World)
    (H1 : Hid (∀ W, Calls Tryd.prog 34 #[.int .i64 a1] W fun e w' => e = .returned (.agg #[.int .i64 s, .int .i64 a]) ∧ Go.RowKit.Below W.heap.size W w'))
    (H2 : Hid (∀ W, Calls Tryd.prog 35 #[.int .i64 a2] W fun e w' => e = .returned (.agg #[.int .i64 t, .int .i64 b]) ∧ Go.RowKit.Below W.heap.size W w'))
    (HOF : Hid (∀ W, Calls Tryd.prog 26 #[.agg #[.int .i64 s, .int .i64 a], .agg #[.int .i64 t, .int .i64 b]] W fun e w' => e = .returned (.tuple #[.agg #[.int .i64 Z.ls, .int .i64 Z.la, .int .i64 Z.hs, .int .i64 Z.ha], .int .i64 E]) ∧ Go.RowKit.Below W.heap.size W w')) :
    Calls Tryd.prog 10 #[.agg #[.int .i64 1, .int .i64 a1], .agg #[.int .i64 1, .int .i64 a2]] w fun e w' => e = .returned (.tuple #[.agg #[.int .i64 Z.ls, .int .i64 Z.la, .int .i64 Z.hs, .int .i64 Z.ha], .int .i64 E]) ∧ Go.RowKit.Below w.heap.size w w' := by
  have HX0 := Lib.hid (Sp5.new w 1 a1 1 a2)
  have hb0 := box_on (heap_alloc_new w (bB 1 a1)) (below_new _ (bB 1 a2))
  go_enter Tryd.func10, Tryd.ntmps10
  go_upto_region 5 with fail
  generalize (((((w.alloc (bB 1 a1)).alloc (bB 1 a2)).alloc (.cells #[.int .i64 0, .int .i64 0, .int .i64 0, .int .i64 0] 27)).alloc (.cells #[.int .i64 (-1), .int .i64 0] 25)).alloc (.cells #[.int .i64 1, .int .i64 0] 25)) = X0 at *
  clear hb0
  obtain ⟨l1, l2, _, _⟩ := two_cells HX0.out.lo
  obtain ⟨m1, m2, _, _⟩ := two_cells HX0.out.hi
  obtain ⟨n1, n2, n3, n4⟩ := two_cells HX0.out.ca
  obtain ⟨o1, o2, o3, o4⟩ := two_cells HX0.out.cb
  go_wp2_with fail
  clear l1 l2 m1 m2 n1 n2 n3 n4 o1 o2 o3 o4
  refine (H1.out _).mono ?_
  rintro e y1 ⟨rfl, hB1⟩
  have HX1 := Lib.hid (HX0.out.on hB1)
  have HX2 := Lib.hid (HX1.out.putA s a)
  clear hB1 HX0
  obtain ⟨n1, n2, n3, n4⟩ := two_cells HX1.out.ca
  obtain ⟨l1, l2, _, _⟩ := two_cells HX2.out.lo
  obtain ⟨m1, m2, _, _⟩ := two_cells HX2.out.hi
  obtain ⟨o1, o2, o3, o4⟩ := two_cells HX2.out.cb
  obtain ⟨x1, x2, _, _⟩ := two_cells HX2.out.ca
  go_wp2_with fail
  generalize ((y1.setCell ⟨w.heap.size + 1 + 1 + 1, 0, none⟩ (.int .i64 s)).setCell ⟨w.heap.size + 1 + 1 + 1, 1, none⟩ (.int .i64 a)) = X2 at *
  clear n1 n2 n3 n4 l1 l2 m1 m2 o1 o2 o3 o4 x1 x2 HX1
  refine (H2.out _).mono ?_
  rintro e y2 ⟨rfl, hB2⟩
  have HX3 := Lib.hid (HX2.out.on hB2)
  have HX4 := Lib.hid (HX3.out.putB t b)
  clear hB2 HX2
  obtain ⟨o1, o2, o3, o4⟩ := two_cells HX3.out.cb
  obtain ⟨l1, l2, _, _⟩ := two_cells HX4.out.lo
  obtain ⟨m1, m2, _, _⟩ := two_cells HX4.out.hi
  obtain ⟨x1, x2, _, _⟩ := two_cells HX4.out.ca
  obtain ⟨x3, x4, _, _⟩ := two_cells HX4.out.cb
  go_wp2_with fail
  generalize ((y2.setCell ⟨w.heap.size + 1 + 1 + 1 + 1, 0, none⟩ (.int .i64 t)).setCell ⟨w.heap.size + 1 + 1 + 1 + 1, 1, none⟩ (.int .i64 b)) = XL at *
  refine (HOF.out _).mono ?_
  rintro e y3 ⟨rfl, hB3⟩
  have HX5 := Lib.hid (HX4.out.on hB3)
  have HR : Hid (Box4 y3 (w.heap.size + 1 + 1) z4) := HX5.out.re
  obtain ⟨⟨d1, d2, d3, d4⟩, e1, e2, e3, e4⟩ := Box4.zero HR.out
  obtain ⟨f1, f2, f3, f4⟩ := (box_put4 HR.out Z).cells
  have hgy : w.heap.size ≤ w.heap.size + 1 + 1 := by omega
  have hL4 := (((HX5.out.be.setCell (p := ⟨w.heap.size + 1 + 1, 0, none⟩) hgy (.int .i64 Z.ls)).setCell (p := ⟨w.heap.size + 1 + 1, 1, none⟩) hgy (.int .i64 Z.la)).setCell (p := ⟨w.heap.size + 1 + 1, 2, none⟩) hgy (.int .i64 Z.hs)).setCell (p := ⟨w.heap.size + 1 + 1, 3, none⟩) hgy (.int .i64 Z.ha)
  go_wp2_with fail
  refine bodyPost_ret (v := .tuple #[.agg #[.int .i64 Z.ls, .int .i64 Z.la, .int .i64 Z.hs, .int .i64 Z.ha], .int .i64 E]) (by simp [results, Tryd.results10, go_sem, f1, f2, f3, f4]) rfl ?_
  exact ⟨rfl, hL4⟩
set_option maxRecDepth 100000 in
set_option maxHeartbeats 2000000 in
theorem rspan_c12 (a1 a2 s a t b E : Int) (Z : S4) (w : World)
    (H1 : Hid (∀ W, Calls Tryd.prog 34 #[.int .i64 a1] W fun e w' => e = .returned (.agg #[.int .i64 s, .int .i64 a]) ∧ Go.RowKit.Below W.heap.size W w'))
    (H2 : Hid (∀ W, Calls Tryd.prog 34 #[.int .i64 a2] W fun e w' => e = .returned (.agg #[.int .i64 t, .int .i64 b]) ∧ Go.RowKit.Below W.heap.size W w'))
    (HOF : Hid (∀ W, Calls Tryd.prog 26 #[.agg #[.int .i64 s, .int .i64 a], .agg #[.int .i64 t, .int .i64 b]] W fun e w' => e = .returned (.tuple #[.agg #[.int .i64 Z.ls, .int .i64 Z.la, .int .i64 Z.hs, .int .i64 Z.ha], .int .i64 E]) ∧ Go.RowKit.Below W.heap.size W w')) :
    Calls Tryd.prog 10 #[.agg #[.int .i64 1, .int .i64 a1], .agg #[.int .i64 2, .int .i64 a2]] w fun e w' => e = .returned (.tuple #[.agg #[.int .i64 Z.ls, .int .i64 Z.la, .int .i64 Z.hs, .int .i64 Z.ha], .int .i64 E]) ∧ Go.RowKit.Below w.heap.size w w' := by
  have HX0 := Lib.hid (Sp5.new w 1 a1 2 a2)
  have hb0 := box_on (heap_alloc_new w (bB 1 a1)) (below_new _ (bB 2 a2))
  go_enter Tryd.func10, Tryd.ntmps10
  go_upto_region 5 with fail
  generalize (((((w.alloc (bB 1 a1)).alloc (bB 2 a2)).alloc (.cells #[.int .i64 0, .int .i64 0, .int .i64 0, .int .i64 0] 27)).alloc (.cells #[.int .i64 (-1), .int .i64 0] 25)).alloc (.cells #[.int .i64 1, .int .i64 0] 25)) = X0 at *
  clear hb0
  obtain ⟨l1, l2, _, _⟩ := two_cells HX0.out.lo
  obtain ⟨m1, m2, _, _⟩ := two_cells HX0.out.hi
  obtain ⟨n1, n2, n3, n4⟩ := two_cells HX0.out.ca
  obtain ⟨o1, o2, o3, o4⟩ := two_cells HX0.out.cb
  go_wp2_with fail
  clear l1 l2 m1 m2 n1 n2 n3 n4 o1 o2 o3 o4
  refine (H1.out _).mono ?_
  rintro e y1 ⟨rfl, hB1⟩
  have HX1 := Lib.hid (HX0.out.on hB1)
  have HX2 := Lib.hid (HX1.out.putA s a)
  clear hB1 HX0
  obtain ⟨n1, n2, n3, n4⟩ := two_cells HX1.out.ca
  obtain ⟨l1, l2, _, _⟩ := two_cells HX2.out.lo
  obtain ⟨m1, m2, _, _⟩ := two_cells HX2.out.hi
  obtain ⟨o1, o2, o3, o4⟩ := two_cells HX2.out.cb
  obtain ⟨x1, x2, _, _⟩ := two_cells HX2.out.ca
  go_wp2_with fail
  generalize ((y1.setCell ⟨w.heap.size + 1 + 1 + 1, 0, none⟩ (.int .i64 s)).setCell ⟨w.heap.size + 1 + 1 + 1, 1, none⟩ (.int .i64 a)) = X2 at *
  clear n1 n2 n3 n4 l1 l2 m1 m2 o1 o2 o3 o4 x1 x2 HX1
  refine (H2.out _).mono ?_
  rintro e y2 ⟨rfl, hB2⟩
  have HX3 := Lib.hid (HX2.out.on hB2)
  have HX4 := Lib.hid (HX3.out.putB t b)
  clear hB2 HX2
  obtain ⟨o1, o2, o3, o4⟩ := two_cells HX3.out.cb
  obtain ⟨l1, l2, _, _⟩ := two_cells HX4.out.lo
  obtain ⟨m1, m2, _, _⟩ := two_cells HX4.out.hi
  obtain ⟨x1, x2, _, _⟩ := two_cells HX4.out.ca
  obtain ⟨x3, x4, _, _⟩ := two_cells HX4.out.cb
  go_wp2_with fail
  generalize ((y2.setCell ⟨w.heap.size + 1 + 1 + 1 + 1, 0, none⟩ (.int .i64 t)).setCell ⟨w.heap.size + 1 + 1 + 1 + 1, 1, none⟩ (.int .i64 b)) = XL at *
  refine (HOF.out _).mono ?_
  rintro e y3 ⟨rfl, hB3⟩
  have HX5 := Lib.hid (HX4.out.on hB3)
  have HR : Hid (Box4 y3 (w.heap.size + 1 + 1) z4) := HX5.out.re
  obtain ⟨⟨d1, d2, d3, d4⟩, e1, e2, e3, e4⟩ := Box4.zero HR.out
  obtain ⟨f1, f2, f3, f4⟩ := (box_put4 HR.out Z).cells
  have hgy : w.heap.size ≤ w.heap.size + 1 + 1 := by omega
  have hL4 := (((HX5.out.be.setCell (p := ⟨w.heap.size + 1 + 1, 0, none⟩) hgy (.int .i64 Z.ls)).setCell (p := ⟨w.heap.size + 1 + 1, 1, none⟩) hgy (.int .i64 Z.la)).setCell (p := ⟨w.heap.size + 1 + 1, 2, none⟩) hgy (.int .i64 Z.hs)).setCell (p := ⟨w.heap.size + 1 + 1, 3, none⟩) hgy (.int .i64 Z.ha)
  go_wp2_with fail
  refine bodyPost_ret (v := .tuple #[.agg #[.int .i64 Z.ls, .int .i64 Z.la, .int .i64 Z.hs, .int .i64 Z.ha], .int .i64 E]) (by simp [results, Tryd.results10, go_sem, f1, f2, f3, f4]) rfl ?_
  exact ⟨rfl, hL4⟩
set_option maxRecDepth 100000 in
set_option maxHeartbeats 2000000 in
theorem rspan_c20 (a1 a2 s a t b E : Int) (Z : S4) (w : World)
    (H1 : Hid (∀ W, Calls Tryd.prog 35 #[.int .i64 a1] W fun e w' => e = .returned (.agg #[.int .i64 s, .int .i64 a]) ∧ Go.RowKit.Below W.heap.size W w'))
    (HOF : Hid (∀ W, Calls Tryd.prog 26 #[.agg #[.int .i64 s, .int .i64 a], .agg #[.int .i64 1, .int .i64 0]] W fun e w' => e = .returned (.tuple #[.agg #[.int .i64 Z.ls, .int .i64 Z.la, .int .i64 Z.hs, .int .i64 Z.ha], .int .i64 E]) ∧ Go.RowKit.Below W.heap.size W w')) :
    Calls Tryd.prog 10 #[.agg #[.int .i64 2, .int .i64 a1], .agg #[.int .i64 0, .int .i64 a2]] w fun e w' => e = .returned (.tuple #[.agg #[.int .i64 Z.ls, .int .i64 Z.la, .int .i64 Z.hs, .int .i64 Z.ha], .int .i64 E]) ∧ Go.RowKit.Below w.heap.size w w' := by
  have HX0 := Lib.hid (Sp5.new w 2 a1 0 a2)
  have hb0 := box_on (heap_alloc_new w (bB 2 a1)) (below_new _ (bB 0 a2))
  go_enter Tryd.func10, Tryd.ntmps10
  go_upto_region 5 with fail
  generalize (((((w.alloc (bB 2 a1)).alloc (bB 0 a2)).alloc (.cells #[.int .i64 0, .int .i64 0, .int .i64 0, .int .i64 0] 27)).alloc (.cells #[.int .i64 (-1), .int .i64 0] 25)).alloc (.cells #[.int .i64 1, .int .i64 0] 25)) = X0 at *
  clear hb0
  obtain ⟨l1, l2, _, _⟩ := two_cells HX0.out.lo
  obtain ⟨m1, m2, _, _⟩ := two_cells HX0.out.hi
  obtain ⟨n1, n2, n3, n4⟩ := two_cells HX0.out.ca
  obtain ⟨o1, o2, o3, o4⟩ := two_cells HX0.out.cb
  go_wp2_with fail
  clear l1 l2 m1 m2 n1 n2 n3 n4 o1 o2 o3 o4
  refine (H1.out _).mono ?_
  rintro e y1 ⟨rfl, hB1⟩
  have HX1 := Lib.hid (HX0.out.on hB1)
  have HX2 := Lib.hid (HX1.out.putA s a)
  clear hB1 HX0
  obtain ⟨n1, n2, n3, n4⟩ := two_cells HX1.out.ca
  obtain ⟨l1, l2, _, _⟩ := two_cells HX2.out.lo
  obtain ⟨m1, m2, _, _⟩ := two_cells HX2.out.hi
  obtain ⟨o1, o2, o3, o4⟩ := two_cells HX2.out.cb
  obtain ⟨x1, x2, _, _⟩ := two_cells HX2.out.ca
  go_wp2_with fail
  generalize ((y1.setCell ⟨w.heap.size + 1 + 1 + 1, 0, none⟩ (.int .i64 s)).setCell ⟨w.heap.size + 1 + 1 + 1, 1, none⟩ (.int .i64 a)) = XL at *
  refine (HOF.out _).mono ?_
  rintro e y3 ⟨rfl, hB3⟩
  have HX5 := Lib.hid (HX2.out.on hB3)
  have HR : Hid (Box4 y3 (w.heap.size + 1 + 1) z4) := HX5.out.re
  obtain ⟨⟨d1, d2, d3, d4⟩, e1, e2, e3, e4⟩ := Box4.zero HR.out
  obtain ⟨f1, f2, f3, f4⟩ := (box_put4 HR.out Z).cells
  have hgy : w.heap.size ≤ w.heap.size + 1 + 1 := by omega
  have hL4 := (((HX5.out.be.setCell (p := ⟨w.heap.size + 1 + 1, 0, none⟩) hgy (.int .i64 Z.ls)).setCell (p := ⟨w.heap.size + 1 + 1, 1, none⟩) hgy (.int .i64 Z.la)).setCell (p := ⟨w.heap.size + 1 + 1, 2, none⟩) hgy (.int .i64 Z.hs)).setCell (p := ⟨w.heap.size + 1 + 1, 3, none⟩) hgy (.int .i64 Z.ha)
  go_wp2_with fail
  refine bodyPost_ret (v := .tuple #[.agg #[.int .i64 Z.ls, .int .i64 Z.la, .int .i64 Z.hs, .int .i64 Z.ha], .int .i64 E]) (by simp [results, Tryd.results10, go_sem, f1, f2, f3, f4]) rfl ?_
  exact ⟨rfl, hL4⟩
set_option maxRecDepth 100000 in
set_option maxHeartbeats 2000000 in
theorem rspan_c21 (a1 a2 s a t b E : Int) (Z : S4) (w : World)
    (H1 : Hid (∀ W, Calls Tryd.prog 35 #[.int .i64 a1] W fun e w' => e = .returned (.agg #[.int .i64 s, .int .i64 a]) ∧ Go.RowKit.Below W.heap.size W w'))
    (H2 : Hid (∀ W, Calls Tryd.prog 35 #[.int .i64 a2] W fun e w' => e = .returned (.agg #[.int .i64 t, .int .i64 b]) ∧ Go.RowKit.Below W.heap.size W w'))
    (HOF : Hid (∀ W, Calls Tryd.prog 26 #[.agg #[.int .i64 s, .int .i64 a], .agg #[.int .i64 t, .int .i64 b]] W fun e w' => e = .returned (.tuple #[.agg #[.int .i64 Z.ls, .int .i64 Z.la, .int .i64 Z.hs, .int .i64 Z.ha], .int .i64 E]) ∧ Go.RowKit.Below W.heap.size W w')) :
    Calls Tryd.prog 10 #[.agg #[.int .i64 2, .int .i64 a1], .agg #[.int .i64 1, .int .i64 a2]] w fun e w' => e = .returned (.tuple #[.agg #[.int .i64 Z.ls, .int .i64 Z.la, .int .i64 Z.hs, .int .i64 Z.ha], .int .i64 E]) ∧ Go.RowKit.Below w.heap.size w w' := by
  have HX0 := Lib.hid (Sp5.new w 2 a1 1 a2)
  have hb0 := box_on (heap_alloc_new w (bB 2 a1)) (below_new _ (bB 1 a2))
  go_enter Tryd.func10, Tryd.ntmps10
  go_upto_region 5 with fail
  generalize (((((w.alloc (bB 2 a1)).alloc (bB 1 a2)).alloc (.cells #[.int .i64 0, .int .i64 0, .int .i64 0, .int .i64 0] 27)).alloc (.cells #[.int .i64 (-1), .int .i64 0] 25)).alloc (.cells #[.int .i64 1, .int .i64 0] 25)) = X0 at *
  clear hb0
  obtain ⟨l1, l2, _, _⟩ := two_cells HX0.out.lo
  obtain ⟨m1, m2, _, _⟩ := two_cells HX0.out.hi
  obtain ⟨n1, n2, n3, n4⟩ := two_cells HX0.out.ca
  obtain ⟨o1, o2, o3, o4⟩ := two_cells HX0.out.cb
  go_wp2_with fail
  clear l1 l2 m1 m2 n1 n2 n3 n4 o1 o2 o3 o4
  refine (H1.out _).mono ?_
  rintro e y1 ⟨rfl, hB1⟩
  have HX1 := Lib.hid (HX0.out.on hB1)
  have HX2 := Lib.hid (HX1.out.putA s a)
  clear hB1 HX0
  obtain ⟨n1, n2, n3, n4⟩ := two_cells HX1.out.ca
  obtain ⟨l1, l2, _, _⟩ := two_cells HX2.out.lo
  obtain ⟨m1, m2, _, _⟩ := two_cells HX2.out.hi
  obtain ⟨o1, o2, o3, o4⟩ := two_cells HX2.out.cb
  obtain ⟨x1, x2, _, _⟩ := two_cells HX2.out.ca
  go_wp2_with fail
  generalize ((y1.setCell ⟨w.heap.size + 1 + 1 + 1, 0, none⟩ (.int .i64 s)).setCell ⟨w.heap.size + 1 + 1 + 1, 1, none⟩ (.int .i64 a)) = X2 at *
  clear n1 n2 n3 n4 l1 l2 m1 m2 o1 o2 o3 o4 x1 x2 HX1
  refine (H2.out _).mono ?_
  rintro e y2 ⟨rfl, hB2⟩
  have HX3 := Lib.hid (HX2.out.on hB2)
  have HX4 := Lib.hid (HX3.out.putB t b)
  clear hB2 HX2
  obtain ⟨o1, o2, o3, o4⟩ := two_cells HX3.out.cb
  obtain ⟨l1, l2, _, _⟩ := two_cells HX4.out.lo
  obtain ⟨m1, m2, _, _⟩ := two_cells HX4.out.hi
  obtain ⟨x1, x2, _, _⟩ := two_cells HX4.out.ca
  obtain ⟨x3, x4, _, _⟩ := two_cells HX4.out.cb
  go_wp2_with fail
  generalize ((y2.setCell ⟨w.heap.size + 1 + 1 + 1 + 1, 0, none⟩ (.int .i64 t)).setCell ⟨w.heap.size + 1 + 1 + 1 + 1, 1, none⟩ (.int .i64 b)) = XL at *
  refine (HOF.out _).mono ?_
  rintro e y3 ⟨rfl, hB3⟩
  have HX5 := Lib.hid (HX4.out.on hB3)
  have HR : Hid (Box4 y3 (w.heap.size + 1 + 1) z4) := HX5.out.re
  obtain ⟨⟨d1, d2, d3, d4⟩, e1, e2, e3, e4⟩ := Box4.zero HR.out
  obtain ⟨f1, f2, f3, f4⟩ := (box_put4 HR.out Z).cells
  have hgy : w.heap.size ≤ w.heap.size + 1 + 1 := by omega
  have hL4 := (((HX5.out.be.setCell (p := ⟨w.heap.size + 1 + 1, 0, none⟩) hgy (.int .i64 Z.ls)).setCell (p := ⟨w.heap.size + 1 + 1, 1, none⟩) hgy (.int .i64 Z.la)).setCell (p := ⟨w.heap.size + 1 + 1, 2, none⟩) hgy (.int .i64 Z.hs)).setCell (p := ⟨w.heap.size + 1 + 1, 3, none⟩) hgy (.int .i64 Z.ha)
  go_wp2_with fail
  refine bodyPost_ret (v := .tuple #[.agg #[.int .i64 Z.ls, .int .i64 Z.la, .int .i64 Z.hs, .int .i64 Z.ha], .int .i64 E]) (by simp [results, Tryd.results10, go_sem, f1, f2, f3, f4]) rfl ?_
  exact ⟨rfl, hL4⟩
set_option maxRecDepth 100000 in
set_option maxHeartbeats 2000000 in
theorem rspan_c22 (a1 a2 s a t b E : Int) (Z : S4) (w : World)
    (H1 : Hid (∀ W, Calls Tryd.prog 35 #[.int .i64 a1] W fun e w' => e = .returned (.agg #[.int .i64 s, .int .i64 a]) ∧ Go.RowKit.Below W.heap.size W w'))
    (H2 : Hid (∀ W, Calls Tryd.prog 34 #[.int .i64 a2] W fun e w' => e = .returned (.agg #[.int .i64 t, .int .i64 b]) ∧ Go.RowKit.Below W.heap.size W w'))
    (HOF : Hid (∀ W, Calls Tryd.prog 26 #[.agg #[.int .i64 s, .int .i64 a], .agg #[.int .i64 t, .int .i64 b]] W fun e w' => e = .returned (.tuple #[.agg #[.int .i64 Z.ls, .int .i64 Z.la, .int .i64 Z.hs, .int .i64 Z.ha], .int .i64 E]) ∧ Go.RowKit.Below W.heap.size W w')) :
    Calls Tryd.prog 10 #[.agg #[.int .i64 2, .int .i64 a1], .agg #[.int .i64 2, .int .i64 a2]] w fun e w' => e = .returned (.tuple #[.agg #[.int .i64 Z.ls, .int .i64 Z.la, .int .i64 Z.hs, .int .i64 Z.ha], .int .i64 E]) ∧ Go.RowKit.Below w.heap.size w w' := by
  have HX0 := Lib.hid (Sp5.new w 2 a1 2 a2)
  have hb0 := box_on (heap_alloc_new w (bB 2 a1)) (below_new _ (bB 2 a2))
  go_enter Tryd.func10, Tryd.ntmps10
  go_upto_region 5 with fail
  generalize (((((w.alloc (bB 2 a1)).alloc (bB 2 a2)).alloc (.cells #[.int .i64 0, .int .i64 0, .int .i64 0, .int .i64 0] 27)).alloc (.cells #[.int .i64 (-1), .int .i64 0] 25)).alloc (.cells #[.int .i64 1, .int .i64 0] 25)) = X0 at *
  clear hb0
  obtain ⟨l1, l2, _, _⟩ := two_cells HX0.out.lo
  obtain ⟨m1, m2, _, _⟩ := two_cells HX0.out.hi
  obtain ⟨n1, n2, n3, n4⟩ := two_cells HX0.out.ca
  obtain ⟨o1, o2, o3, o4⟩ := two_cells HX0.out.cb
  go_wp2_with fail
  clear l1 l2 m1 m2 n1 n2 n3 n4 o1 o2 o3 o4
  refine (H1.out _).mono ?_
  rintro e y1 ⟨rfl, hB1⟩
  have HX1 := Lib.hid (HX0.out.on hB1)
  have HX2 := Lib.hid (HX1.out.putA s a)
  clear hB1 HX0
  obtain ⟨n1, n2, n3, n4⟩ := two_cells HX1.out.ca
  obtain ⟨l1, l2, _, _⟩ := two_cells HX2.out.lo
  obtain ⟨m1, m2, _, _⟩ := two_cells HX2.out.hi
  obtain ⟨o1, o2, o3, o4⟩ := two_cells HX2.out.cb
  obtain ⟨x1, x2, _, _⟩ := two_cells HX2.out.ca
  go_wp2_with fail
  generalize ((y1.setCell ⟨w.heap.size + 1 + 1 + 1, 0, none⟩ (.int .i64 s)).setCell ⟨w.heap.size + 1 + 1 + 1, 1, none⟩ (.int .i64 a)) = X2 at *
  clear n1 n2 n3 n4 l1 l2 m1 m2 o1 o2 o3 o4 x1 x2 HX1
  refine (H2.out _).mono ?_
  rintro e y2 ⟨rfl, hB2⟩
  have HX3 := Lib.hid (HX2.out.on hB2)
  have HX4 := Lib.hid (HX3.out.putB t b)
  clear hB2 HX2
  obtain ⟨o1, o2, o3, o4⟩ := two_cells HX3.out.cb
  obtain ⟨l1, l2, _, _⟩ := two_cells HX4.out.lo
  obtain ⟨m1, m2, _, _⟩ := two_cells HX4.out.hi
  obtain ⟨x1, x2, _, _⟩ := two_cells HX4.out.ca
  obtain ⟨x3, x4, _, _⟩ := two_cells HX4.out.cb
  go_wp2_with fail
  generalize ((y2.setCell ⟨w.heap.size + 1 + 1 + 1 + 1, 0, none⟩ (.int .i64 t)).setCell ⟨w.heap.size + 1 + 1 + 1 + 1, 1, none⟩ (.int .i64 b)) = XL at *
  refine (HOF.out _).mono ?_
  rintro e y3 ⟨rfl, hB3⟩
  have HX5 := Lib.hid (HX4.out.on hB3)
  have HR : Hid (Box4 y3 (w.heap.size + 1 + 1) z4) := HX5.out.re
  obtain ⟨⟨d1, d2, d3, d4⟩, e1, e2, e3, e4⟩ := Box4.zero HR.out
  obtain ⟨f1, f2, f3, f4⟩ := (box_put4 HR.out Z).cells
  have hgy : w.heap.size ≤ w.heap.size + 1 + 1 := by omega
  have hL4 := (((HX5.out.be.setCell (p := ⟨w.heap.size + 1 + 1, 0, none⟩) hgy (.int .i64 Z.ls)).setCell (p := ⟨w.heap.size + 1 + 1, 1, none⟩) hgy (.int .i64 Z.la)).setCell (p := ⟨w.heap.size + 1 + 1, 2, none⟩) hgy (.int .i64 Z.hs)).setCell (p := ⟨w.heap.size + 1 + 1, 3, none⟩) hgy (.int .i64 Z.ha)
  go_wp2_with fail
  refine bodyPost_ret (v := .tuple #[.agg #[.int .i64 Z.ls, .int .i64 Z.la, .int .i64 Z.hs, .int .i64 Z.ha], .int .i64 E]) (by simp [results, Tryd.results10, go_sem, f1, f2, f3, f4]) rfl ?_
  exact ⟨rfl, hL4⟩
set_option maxRecDepth 100000 in
set_option maxHeartbeats 2000000 in
theorem rspan_bad (k1 a1 k2 a2 : Int) (w : World) (T1 T2 T3 T4 : Bool) (t1 : decide (k1 < 0) = T1) (t2 : decide (2 < k1) = T2) (t3 : decide (k2 < 0) = T3) (t4 : decide (2 < k2) = T4) (hT : (T1 || T2 || T3 || T4) = true) :
    Calls Tryd.prog 10 #[.agg #[.int .i64 k1, .int .i64 a1], .agg #[.int .i64 k2, .int .i64 a2]] w fun e w' => e = .returned (.tuple #[.agg #[.int .i64 0, .int .i64 0, .int .i64 0, .int .i64 0], .int .i64 40]) ∧ Go.RowKit.Below w.heap.size w w' := by
  have hR : Hid (Box4 (((w.alloc (bB k1 a1)).alloc (bB k2 a2)).alloc (.cells #[.int .i64 0, .int .i64 0, .int .i64 0, .int .i64 0] 27)) (w.heap.size + 1 + 1) z4) := new_at _ (by simp)
  have hL := bt (bt (below_new w (bB k1 a1)) (below_new _ (bB k2 a2))) (below_new _ (.cells #[.int .i64 0, .int .i64 0, .int .i64 0, .int .i64 0] 27))
  have h1 : (((w.alloc (bB k1 a1)).alloc (bB k2 a2)).alloc (.cells #[.int .i64 0, .int .i64 0, .int .i64 0, .int .i64 0] 27)).heap[w.heap.size]? = some (bB k1 a1) := box_on (box_on (heap_alloc_new w _) (below_new _ _)) (below_new _ _)
  have h2 : (((w.alloc (bB k1 a1)).alloc (bB k2 a2)).alloc (.cells #[.int .i64 0, .int .i64 0, .int .i64 0, .int .i64 0] 27)).heap[w.heap.size + 1]? = some (bB k2 a2) := box_on (new_at _ (by simp)) (below_new _ _)
  obtain ⟨l1, l2, _, _⟩ := two_cells h1
  obtain ⟨m1, m2, _, _⟩ := two_cells h2
  obtain ⟨⟨d1, d2, d3, d4⟩, e1, e2, e3, e4⟩ := Box4.zero hR.out
  obtain ⟨f1, f2, f3, f4⟩ := (box_put4 hR.out ⟨0, 0, 0, 0⟩).cells
  dsimp only at f1 f2 f3 f4
  have hgy : w.heap.size ≤ w.heap.size + 1 + 1 := by omega
  have hL4 := (((hL.setCell (p := ⟨w.heap.size + 1 + 1, 0, none⟩) hgy (.int .i64 0)).setCell (p := ⟨w.heap.size + 1 + 1, 1, none⟩) hgy (.int .i64 0)).setCell (p := ⟨w.heap.size + 1 + 1, 2, none⟩) hgy (.int .i64 0)).setCell (p := ⟨w.heap.size + 1 + 1, 3, none⟩) hgy (.int .i64 0)
  go_enter Tryd.func10, Tryd.ntmps10
  go_upto_region 1 with fail
  generalize (((w.alloc (bB k1 a1)).alloc (bB k2 a2)).alloc (.cells #[.int .i64 0, .int .i64 0, .int .i64 0, .int .i64 0] 27)) = X at *
  clear h1 h2 hL
  cases T1 <;> cases T2 <;> cases T3 <;> cases T4 <;> first
    | (exact absurd hT (by decide))
    | (go_wp2_with fail
       refine bodyPost_ret (v := .tuple #[.agg #[.int .i64 0, .int .i64 0, .int .i64 0, .int .i64 0], .int .i64 40]) (by simp [results, Tryd.results10, go_sem, f1, f2, f3, f4]) rfl ?_
       exact ⟨rfl, hL4⟩)
/-- What Span answers of two bounds. -/
def bdS (k1 a1 k2 a2 : Int) : S4 := if (kindB k1 && kindB k2) = true then ofS (lowK k1 a1) (highK k2 a2) else ⟨0, 0, 0, 0⟩
def bdE (k1 a1 k2 a2 : Int) : Int := if (kindB k1 && kindB k2) = true then ofE (lowK k1 a1) (highK k2 a2) else 40
theorem rspan_any (k1 a1 k2 a2 : Int) (w : World) (h1 : I64 a1) (h2 : I64 a2) :
    Calls Tryd.prog 10 #[.agg #[.int .i64 k1, .int .i64 a1], .agg #[.int .i64 k2, .int .i64 a2]] w fun e w' => e = .returned (.tuple #[vS (bdS k1 a1 k2 a2), .int .i64 (bdE k1 a1 k2 a2)]) ∧ Go.RowKit.Below w.heap.size w w' := by
  by_cases hk : (kindB k1 && kindB k2) = true
  · have eS : bdS k1 a1 k2 a2 = ofS (lowK k1 a1) (highK k2 a2) := by unfold bdS; rw [if_pos hk]
    have eE : bdE k1 a1 k2 a2 = ofE (lowK k1 a1) (highK k2 a2) := by unfold bdE; rw [if_pos hk]
    rw [eS, eE]
    unfold kindB at hk
    simp at hk
    obtain ⟨⟨g1, g2⟩, g3, g4⟩ := hk
    have ky1 := lowK_ky k1 a1 h1
    have ky2 := highK_ky k2 a2 h2
    have kk1 : key (sd (lowK k1 a1)) (pa (lowK k1 a1)) = lowK k1 a1 := key_back _ ky1
    have kk2 : key (sd (highK k2 a2)) (pa (highK k2 a2)) = highK k2 a2 := key_back _ ky2
    have HOF := Lib.hid (fun W => rof_any (sd (lowK k1 a1)) (pa (lowK k1 a1)) (sd (highK k2 a2)) (pa (highK k2 a2)) W (pa_i64 _ ky1) (pa_i64 _ ky2))
    rw [kk1, kk2] at HOF
    generalize ofS (lowK k1 a1) (highK k2 a2) = Z at *
    generalize ofE (lowK k1 a1) (highK k2 a2) = E at *
    have HBl := Lib.hid (fun W => rbehind_any a1 W h1)
    have HAl := Lib.hid (fun W => rahead_any a1 W h1)
    have HBh := Lib.hid (fun W => rbehind_any a2 W h2)
    have HAh := Lib.hid (fun W => rahead_any a2 W h2)
    rcases (show k1 = 0 ∨ k1 = 1 ∨ k1 = 2 by omega) with rfl | rfl | rfl <;> rcases (show k2 = 0 ∨ k2 = 1 ∨ k2 = 2 by omega) with rfl | rfl | rfl
    · exact rspan_c00 a1 a2 0 0 0 0 E Z w HOF
    · exact rspan_c01 a1 a2 0 0 _ _ E Z w HAh HOF
    · exact rspan_c02 a1 a2 0 0 _ _ E Z w HBh HOF
    · exact rspan_c10 a1 a2 _ _ 0 0 E Z w HBl HOF
    · exact rspan_c11 a1 a2 _ _ _ _ E Z w HBl HAh HOF
    · exact rspan_c12 a1 a2 _ _ _ _ E Z w HBl HBh HOF
    · exact rspan_c20 a1 a2 _ _ 0 0 E Z w HAl HOF
    · exact rspan_c21 a1 a2 _ _ _ _ E Z w HAl HAh HOF
    · exact rspan_c22 a1 a2 _ _ _ _ E Z w HAl HBh HOF
  · have eS : bdS k1 a1 k2 a2 = ⟨0, 0, 0, 0⟩ := by unfold bdS; rw [if_neg hk]
    have eE : bdE k1 a1 k2 a2 = 40 := by unfold bdE; rw [if_neg hk]
    rw [eS, eE]
    refine rspan_bad k1 a1 k2 a2 w _ _ _ _ rfl rfl rfl rfl ?_
    unfold kindB at hk
    simp at hk ⊢
    omega
/-- The bounds of a cut, by its key. -/
def lowB (k : Int) : Int × Int := if k = lo64 then (0, 0) else if k = hi64 then (1, 9223372036854775807) else (2, k)
def highB (k : Int) : Int × Int := if nxb k = true then (1, nx k) else (0, 0)
set_option maxRecDepth 100000 in
set_option maxHeartbeats 2000000 in
theorem rlowb_core (s a x y p q : Int) (w : World) (HC : Hid (∀ W, Calls Tryd.prog 38 #[.agg #[.int .i64 s, .int .i64 a]] W fun e w' => e = .returned (.agg #[.int .i64 x, .int .i64 y]) ∧ Go.RowKit.Below W.heap.size W w'))
    (hpq : (x = -1 ∧ p = 0 ∧ q = 0) ∨ (x = 1 ∧ p = 1 ∧ q = 9223372036854775807) ∨ (x = 0 ∧ p = 2 ∧ q = y)) :
    Calls Tryd.prog 13 #[.agg #[.int .i64 s, .int .i64 a]] w fun e w' => e = .returned (.agg #[.int .i64 p, .int .i64 q]) ∧ Go.RowKit.Below w.heap.size w w' := by
  have hc0 : ((w.alloc (.cells #[.int .i64 s, .int .i64 a] 25)).alloc (bB 0 0)).heap[w.heap.size]? = some (.cells #[.int .i64 s, .int .i64 a] 25) := box_on (heap_alloc_new w _) (below_new _ _)
  have hr0 : ((w.alloc (.cells #[.int .i64 s, .int .i64 a] 25)).alloc (bB 0 0)).heap[w.heap.size + 1]? = some (bB 0 0) := new_at _ (by simp)
  have hL0 := bt (below_new w (.cells #[.int .i64 s, .int .i64 a] 25)) (below_new _ (bB 0 0))
  go_enter Tryd.func13, Tryd.ntmps13
  obtain ⟨l1, l2, l3, l4⟩ := two_cells hc0
  go_wp2_with fail
  generalize ((w.alloc (.cells #[.int .i64 s, .int .i64 a] 25)).alloc (bB 0 0)) = X at *
  clear l1 l2 l3 l4
  refine (HC.out _).mono ?_
  rintro e y1 ⟨rfl, hB1⟩
  have hc1 := box_on hc0 hB1
  have hr1 := box_on hr0 hB1
  have hL1 := ((bt hL0 hB1).setCell (p := ⟨w.heap.size, 0, none⟩) (Nat.le_refl _) (.int .i64 x)).setCell (p := ⟨w.heap.size, 1, none⟩) (Nat.le_refl _) (.int .i64 y)
  have hc2 := put_same (.int .i64 x) (.int .i64 y) hc1
  have hr2 := put_far (c := w.heap.size) hr1 (by omega) (.int .i64 x) (.int .i64 y)
  have hr3 := put_same (.int .i64 p) (.int .i64 q) hr2
  have hL2 := (hL1.setCell (p := ⟨w.heap.size + 1, 0, none⟩) (by show w.heap.size ≤ w.heap.size + 1; omega) (.int .i64 p)).setCell (p := ⟨w.heap.size + 1, 1, none⟩) (by show w.heap.size ≤ w.heap.size + 1; omega) (.int .i64 q)
  obtain ⟨l1, l2, l3, l4⟩ := two_cells hc1
  obtain ⟨m1, m2, _, _⟩ := two_cells hc2
  obtain ⟨n1, n2, n3, n4⟩ := two_cells hr2
  obtain ⟨f1, f2, _, _⟩ := two_cells hr3
  clear hc0 hr0 hL0 hc1 hr1 hB1 hL1 hc2 hr2 hr3
  rcases hpq with ⟨rfl, rfl, rfl⟩ | ⟨rfl, rfl, rfl⟩ | ⟨rfl, rfl, rfl⟩
  all_goals
    go_wp2_with fail
    refine bodyPost_ret (v := .agg #[.int .i64 _, .int .i64 _]) (by simp [results, Tryd.results13, go_sem, f1, f2]; exact ⟨rfl, rfl⟩) rfl ?_
    exact ⟨rfl, hL2⟩
theorem rlowb_any (s a : Int) (w : World) (ha : I64 a) : Calls Tryd.prog 13 #[.agg #[.int .i64 s, .int .i64 a]] w fun e w' => e = .returned (.agg #[.int .i64 (lowB (key s a)).1, .int .i64 (lowB (key s a)).2]) ∧ Go.RowKit.Below w.heap.size w w' := by
  refine rlowb_core s a _ _ _ _ w (fun W => rcanon_any s a W ha) ?_
  have hk := key_ky s a ha
  generalize key s a = k at *
  unfold lowB
  rcases ky_cases k hk with ⟨rfl, h1, h2⟩ | ⟨rfl, h1, h2⟩ | ⟨g1, g2, h1, h2⟩
  · exact .inl ⟨h1, by rw [if_pos rfl], by rw [if_pos rfl]⟩
  · exact .inr (.inl ⟨h1, by rw [if_neg (by decide), if_pos rfl], by rw [if_neg (by decide), if_pos rfl]⟩)
  · refine .inr (.inr ⟨h1, ?_, ?_⟩)
    · rw [if_neg (by unfold lo64; omega), if_neg (by unfold hi64; omega)]
    · rw [if_neg (by unfold lo64; omega), if_neg (by unfold hi64; omega), h2]
set_option maxRecDepth 100000 in
set_option maxHeartbeats 2000000 in
theorem rhighb_core (s a z p q : Int) (B : Bool) (w : World) (HC : Hid (∀ W, Calls Tryd.prog 40 #[.agg #[.int .i64 s, .int .i64 a]] W fun e w' => e = .returned (.tuple #[.int .i64 z, .bool B]) ∧ Go.RowKit.Below W.heap.size W w'))
    (hpq : (B = true ∧ p = 1 ∧ q = z) ∨ (B = false ∧ p = 0 ∧ q = 0)) :
    Calls Tryd.prog 15 #[.agg #[.int .i64 s, .int .i64 a]] w fun e w' => e = .returned (.agg #[.int .i64 p, .int .i64 q]) ∧ Go.RowKit.Below w.heap.size w w' := by
  have hc0 : ((w.alloc (.cells #[.int .i64 s, .int .i64 a] 25)).alloc (bB 0 0)).heap[w.heap.size]? = some (.cells #[.int .i64 s, .int .i64 a] 25) := box_on (heap_alloc_new w _) (below_new _ _)
  have hr0 : ((w.alloc (.cells #[.int .i64 s, .int .i64 a] 25)).alloc (bB 0 0)).heap[w.heap.size + 1]? = some (bB 0 0) := new_at _ (by simp)
  have hL0 := bt (below_new w (.cells #[.int .i64 s, .int .i64 a] 25)) (below_new _ (bB 0 0))
  go_enter Tryd.func15, Tryd.ntmps15
  obtain ⟨l1, l2, l3, l4⟩ := two_cells hc0
  go_wp2_with fail
  generalize ((w.alloc (.cells #[.int .i64 s, .int .i64 a] 25)).alloc (bB 0 0)) = X at *
  clear l1 l2 l3 l4
  refine (HC.out _).mono ?_
  rintro e y1 ⟨rfl, hB1⟩
  have hr1 := box_on hr0 hB1
  have hL1 := bt hL0 hB1
  have hr3 := put_same (.int .i64 p) (.int .i64 q) hr1
  have hL2 := (hL1.setCell (p := ⟨w.heap.size + 1, 0, none⟩) (by show w.heap.size ≤ w.heap.size + 1; omega) (.int .i64 p)).setCell (p := ⟨w.heap.size + 1, 1, none⟩) (by show w.heap.size ≤ w.heap.size + 1; omega) (.int .i64 q)
  obtain ⟨n1, n2, n3, n4⟩ := two_cells hr1
  obtain ⟨f1, f2, _, _⟩ := two_cells hr3
  clear hc0 hr0 hL0 hr1 hB1 hL1 hr3
  rcases hpq with ⟨rfl, rfl, rfl⟩ | ⟨rfl, rfl, rfl⟩
  all_goals
    go_wp2_with fail
    refine bodyPost_ret (v := .agg #[.int .i64 _, .int .i64 _]) (by simp [results, Tryd.results15, go_sem, f1, f2]; exact ⟨rfl, rfl⟩) rfl ?_
    exact ⟨rfl, hL2⟩
theorem rhighb_any (s a : Int) (w : World) (ha : I64 a) : Calls Tryd.prog 15 #[.agg #[.int .i64 s, .int .i64 a]] w fun e w' => e = .returned (.agg #[.int .i64 (highB (key s a)).1, .int .i64 (highB (key s a)).2]) ∧ Go.RowKit.Below w.heap.size w w' := by
  refine rhighb_core s a _ _ _ _ w (fun W => rnext_any s a W ha) ?_
  unfold highB
  by_cases h : nxb (key s a) = true
  · exact .inl ⟨h, by rw [if_pos h], by rw [if_pos h]⟩
  · exact .inr ⟨by simpa using h, by rw [if_neg h], by rw [if_neg h]⟩
theorem str_app (a b : List UInt8) : (⟨a.toArray⟩ : ByteArray) ++ ⟨b.toArray⟩ = ⟨(a ++ b).toArray⟩ := by
  apply ByteArray.ext
  simp
set_option maxRecDepth 100000 in
set_option maxHeartbeats 4000000 in
theorem rbtext_core (q : S4) (R : Bool) (K H T : ByteArray) (w : World) (hK : K.size ≤ 100) (hH : H.size ≤ 100)
    (HR : Hid (∀ W, Calls Tryd.prog 25 #[.agg #[.int .i64 q.ls, .int .i64 q.la, .int .i64 q.hs, .int .i64 q.ha]] W fun e w' => e = .returned (.bool R) ∧ Go.RowKit.Below W.heap.size W w'))
    (HK : Hid (∀ W, Calls Tryd.prog 54 #[.agg #[.int .i64 q.ls, .int .i64 q.la]] W fun e w' => e = .returned (.string K) ∧ Go.RowKit.Below W.heap.size W w'))
    (HH : Hid (∀ W, Calls Tryd.prog 54 #[.agg #[.int .i64 q.hs, .int .i64 q.ha]] W fun e w' => e = .returned (.string H) ∧ Go.RowKit.Below W.heap.size W w'))
    (HT : Hid ((R = false → T = ⟨#[]⟩) ∧ (R = true → q.ls < 0 → T = ⟨#[40, 45, 105, 110, 102, 44]⟩ ++ H ++ ⟨#[41]⟩) ∧ (R = true → ¬ q.ls < 0 → T = ⟨#[91]⟩ ++ K ++ ⟨#[44]⟩ ++ H ++ ⟨#[41]⟩))) :
    Calls Tryd.prog 24 #[vS q] w fun e w' => e = .returned (.string T) ∧ Go.RowKit.Below w.heap.size w w' := by
  have mx := mixed
  have HQ : Hid (Box4 (w.alloc (.cells #[.int .i64 q.ls, .int .i64 q.la, .int .i64 q.hs, .int .i64 q.ha] 27)) w.heap.size q) := heap_alloc_new _ _
  have hL := below_new w (.cells #[.int .i64 q.ls, .int .i64 q.la, .int .i64 q.hs, .int .i64 q.ha] 27)
  have s40 : (⟨#[40, 45, 105, 110, 102, 44]⟩ : ByteArray).size = 6 := rfl
  have s91 : (⟨#[91]⟩ : ByteArray).size = 1 := rfl
  have s44 : (⟨#[44]⟩ : ByteArray).size = 1 := rfl
  have s41 : (⟨#[41]⟩ : ByteArray).size = 1 := rfl
  have a1 : ∀ W : World, (Op.stringOp .add ⟨#[40, 45, 105, 110, 102, 44]⟩ H).run Tryd.prog W = .ok (.string (⟨#[40, 45, 105, 110, 102, 44]⟩ ++ H)) W := fun W => run_string_add_sum W _ _ (by omega)
  have a2 : ∀ W : World, (Op.stringOp .add (⟨#[40, 45, 105, 110, 102, 44]⟩ ++ H) ⟨#[41]⟩).run Tryd.prog W = .ok (.string (⟨#[40, 45, 105, 110, 102, 44]⟩ ++ H ++ ⟨#[41]⟩)) W := fun W => run_string_add_sum W _ _ (by rw [ByteArray.size_append]; omega)
  have b1 : ∀ W : World, (Op.stringOp .add ⟨#[91]⟩ K).run Tryd.prog W = .ok (.string (⟨#[91]⟩ ++ K)) W := fun W => run_string_add_sum W _ _ (by omega)
  have b2 : ∀ W : World, (Op.stringOp .add (⟨#[91]⟩ ++ K) ⟨#[44]⟩).run Tryd.prog W = .ok (.string (⟨#[91]⟩ ++ K ++ ⟨#[44]⟩)) W := fun W => run_string_add_sum W _ _ (by rw [ByteArray.size_append]; omega)
  have b3 : ∀ W : World, (Op.stringOp .add (⟨#[91]⟩ ++ K ++ ⟨#[44]⟩) H).run Tryd.prog W = .ok (.string (⟨#[91]⟩ ++ K ++ ⟨#[44]⟩ ++ H)) W := fun W => run_string_add_sum W _ _ (by rw [ByteArray.size_append, ByteArray.size_append]; omega)
  have b4 : ∀ W : World, (Op.stringOp .add (⟨#[91]⟩ ++ K ++ ⟨#[44]⟩ ++ H) ⟨#[41]⟩).run Tryd.prog W = .ok (.string (⟨#[91]⟩ ++ K ++ ⟨#[44]⟩ ++ H ++ ⟨#[41]⟩)) W := fun W => run_string_add_sum W _ _ (by rw [ByteArray.size_append, ByteArray.size_append, ByteArray.size_append]; omega)
  clear s40 s91 s44 s41
  obtain ⟨c1, c2, c3, c4⟩ := HQ.out.cells
  go_enter Tryd.func24, Tryd.ntmps24
  go_wp2_with fail
  generalize w.alloc (.cells #[.int .i64 q.ls, .int .i64 q.la, .int .i64 q.hs, .int .i64 q.ha] 27) = X at *
  clear c1 c2 c3 c4
  refine (HR.out _).mono ?_
  rintro e y1 ⟨rfl, hB1⟩
  have HQ1 := Lib.hid (HQ.out.on hB1)
  have hL1 := bt hL hB1
  clear HQ hL hB1 HR
  obtain ⟨c1, c2, c3, c4⟩ := HQ1.out.cells
  cases R with
  | false =>
    go_wp2_with fail
    go_ret
    refine ⟨?_, hL1⟩
    rw [HT.out.1 (by trivial)]
    rfl
  | true =>
    by_cases hs : q.ls < 0
    · have t1 : decide (q.ls < 0) = true := decide_eq_true hs
      have HS := Lib.hid hs
      clear hs
      go_wp2_with fail
      refine (HH.out _).mono ?_
      rintro e y2 ⟨rfl, hB2⟩
      go_wp2_with fail
      go_ret
      refine ⟨?_, bt hL1 hB2⟩
      rw [HT.out.2.1 (by trivial) HS.out]
      rfl
    · have t1 : decide (q.ls < 0) = false := decide_eq_false hs
      have HS := Lib.hid hs
      clear hs
      go_wp2_with fail
      go_region_held3 (fun w' => w'.cell? ⟨w.heap.size, 0, none⟩ = some (.int .i64 q.ls) ∧ w'.cell? ⟨w.heap.size, 1, none⟩ = some (.int .i64 q.la) ∧ w'.cell? ⟨w.heap.size, 2, none⟩ = some (.int .i64 q.hs) ∧ w'.cell? ⟨w.heap.size, 3, none⟩ = some (.int .i64 q.ha))
        (with_reducible (focus (refine (HQ1.out.on ?_).cells; (repeat (first | assumption | exact Go.RowKit.Below.refl _ _ | refine Go.RowKit.Below.drew ?_)); done)))
        (first
          | (go_at_call 54; (with_reducible refine (HK.out _).mono ?_); rintro e Y1 ⟨rfl, hB1⟩; have hT1 : Go.RowKit.Below y1.heap.size y1 Y1 := bt (by with_reducible repeat (first | exact Go.RowKit.Below.refl _ _ | refine Go.RowKit.Below.drew ?_)) hB1; clear hB1)
          | (go_at_call 54; (with_reducible refine (HH.out _).mono ?_); rintro e Y2 ⟨rfl, hB2⟩; have hT2 : Go.RowKit.Below y1.heap.size y1 Y2 := bt (by with_reducible repeat (first | exact hT1 | refine Go.RowKit.Below.drew ?_)) hB2; clear hB2))
      all_goals
        go_wp2_with fail
        go_ret
        refine ⟨?_, bt hL1 hT2⟩
        rw [HT.out.2.2 (by trivial) HS.out]
        rfl
theorem rbtext_any (q : S4) (w : World) (hq : q.ok) : Calls Tryd.prog 24 #[vS q] w fun e w' => e = .returned (.string ⟨(btext q).toArray⟩) ∧ Go.RowKit.Below w.heap.size w w' := by
  have l1 := (ktext_len q.lo (q.ky_lo hq)).2
  have l2 := (ktext_len q.hi (q.ky_hi hq)).2
  refine rbtext_core q q.right ⟨(ktext q.lo).toArray⟩ ⟨(ktext q.hi).toArray⟩ ⟨(btext q).toArray⟩ w (by simp [ByteArray.size]; omega) (by simp [ByteArray.size]; omega) (fun W => rright_any q W hq) (fun W => rctext_any _ _ W hq.1) (fun W => rctext_any _ _ W hq.2) ⟨fun h => ?_, fun h hs => ?_, fun h hs => ?_⟩
  · unfold btext; rw [if_neg (by rw [h]; decide)]
  · have e : q.lo = lo64 := key_neg _ _ hs
    unfold btext
    rw [if_pos h, if_pos e, e, ktext_lo]
    apply ByteArray.ext
    simp
  · have hk := q.ky_lo hq
    have e : ¬ q.lo = lo64 := by
      intro e
      have h2 : sd q.lo = q.ls := by unfold S4.right S4.lowR at h; simp at h; exact h.1.1.1
      rw [e, sd_lo] at h2
      omega
    unfold btext
    rw [if_pos h, if_neg e]
    apply ByteArray.ext
    simp
end Go.Proofs.YthojkbmffiibdaaDoor

/- Contracts of package span's small functions: ahead, Right, bothRight, Holds, Overlap, Touch, Compare. -/
namespace Go.Proofs.YthojkbmffiibdaaDoor
open Go.RowKit Go.Sort Go.Proofs.YthojkbmffiibdaaDoor.Bo
set_option linter.unusedVariables false

theorem sahead_any (s a t b : Int) (w : World) (ha : I64 a) (hb : I64 b) : Calls Tryd.prog 69 #[.agg #[.int .i64 s, .int .i64 a], .agg #[.int .i64 t, .int .i64 b]] w fun e w' => e = .returned (.bool (decide (key s a < key t b))) ∧ Go.RowKit.Below w.heap.size w w' := by
  obtain ⟨v, hv⟩ : ∃ v, kcmp (key s a) (key t b) = v := ⟨_, rfl⟩
  have HC := Lib.hid (fun W => compare_b s a t b v hv ha hb W)
  have hD : decide (v < 0) = decide (key s a < key t b) := by
    rw [← hv]; unfold kcmp
    by_cases h : key s a < key t b
    · simp [h]
    · rw [if_neg h]; split <;> simp [h]
  have HD := Lib.hid hD
  generalize decide (key s a < key t b) = D at *
  clear hv
  have hL := bt (below_new w (.cells #[.int .i64 s, .int .i64 a] 25)) (below_new _ (.cells #[.int .i64 t, .int .i64 b] 25))
  go_enter Tryd.func69, Tryd.ntmps69
  go_wp2_with fail
  refine (HC.out _).mono ?_
  rintro e x1 ⟨rfl, hB1⟩
  clear hD
  go_wp2_with fail
  go_ret
  exact ⟨by rw [HD.out]; rfl, bt hL hB1⟩

theorem right_b (s a : Int) (B : Bool) (h : (sd (key s a) == s && pa (key s a) == a) = B) (ha : I64 a) (w : World) : Calls Tryd.prog 68 #[.agg #[.int .i64 s, .int .i64 a]] w fun e w' => e = .returned (.bool B) ∧ Go.RowKit.Below w.heap.size w w' := by
  have e : (s == sd (key s a) && a == pa (key s a)) = B := by rw [← h, BEq.comm (a := s), BEq.comm (a := a)]
  exact (right_any s a w ha).mono fun _ _ h => ⟨by rw [h.1, e], h.2.1⟩

set_option maxRecDepth 100000 in
set_option maxHeartbeats 1000000 in
theorem sright_core (q : S4) (B1 B2 D : Bool) (w : World)
    (HR1 : Hid (∀ W, Calls Tryd.prog 68 #[.agg #[.int .i64 q.ls, .int .i64 q.la]] W fun e w' => e = .returned (.bool B1) ∧ Go.RowKit.Below W.heap.size W w'))
    (HR2 : Hid (∀ W, Calls Tryd.prog 68 #[.agg #[.int .i64 q.hs, .int .i64 q.ha]] W fun e w' => e = .returned (.bool B2) ∧ Go.RowKit.Below W.heap.size W w'))
    (HA : Hid (∀ W, Calls Tryd.prog 69 #[.agg #[.int .i64 q.ls, .int .i64 q.la], .agg #[.int .i64 q.hs, .int .i64 q.ha]] W fun e w' => e = .returned (.bool D) ∧ Go.RowKit.Below W.heap.size W w')) :
    Calls Tryd.prog 52 #[vS q] w fun e w' => e = .returned (.bool (B1 && B2 && D)) ∧ Go.RowKit.Below w.heap.size w w' := by
  have HB : Hid (Box4 (w.alloc (.cells #[.int .i64 q.ls, .int .i64 q.la, .int .i64 q.hs, .int .i64 q.ha] 27)) w.heap.size q) := heap_alloc_new _ _
  have hL := below_new w (.cells #[.int .i64 q.ls, .int .i64 q.la, .int .i64 q.hs, .int .i64 q.ha] 27)
  go_enter Tryd.func52, Tryd.ntmps52
  go_wp2_with fail
  refine (HR1.out _).mono ?_
  rintro e x1 ⟨rfl, hB1⟩
  have hL1 := bt hL hB1
  have HB1 := Lib.hid (HB.out.on hB1)
  obtain ⟨c1, c2, c3, c4⟩ := HB1.out.cells
  clear hB1 hL
  cases B1 with
  | false =>
    go_wp2_with fail
    go_ret
    exact ⟨rfl, hL1⟩
  | true =>
    go_wp2_with fail
    refine (HR2.out _).mono ?_
    rintro e x2 ⟨rfl, hB2⟩
    have hL2 := bt hL1 hB2
    have HB2 := Lib.hid (HB1.out.on hB2)
    clear c1 c2 c3 c4 hB2 hL1
    obtain ⟨c1, c2, c3, c4⟩ := HB2.out.cells
    cases B2 with
    | false =>
      go_wp2_with fail
      go_ret
      exact ⟨rfl, hL2⟩
    | true =>
      go_wp2_with fail
      refine (HA.out _).mono ?_
      rintro e x3 ⟨rfl, hB3⟩
      go_wp2_with fail
      go_ret
      exact ⟨by simp, bt hL2 hB3⟩
theorem sright_any (q : S4) (w : World) (hq : q.ok) : Calls Tryd.prog 52 #[vS q] w fun e w' => e = .returned (.bool q.right) ∧ Go.RowKit.Below w.heap.size w w' :=
  sright_core q q.lowR q.highR (decide (q.lo < q.hi)) w (fun W => right_b _ _ _ rfl hq.1 W) (fun W => right_b _ _ _ rfl hq.2 W) (fun W => sahead_any _ _ _ _ W hq.1 hq.2)

/-- Two spans in blocks side by side. -/
def Pair4 (b : Nat) (q r : S4) (w : World) : Prop := Box4 w b q ∧ Box4 w (b + 1) r
theorem Pair4.on {b : Nat} {q r : S4} {w w' : World} (h : Pair4 b q r w) (hb : Go.RowKit.Below w.heap.size w w') : Pair4 b q r w' := ⟨h.1.on hb, h.2.on hb⟩
theorem Pair4.cells {b : Nat} {q r : S4} {w : World} (h : Pair4 b q r w) : w.cell? ⟨b, 0, none⟩ = some (.int .i64 q.ls) ∧ w.cell? ⟨b, 1, none⟩ = some (.int .i64 q.la) ∧ w.cell? ⟨b, 2, none⟩ = some (.int .i64 q.hs) ∧ w.cell? ⟨b, 3, none⟩ = some (.int .i64 q.ha) ∧
    w.cell? ⟨b + 1, 0, none⟩ = some (.int .i64 r.ls) ∧ w.cell? ⟨b + 1, 1, none⟩ = some (.int .i64 r.la) ∧ w.cell? ⟨b + 1, 2, none⟩ = some (.int .i64 r.hs) ∧ w.cell? ⟨b + 1, 3, none⟩ = some (.int .i64 r.ha) :=
  ⟨h.1.cells.1, h.1.cells.2.1, h.1.cells.2.2.1, h.1.cells.2.2.2, h.2.cells.1, h.2.cells.2.1, h.2.cells.2.2.1, h.2.cells.2.2.2⟩
theorem Pair4.new (w : World) (q r : S4) : Pair4 w.heap.size q r ((w.alloc (.cells #[.int .i64 q.ls, .int .i64 q.la, .int .i64 q.hs, .int .i64 q.ha] 27)).alloc (.cells #[.int .i64 r.ls, .int .i64 r.la, .int .i64 r.hs, .int .i64 r.ha] 27)) := ⟨heap_alloc2_old _ _ _, heap_alloc2_new _ _ _⟩

theorem sahead_n (s a t b : Int) (A : Bool) (h : decide (key t b ≤ key s a) = A) (w : World) (ha : I64 a) (hb : I64 b) : Calls Tryd.prog 69 #[.agg #[.int .i64 s, .int .i64 a], .agg #[.int .i64 t, .int .i64 b]] w fun e w' => e = .returned (.bool (!A)) ∧ Go.RowKit.Below w.heap.size w w' := by
  have e : decide (key s a < key t b) = !A := by
    rw [← h]
    by_cases g : key t b ≤ key s a
    · rw [decide_eq_true g]; exact decide_eq_false (by omega)
    · rw [decide_eq_false g]; exact decide_eq_true (by omega)
  rw [← e]; exact sahead_any s a t b w ha hb
/-- Cuts of right spans are one just where their keys are. -/
theorem cut_key (k l : Int) (hk : Ky k) (hl : Ky l) : (sd k == sd l && pa k == pa l) = decide (k = l) := by
  by_cases h : k = l
  · subst h; simp
  · rw [decide_eq_false h]
    rcases hb : (sd k == sd l && pa k == pa l) with _ | _
    · rfl
    · simp at hb; exact absurd (ky_inj k l hk hl hb.1 hb.2) h
/-- The order of two spans, as a number: by Low, then by High. -/
def scmp (q r : S4) : Int := if kcmp q.lo r.lo = 0 then kcmp q.hi r.hi else kcmp q.lo r.lo
theorem kcmp_zero (a b : Int) : kcmp a b = 0 ↔ a = b := by unfold kcmp; split <;> (try split) <;> omega
end Go.Proofs.YthojkbmffiibdaaDoor

/- Contracts of the reference's spans: Shift. -/
namespace Go.Proofs.YthojkbmffiibdaaDoor
open Go.RowKit Go.Sort Go.Proofs.YthojkbmffiibdaaDoor.Bo
set_option linter.unusedVariables false

/-- What Shift answers. -/
def shS (q : S4) (d : Int) : S4 := if (q.right && shb q.lo d && shb q.hi d) = true then ⟨sd (shk q.lo d), pa (shk q.lo d), sd (shk q.hi d), pa (shk q.hi d)⟩ else z4

end Go.Proofs.YthojkbmffiibdaaDoor

/- Contracts of the reference's spans: Count. -/
namespace Go.Proofs.YthojkbmffiibdaaDoor
open Go.RowKit Go.Sort Go.Proofs.YthojkbmffiibdaaDoor.Bo
set_option linter.unusedVariables false

/-- Has it a count? -/
def cntB (q : S4) : Bool := q.right && !(decide (q.ls < 0) && decide (0 < q.hs))
/-- What Count answers. -/
def cntV (q : S4) : Int := if cntB q = true then q.hi - q.lo else 0
theorem cnt_lim (q : S4) (hq : q.ok) (h : cntB q = true) : q.lo < q.hi ∧ q.lo < 9223372036854775808 ∧ -9223372036854775808 < q.hi ∧ q.hi - q.lo < 18446744073709551616 ∧ I64 q.lo ∧ I64 (q.hi - 1) := by
  unfold cntB at h
  simp at h
  obtain ⟨hr, hb⟩ := h
  obtain ⟨e, hlt⟩ := sp_of_right q hr
  have k1 := q.ky_lo hq
  have k2 := q.ky_hi hq
  have e1 := congrArg S4.ls e
  have e2 := congrArg S4.hs e
  dsimp only [sp] at e1 e2
  rw [e1, e2] at hb
  unfold Ky at k1 k2
  unfold I64
  have h3 : ¬ (q.lo = -9223372036854775808 ∧ q.hi = 9223372036854775808) := by
    rintro ⟨a, b⟩
    rw [a, b, sd_lo, sd_hi] at hb
    omega
  omega

theorem BigAt.far {w : World} {V : Value} {z : Int} {L : Nat} (h : BigAt w V z L) {b : Nat} {cs : Array Value} (hb : w.heap[b]? = some (.cells cs 77 (0, 0))) (i : Nat) (u : Value) : BigAt (w.setCell ⟨b, i, none⟩ u) V z L := by
  obtain ⟨s, v, xs, hV, hs, hd, ok, hl, hz, h0⟩ := h
  exact ⟨s, v, xs, hV, hs, hd.far hb (by decide) i u, ok, hl, hz, h0⟩
/-- The number lies in its block. -/
structure CntAt (q : S4) (w : World) (N : Nat) (s2 : Int) (a2 : Option Addr) (n2 cc2 : Nat) (wx : World) : Prop where
  box : wx.heap[N]? = some (.cells #[.int .i64 s2, .slice a2 n2 cc2] 77 (0, 0))
  big : BigAt wx (.agg #[.int .i64 s2, .slice a2 n2 cc2]) (q.hi - 1 + -q.lo + 1) 62
  below : Go.RowKit.Below w.heap.size w wx
theorem CntAt.put {q : S4} {w z : World} {N : Nat} {s1 s2 : Int} {v1 : Value} {a2 : Option Addr} {n2 cc2 : Nat} (hb : z.heap[N]? = some (.cells #[.int .i64 s1, v1] 77 (0, 0))) (hV : BigAt z (.agg #[.int .i64 s2, .slice a2 n2 cc2]) (q.hi - 1 + -q.lo + 1) 62) (hl : Go.RowKit.Below w.heap.size w z) (hN : w.heap.size ≤ N) :
    CntAt q w N s2 a2 n2 cc2 ((z.setCell ⟨N, 0, none⟩ (.int .i64 s2)).setCell ⟨N, 1, none⟩ (.slice a2 n2 cc2)) :=
  ⟨two_put hb, (hV.far hb 0 _).far (heap_setCell_same _ _ _ _ _ _ hb) 1 _, (hl.setCell hN _).setCell hN _⟩
theorem CntAt.digits {q : S4} {w wx : World} {N : Nat} {s2 : Int} {a2 : Option Addr} {n2 cc2 : Nat} (h : CntAt q w N s2 a2 n2 cc2 wx) (hlt : q.lo < q.hi) : ∃ xs : List Nat, n2 = xs.length ∧ (0 < xs.length → ∃ g, a2 = some ⟨g, 0, none⟩ ∧ g < wx.heap.size ∧ ∀ (j : Nat) (hj : j < xs.length), wx.cell? ⟨g, j, none⟩ = some (.int .i64 ((xs[j] : Nat) : Int))) ∧ (val xs : Int) = q.hi - q.lo ∧ xs.length ≤ 62 := by
  obtain ⟨s, v, xs, hV, hs, hd, ok, hl, hz, h0⟩ := h.big
  injection hV with hV
  injection hV with hV
  injection hV with h1 h2
  injection h2 with h2 _
  injection h1 with _ h1
  subst h1 h2
  obtain ⟨e1, e2, e3⟩ := hd.cellAt
  refine ⟨xs, e1, fun hp => e3 (by omega), ?_, hl⟩
  rcases hs with rfl | rfl | rfl <;> omega

end Go.Proofs.YthojkbmffiibdaaDoor

/- Contracts of package span's functions: Point, All, Has, Of, Ends, Count, Shift. -/
namespace Go.Proofs.YthojkbmffiibdaaDoor
open Go.RowKit Go.Sort Go.Proofs.YthojkbmffiibdaaDoor.Bo
set_option linter.unusedVariables false

theorem holds_has (q : S4) (n : Int) (hn : I64 n) : (q.right && (sp (n, n + 1)).right && decide (q.lo ≤ (sp (n, n + 1)).lo) && decide ((sp (n, n + 1)).hi ≤ q.hi)) = q.has n := by
  have hk := ky_of_i64 n hn
  rw [sp_right (n, n + 1) hk.1 hk.2, sp_lo (n, n + 1) hk.1, sp_hi (n, n + 1) hk.2]
  unfold S4.has
  rw [show decide ((n, n + 1).1 < (n, n + 1).2) = true from decide_eq_true (by show n < n + 1; omega), Bool.and_true]
  rfl
end Go.Proofs.YthojkbmffiibdaaDoor

/- Contracts of package span's functions: Of, Ends, Count. -/
namespace Go.Proofs.YthojkbmffiibdaaDoor
open Go.RowKit Go.Sort Go.Proofs.YthojkbmffiibdaaDoor.Bo
set_option linter.unusedVariables false

set_option maxRecDepth 100000 in
set_option maxHeartbeats 1000000 in
theorem sof_any (s a t b : Int) (w : World) (ha : I64 a) (hb : I64 b) :
    Calls Tryd.prog 33 #[.agg #[.int .i64 s, .int .i64 a], .agg #[.int .i64 t, .int .i64 b]] w fun e w' => e = .returned (.tuple #[vS (ofS (key s a) (key t b)), .int .i64 (ofE (key s a) (key t b))]) ∧ Go.RowKit.Below w.heap.size w w' := by
  have HC1 := Lib.hid (fun W => canon_b s a ha W)
  have HC2 := Lib.hid (fun W => canon_b t b hb W)
  have hk := key_ky s a ha
  have hl := key_ky t b hb
  generalize key s a = k at *
  generalize key t b = l at *
  have HRT := Lib.hid (fun W => sright_any (sp (k, l)) W (sp_ok (k, l) hk hl))
  rw [sp_right (k, l) hk hl] at HRT
  have HOS : Hid (decide (k < l) = true → ofS k l = sp (k, l) ∧ ofE k l = 0) := by
    intro h; have := of_decide_eq_true h; unfold ofS ofE; rw [if_pos this, if_pos this]; exact ⟨rfl, rfl⟩
  have HOS2 : Hid (decide (k < l) = false → ofS k l = ⟨0, 0, 0, 0⟩ ∧ ofE k l = 30) := by
    intro h; have := of_decide_eq_false h; unfold ofS ofE; rw [if_neg this, if_neg this]; exact ⟨rfl, rfl⟩
  dsimp only at HRT
  dsimp only [sp] at HRT HOS
  generalize decide (k < l) = D at *
  generalize sd k = x1 at *
  generalize pa k = y1 at *
  generalize sd l = x2 at *
  generalize pa l = y2 at *
  have hR0 : Box4 (((w.alloc (.cells #[.int .i64 s, .int .i64 a] 25)).alloc (.cells #[.int .i64 t, .int .i64 b] 25)).alloc (.cells #[.int .i64 0, .int .i64 0, .int .i64 0, .int .i64 0] 27)) (w.heap.size + 1 + 1) ⟨0, 0, 0, 0⟩ := by
    have h := heap_alloc_new ((w.alloc (.cells #[.int .i64 s, .int .i64 a] 25)).alloc (.cells #[.int .i64 t, .int .i64 b] 25)) (.cells #[.int .i64 0, .int .i64 0, .int .i64 0, .int .i64 0] 27)
    simpa [Box4] using h
  have hT0 : Two w.heap.size s a t b ((w.alloc (.cells #[.int .i64 s, .int .i64 a] 25)).alloc (.cells #[.int .i64 t, .int .i64 b] 25)) := ⟨heap_alloc2_old _ _ _, heap_alloc2_new _ _ _⟩
  have hT1 := hT0.below (below_new _ (.cells #[.int .i64 0, .int .i64 0, .int .i64 0, .int .i64 0] 27))
  have hL0 : Go.RowKit.Below w.heap.size w (((w.alloc (.cells #[.int .i64 s, .int .i64 a] 25)).alloc (.cells #[.int .i64 t, .int .i64 b] 25)).alloc (.cells #[.int .i64 0, .int .i64 0, .int .i64 0, .int .i64 0] 27)) := bt (bt (below_new w _) (below_new _ _)) (below_new _ _)
  have hsX : (((w.alloc (.cells #[.int .i64 s, .int .i64 a] 25)).alloc (.cells #[.int .i64 t, .int .i64 b] 25)).alloc (.cells #[.int .i64 0, .int .i64 0, .int .i64 0, .int .i64 0] 27)).heap.size = w.heap.size + 3 := by simp
  clear hT0
  go_enter Tryd.func33, Tryd.ntmps33
  go_upto_region 1 with fail
  generalize (((w.alloc (.cells #[.int .i64 s, .int .i64 a] 25)).alloc (.cells #[.int .i64 t, .int .i64 b] 25)).alloc (.cells #[.int .i64 0, .int .i64 0, .int .i64 0, .int .i64 0] 27)) = X at *
  have hsX2 : w.heap.size + 2 < X.heap.size := by omega
  clear hsX
  have HT := Lib.hid hT1
  have HRB := Lib.hid hR0
  clear hR0
  go_cut [6] from 7 to 16 (fun s6 wx => ∃ N, s6 = .pointer (some ⟨N, 0, none⟩) ∧ CutAt w x1 y1 x2 y2 N wx)
  case first =>
    obtain ⟨p1, p2, p3, p4, _, _, _, _⟩ := hT1.cells
    have HX : Hid (OfTwo w X s a t b X) := ⟨p1, p2, p3, p4, Go.RowKit.Below.refl _ _⟩
    have p0 : Go.RowKit.Below X.heap.size X X := Go.RowKit.Below.refl _ _
    clear hT1
    go_region_held3 (fun w' => w'.cell? ⟨w.heap.size, 0, none⟩ = some (.int .i64 s) ∧ w'.cell? ⟨w.heap.size, 1, none⟩ = some (.int .i64 a) ∧ w'.cell? ⟨w.heap.size + 1, 0, none⟩ = some (.int .i64 t) ∧ w'.cell? ⟨w.heap.size + 1, 1, none⟩ = some (.int .i64 b) ∧ Go.RowKit.Below X.heap.size X w')
      (with_reducible first | exact hS1 | exact hS2 | exact OfTwo.alloc hS2 _ | exact OfTwo.put hS2 (by omega) _ (by omega) _ _ _ _ | exact OfTwo.alloc hS1 _ | exact OfTwo.alloc HX.out _ | exact OfTwo.drew (OfTwo.alloc HX.out _) | exact OfTwo.drew HX.out | exact HX.out)
      (first
        | (go_at_call 37; (with_reducible refine (HC1.out _).mono ?_); rintro e Y1 ⟨rfl, hB1⟩; have hS1 : OfTwo w X s a t b Y1 := (by with_reducible first | exact OfTwo.call HX.out.drew hB1 | exact OfTwo.call (OfTwo.drew (OfTwo.alloc HX.out _)) hB1 | exact OfTwo.call (OfTwo.alloc HX.out.drew _) hB1); have hs1 := hS1.2.2.2.2.size; (try first | (with_reducible have hN1 := Lib.hid (Box4.on (Box4.drew (Box4.new X)) hB1)) | (with_reducible have hN1 := Lib.hid (Box4.on (Box4.new X.drew) hB1))))
        | (go_at_call 37; (with_reducible refine (HC2.out _).mono ?_); rintro e Y2 ⟨rfl, hB2⟩; have hS2 : OfTwo w X s a t b Y2 := (by with_reducible first | exact OfTwo.call hS1 hB2 | exact OfTwo.call (OfTwo.alloc hS1 _) hB2); have hs2 := hS2.2.2.2.2.size; (try first | (with_reducible have hN2 := Box4.on hN1.out hB2; obtain ⟨⟨d1, d2, d3, d4⟩, e1, e2, e3, e4⟩ := Box4.zero hN2) | (with_reducible have hN2 := Box4.on (Box4.new Y1) hB2; obtain ⟨⟨d1, d2, d3, d4⟩, e1, e2, e3, e4⟩ := Box4.zero hN2))))
    · have HR2 := Lib.hid (HRB.out.on hS2.2.2.2.2)
      have HL2 := Lib.hid (bt hL0 hS2.2.2.2.2)
      have HQ : Hid (CutAt w x1 y1 x2 y2 Y2.heap.size (Y2.alloc (.cells #[.int .i64 x1, .int .i64 y1, .int .i64 x2, .int .i64 y2] 27))) := ⟨by omega, heap_alloc_new Y2 (.cells #[.int .i64 x1, .int .i64 y1, .int .i64 x2, .int .i64 y2] 27), HR2.out.on (below_new Y2 (.cells #[.int .i64 x1, .int .i64 y1, .int .i64 x2, .int .i64 y2] 27)), bt HL2.out (below_new Y2 (.cells #[.int .i64 x1, .int .i64 y1, .int .i64 x2, .int .i64 y2] 27))⟩
      go_wp2_with fail
      go_meet
      exact ⟨_, rfl, HQ.out⟩
    · have HR2 := Lib.hid (HRB.out.on hS2.2.2.2.2)
      have HL2 := Lib.hid (bt hL0 hS2.2.2.2.2)
      have HQ : Hid (CutAt w x1 y1 x2 y2 (Y1.heap.size) ((((Y2.setCell ⟨Y1.heap.size, 0, none⟩ (.int .i64 x1)).setCell ⟨Y1.heap.size, 1, none⟩ (.int .i64 y1)).setCell ⟨Y1.heap.size, 2, none⟩ (.int .i64 x2)).setCell ⟨Y1.heap.size, 3, none⟩ (.int .i64 y2))) := CutAt.put (by omega) hN2 HR2.out HL2.out
      go_wp2_with fail
      go_meet
      exact ⟨_, rfl, HQ.out⟩
    · have HR2 := Lib.hid (HRB.out.on hS2.2.2.2.2)
      have HL2 := Lib.hid (bt hL0 hS2.2.2.2.2)
      have HQ : Hid (CutAt w x1 y1 x2 y2 (X.heap.size) ((((Y2.setCell ⟨X.heap.size, 0, none⟩ (.int .i64 x1)).setCell ⟨X.heap.size, 1, none⟩ (.int .i64 y1)).setCell ⟨X.heap.size, 2, none⟩ (.int .i64 x2)).setCell ⟨X.heap.size, 3, none⟩ (.int .i64 y2))) := CutAt.put (by omega) hN2 HR2.out HL2.out
      go_wp2_with fail
      go_meet
      exact ⟨_, rfl, HQ.out⟩
  case rest =>
    obtain ⟨N, rfl, hN, hbox, hres, hL⟩ := hcut
    have HB := Lib.hid hbox
    have HRS := Lib.hid hres
    clear hT1 HT HRB hL0 hsX2 hbox hres HC1 HC2
    obtain ⟨c1, c2, c3, c4⟩ := HB.out.cells
    cases D with
    | false =>
      go_wp2_with fail
      refine (HRT.out _).mono ?_
      rintro e Y3 ⟨rfl, hB3⟩
      have hL3 := bt hL hB3
      have HR3 := Lib.hid (HRS.out.on hB3)
      obtain ⟨⟨d1, d2, d3, d4⟩, e1, e2, e3, e4⟩ := Box4.zero HR3.out
      clear c1 c2 c3 c4
      obtain ⟨f1, f2, f3, f4⟩ := (box_put4 HR3.out ⟨0, 0, 0, 0⟩).cells
      dsimp only at f1 f2 f3 f4
      have hgy : w.heap.size ≤ w.heap.size + 1 + 1 := by omega
      have hL4 := (((hL3.setCell (p := ⟨w.heap.size + 1 + 1, 0, none⟩) hgy (.int .i64 0)).setCell (p := ⟨w.heap.size + 1 + 1, 1, none⟩) hgy (.int .i64 0)).setCell (p := ⟨w.heap.size + 1 + 1, 2, none⟩) hgy (.int .i64 0)).setCell (p := ⟨w.heap.size + 1 + 1, 3, none⟩) hgy (.int .i64 0)
      go_wp2_with fail
      refine bodyPost_ret (v := .tuple #[.agg #[.int .i64 0, .int .i64 0, .int .i64 0, .int .i64 0], .int .i64 30]) (by simp [results, Tryd.results33, go_sem, f1, f2, f3, f4]) rfl ?_
      refine ⟨?_, hL4⟩
      obtain ⟨g1, g2⟩ := HOS2.out (by trivial)
      rw [g1, g2]
    | true =>
      go_wp2_with fail
      refine (HRT.out _).mono ?_
      rintro e Y3 ⟨rfl, hB3⟩
      have hL3 := bt hL hB3
      have HR3 := Lib.hid (HRS.out.on hB3)
      have HB3 := Lib.hid (HB.out.on hB3)
      obtain ⟨⟨d1, d2, d3, d4⟩, e1, e2, e3, e4⟩ := Box4.zero HR3.out
      clear c1 c2 c3 c4
      obtain ⟨c1, c2, c3, c4⟩ := HB3.out.cells
      obtain ⟨f1, f2, f3, f4⟩ := (box_put4 HR3.out ⟨x1, y1, x2, y2⟩).cells
      dsimp only at f1 f2 f3 f4
      have hgy : w.heap.size ≤ w.heap.size + 1 + 1 := by omega
      have hL4 := (((hL3.setCell (p := ⟨w.heap.size + 1 + 1, 0, none⟩) hgy (.int .i64 x1)).setCell (p := ⟨w.heap.size + 1 + 1, 1, none⟩) hgy (.int .i64 y1)).setCell (p := ⟨w.heap.size + 1 + 1, 2, none⟩) hgy (.int .i64 x2)).setCell (p := ⟨w.heap.size + 1 + 1, 3, none⟩) hgy (.int .i64 y2)
      go_wp2_with fail
      refine bodyPost_ret (v := .tuple #[.agg #[.int .i64 x1, .int .i64 y1, .int .i64 x2, .int .i64 y2], .int .i64 0]) (by simp [results, Tryd.results33, go_sem, f1, f2, f3, f4]) rfl ?_
      refine ⟨?_, hL4⟩
      obtain ⟨g1, g2⟩ := HOS.out (by trivial)
      rw [g1, g2]
/-- The numbers at the ends of a span. -/
def endL (q : S4) : Int := if q.right = true then q.lo else 0
def endH (q : S4) : Int := if q.right = true then q.hi - 1 else 0
/-- Of a right span: it is All just where both ends are. -/
theorem all_iff (q : S4) (hq : q.ok) (hr : q.right = true) : (q.ls == -1 && q.la == 0 && (q.hs == 1 && q.ha == 0)) = (decide (q.ls < 0) && decide (0 < q.hs)) := by
  obtain ⟨e, hlt⟩ := sp_of_right q hr
  have a1 : q.ls = sd q.lo := congrArg S4.ls e
  have a2 : q.la = pa q.lo := congrArg S4.la e
  have a3 : q.hs = sd q.hi := congrArg S4.hs e
  have a4 : q.ha = pa q.hi := congrArg S4.ha e
  rw [a1, a2, a3, a4]
  rcases ky_cases q.lo (q.ky_lo hq) with ⟨_, h1, h2⟩ | ⟨_, h1, h2⟩ | ⟨_, _, h1, h2⟩ <;> rcases ky_cases q.hi (q.ky_hi hq) with ⟨_, h3, h4⟩ | ⟨_, h3, h4⟩ | ⟨_, _, h3, h4⟩ <;> rw [h1, h2, h3, h4] <;> simp
theorem cnt_wrap (l h : Int) (hl : I64 l) (hh : I64 h) (h1 : l ≤ h) (h2 : h - l < 18446744073709551615) : IntKind.u64.wrap (IntKind.u64.wrap (IntKind.u64.wrap h - IntKind.u64.wrap l) + 1) = h - l + 1 := by
  unfold I64 at hl hh
  simp only [IntKind.wrap_u64]
  omega

end Go.Proofs.YthojkbmffiibdaaDoor

/- Contracts of package bound's functions: place, Span. -/
namespace Go.Proofs.YthojkbmffiibdaaDoor
open Go.RowKit Go.Sort Go.Proofs.YthojkbmffiibdaaDoor.Bo
set_option linter.unusedVariables false

/-- A result's cut of two numbers, in its block. -/
theorem cut_res {Y : World} {N : Nat} (h : Y.heap[N]? = some (.cells #[.int .i64 0, .int .i64 0] 25)) (x y : Int) :
    (Y.cell? ⟨N, 0, none⟩ = some (.int .i64 0) ∧ Y.cell? ⟨N, 1, none⟩ = some (.int .i64 0) ∧ Y.frozen? ⟨N, 0, none⟩ = false ∧ Y.frozen? ⟨N, 1, none⟩ = false) ∧
    ((Y.setCell ⟨N, 0, none⟩ (.int .i64 x)).setCell ⟨N, 1, none⟩ (.int .i64 y)).cell? ⟨N, 0, none⟩ = some (.int .i64 x) ∧ ((Y.setCell ⟨N, 0, none⟩ (.int .i64 x)).setCell ⟨N, 1, none⟩ (.int .i64 y)).cell? ⟨N, 1, none⟩ = some (.int .i64 y) :=
  have h2 := two_cells (two_put (p := .int .i64 x) (q := .int .i64 y) h)
  ⟨two_cells h, h2.1, h2.2.1⟩
structure Pl3 (w : World) (k a s t : Int) (W : World) : Prop where
  b : W.heap[w.heap.size]? = some (bB k a)
  n : W.heap[w.heap.size + 1]? = some (.cells #[.int .i64 s, .int .i64 t] 25)
  r : W.heap[w.heap.size + 1 + 1]? = some (.cells #[.int .i64 0, .int .i64 0] 25)
  be : Go.RowKit.Below w.heap.size w W
theorem Pl3.new (w : World) (k a s t : Int) : Pl3 w k a s t (((w.alloc (bB k a)).alloc (.cells #[.int .i64 s, .int .i64 t] 25)).alloc (.cells #[.int .i64 0, .int .i64 0] 25)) :=
  ⟨box_on (box_on (heap_alloc_new w _) (below_new _ _)) (below_new _ _), box_on (new_at _ (by simp)) (below_new _ _), new_at _ (by simp), bt (bt (below_new _ _) (below_new _ _)) (below_new _ _)⟩
theorem Pl3.on {w : World} {k a s t : Int} {W W' : World} (h : Pl3 w k a s t W) (hb : Go.RowKit.Below W.heap.size W W') : Pl3 w k a s t W' := ⟨box_on h.b hb, box_on h.n hb, box_on h.r hb, bt h.be hb⟩
def PlPost (x y : Int) (B : Bool) (w : World) (e : Ending) (w' : World) : Prop := e = .returned (.tuple #[.agg #[.int .i64 x, .int .i64 y], .bool B]) ∧ Go.RowKit.Below w.heap.size w w'
set_option maxRecDepth 100000 in
set_option maxHeartbeats 1000000 in
theorem place_open (a s t x y : Int) (fo fc : Nat) (w : World) (eo : ∀ args w, (callFunc fo args).run Tryd.prog w = .ok (.enter fo args) w)
    (HO : Hid (∀ W, Calls Tryd.prog fo #[.int .i64 a] W fun e w' => e = .returned (.agg #[.int .i64 x, .int .i64 y]) ∧ Go.RowKit.Below W.heap.size W w')) :
    Calls Tryd.prog 28 #[.agg #[.int .i64 1, .int .i64 a], .agg #[.int .i64 s, .int .i64 t], .func (.func fo) #[] #[], .func (.func fc) #[] #[]] w (PlPost x y true w) := by
  have HX := Lib.hid (Pl3.new w 1 a s t)
  have hgy : w.heap.size ≤ w.heap.size + 1 + 1 := by omega
  go_enter Tryd.func28, Tryd.ntmps28
  go_upto_region 1 with fail
  generalize (((w.alloc (bB 1 a)).alloc (.cells #[.int .i64 s, .int .i64 t] 25)).alloc (.cells #[.int .i64 0, .int .i64 0] 25)) = X at *
  obtain ⟨c1, c2, _, _⟩ := two_cells HX.out.b
  go_wp2_with fail
  refine (HO.out _).mono ?_
  rintro e Y ⟨rfl, hB1⟩
  have HX1 := Lib.hid (HX.out.on hB1)
  obtain ⟨⟨d1, d2, e1, e2⟩, f1, f2⟩ := cut_res HX1.out.r x y
  have hL4 := (HX1.out.be.setCell (p := ⟨w.heap.size + 1 + 1, 0, none⟩) hgy (.int .i64 x)).setCell (p := ⟨w.heap.size + 1 + 1, 1, none⟩) hgy (.int .i64 y)
  go_wp2_with fail
  refine bodyPost_ret (v := .tuple #[.agg #[.int .i64 x, .int .i64 y], .bool true]) (by simp [results, Tryd.results28, go_sem, f1, f2]) rfl ?_
  exact ⟨rfl, hL4⟩
set_option maxRecDepth 100000 in
set_option maxHeartbeats 1000000 in
theorem place_closed (a s t x y : Int) (fo fc : Nat) (w : World) (eo : ∀ args w, (callFunc fc args).run Tryd.prog w = .ok (.enter fc args) w)
    (HO : Hid (∀ W, Calls Tryd.prog fc #[.int .i64 a] W fun e w' => e = .returned (.agg #[.int .i64 x, .int .i64 y]) ∧ Go.RowKit.Below W.heap.size W w')) :
    Calls Tryd.prog 28 #[.agg #[.int .i64 2, .int .i64 a], .agg #[.int .i64 s, .int .i64 t], .func (.func fo) #[] #[], .func (.func fc) #[] #[]] w (PlPost x y true w) := by
  have HX := Lib.hid (Pl3.new w 2 a s t)
  have hgy : w.heap.size ≤ w.heap.size + 1 + 1 := by omega
  go_enter Tryd.func28, Tryd.ntmps28
  go_upto_region 1 with fail
  generalize (((w.alloc (bB 2 a)).alloc (.cells #[.int .i64 s, .int .i64 t] 25)).alloc (.cells #[.int .i64 0, .int .i64 0] 25)) = X at *
  obtain ⟨c1, c2, _, _⟩ := two_cells HX.out.b
  go_wp2_with fail
  refine (HO.out _).mono ?_
  rintro e Y ⟨rfl, hB1⟩
  have HX1 := Lib.hid (HX.out.on hB1)
  obtain ⟨⟨d1, d2, e1, e2⟩, f1, f2⟩ := cut_res HX1.out.r x y
  have hL4 := (HX1.out.be.setCell (p := ⟨w.heap.size + 1 + 1, 0, none⟩) hgy (.int .i64 x)).setCell (p := ⟨w.heap.size + 1 + 1, 1, none⟩) hgy (.int .i64 y)
  go_wp2_with fail
  refine bodyPost_ret (v := .tuple #[.agg #[.int .i64 x, .int .i64 y], .bool true]) (by simp [results, Tryd.results28, go_sem, f1, f2]) rfl ?_
  exact ⟨rfl, hL4⟩
set_option maxRecDepth 100000 in
set_option maxHeartbeats 1000000 in
theorem place_none (a s t : Int) (fo fc : Nat) (w : World) :
    Calls Tryd.prog 28 #[.agg #[.int .i64 0, .int .i64 a], .agg #[.int .i64 s, .int .i64 t], .func (.func fo) #[] #[], .func (.func fc) #[] #[]] w (PlPost s t true w) := by
  have HX := Lib.hid (Pl3.new w 0 a s t)
  have hgy : w.heap.size ≤ w.heap.size + 1 + 1 := by omega
  go_enter Tryd.func28, Tryd.ntmps28
  go_upto_region 1 with fail
  generalize (((w.alloc (bB 0 a)).alloc (.cells #[.int .i64 s, .int .i64 t] 25)).alloc (.cells #[.int .i64 0, .int .i64 0] 25)) = X at *
  obtain ⟨c1, c2, _, _⟩ := two_cells HX.out.b
  obtain ⟨c3, c4, _, _⟩ := two_cells HX.out.n
  obtain ⟨⟨d1, d2, e1, e2⟩, f1, f2⟩ := cut_res HX.out.r s t
  have hL4 := (HX.out.be.setCell (p := ⟨w.heap.size + 1 + 1, 0, none⟩) hgy (.int .i64 s)).setCell (p := ⟨w.heap.size + 1 + 1, 1, none⟩) hgy (.int .i64 t)
  go_wp2_with fail
  refine bodyPost_ret (v := .tuple #[.agg #[.int .i64 s, .int .i64 t], .bool true]) (by simp [results, Tryd.results28, go_sem, f1, f2]) rfl ?_
  exact ⟨rfl, hL4⟩
set_option maxRecDepth 100000 in
set_option maxHeartbeats 1000000 in
theorem place_bad (k a s t : Int) (fo fc : Nat) (w : World) (t0 : (k == 0) = false) (t1 : (k == 1) = false) (t2 : (k == 2) = false) :
    Calls Tryd.prog 28 #[.agg #[.int .i64 k, .int .i64 a], .agg #[.int .i64 s, .int .i64 t], .func (.func fo) #[] #[], .func (.func fc) #[] #[]] w (PlPost 0 0 false w) := by
  have HX := Lib.hid (Pl3.new w k a s t)
  have hgy : w.heap.size ≤ w.heap.size + 1 + 1 := by omega
  go_enter Tryd.func28, Tryd.ntmps28
  go_upto_region 1 with fail
  generalize (((w.alloc (bB k a)).alloc (.cells #[.int .i64 s, .int .i64 t] 25)).alloc (.cells #[.int .i64 0, .int .i64 0] 25)) = X at *
  obtain ⟨c1, c2, _, _⟩ := two_cells HX.out.b
  obtain ⟨⟨d1, d2, e1, e2⟩, f1, f2⟩ := cut_res HX.out.r 0 0
  have hL4 := (HX.out.be.setCell (p := ⟨w.heap.size + 1 + 1, 0, none⟩) hgy (.int .i64 0)).setCell (p := ⟨w.heap.size + 1 + 1, 1, none⟩) hgy (.int .i64 0)
  go_wp2_with fail
  refine bodyPost_ret (v := .tuple #[.agg #[.int .i64 0, .int .i64 0], .bool false]) (by simp [results, Tryd.results28, go_sem, f1, f2]) rfl ?_
  exact ⟨rfl, hL4⟩
theorem en_behind : ∀ args w, (callFunc 30 args).run Tryd.prog w = .ok (.enter 30 args) w := enters_of Tryd.func30 (by kernel_rfl) rfl
theorem en_ahead : ∀ args w, (callFunc 31 args).run Tryd.prog w = .ok (.enter 31 args) w := enters_of Tryd.func31 (by kernel_rfl) rfl
/-- What place answers, of a lower, and of a higher bound. -/
theorem kind3 (k : Int) : k = 0 ∨ k = 1 ∨ k = 2 ∨ ((k == 0) = false ∧ (k == 1) = false ∧ (k == 2) = false) := by
  by_cases h0 : k = 0
  · exact .inl h0
  · by_cases h1 : k = 1
    · exact .inr (.inl h1)
    · by_cases h2 : k = 2
      · exact .inr (.inr (.inl h2))
      · exact .inr (.inr (.inr ⟨beq_eq_false_iff_ne.2 h0, beq_eq_false_iff_ne.2 h1, beq_eq_false_iff_ne.2 h2⟩))
theorem kindB_bad (k : Int) (h : (k == 0) = false ∧ (k == 1) = false ∧ (k == 2) = false) : kindB k = false := by
  have h0 := beq_eq_false_iff_ne.1 h.1
  have h1 := beq_eq_false_iff_ne.1 h.2.1
  have h2 := beq_eq_false_iff_ne.1 h.2.2
  unfold kindB
  by_cases h3 : 0 ≤ k
  · rw [decide_eq_true h3, Bool.true_and]; exact decide_eq_false (by omega)
  · rw [decide_eq_false h3, Bool.false_and]
def plK (k key : Int) : Int := if kindB k = true then key else 0
theorem place_low (k a : Int) (w : World) (ha : I64 a) :
    Calls Tryd.prog 28 #[.agg #[.int .i64 k, .int .i64 a], .agg #[.int .i64 (-1), .int .i64 0], .func (.func 30) #[] #[], .func (.func 31) #[] #[]] w (PlPost (sd (plK k (lowK k a))) (pa (plK k (lowK k a))) (kindB k) w) := by
  rcases kind3 k with rfl | rfl | rfl | h
  · exact place_none a (-1) 0 _ _ w
  · exact place_open a (-1) 0 _ _ _ _ w en_behind (fun W => behind_b a ha W)
  · exact place_closed a (-1) 0 _ _ _ _ w en_ahead (fun W => ahead_b a ha W)
  · have hk := kindB_bad k h
    rw [show plK k (lowK k a) = 0 from by unfold plK; rw [hk]; rfl, hk]
    exact place_bad k a (-1) 0 _ _ w h.1 h.2.1 h.2.2
theorem place_high (k a : Int) (w : World) (ha : I64 a) :
    Calls Tryd.prog 28 #[.agg #[.int .i64 k, .int .i64 a], .agg #[.int .i64 1, .int .i64 0], .func (.func 31) #[] #[], .func (.func 30) #[] #[]] w (PlPost (sd (plK k (highK k a))) (pa (plK k (highK k a))) (kindB k) w) := by
  rcases kind3 k with rfl | rfl | rfl | h
  · exact place_none a 1 0 _ _ w
  · exact place_open a 1 0 _ _ _ _ w en_ahead (fun W => ahead_b a ha W)
  · exact place_closed a 1 0 _ _ _ _ w en_behind (fun W => behind_b a ha W)
  · have hk := kindB_bad k h
    rw [show plK k (highK k a) = 0 from by unfold plK; rw [hk]; rfl, hk]
    exact place_bad k a 1 0 _ _ w h.1 h.2.1 h.2.2
end Go.Proofs.YthojkbmffiibdaaDoor
