/- The walk of the law SatSums. -/
import Derived.Test.YtgldnpjpmojcnaaSatOrderW
import Derived.Test.YtgldnpjpmojcnaaBigF
namespace Go.Proofs.Ytgldnpjpmojcnaa
open Go.RowKit Go.Proofs.Ytgldnpjpmojcnaa.Bo
set_option linter.unusedVariables false

/-- The cells of two whole numbers that lie at places b and b + 1. -/
def TwoAt (b : Nat) (s : Int) (u : Value) (t : Int) (v : Value) (w : World) : Prop :=
  w.cell? ⟨b, 0, none⟩ = some (.int .i64 s) ∧ w.cell? ⟨b, 1, none⟩ = some u ∧ w.cell? ⟨b + 1, 0, none⟩ = some (.int .i64 t) ∧ w.cell? ⟨b + 1, 1, none⟩ = some v
theorem TwoAt.below {b : Nat} {s : Int} {u : Value} {t : Int} {v : Value} {w w' : World} (h : TwoAt b s u t v w) (hb : Below w.heap.size w w') : TwoAt b s u t v w' :=
  ⟨(hb.cell (p := ⟨b, 0, none⟩) (World.block_lt_of_cell? w _ h.1)).trans h.1, (hb.cell (p := ⟨b, 1, none⟩) (World.block_lt_of_cell? w _ h.2.1)).trans h.2.1,
    (hb.cell (p := ⟨b + 1, 0, none⟩) (World.block_lt_of_cell? w _ h.2.2.1)).trans h.2.2.1, (hb.cell (p := ⟨b + 1, 1, none⟩) (World.block_lt_of_cell? w _ h.2.2.2)).trans h.2.2.2⟩
theorem below_of_drew {w w' : World} (h : Below w.drew.heap.size w.drew w') : Below w.heap.size w w' := ((Below.refl _ _).drew).trans h

set_option maxRecDepth 100000 in
set_option maxHeartbeats 4000000 in
theorem satSums_walk (a b : Int) (w0 : (Lit.int .i64 a).wf = true) (w1 : (Lit.int .i64 b).wf = true) (w : World) :
    Calls Try.prog 3 #[.int .i64 a, .int .i64 b] w fun e w' => e = .returned (.bool true) ∧ Below w.heap.size w w' := by
  have HA := Lib.hid (i64_of_wf w0)
  have HB := Lib.hid (i64_of_wf w1)
  clear w0 w1
  go_enter Try.func3, Try.ntmps3
  go_wp2_with fail
  refine (of_big _ _ HA.out).mono ?_
  rintro e x1 ⟨V1, rfl, hV1, hB1⟩
  have HV1 := Lib.hid hV1
  obtain ⟨s1, v1, xs1, rfl, hs1, hd1, ok1, hl1, hz1, h01⟩ := hV1
  obtain ⟨a1, n1, c1, rfl⟩ := slice_of_dg hd1
  clear hs1 hd1 ok1 hl1 hz1 h01
  go_wp2_with fail
  refine (of_big _ _ HB.out).mono ?_
  rintro e x2 ⟨V2, rfl, hV2, hB2⟩
  have HV2 := Lib.hid hV2
  obtain ⟨s2, v2, xs2, rfl, hs2, hd2, ok2, hl2, hz2, h02⟩ := hV2
  obtain ⟨a2, n2, c2, rfl⟩ := slice_of_dg hd2
  clear hs2 hd2 ok2 hl2 hz2 h02
  have hB3 : Below x2.heap.size x2 ((x2.alloc (.cells #[.int .i64 s1, .slice a1 n1 c1] 24)).alloc (.cells #[.int .i64 s2, .slice a2 n2 c2] 24)) := ((Below.refl _ _).alloc (Nat.le_refl _) _).alloc (by simp) _
  have hT : TwoAt x2.heap.size s1 (.slice a1 n1 c1) s2 (.slice a2 n2 c2) ((x2.alloc (.cells #[.int .i64 s1, .slice a1 n1 c1] 24)).alloc (.cells #[.int .i64 s2, .slice a2 n2 c2] 24)) :=
    ⟨(cell_of_row _ _ 0 _ _ _ (heap_alloc2_old _ _ _)).trans rfl, (cell_of_row _ _ 1 _ _ _ (heap_alloc2_old _ _ _)).trans rfl, (cell_of_row _ _ 0 _ _ _ (heap_alloc2_new _ _ _)).trans rfl, (cell_of_row _ _ 1 _ _ _ (heap_alloc2_new _ _ _)).trans rfl⟩
  have HX := Lib.hid (HV1.out.below (bt hB2 hB3))
  have HY := Lib.hid (HV2.out.below hB3)
  have hBw := bt (bt hB1 hB2) hB3
  go_wp2_with fail
  generalize (x2.alloc (.cells #[.int .i64 s1, .slice a1 n1 c1] 24)).alloc (.cells #[.int .i64 s2, .slice a2 n2 c2] 24) = x3 at *
  have HT := Lib.hid hT
  obtain ⟨p1, p2, p3, p4⟩ := hT
  have t2 : (clamp (a - b) == clamp (a + -b)) = true := by rw [Int.sub_eq_add_neg]; simp
  clear HV1 HV2 hB1 hB2 hB3
  go_region_held3 (fun w' => w'.cell? ⟨x2.heap.size, 0, none⟩ = some (.int .i64 s1) ∧ w'.cell? ⟨x2.heap.size, 1, none⟩ = some (.slice a1 n1 c1) ∧ w'.cell? ⟨x2.heap.size + 1, 0, none⟩ = some (.int .i64 s2) ∧ w'.cell? ⟨x2.heap.size + 1, 1, none⟩ = some (.slice a2 n2 c2))
    (first | go_keep | exact hT4.out | exact hT5.out | exact hT6.out | exact hT7.out | exact hT8.out | exact hT9.out | exact hT10.out | exact hT11.out)
    (first
      | (go_at_call 11; refine (alive_any _).mono ?_; rintro e x4 ⟨rfl, hB4'⟩; have hB4 := below_of_drew hB4'; have hT4 := Lib.hid (HT.out.below hB4); clear hB4')
      | (go_at_call 12; refine (add_any _ _ _ HA.out HB.out).mono ?_; rintro e x4' ⟨rfl, rfl⟩)
      | (go_at_call 15; refine (sub_any _ _ _ HA.out HB.out).mono ?_; rintro e x4' ⟨rfl, rfl⟩)
      | (go_at_call 17; refine (neg_any _ _ HA.out).mono ?_; rintro e x4' ⟨rfl, rfl⟩)
      | (go_at_call 14; (with_reducible refine (plus_any _ (.agg #[.int .i64 s2, .slice a2 n2 c2]) _ _ _ _ _ (HX.out.below hB4) (HY.out.below hB4) (by omega) (by omega)).mono ?_); rintro e x5 ⟨V5, rfl, hV5', hB5⟩; have hV5 := Lib.hid hV5'; have hT5 := Lib.hid (hT4.out.below hB5); clear hV5')
      | (go_at_call 13; (with_reducible refine (end_big V5 _ _ _ hV5.out (by omega)).mono ?_); rintro e x6 ⟨rfl, hB6⟩; have hT6 := Lib.hid (hT5.out.below hB6); have hC6 := bt (bt hB4 hB5) hB6)
      | (go_at_call 16; (with_reducible refine (minus_any (.agg #[.int .i64 s2, .slice a2 n2 c2]) _ _ _ (HY.out.below hC6)).mono ?_); rintro e x7 ⟨V7, rfl, hV7', hB7⟩; have hV7 := Lib.hid hV7'; have hT7 := Lib.hid (hT6.out.below hB7); have hC7 := bt hC6 hB7; clear hV7')
      | (go_at_call 14; (with_reducible refine (plus_any _ V7 _ _ _ _ _ (HX.out.below hC7) hV7.out (by omega) (by omega)).mono ?_); rintro e x8 ⟨V8, rfl, hV8', hB8⟩; have hV8 := Lib.hid hV8'; have hT8 := Lib.hid (hT7.out.below hB8); clear hV8')
      | (go_at_call 13; (with_reducible refine (end_big V8 _ _ _ hV8.out (by omega)).mono ?_); rintro e x9 ⟨rfl, hB9⟩; have hT9 := Lib.hid (hT8.out.below hB9); have hC9 := bt (bt hC7 hB8) hB9)
      | (go_at_call 16; (with_reducible refine (minus_any (.agg #[.int .i64 s1, .slice a1 n1 c1]) _ _ _ (HX.out.below hC9)).mono ?_); rintro e x10 ⟨V10, rfl, hV10', hB10⟩; have hV10 := Lib.hid hV10'; have hT10 := Lib.hid (hT9.out.below hB10); clear hV10')
      | (go_at_call 13; (with_reducible refine (end_big V10 _ _ _ hV10.out (by omega)).mono ?_); rintro e x11 ⟨rfl, hB11⟩; have hT11 := Lib.hid (hT10.out.below hB11); have hC11 := bt (bt hC9 hB10) hB11))
  go_wp2_with fail
  go_ret
  exact ⟨rfl, bt hBw hC11⟩
end Go.Proofs.Ytgldnpjpmojcnaa
