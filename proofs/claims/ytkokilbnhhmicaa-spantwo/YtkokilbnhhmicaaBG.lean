/- A part of the proof: contracts of the functions that the statements reach. -/
import Derived.Test.YtkokilbnhhmicaaRows
import Derived.Test.YtkokilbnhhmicaaBA
import Derived.Test.YtkokilbnhhmicaaBB
import Derived.Test.YtkokilbnhhmicaaBC
import Derived.Test.YtkokilbnhhmicaaBD
import Derived.Test.YtkokilbnhhmicaaBE
import Derived.Test.YtkokilbnhhmicaaBF
import Derived.Deep.Upon

/- Contracts of package span's functions: Meet, Hull. -/
namespace Go.Proofs.Ytkokilbnhhmicaa
open Go.RowKit Go.Sort Go.Proofs.Ytkokilbnhhmicaa.Bo
set_option linter.unusedVariables false

theorem bl_alloc {X W : World} (o : Obj) (h : Go.RowKit.Below X.heap.size X W) : Go.RowKit.Below X.heap.size X (W.alloc o) := bt h (below_new W o)
theorem bl_drew {X W : World} (h : Go.RowKit.Below X.heap.size X W) : Go.RowKit.Below X.heap.size X W.drew := h.drew
theorem Pair4.put {b N : Nat} {q r : S4} {w : World} (h : Pair4 b q r w) (h1 : b ≠ N) (h2 : b + 1 ≠ N) (v1 v2 v3 v4 : Value) : Pair4 b q r ((((w.setCell ⟨N, 0, none⟩ v1).setCell ⟨N, 1, none⟩ v2).setCell ⟨N, 2, none⟩ v3).setCell ⟨N, 3, none⟩ v4) :=
  ⟨box_far4 h.1 h1 _ _ _ _, box_far4 h.2 h2 _ _ _ _⟩
/-- A block of two cuts is a row of them. -/
theorem crow_block {W : World} {p : Nat} {s a t b : Int} (h : W.heap[p]? = some (.cells #[.int .i64 s, .int .i64 a, .int .i64 t, .int .i64 b] 23 (0, 0))) : CRow W (some ⟨p, 0, none⟩) [(s, a), (t, b)] := by
  intro _
  refine ⟨p, 0, rfl, fun j hj => ?_⟩
  have hj' : j < 2 := hj
  rcases (show j = 0 ∨ j = 1 by omega) with rfl | rfl
  · exact ⟨(cell_of_row _ _ 0 _ _ _ h).trans rfl, (cell_of_row _ _ 1 _ _ _ h).trans rfl⟩
  · exact ⟨(cell_of_row _ _ 2 _ _ _ h).trans rfl, (cell_of_row _ _ 3 _ _ _ h).trans rfl⟩
theorem least_pair (s a t b : Int) (ha : I64 a) : leastK [(s, a), (t, b)] = klow (key s a) (key t b) := by
  have h := key_ky s a ha
  unfold Ky at h
  show klow (klow 9223372036854775808 (key s a)) (key t b) = _
  rw [show klow 9223372036854775808 (key s a) = key s a from by unfold klow; split <;> omega]
theorem great_pair (s a t b : Int) (ha : I64 a) : greatK [(s, a), (t, b)] = khigh (key s a) (key t b) := by
  have h := key_ky s a ha
  unfold Ky at h
  show khigh (khigh (-9223372036854775808) (key s a)) (key t b) = _
  rw [show khigh (-9223372036854775808) (key s a) = key s a from by unfold khigh; split <;> omega]
theorem pair_ok (s a t b : Int) (ha : I64 a) (hb : I64 b) : ∀ c ∈ [(s, a), (t, b)], I64 c.2 := by
  intro c hc
  simp at hc
  rcases hc with rfl | rfl
  · exact ha
  · exact hb
theorem least_b2 (s a t b : Int) (ha : I64 a) (hb : I64 b) (W : World) (p : Nat) (h : W.heap[p]? = some (.cells #[.int .i64 s, .int .i64 a, .int .i64 t, .int .i64 b] 23 (0, 0))) :
    Calls Try.prog 46 #[.slice (some ⟨p, 0, none⟩) 2 2] W fun e w' => e = .returned (.agg #[.int .i64 (sd (klow (key s a) (key t b))), .int .i64 (pa (klow (key s a) (key t b)))]) ∧ Go.RowKit.Below W.heap.size W w' := by
  have h := least_any _ 2 [(s, a), (t, b)] _ (pair_ok s a t b ha hb) (crow_block h) (by simp)
  rw [least_pair s a t b ha] at h
  exact h
theorem great_b2 (s a t b : Int) (ha : I64 a) (hb : I64 b) (W : World) (p : Nat) (h : W.heap[p]? = some (.cells #[.int .i64 s, .int .i64 a, .int .i64 t, .int .i64 b] 23 (0, 0))) :
    Calls Try.prog 45 #[.slice (some ⟨p, 0, none⟩) 2 2] W fun e w' => e = .returned (.agg #[.int .i64 (sd (khigh (key s a) (key t b))), .int .i64 (pa (khigh (key s a) (key t b)))]) ∧ Go.RowKit.Below W.heap.size W w' := by
  have h := greatest_any _ 2 [(s, a), (t, b)] _ (pair_ok s a t b ha hb) (crow_block h) (by simp)
  rw [great_pair s a t b ha] at h
  exact h

set_option maxRecDepth 100000 in
set_option maxHeartbeats 4000000 in
theorem smeet_core (q r Z : S4) (D : Bool) (x1 y1 x2 y2 : Int) (w : World)
    (HO : Hid (∀ W, Calls Try.prog 13 #[.agg #[.int .i64 q.ls, .int .i64 q.la, .int .i64 q.hs, .int .i64 q.ha], .agg #[.int .i64 r.ls, .int .i64 r.la, .int .i64 r.hs, .int .i64 r.ha]] W fun e w' => e = .returned (.bool D) ∧ Go.RowKit.Below W.heap.size W w'))
    (HG : Hid (∀ (W : World) (p : Nat), W.heap[p]? = some (.cells #[.int .i64 q.ls, .int .i64 q.la, .int .i64 r.ls, .int .i64 r.la] 23 (0, 0)) → Calls Try.prog 45 #[.slice (some ⟨p, 0, none⟩) 2 2] W fun e w' => e = .returned (.agg #[.int .i64 x1, .int .i64 y1]) ∧ Go.RowKit.Below W.heap.size W w'))
    (HH : Hid (∀ (W : World) (p : Nat), W.heap[p]? = some (.cells #[.int .i64 q.hs, .int .i64 q.ha, .int .i64 r.hs, .int .i64 r.ha] 23 (0, 0)) → Calls Try.prog 46 #[.slice (some ⟨p, 0, none⟩) 2 2] W fun e w' => e = .returned (.agg #[.int .i64 x2, .int .i64 y2]) ∧ Go.RowKit.Below W.heap.size W w'))
    (HZ : Hid ((D = true → Z = ⟨x1, y1, x2, y2⟩) ∧ (D = false → Z = z4))) :
    Calls Try.prog 11 #[vS q, vS r] w fun e w' => e = .returned (.tuple #[vS Z, .bool D]) ∧ Go.RowKit.Below w.heap.size w w' := by
  have mx := mixed
  have HB := Lib.hid ((Pair4.new w q r).on (below_new _ (.cells #[.int .i64 0, .int .i64 0, .int .i64 0, .int .i64 0] 25)))
  have hR0 : Box4 (((w.alloc (.cells #[.int .i64 q.ls, .int .i64 q.la, .int .i64 q.hs, .int .i64 q.ha] 25)).alloc (.cells #[.int .i64 r.ls, .int .i64 r.la, .int .i64 r.hs, .int .i64 r.ha] 25)).alloc (.cells #[.int .i64 0, .int .i64 0, .int .i64 0, .int .i64 0] 25)) (w.heap.size + 1 + 1) z4 := by
    have h := heap_alloc_new ((w.alloc (.cells #[.int .i64 q.ls, .int .i64 q.la, .int .i64 q.hs, .int .i64 q.ha] 25)).alloc (.cells #[.int .i64 r.ls, .int .i64 r.la, .int .i64 r.hs, .int .i64 r.ha] 25)) (.cells #[.int .i64 0, .int .i64 0, .int .i64 0, .int .i64 0] 25)
    simpa [Box4] using h
  have hL0 : Go.RowKit.Below w.heap.size w (((w.alloc (.cells #[.int .i64 q.ls, .int .i64 q.la, .int .i64 q.hs, .int .i64 q.ha] 25)).alloc (.cells #[.int .i64 r.ls, .int .i64 r.la, .int .i64 r.hs, .int .i64 r.ha] 25)).alloc (.cells #[.int .i64 0, .int .i64 0, .int .i64 0, .int .i64 0] 25)) := bt (bt (below_new w _) (below_new _ _)) (below_new _ _)
  have hgy : w.heap.size ≤ w.heap.size + 1 + 1 := by omega
  go_enter Try.func11, Try.ntmps11
  go_wp2_with fail
  generalize (((w.alloc (.cells #[.int .i64 q.ls, .int .i64 q.la, .int .i64 q.hs, .int .i64 q.ha] 25)).alloc (.cells #[.int .i64 r.ls, .int .i64 r.la, .int .i64 r.hs, .int .i64 r.ha] 25)).alloc (.cells #[.int .i64 0, .int .i64 0, .int .i64 0, .int .i64 0] 25)) = X at *
  refine (HO.out _).mono ?_
  rintro e Y0 ⟨rfl, hB0⟩
  have HX := Lib.hid (HB.out.on hB0)
  have HR := Lib.hid (hR0.on hB0)
  have HL := Lib.hid (bt hL0 hB0)
  clear HB hR0 hL0 hB0 HO
  cases D with
  | false =>
    obtain ⟨⟨d1, d2, d3, d4⟩, e1, e2, e3, e4⟩ := Box4.zero HR.out
    obtain ⟨f1, f2, f3, f4⟩ := (box_put4 HR.out ⟨0, 0, 0, 0⟩).cells
    dsimp only at f1 f2 f3 f4
    have hL4 := (((HL.out.setCell (p := ⟨w.heap.size + 1 + 1, 0, none⟩) hgy (.int .i64 0)).setCell (p := ⟨w.heap.size + 1 + 1, 1, none⟩) hgy (.int .i64 0)).setCell (p := ⟨w.heap.size + 1 + 1, 2, none⟩) hgy (.int .i64 0)).setCell (p := ⟨w.heap.size + 1 + 1, 3, none⟩) hgy (.int .i64 0)
    go_wp2_with fail
    refine bodyPost_ret (v := .tuple #[.agg #[.int .i64 0, .int .i64 0, .int .i64 0, .int .i64 0], .bool false]) (by simp [results, Try.results11, go_sem, f1, f2, f3, f4]) rfl ?_
    refine ⟨?_, hL4⟩
    rw [HZ.out.2 (by trivial)]
  | true =>
    obtain ⟨c1, c2, c3, c4, c5, c6, c7, c8⟩ := HX.out.cells
    go_wp2_with fail
    go_region_held3 (fun w' => w'.cell? ⟨w.heap.size, 0, none⟩ = some (.int .i64 q.ls) ∧ w'.cell? ⟨w.heap.size, 1, none⟩ = some (.int .i64 q.la) ∧ w'.cell? ⟨w.heap.size, 2, none⟩ = some (.int .i64 q.hs) ∧ w'.cell? ⟨w.heap.size, 3, none⟩ = some (.int .i64 q.ha) ∧
        w'.cell? ⟨w.heap.size + 1, 0, none⟩ = some (.int .i64 r.ls) ∧ w'.cell? ⟨w.heap.size + 1, 1, none⟩ = some (.int .i64 r.la) ∧ w'.cell? ⟨w.heap.size + 1, 2, none⟩ = some (.int .i64 r.hs) ∧ w'.cell? ⟨w.heap.size + 1, 3, none⟩ = some (.int .i64 r.ha))
      (with_reducible first
        | (focus (refine (HX.out.on ?_).cells; (repeat (first | assumption | exact Go.RowKit.Below.refl _ _ | refine bl_alloc _ ?_ | refine bl_drew ?_)); done))
        | exact ((HX.out.on hT2).put (by omega) (by omega) _ _ _ _).cells)
      (first
        | (go_at_call 45; (refine (HG.out _ _ (by first | exact heap_alloc_new _ _ | exact heap_alloc2_old _ _ _ | exact heap_alloc2_new _ _ _)).mono ?_); rintro e Y1 ⟨rfl, hB1⟩; have hT1 : Go.RowKit.Below Y0.heap.size Y0 Y1 := bt (by with_reducible repeat (first | exact Go.RowKit.Below.refl _ _ | refine bl_alloc _ ?_ | refine bl_drew ?_)) hB1; (try have hN2 := Lib.hid (box_on (o := .cells #[.int .i64 q.hs, .int .i64 q.ha, .int .i64 r.hs, .int .i64 r.ha] 23 (0, 0)) (by first | exact heap_alloc2_new _ _ _ | exact heap_alloc2_old _ _ _) hB1)); clear hB1)
        | (go_at_call 46; (refine (HH.out _ _ (by first | exact hN2.out | exact heap_alloc_new _ _)).mono ?_); rintro e Y2 ⟨rfl, hB2⟩; have hT2 : Go.RowKit.Below Y0.heap.size Y0 Y2 := bt (by with_reducible repeat (first | exact hT1 | refine bl_alloc _ ?_ | refine bl_drew ?_)) hB2; clear hB2; obtain ⟨⟨d1, d2, d3, d4⟩, e1, e2, e3, e4⟩ := Box4.zero (HR.out.on hT2)))
    all_goals
      obtain ⟨f1, f2, f3, f4⟩ := (box_put4 (HR.out.on hT2) ⟨x1, y1, x2, y2⟩).cells
      dsimp only at f1 f2 f3 f4
      have hL4 := ((((bt HL.out hT2).setCell (p := ⟨w.heap.size + 1 + 1, 0, none⟩) hgy (.int .i64 x1)).setCell (p := ⟨w.heap.size + 1 + 1, 1, none⟩) hgy (.int .i64 y1)).setCell (p := ⟨w.heap.size + 1 + 1, 2, none⟩) hgy (.int .i64 x2)).setCell (p := ⟨w.heap.size + 1 + 1, 3, none⟩) hgy (.int .i64 y2)
      go_wp2_with fail
      refine bodyPost_ret (v := .tuple #[.agg #[.int .i64 x1, .int .i64 y1, .int .i64 x2, .int .i64 y2], .bool true]) (by simp [results, Try.results11, go_sem, f1, f2, f3, f4]) rfl ?_
      refine ⟨?_, hL4⟩
      rw [HZ.out.1 (by trivial)]
set_option maxRecDepth 100000 in
set_option maxHeartbeats 4000000 in
theorem shull_core (q r Z : S4) (D : Bool) (x1 y1 x2 y2 : Int) (w : World)
    (HO : Hid (∀ W, Calls Try.prog 49 #[.agg #[.int .i64 q.ls, .int .i64 q.la, .int .i64 q.hs, .int .i64 q.ha], .agg #[.int .i64 r.ls, .int .i64 r.la, .int .i64 r.hs, .int .i64 r.ha]] W fun e w' => e = .returned (.bool D) ∧ Go.RowKit.Below W.heap.size W w'))
    (HG : Hid (∀ (W : World) (p : Nat), W.heap[p]? = some (.cells #[.int .i64 q.ls, .int .i64 q.la, .int .i64 r.ls, .int .i64 r.la] 23 (0, 0)) → Calls Try.prog 46 #[.slice (some ⟨p, 0, none⟩) 2 2] W fun e w' => e = .returned (.agg #[.int .i64 x1, .int .i64 y1]) ∧ Go.RowKit.Below W.heap.size W w'))
    (HH : Hid (∀ (W : World) (p : Nat), W.heap[p]? = some (.cells #[.int .i64 q.hs, .int .i64 q.ha, .int .i64 r.hs, .int .i64 r.ha] 23 (0, 0)) → Calls Try.prog 45 #[.slice (some ⟨p, 0, none⟩) 2 2] W fun e w' => e = .returned (.agg #[.int .i64 x2, .int .i64 y2]) ∧ Go.RowKit.Below W.heap.size W w'))
    (HZ : Hid ((D = true → Z = ⟨x1, y1, x2, y2⟩) ∧ (D = false → Z = z4))) :
    Calls Try.prog 21 #[vS q, vS r] w fun e w' => e = .returned (vS Z) ∧ Go.RowKit.Below w.heap.size w w' := by
  have mx := mixed
  have HB := Lib.hid ((Pair4.new w q r).on (below_new _ (.cells #[.int .i64 0, .int .i64 0, .int .i64 0, .int .i64 0] 25)))
  have hR0 : Box4 (((w.alloc (.cells #[.int .i64 q.ls, .int .i64 q.la, .int .i64 q.hs, .int .i64 q.ha] 25)).alloc (.cells #[.int .i64 r.ls, .int .i64 r.la, .int .i64 r.hs, .int .i64 r.ha] 25)).alloc (.cells #[.int .i64 0, .int .i64 0, .int .i64 0, .int .i64 0] 25)) (w.heap.size + 1 + 1) z4 := by
    have h := heap_alloc_new ((w.alloc (.cells #[.int .i64 q.ls, .int .i64 q.la, .int .i64 q.hs, .int .i64 q.ha] 25)).alloc (.cells #[.int .i64 r.ls, .int .i64 r.la, .int .i64 r.hs, .int .i64 r.ha] 25)) (.cells #[.int .i64 0, .int .i64 0, .int .i64 0, .int .i64 0] 25)
    simpa [Box4] using h
  have hL0 : Go.RowKit.Below w.heap.size w (((w.alloc (.cells #[.int .i64 q.ls, .int .i64 q.la, .int .i64 q.hs, .int .i64 q.ha] 25)).alloc (.cells #[.int .i64 r.ls, .int .i64 r.la, .int .i64 r.hs, .int .i64 r.ha] 25)).alloc (.cells #[.int .i64 0, .int .i64 0, .int .i64 0, .int .i64 0] 25)) := bt (bt (below_new w _) (below_new _ _)) (below_new _ _)
  have hgy : w.heap.size ≤ w.heap.size + 1 + 1 := by omega
  go_enter Try.func21, Try.ntmps21
  go_wp2_with fail
  generalize (((w.alloc (.cells #[.int .i64 q.ls, .int .i64 q.la, .int .i64 q.hs, .int .i64 q.ha] 25)).alloc (.cells #[.int .i64 r.ls, .int .i64 r.la, .int .i64 r.hs, .int .i64 r.ha] 25)).alloc (.cells #[.int .i64 0, .int .i64 0, .int .i64 0, .int .i64 0] 25)) = X at *
  refine (HO.out _).mono ?_
  rintro e Y0 ⟨rfl, hB0⟩
  have HX := Lib.hid (HB.out.on hB0)
  have HR := Lib.hid (hR0.on hB0)
  have HL := Lib.hid (bt hL0 hB0)
  clear HB hR0 hL0 hB0 HO
  cases D with
  | false =>
    obtain ⟨⟨d1, d2, d3, d4⟩, e1, e2, e3, e4⟩ := Box4.zero HR.out
    obtain ⟨f1, f2, f3, f4⟩ := (box_put4 HR.out ⟨0, 0, 0, 0⟩).cells
    dsimp only at f1 f2 f3 f4
    have hL4 := (((HL.out.setCell (p := ⟨w.heap.size + 1 + 1, 0, none⟩) hgy (.int .i64 0)).setCell (p := ⟨w.heap.size + 1 + 1, 1, none⟩) hgy (.int .i64 0)).setCell (p := ⟨w.heap.size + 1 + 1, 2, none⟩) hgy (.int .i64 0)).setCell (p := ⟨w.heap.size + 1 + 1, 3, none⟩) hgy (.int .i64 0)
    go_wp2_with fail
    refine bodyPost_ret (v := .agg #[.int .i64 0, .int .i64 0, .int .i64 0, .int .i64 0]) (by simp [results, Try.results21, go_sem, f1, f2, f3, f4]) rfl ?_
    refine ⟨?_, hL4⟩
    rw [HZ.out.2 (by trivial)]
  | true =>
    obtain ⟨c1, c2, c3, c4, c5, c6, c7, c8⟩ := HX.out.cells
    go_wp2_with fail
    go_region_held3 (fun w' => w'.cell? ⟨w.heap.size, 0, none⟩ = some (.int .i64 q.ls) ∧ w'.cell? ⟨w.heap.size, 1, none⟩ = some (.int .i64 q.la) ∧ w'.cell? ⟨w.heap.size, 2, none⟩ = some (.int .i64 q.hs) ∧ w'.cell? ⟨w.heap.size, 3, none⟩ = some (.int .i64 q.ha) ∧
        w'.cell? ⟨w.heap.size + 1, 0, none⟩ = some (.int .i64 r.ls) ∧ w'.cell? ⟨w.heap.size + 1, 1, none⟩ = some (.int .i64 r.la) ∧ w'.cell? ⟨w.heap.size + 1, 2, none⟩ = some (.int .i64 r.hs) ∧ w'.cell? ⟨w.heap.size + 1, 3, none⟩ = some (.int .i64 r.ha))
      (with_reducible first
        | (focus (refine (HX.out.on ?_).cells; (repeat (first | assumption | exact Go.RowKit.Below.refl _ _ | refine bl_alloc _ ?_ | refine bl_drew ?_)); done))
        | exact ((HX.out.on hT2).put (by omega) (by omega) _ _ _ _).cells)
      (first
        | (go_at_call 46; (refine (HG.out _ _ (by first | exact heap_alloc_new _ _ | exact heap_alloc2_old _ _ _ | exact heap_alloc2_new _ _ _)).mono ?_); rintro e Y1 ⟨rfl, hB1⟩; have hT1 : Go.RowKit.Below Y0.heap.size Y0 Y1 := bt (by with_reducible repeat (first | exact Go.RowKit.Below.refl _ _ | refine bl_alloc _ ?_ | refine bl_drew ?_)) hB1; (try have hN2 := Lib.hid (box_on (o := .cells #[.int .i64 q.hs, .int .i64 q.ha, .int .i64 r.hs, .int .i64 r.ha] 23 (0, 0)) (by first | exact heap_alloc2_new _ _ _ | exact heap_alloc2_old _ _ _) hB1)); clear hB1)
        | (go_at_call 45; (refine (HH.out _ _ (by first | exact hN2.out | exact heap_alloc_new _ _)).mono ?_); rintro e Y2 ⟨rfl, hB2⟩; have hT2 : Go.RowKit.Below Y0.heap.size Y0 Y2 := bt (by with_reducible repeat (first | exact hT1 | refine bl_alloc _ ?_ | refine bl_drew ?_)) hB2; clear hB2; obtain ⟨⟨d1, d2, d3, d4⟩, e1, e2, e3, e4⟩ := Box4.zero (HR.out.on hT2)))
    all_goals
      obtain ⟨f1, f2, f3, f4⟩ := (box_put4 (HR.out.on hT2) ⟨x1, y1, x2, y2⟩).cells
      dsimp only at f1 f2 f3 f4
      have hL4 := ((((bt HL.out hT2).setCell (p := ⟨w.heap.size + 1 + 1, 0, none⟩) hgy (.int .i64 x1)).setCell (p := ⟨w.heap.size + 1 + 1, 1, none⟩) hgy (.int .i64 y1)).setCell (p := ⟨w.heap.size + 1 + 1, 2, none⟩) hgy (.int .i64 x2)).setCell (p := ⟨w.heap.size + 1 + 1, 3, none⟩) hgy (.int .i64 y2)
      go_wp2_with fail
      refine bodyPost_ret (v := .agg #[.int .i64 x1, .int .i64 y1, .int .i64 x2, .int .i64 y2]) (by simp [results, Try.results21, go_sem, f1, f2, f3, f4]) rfl ?_
      refine ⟨?_, hL4⟩
      rw [HZ.out.1 (by trivial)]
/-- Have two spans a number together? -/
def lapB (q r : S4) : Bool := q.right && r.right && decide (q.lo < r.hi) && decide (r.lo < q.hi)
/-- What Meet and Hull answer. -/
def meetS (q r : S4) : S4 := if lapB q r = true then sp (khigh q.lo r.lo, klow q.hi r.hi) else z4
def hullS (q r : S4) : S4 := if (q.right && r.right) = true then sp (klow q.lo r.lo, khigh q.hi r.hi) else z4
theorem smeet_any (q r : S4) (w : World) (hq : q.ok) (hr : r.ok) : Calls Try.prog 11 #[vS q, vS r] w fun e w' => e = .returned (.tuple #[vS (meetS q r), .bool (lapB q r)]) ∧ Go.RowKit.Below w.heap.size w w' :=
  smeet_core q r (meetS q r) (lapB q r) _ _ _ _ w (fun W => soverlap_any q r W hq hr) (fun W p h => great_b2 _ _ _ _ hq.1 hr.1 W p h) (fun W p h => least_b2 _ _ _ _ hq.2 hr.2 W p h)
    ⟨fun h => by unfold meetS; rw [if_pos h]; rfl, fun h => by unfold meetS; rw [if_neg (by rw [h]; decide)]⟩
theorem shull_any (q r : S4) (w : World) (hq : q.ok) (hr : r.ok) : Calls Try.prog 21 #[vS q, vS r] w fun e w' => e = .returned (vS (hullS q r)) ∧ Go.RowKit.Below w.heap.size w w' :=
  shull_core q r (hullS q r) (q.right && r.right) _ _ _ _ w (fun W => sboth_any q r W hq hr) (fun W p h => least_b2 _ _ _ _ hq.1 hr.1 W p h) (fun W p h => great_b2 _ _ _ _ hq.2 hr.2 W p h)
    ⟨fun h => by unfold hullS; rw [if_pos h]; rfl, fun h => by unfold hullS; rw [if_neg (by rw [h]; decide)]⟩
end Go.Proofs.Ytkokilbnhhmicaa

/- Two spans: what both have, what one has alone, and whether they touch, as rows of key pairs. -/
namespace Go.Proofs.Ytkokilbnhhmicaa.Bo
theorem rights_one (q : S4) : rights [q] = if q.right = true then [(q.lo, q.hi)] else [] := by
  unfold rights
  by_cases h : q.right = true <;> simp [h]
theorem cov_one (q : S4) (n : Int) : cov (rights [q]) n ↔ q.right = true ∧ q.lo ≤ n ∧ n < q.hi := by
  rw [rights_one]
  by_cases h : q.right = true
  · rw [if_pos h, cov_cons]
    exact ⟨fun a => by rcases a with a | a; exact ⟨h, a⟩; exact absurd a (cov_nil _), fun a => .inl a.2⟩
  · rw [if_neg h]
    exact ⟨fun a => absurd a (cov_nil _), fun a => absurd a.1 h⟩
theorem cov_sing (p : Int × Int) (n : Int) : cov [p] n ↔ p.1 ≤ n ∧ n < p.2 := by
  rw [cov_cons]
  exact ⟨fun a => by rcases a with a | a; exact a; exact absurd a (cov_nil _), .inl⟩
theorem cov_two (p r : Int × Int) (n : Int) : cov [p, r] n ↔ (p.1 ≤ n ∧ n < p.2) ∨ (r.1 ≤ n ∧ n < r.2) := by
  rw [cov_cons, cov_sing]
theorem norm_nil : Norm [] := ⟨by simp, List.Pairwise.nil⟩
theorem norm_sing (p : Int × Int) (h : p.1 < p.2) : Norm [p] := ⟨by simpa using h, List.pairwise_singleton ..⟩
theorem norm_two (p r : Int × Int) (h1 : p.1 < p.2) (h2 : r.1 < r.2) (h3 : p.2 < r.1) : Norm [p, r] := by
  refine ⟨?_, ?_⟩
  · intro x hx
    simp at hx
    rcases hx with rfl | rfl
    · exact h1
    · exact h2
  · simpa using h3
/-- The later of two beginnings, the earlier of two ends. -/
def mxk (a b : Int) : Int := if a < b then b else a
def mnk (a b : Int) : Int := if b < a then b else a
theorem mxk_le (a b n : Int) : mxk a b ≤ n ↔ a ≤ n ∧ b ≤ n := by unfold mxk; split <;> omega
theorem lt_mnk (a b n : Int) : n < mnk a b ↔ n < a ∧ n < b := by unfold mnk; split <;> omega
/-- What both have. -/
def meetL (q r : S4) : List (Int × Int) := if q.right = true ∧ r.right = true ∧ mxk q.lo r.lo < mnk q.hi r.hi then [(mxk q.lo r.lo, mnk q.hi r.hi)] else []
theorem meet_eq (q r : S4) (ps : List (Int × Int)) (hn : Norm ps) (hc : ∀ n, cov ps n ↔ cov (rights [q]) n ∧ cov (rights [r]) n) : ps = meetL q r := by
  unfold meetL
  split
  · next h =>
    refine norm_ext _ _ hn (norm_sing _ h.2.2) fun n => ?_
    rw [hc n, cov_one, cov_one, cov_sing]
    show _ ↔ mxk q.lo r.lo ≤ n ∧ n < mnk q.hi r.hi
    rw [mxk_le, lt_mnk]
    exact ⟨fun ⟨a, b⟩ => ⟨⟨a.2.1, b.2.1⟩, a.2.2, b.2.2⟩, fun ⟨a, b⟩ => ⟨⟨h.1, a.1, b.1⟩, h.2.1, a.2, b.2⟩⟩
  · next h =>
    refine norm_ext _ _ hn norm_nil fun n => ?_
    rw [hc n, cov_one, cov_one]
    refine ⟨fun ⟨a, b⟩ => absurd ⟨a.1, b.1, ?_⟩ h, fun a => absurd a (cov_nil _)⟩
    have h1 := (mxk_le q.lo r.lo n).2 ⟨a.2.1, b.2.1⟩
    have h2 := (lt_mnk q.hi r.hi n).2 ⟨a.2.2, b.2.2⟩
    omega
/-- What one has alone, of two right ones. -/
def minusL (q r : S4) : List (Int × Int) := (if q.lo < mnk q.hi r.lo then [(q.lo, mnk q.hi r.lo)] else []) ++ (if mxk q.lo r.hi < q.hi then [(mxk q.lo r.hi, q.hi)] else [])
theorem minusL_norm (q r : S4) (hr : r.right = true) : Norm (minusL q r) := by
  have h1 := (sp_of_right r hr).2
  have h2 : mnk q.hi r.lo < mxk q.lo r.hi := by unfold mnk mxk; split <;> split <;> omega
  unfold minusL
  by_cases a : q.lo < mnk q.hi r.lo <;> by_cases b : mxk q.lo r.hi < q.hi
  · rw [if_pos a, if_pos b]; exact norm_two _ _ a b h2
  · rw [if_pos a, if_neg b]; exact norm_sing _ a
  · rw [if_neg a, if_pos b]; exact norm_sing _ b
  · rw [if_neg a, if_neg b]; exact norm_nil
theorem minusL_cov (q r : S4) (n : Int) : cov (minusL q r) n ↔ (q.lo ≤ n ∧ n < q.hi) ∧ ¬ (r.lo ≤ n ∧ n < r.hi) := by
  unfold minusL
  rw [cov_append]
  have e1 : cov (if q.lo < mnk q.hi r.lo then [(q.lo, mnk q.hi r.lo)] else []) n ↔ q.lo ≤ n ∧ n < q.hi ∧ n < r.lo := by
    split
    · rw [cov_sing]; show q.lo ≤ n ∧ n < mnk q.hi r.lo ↔ _; rw [lt_mnk]
    · next h => exact ⟨fun a => absurd a (cov_nil _), fun ⟨a, b⟩ => absurd (by have := (lt_mnk q.hi r.lo n).2 b; omega) h⟩
  have e2 : cov (if mxk q.lo r.hi < q.hi then [(mxk q.lo r.hi, q.hi)] else []) n ↔ (q.lo ≤ n ∧ r.hi ≤ n) ∧ n < q.hi := by
    split
    · rw [cov_sing]; show mxk q.lo r.hi ≤ n ∧ n < q.hi ↔ _; rw [mxk_le]
    · next h => exact ⟨fun a => absurd a (cov_nil _), fun ⟨a, b⟩ => absurd (by have := (mxk_le q.lo r.hi n).2 a; omega) h⟩
  rw [e1, e2]
  omega
theorem minus_eq (q r : S4) (hq : q.right = true) (hr : r.right = true) (ps : List (Int × Int)) (hn : Norm ps) (hc : ∀ n, cov ps n ↔ cov (rights [q]) n ∧ ¬ cov (rights [r]) n) : ps = minusL q r := by
  refine norm_ext _ _ hn (minusL_norm q r hr) fun n => ?_
  rw [hc n, minusL_cov q r n, cov_one, cov_one]
  simp [hq, hr]
/-- One holds the other just where nothing of the other is alone. -/
theorem minus_none (q r : S4) (hq : q.right = true) (hr : r.right = true) : minusL q r = [] ↔ r.lo ≤ q.lo ∧ q.hi ≤ r.hi := by
  have h1 := (sp_of_right q hq).2
  have h2 := (sp_of_right r hr).2
  unfold minusL mnk mxk
  by_cases a : q.lo < (if r.lo < q.hi then r.lo else q.hi) <;> by_cases b : (if q.lo < r.hi then r.hi else q.lo) < q.hi <;> simp [a, b] <;> (repeat' split at a) <;> (repeat' split at b) <;> omega
/-- Two right ones that share nothing are one span just where one ends as the other begins. -/
theorem touch_iff (q r : S4) (hq : q.right = true) (hr : r.right = true) (hno : q.hi ≤ r.lo ∨ r.hi ≤ q.lo) (ps : List (Int × Int)) (hn : Norm ps) (hc : ∀ n, cov ps n ↔ cov (rights [q, r]) n) : ps.length = 1 ↔ q.hi = r.lo ∨ r.hi = q.lo := by
  have h1 := (sp_of_right q hq).2
  have h2 := (sp_of_right r hr).2
  have e : rights [q, r] = [(q.lo, q.hi), (r.lo, r.hi)] := by unfold rights; simp [hq, hr]
  rw [e] at hc
  have key : ∀ n, cov ps n ↔ (q.lo ≤ n ∧ n < q.hi) ∨ (r.lo ≤ n ∧ n < r.hi) := fun n => (hc n).trans (cov_two _ _ n)
  by_cases a : q.hi = r.lo
  · have : ps = [(q.lo, r.hi)] := norm_ext _ _ hn (norm_sing _ (by show q.lo < r.hi; omega)) fun n => by rw [key n, cov_sing]; show _ ↔ q.lo ≤ n ∧ n < r.hi; omega
    rw [this]; simp [a]
  · by_cases b : r.hi = q.lo
    · have : ps = [(r.lo, q.hi)] := norm_ext _ _ hn (norm_sing _ (by show r.lo < q.hi; omega)) fun n => by rw [key n, cov_sing]; show _ ↔ r.lo ≤ n ∧ n < q.hi; omega
      rw [this]; simp [b]
    · rcases hno with c | c
      · have : ps = [(q.lo, q.hi), (r.lo, r.hi)] := norm_ext _ _ hn (norm_two _ _ h1 h2 (by show q.hi < r.lo; omega)) fun n => by rw [key n, cov_two]
        rw [this]; simp [a, b]
      · have : ps = [(r.lo, r.hi), (q.lo, q.hi)] := norm_ext _ _ hn (norm_two _ _ h2 h1 (by show r.hi < q.lo; omega)) fun n => by rw [key n, cov_two]; exact or_comm
        rw [this]; simp [a, b]
end Go.Proofs.Ytkokilbnhhmicaa.Bo

/- Contracts of the reference's spans: Minus, Meet. -/
namespace Go.Proofs.Ytkokilbnhhmicaa
open Go.RowKit Go.Sort Go.Proofs.Ytkokilbnhhmicaa.Bo
set_option linter.unusedVariables false

/-- The cells of a row of spans. -/
def flatS (l : List S4) : List Value := l.flatMap fun q => [.int .i64 q.ls, .int .i64 q.la, .int .i64 q.hs, .int .i64 q.ha]
theorem flatS_cons (q : S4) (l : List S4) : flatS (q :: l) = .int .i64 q.ls :: .int .i64 q.la :: .int .i64 q.hs :: .int .i64 q.ha :: flatS l := rfl
theorem flatS_append (l m : List S4) : flatS (l ++ m) = flatS l ++ flatS m := by unfold flatS; rw [List.flatMap_append]
theorem flatS_len (l : List S4) : (flatS l).length = l.length * 4 := by
  induction l with
  | nil => rfl
  | cons a l ih => rw [flatS_cons]; simp only [List.length_cons, ih]; omega
theorem flatS_one (l : List S4) : ∀ u ∈ flatS l, u.oneCell' = true := by
  intro u hu
  unfold flatS at hu
  obtain ⟨q, _, h⟩ := List.mem_flatMap.1 hu
  exact one_four _ _ _ _ u h
theorem cells_news (w : World) (b : Nat) (l : List S4) : ∀ (off : Nat), (∀ (j : Nat) (h : j < l.length), Cells4 w b (off + j * 4) l[j]) → ∀ j u, (flatS l)[j]? = some u → w.cell? ⟨b, off + j, none⟩ = some u := by
  induction l with
  | nil => intro off _ j u h; simp [flatS] at h
  | cons q l ih =>
    intro off hc j u h
    have h0 : Cells4 w b off q := by have := hc 0 (by simp); simpa using this
    rw [flatS_cons] at h
    match j, h with
    | 0, h => simp at h; subst h; exact h0.1
    | 1, h => simp at h; subst h; exact h0.2.1
    | 2, h => simp at h; subst h; exact h0.2.2.1
    | 3, h => simp at h; subst h; exact h0.2.2.2
    | j + 4, h =>
      have := ih (off + 4) (fun i hi => by
        have h1 := hc (i + 1) (by simpa using hi)
        rw [show off + (i + 1) * 4 = off + 4 + i * 4 by omega] at h1
        simpa using h1) j u (by simpa using h)
      rw [show off + (j + 4) = off + 4 + j by omega]; exact this
theorem news_cells (w : World) (b : Nat) (l : List S4) : ∀ (off : Nat), (∀ j u, (flatS l)[j]? = some u → w.cell? ⟨b, off + j, none⟩ = some u) → ∀ (j : Nat) (h : j < l.length), Cells4 w b (off + j * 4) l[j] := by
  induction l with
  | nil => intro off _ j h; simp at h
  | cons q l ih =>
    intro off hc j h
    rw [flatS_cons] at hc
    cases j with
    | zero =>
      rw [Nat.zero_mul, Nat.add_zero]
      exact ⟨hc 0 _ (by simp), hc 1 _ (by simp), hc 2 _ (by simp), hc 3 _ (by simp)⟩
    | succ j =>
      have := ih (off + 4) (fun i u hi => by
        have h1 := hc (i + 4) u (by simpa using hi)
        rw [show off + (i + 4) = off + 4 + i by omega] at h1
        exact h1) j (by simpa using h)
      rw [show off + (j + 1) * 4 = off + 4 + j * 4 by omega]
      simpa using this
/-- A slice of spans of one's own reads as such. -/
theorem own_flatS {w : World} {base cap n : Nat} {a : Option Addr} {l : List S4} (h : w.ownsRow base 25 4 (.slice a n cap) n (flatS l)) (hn : n = l.length) : SRow w a l := by
  intro hp
  rcases h.2 with ⟨h1, h2⟩ | ⟨g, cap', cur, h1, hb, hh, hnc, hcm, hcs, htake⟩
  · omega
  · injection h1 with e1 e2 e3
    subst e1
    refine ⟨g, 0, rfl, news_cells w g l 0 fun j u hu => ?_⟩
    rw [Nat.zero_add]
    rw [← htake, List.getElem?_take] at hu
    by_cases hj : j < n * 4
    · rw [if_pos hj] at hu
      exact (cell_of_row _ _ _ _ _ _ hh).trans (by simpa using hu)
    · rw [if_neg hj] at hu; cases hu
/-- append of a row of spans, also of none. -/
theorem run_append_rows (w : World) (t ty e : TypeId) (base : Nat) (i : TypeInfo) (z : Value) (bytes : Nat) (ht : Try.prog.underlying t = some (.slice e)) (hi : Try.prog.info? e = some i) (hz : i.zero = some z)
    (hsize : i.size = 4) (hby : i.bytes = bytes) (hzs : z.cells.size = 4) (v : Value) (n : Nat) (xs : List Value) (hown : w.ownsRow base e 4 v n xs)
    (a : Option Addr) (c : Nat) (l : List S4) (hr : SRow w a l) (h63 : n + l.length ≤ maxLen) (hbytes : (n + l.length) * bytes ≤ 140737488355328) (hbase : base ≤ w.heap.size) :
    ∃ a' cap w', (Builtin.append_ #[t, t] ty #[v, .slice a l.length c]).run Try.prog w = .ok (.slice a' (n + l.length) cap) w' ∧
      w'.ownsRow base e 4 (.slice a' (n + l.length) cap) (n + l.length) (xs ++ flatS l) ∧ w.grownBy w' v.ownBlock := by
  rcases Nat.eq_zero_or_pos l.length with h0 | h0
  · obtain rfl : l = [] := List.length_eq_zero_iff.1 h0
    have hsrc : Src Try.prog i.size t (.slice a 0 c) 0 [] w := by
      cases a with
      | none => exact Src.ofNil w ht c
      | some ad => exact Src.ofSlice w ht ad 0 c [] (by simp) (by simp) (by simp)
    have key : ∀ base' cap', v = .slice base' n cap' → n ≤ cap' → (Builtin.append_ #[t, t] ty #[v, .slice a 0 c]).run Try.prog w = .ok (.slice base' n cap') w := by
      intro base' cap' hv hle
      rw [hv]
      exact run_append_nothing w t t ty e i ht hi base' n cap' hle _ hsrc
    have hxs : xs ++ flatS [] = xs := by simp [flatS]
    rw [hxs]
    rcases hown.2 with ⟨hv, hn⟩ | ⟨g, cap, cur, hv, r⟩
    · subst hn
      refine ⟨none, 0, w, key none 0 hv (Nat.le_refl _), ?_, World.grownBy.refl _ _⟩
      rw [hv] at hown; exact hown
    · refine ⟨some ⟨g, 0, none⟩, cap, w, key _ _ hv r.2.2.1, ?_, World.grownBy.refl _ _⟩
      rw [hv] at hown; exact hown
  · obtain ⟨b, off, rfl, hc⟩ := hr h0
    obtain ⟨g, cap, w', h1, h2, h3, _, _⟩ := run_append_lies (P := Try.prog) w t ty base e i z 4 bytes ht hi hz hsize hby hzs (by omega) v n xs hown ⟨b, off, none⟩ l.length c (flatS l) (flatS_len l) (fun j u hu => by
      have h4 := cells_news w b l off hc j u hu
      unfold Addr.add
      split
      · next e => subst e; exact h4
      · exact h4) (flatS_one l) h0 h63 hbytes hbase _ rfl
    exact ⟨_, cap, w', h1, h2, h3⟩
theorem wpList_append_rows {ops : Array Oper} {rest : List Oper} {o : Oper} {a : Act} {Q : Exit → Act → World → Prop} (w : World) (hgd : o.guard = none) (s x : Operand) (t : TypeId)
    (ho : o.op = .call { callee := .builtin .append, args := #[s, x], argTypes := #[t, t] })
    (base : Nat) (e : TypeId) (i : TypeInfo) (z : Value) (bytes : Nat) (ht : Try.prog.underlying t = some (.slice e)) (hi : Try.prog.info? e = some i) (hz : i.zero = some z)
    (hsize : i.size = 4) (hby : i.bytes = bytes) (hzs : z.cells.size = 4)
    (v : Value) (n : Nat) (xs : List Value) (hs : a.eval s = v) (hown : w.ownsRow base e 4 v n xs)
    (ax : Option Addr) (c : Nat) (l : List S4) (hx : a.eval x = .slice ax l.length c) (hr : SRow w ax l)
    (h63 : n + l.length ≤ maxLen) (hbytes : (n + l.length) * bytes ≤ 140737488355328) (hbase : base ≤ w.heap.size)
    (h : ∀ a' cap w', w'.ownsRow base e 4 (.slice a' (n + l.length) cap) (n + l.length) (xs ++ flatS l) → w.grownBy w' v.ownBlock → wpList Try.prog ops Q rest (a.put o.dst (.slice a' (n + l.length) cap)) w') : wpList Try.prog ops Q (o :: rest) a w := by
  refine wpList_plain hgd fun _ hK => ?_
  obtain ⟨a', cap, w', hr', h2, h3⟩ := run_append_rows w t o.type e base i z bytes ht hi hz hsize hby hzs v n xs hown ax c l hr h63 hbytes hbase
  unfold Oper.wp execOp
  simp only [ho, resolve, invoke, builtin, Sem.run_bind, Sem.run_pure, Result.andThen_ok, List.map_toArray, List.map_cons, List.map_nil, hs, hx, hr']
  exact hK _ _ (h a' cap w' h2 h3)
theorem rights_append (l m : List S4) : rights (l ++ m) = rights l ++ rights m := by unfold rights; rw [List.filter_append, List.map_append]

set_option maxRecDepth 100000 in
set_option maxHeartbeats 4000000 in
theorem rminus_any (a am : Option Addr) (cap0 capm : Nat) (l m : List S4) (w : World) (hz : ∀ q ∈ l, q.ok) (hzm : ∀ q ∈ m, q.ok) (hr : SRow w a l) (hrm : SRow w am m) (hl : l.length + m.length ≤ 25) :
    Calls Try.prog 14 #[.slice a l.length cap0, .slice am m.length capm] w (ListPost (fun n => cov (rights l) n ∧ ¬ cov (rights m) n) ((l.length + m.length) * 4) w) := by
  have mx := mixed
  obtain ⟨i0, hi, hz0, hz1, hz2⟩ := info_parts Try.infoSpan
  have HR := Lib.hid hr
  have HZ := Lib.hid hz
  have HRM := Lib.hid hrm
  have HZM := Lib.hid hzm
  have hB0 := below_new w (.cells #[] 25)
  have hO0 : (w.alloc (.cells #[] 25)).ownsRow w.heap.size 25 4 (.slice (some ⟨w.heap.size, 0, none⟩) 0 0) 0 [] := ⟨rfl, .inr ⟨w.heap.size, 0, #[], rfl, Nat.le_refl _, heap_alloc_new _ _, Nat.le_refl _, Nat.zero_le _, rfl, rfl⟩⟩
  have HA1 := Lib.hid (And.intro hO0 (HR.out.below hB0))
  clear hr hz hrm hzm hO0
  go_enter Try.func14, Try.ntmps14
  go_wp2_with (at_builtin; first
    | (refine wpList_append_rows _ rfl _ _ 26 rfl w.heap.size 25 i0 (.agg #[.int .i64 0, .int .i64 0, .int .i64 0, .int .i64 0]) 32 Try.underlying26 hi hz0 hz1 hz2 rfl _ 0 [] (by rfl) HA1.out.1 a cap0 l (by rfl) HA1.out.2 (by unfold maxLen; omega) (by omega) (by simp) ?_; intro a1 cap1 w1 hown1 hgrow1; rw [Nat.zero_add, List.nil_append] at hown1; have hB1 : Go.RowKit.Below w.heap.size w w1 := hB0.grown hgrow1 (by simp) (fun k hk => (HA1.out.1.lt k hk).1); have HA2 := Lib.hid (And.intro hown1 (HRM.out.below hB1)); have hsz1 := hB1.size; clear hown1 hgrow1 hB0)
    | (refine wpList_append_rows _ rfl _ _ 26 rfl w.heap.size 25 i0 (.agg #[.int .i64 0, .int .i64 0, .int .i64 0, .int .i64 0]) 32 Try.underlying26 hi hz0 hz1 hz2 rfl _ l.length (flatS l) (by rfl) HA2.out.1 am capm m (by rfl) HA2.out.2 (by unfold maxLen; omega) (by omega) hsz1 ?_; intro a2 cap2 w2 hown2 hgrow2; have hB2 : Go.RowKit.Below w.heap.size w w2 := hB1.grown hgrow2 hsz1 (fun k hk => (HA2.out.1.lt k hk).1); have HA3 := Lib.hid hown2; clear hown2 hgrow2))
  have hrow2 : SRow w2 a2 (l ++ m) := own_flatS (by have h := HA3.out; rw [← flatS_append] at h; exact h) (by simp)
  have hzz : ∀ q ∈ l ++ m, q.ok := by
    intro q hq
    rcases List.mem_append.1 hq with h | h
    · exact HZ.out q h
    · exact HZM.out q h
  have HCU := Lib.hid (rcuts_any a2 cap2 (l ++ m) w2 hzz hrow2 (by simp; omega))
  rw [List.length_append] at HCU
  have HZZ := Lib.hid hzz
  clear hrow2 hzz HA1 HA2 HA3
  refine HCU.out.mono ?_
  rintro e y ⟨ac, capc, ks, ⟨rfl, hup, hmem, hrow⟩, hBy0⟩
  have hBy := bt hB2 hBy0
  have HUP := Lib.hid hup
  have HK := Lib.hid hrow
  have HKY : Hid (∀ k ∈ ks, Ky k) := by
    intro k hk
    obtain ⟨p, hp, e⟩ := (keysOf_mem _ _).1 ((hmem k).1 hk)
    have := rights_ky (l ++ m) HZZ.out p hp
    rcases e with rfl | rfl
    · exact this.1
    · exact this.2
  have hnm : Named (rights (l ++ m)) ks := fun p hp => ⟨(hmem _).2 ((keysOf_mem _ _).2 ⟨p, hp, .inl rfl⟩), (hmem _).2 ((keysOf_mem _ _).2 ⟨p, hp, .inr rfl⟩)⟩
  rw [rights_append] at hnm
  have HNL : Hid (Named (rights l) ks) := fun p hp => hnm p (List.mem_append_left _ hp)
  have HNR : Hid (Named (rights m) ks) := fun p hp => hnm p (List.mem_append_right _ hp)
  have hkl : ks.length ≤ (l.length + m.length) * 2 := by
    have h1 := up_len ks _ hup (fun x hx => (hmem x).1 hx)
    rw [keysOf_len] at h1
    have := rights_len (l ++ m)
    rw [List.length_append] at this
    omega
  have HA := Lib.hid (fun n (hn : I64 n) W (hW : SRow W a l) => rany_any a cap0 l n W HZ.out hn hW (by omega))
  have HAM := Lib.hid (fun n (hn : I64 n) W (hW : SRow W am m) => rany_any am capm m n W HZM.out hn hW (by omega))
  have HSR := Lib.hid (HR.out.below hBy)
  have HSM := Lib.hid (HRM.out.below hBy)
  clear hup hmem hrow HCU hnm hB1 hB2 hBy0 HR HRM
  go_wp2_with fail
  go_loopw [7, 8] (fun s i wr => ∃ (j cap : Nat) (a3 : Option Addr) (ps : List (Int × Int)), i = .int .i64 (j : Int) ∧ s = .slice a3 ps.length cap ∧ j ≤ ks.length - 1 ∧ ps.length ≤ j ∧ Upto (fun n => cov (rights l) n ∧ ¬ cov (rights m) n) ks (ks.getD j 0) ps ∧ wr.ownsRow y.heap.size 25 4 (.slice a3 ps.length cap) ps.length (flatL (keysOf ps)) ∧ Go.RowKit.Below y.heap.size y wr) (fun _ i _ => ks.length - (intOf i).toNat)
  case atStart =>
    refine ⟨0, 0, none, [], rfl, rfl, Nat.zero_le _, Nat.le_refl _, upto_nil _ _ _ ?_, ⟨rfl, .inl ⟨rfl, rfl⟩⟩, Go.RowKit.Below.refl _ _⟩
    rintro n ⟨hn, _⟩
    obtain ⟨h0, h1⟩ := cov_first _ _ HUP.out HNL.out n hn
    rw [List.getD_eq_getElem?_getD, List.getElem?_eq_getElem h0]; exact h1
  case round =>
    obtain ⟨j, cap, a3, ps, rfl, rfl, hj, hpl, hup, hown, hBr⟩ := hrel
    have HO := Lib.hid hown
    have HU := Lib.hid hup
    clear hown hup
    by_cases hlt : j + 1 < ks.length
    · have hjl : j < ks.length := by omega
      have hbw0 : ∀ b off, ac = some ⟨b, off, none⟩ → b < y.heap.size := by
        intro b off e
        obtain ⟨b', off', e', hc'⟩ := HK.out (by omega)
        rw [e] at e'
        injection e' with e'
        injection e' with e1 e2
        subst e1
        exact World.block_lt_of_cell? y _ (hc' j hjl).1
      obtain ⟨b, off, rfl, hcell⟩ := (HK.out.below hBr) (by omega)
      have hbw := hbw0 b off rfl
      clear hbw0
      have HC1 := Lib.hid (hcell j hjl)
      have HC2 := Lib.hid (hcell (j + 1) hlt)
      have HKK : Hid (Ky ks[j] ∧ Ky ks[j + 1]) := ⟨HKY.out _ (List.getElem_mem _), HKY.out _ (List.getElem_mem _)⟩
      have HLT := Lib.hid (up_lt ks HUP.out j (j + 1) hlt (by omega))
      have HPC : Hid (∀ n, ks[j] ≤ n → n < ks[j + 1] → ((cov (rights l) n ∧ ¬ cov (rights m) n) ↔ (cov (rights l) ks[j] ∧ ¬ cov (rights m) ks[j]))) := by
        intro n h1 h2
        rw [cov_piece (rights l) ks HUP.out HNL.out j hlt n h1 h2, cov_piece (rights m) ks HUP.out HNR.out j hlt n h1 h2]
      have HM : Hid (ks[j] ∈ ks ∧ ks[j + 1] ∈ ks) := ⟨List.getElem_mem _, List.getElem_mem _⟩
      have hg1 : ks.getD j 0 = ks[j] := by rw [List.getD_eq_getElem?_getD, List.getElem?_eq_getElem hjl]; rfl
      obtain ⟨k', HG2⟩ : ∃ k', Hid (ks.getD (j + 1) 0 = k' ∧ ks[j + 1] = k') := ⟨ks[j + 1], by rw [List.getD_eq_getElem?_getD, List.getElem?_eq_getElem hlt]; rfl, rfl⟩
      rw [hg1] at HU
      rw [HG2.out.2] at HC2 HKK HLT HPC HM
      clear hcell hg1
      generalize ks[j] = k at *
      have HI : Hid (I64 k) := by have h1 := HKK.out; have h2 := HLT.out; unfold Ky at h1; unfold I64; show _ ∧ _; omega
      have HNX := Lib.hid (fun W => rnext_any (sd k) (pa k) W (pa_i64 k HKK.out.1))
      rw [key_back k HKK.out.1, (nx_in k (by have h1 := HKK.out; have h2 := HLT.out; unfold Ky at h1; omega)).1, (nx_in k (by have h1 := HKK.out; have h2 := HLT.out; unfold Ky at h1; omega)).2] at HNX
      have HAN := Lib.hid (fun W (hW : SRow W a l) => HA.out k HI.out W hW)
      have HAN2 := Lib.hid (fun W (hW : SRow W am m) => HAM.out k HI.out W hW)
      obtain ⟨D, hD⟩ : ∃ D, (l.any fun q => q.has k) = D := ⟨_, rfl⟩
      have HD : Hid (D = true ↔ cov (rights l) k) := by rw [← hD]; exact has_cov l k
      obtain ⟨E, hE⟩ : ∃ E, (m.any fun q => q.has k) = E := ⟨_, rfl⟩
      have HE : Hid (E = true ↔ cov (rights m) k) := by rw [← hE]; exact has_cov m k
      rw [hD] at HAN
      rw [hE] at HAN2
      obtain ⟨s1, HS1⟩ : ∃ s1, Hid (sd k = s1) := ⟨_, rfl⟩
      obtain ⟨p1, HP1⟩ : ∃ p1, Hid (pa k = p1) := ⟨_, rfl⟩
      obtain ⟨s2, HS2⟩ : ∃ s2, Hid (sd k' = s2) := ⟨_, rfl⟩
      obtain ⟨p2, HP2⟩ : ∃ p2, Hid (pa k' = p2) := ⟨_, rfl⟩
      rw [HS1.out, HP1.out] at HNX HC1
      rw [HS2.out, HP2.out] at HC2
      obtain ⟨c1, c2⟩ := HC1.out
      clear hD hE
      go_wp2_with fail
      refine (HNX.out _).mono ?_
      rintro e x1 ⟨rfl, hB1⟩
      have hL1 := bt hBr hB1
      have HSR1 := Lib.hid (HSR.out.below hL1)
      have HO1 := Lib.hid (own_on HO.out hB1)
      clear c1 c2
      go_wp2_with fail
      cases D with
      | false =>
        refine (HAN.out _ HSR1.out).mono ?_
        rintro e x2 ⟨rfl, hB2⟩
        have hL2 := bt hL1 hB2
        have HO2 := Lib.hid (own_on HO1.out hB2)
        go_wp2_with fail
        go_roundw
        case rel => exact ⟨j + 1, cap, a3, ps, by go_num, rfl, by omega, by omega, by rw [HG2.out.1]; exact HU.out.skip HLT.out (fun n h1 h2 => HPC.out n h1 h2) (fun h => by have := HD.out.2 h.1; cases this), HO2.out, hL2⟩
        case measure => simp [intOf]; omega
      | true =>
        refine (HAN.out _ HSR1.out).mono ?_
        rintro e x2 ⟨rfl, hB2⟩
        have hL2 := bt hL1 hB2
        have HO2 := Lib.hid (own_on HO1.out hB2)
        have HSM2 := Lib.hid (HSM.out.below hL2)
        go_wp2_with fail
        cases E with
        | true =>
          refine (HAN2.out _ HSM2.out).mono ?_
          rintro e x3 ⟨rfl, hB3⟩
          have hL3 := bt hL2 hB3
          have HO3 := Lib.hid (own_on HO2.out hB3)
          go_wp2_with fail
          go_roundw
          case rel => exact ⟨j + 1, cap, a3, ps, by go_num, rfl, by omega, by omega, by rw [HG2.out.1]; exact HU.out.skip HLT.out (fun n h1 h2 => HPC.out n h1 h2) (fun h => h.2 (HE.out.1 (by trivial))), HO3.out, hL3⟩
          case measure => simp [intOf]; omega
        | false =>
          refine (HAN2.out _ HSM2.out).mono ?_
          rintro e X ⟨rfl, hB3⟩
          have hL3 := bt hL2 hB3
          have HO3 := Lib.hid (own_on HO2.out hB3)
          have hB4 := bt (bt hB1 hB2) hB3
          have HF1 := Lib.hid (HC1.out.below hB4)
          have HF2 := Lib.hid (HC2.out.below hB4)
          have HYES : Hid (cov (rights l) k ∧ ¬ cov (rights m) k) := ⟨HD.out.1 (by trivial), fun h => by have := HE.out.2 h; cases this⟩
          clear hB1 hB2 hB3 hB4 HO1 HO2 HC1 HC2 hL1 hL2 hBr HO
          go_wp2_with fail
          have hps : ps.length ≤ 200 := by omega
          have ti0 : (0 : Int) ≤ (j : Int) := by omega
          have ti1 : (j : Int) < (ks.length : Int) := by omega
          have ti2 : (0 : Int) ≤ (j : Int) + 1 := by omega
          have ti3 : (j : Int) + 1 < (ks.length : Int) := by omega
          have wj : IntKind.i64.wrap ((j : Int) + 1) = (j : Int) + 1 := IntWalk.i64_in _ (by omega)
          have hO4 := (HO3.out.alloc (.cells #[.int .i64 s1, .int .i64 p1, .int .i64 s2, .int .i64 p2] 25)).drew
          have hG1 : CellsAt (X.alloc (.cells #[.int .i64 s1, .int .i64 p1, .int .i64 s2, .int .i64 p2] 25)).drew b (off + j * 2) s1 p1 := (HF1.out.below (below_new X _)).below (Go.RowKit.Below.refl _ _).drew
          have hG2 : CellsAt (X.alloc (.cells #[.int .i64 s1, .int .i64 p1, .int .i64 s2, .int .i64 p2] 25)).drew b (off + (j + 1) * 2) s2 p2 := (HF2.out.below (below_new X _)).below (Go.RowKit.Below.refl _ _).drew
          have hL4 := (bt hL3 (below_new X (.cells #[.int .i64 s1, .int .i64 p1, .int .i64 s2, .int .i64 p2] 25))).drew
          have hsx := hL3.size
          have HNE : Hid (some b ≠ (Value.slice a3 ps.length cap).ownBlock) := by
            intro e1
            have := (HO3.out.lt b e1.symm).1
            omega
          obtain ⟨f1, f2⟩ := HF1.out
          obtain ⟨f3, f4⟩ := HF2.out
          go_region_held3 (fun w' => w'.cell? ⟨b, off + j * 2, none⟩ = some (.int .i64 s1) ∧ w'.cell? ⟨b, off + j * 2 + 1, none⟩ = some (.int .i64 p1) ∧ w'.cell? ⟨b, off + (j + 1) * 2, none⟩ = some (.int .i64 s2) ∧ w'.cell? ⟨b, off + (j + 1) * 2 + 1, none⟩ = some (.int .i64 p2))
            (first | exact ⟨hH1.out.1, hH1.out.2, hH2.out.1, hH2.out.2⟩ | exact ⟨hG1.1, hG1.2, hG2.1, hG2.2⟩ | go_keep)
            ((refine step_append_lies _ (by rfl) _ _ _ (by rfl) y.heap.size 25 i0 (.agg #[.int .i64 0, .int .i64 0, .int .i64 0, .int .i64 0]) 4 32 Try.underlying26 hi hz0 hz1 hz2 rfl (by omega) (.slice a3 ps.length cap) ps.length (flatL (keysOf ps)) (by rfl) hO4 ⟨X.heap.size, 0, none⟩ 1 1 [.int .i64 s1, .int .i64 p1, .int .i64 s2, .int .i64 p2] (by rfl) (by rfl) (World.news_of_block (cs := #[.int .i64 s1, .int .i64 p1, .int .i64 s2, .int .i64 p2]) (t := 25) (fr := (0, 0)) (heap_alloc_new X _)) (one_four _ _ _ _) (by omega) (by unfold maxLen; omega) (by omega) (by simp; omega) (X.heap.size + 1) (by simp) ?_; intro g2 cap2 w1 hown1 hgrow1 hat1 hlt1; have hH1 := Lib.hid (hG1.far hgrow1 HNE.out); have hH2 := Lib.hid (hG2.far hgrow1 HNE.out); have HO5 := Lib.hid hown1; have hL5 : Go.RowKit.Below y.heap.size y w1 := hL4.grown hgrow1 (by simp; omega) (fun k hk => (hO4.lt k hk).1); clear hgrow1 hown1))
          go_wp2_with fail
          have hfl : flatL (keysOf (ps ++ [(k, k')])) = flatL (keysOf ps) ++ [.int .i64 s1, .int .i64 p1, .int .i64 s2, .int .i64 p2] := by
            rw [keysOf_snoc, flatL_two, HS1.out, HP1.out, HS2.out, HP2.out]
          have hln5 : (ps ++ [(k, k')]).length = ps.length + 1 := by simp
          go_roundw
          case rel => exact ⟨j + 1, cap2, some ⟨g2, 0, none⟩, ps ++ [(k, k')], by go_num, by rw [hln5], by omega, by rw [hln5]; omega, by rw [HG2.out.1]; exact HU.out.put HLT.out (fun n h1 h2 => HPC.out n h1 h2) HYES.out HM.out.1 HM.out.2, by rw [hfl, hln5]; exact HO5.out, hL5⟩
          case measure => simp [intOf]; omega
    · have hje : j = ks.length - 1 := by omega
      have HKP : Hid (∀ p ∈ ps, p.1 < p.2 ∧ Ky p.1 ∧ Ky p.2) := fun p hp => ⟨HU.out.lt p hp, HKY.out _ (HU.out.named p hp).1, HKY.out _ (HU.out.named p hp).2⟩
      have HLI := Lib.hid (rlist_any a3 cap (ps.map sp) wr (by
        intro q hq
        obtain ⟨p, hp, rfl⟩ := List.mem_map.1 hq
        exact sp_ok p (HKP.out p hp).2.1 (HKP.out p hp).2.2) (own_srow HO.out rfl) (by rw [List.length_map]; omega))
      rw [rights_sp ps HKP.out, List.length_map] at HLI
      go_wp2_with fail
      refine HLI.out.mono ?_
      rintro e z ⟨a4, cap4, ps4, ⟨rfl, hn4, hc4, hk4, hl4, hr4⟩, hB4⟩
      have HF := Lib.hid (And.intro hn4 (And.intro hc4 (And.intro hk4 hr4)))
      clear hn4 hc4 hk4 hr4 HLI
      go_wp2_with fail
      go_ret
      refine ⟨a4, cap4, ps4, ⟨rfl, HF.out.1, fun n => ?_, HF.out.2.2.1, by omega, HF.out.2.2.2⟩, bt (bt hBy hBr) hB4⟩
      rw [HF.out.2.1 n, HU.out.cov n]
      refine ⟨fun h => h.1, fun h => ⟨h, ?_⟩⟩
      obtain ⟨h0, h1⟩ := cov_last _ _ HUP.out HNL.out n h.1
      rw [hje, List.getD_eq_getElem?_getD, List.getElem?_eq_getElem h0]; exact h1

theorem rmeet_any (a am : Option Addr) (cap0 capm : Nat) (l m : List S4) (w : World) (hz : ∀ q ∈ l, q.ok) (hzm : ∀ q ∈ m, q.ok) (hr : SRow w a l) (hrm : SRow w am m) (hl : l.length * 5 + m.length * 4 ≤ 25) :
    Calls Try.prog 9 #[.slice a l.length cap0, .slice am m.length capm] w (ListPost (fun n => cov (rights l) n ∧ cov (rights m) n) ((l.length * 5 + m.length * 4) * 4) w) := by
  have HM := Lib.hid (rminus_any a am cap0 capm l m w hz hzm hr hrm (by omega))
  have HR := Lib.hid hr
  have HZ := Lib.hid hz
  clear hr hz
  go_enter Try.func9, Try.ntmps9
  go_wp2_with fail
  refine HM.out.mono ?_
  rintro e x ⟨a1, cap1, ps, ⟨rfl, hn, hc, hk, hln, hrow⟩, hB⟩
  have HN := Lib.hid hn
  have HC := Lib.hid hc
  have HK := Lib.hid hk
  have HM2 := Lib.hid (rminus_any a a1 cap0 cap1 l (ps.map sp) x HZ.out (by
    intro q hq
    obtain ⟨p, hp, rfl⟩ := List.mem_map.1 hq
    exact sp_ok p (hk p hp).1 (hk p hp).2) (HR.out.below hB) hrow (by rw [List.length_map]; omega))
  rw [List.length_map, rights_sp ps (fun p hp => ⟨hn.1 p hp, hk p hp⟩)] at HM2
  clear hn hc hk hrow HM
  go_wp2_with fail
  refine HM2.out.mono ?_
  rintro e z ⟨a2, cap2, rs, ⟨rfl, hn2, hc2, hk2, hln2, hrow2⟩, hB2⟩
  have HF := Lib.hid (And.intro hn2 (And.intro hc2 (And.intro hk2 hrow2)))
  clear hn2 hc2 hk2 hrow2 HM2
  go_wp2_with fail
  go_ret
  refine ⟨a2, cap2, rs, ⟨rfl, HF.out.1, fun n => ?_, HF.out.2.2.1, by omega, HF.out.2.2.2⟩, bt hB hB2⟩
  rw [HF.out.2.1 n, HC.out n]
  constructor
  · rintro ⟨h1, h2⟩
    refine ⟨h1, Classical.byContradiction fun h3 => h2 ⟨h1, h3⟩⟩
  · rintro ⟨h1, h2⟩
    exact ⟨h1, fun h => h.2 h2⟩
end Go.Proofs.Ytkokilbnhhmicaa

/- A cell that holds a row of spans of one's own; the closures of span.Minus and its contract. -/
namespace Go.Proofs.Ytkokilbnhhmicaa
open Go.RowKit Go.Sort Go.Proofs.Ytkokilbnhhmicaa.Bo
set_option linter.unusedVariables false

/-- The block P holds a slice of n spans, those of ps, in memory made behind X. -/
structure RowCell (X : World) (P n : Nat) (ps : List (Int × Int)) (a : Option Addr) (cap : Nat) (W : World) : Prop where
  len : n = ps.length
  cell : W.heap[P]? = some (.cells #[.slice a n cap] 26 (0, 0))
  own : W.ownsRow X.heap.size 25 4 (.slice a n cap) n (flatL (keysOf ps))
  below : Go.RowKit.Below X.heap.size X W
  le : X.heap.size ≤ P
theorem RowCell.on {X : World} {P n : Nat} {ps : List (Int × Int)} {a : Option Addr} {cap : Nat} {W W' : World} (h : RowCell X P n ps a cap W) (hb : Go.RowKit.Below W.heap.size W W') : RowCell X P n ps a cap W' :=
  ⟨h.len, box_on h.cell hb, own_on h.own hb, bt h.below hb, h.le⟩
theorem RowCell.got {X : World} {P n : Nat} {ps : List (Int × Int)} {a : Option Addr} {cap : Nat} {W : World} (h : RowCell X P n ps a cap W) : W.cell? ⟨P, 0, none⟩ = some (.slice a n cap) ∧ W.frozen? ⟨P, 0, none⟩ = false :=
  ⟨(cell_of_row _ _ 0 _ _ _ h.cell).trans rfl, frozen_of_row _ _ 0 _ _ h.cell⟩
theorem own_not {W : World} {B P n cap : Nat} {a : Option Addr} {v : Value} {xs : List Value} (hc : W.heap[P]? = some (.cells #[v] 26 (0, 0))) (ho : W.ownsRow B 25 4 (.slice a n cap) n xs) : ∀ k, (Value.slice a n cap).ownBlock = some k → k ≠ P := by
  intro k hk e
  subst e
  rcases ho.2 with ⟨h1, _⟩ | ⟨g, cap', cur, h1, hb, hh, r⟩
  · injection h1 with e1 _ _
    subst e1
    cases hk
  · injection h1 with e1 _ _
    subst e1
    injection hk with hk
    subst hk
    rw [hh] at hc
    injection hc with hc
    injection hc with _ hc _
    exact absurd hc (by decide)
/-- Behind an append, and a store into the cell. -/
theorem RowCell.app {X : World} {P n : Nat} {ps : List (Int × Int)} {a : Option Addr} {cap g2 cap2 : Nat} {W w1 : World} {k l : Int} (h : RowCell X P n ps a cap W) (hg : W.grownBy w1 (Value.slice a n cap).ownBlock)
    (ho : w1.ownsRow X.heap.size 25 4 (.slice (some ⟨g2, 0, none⟩) (n + 1) cap2) (n + 1) (flatL (keysOf ps) ++ [.int .i64 (sd k), .int .i64 (pa k), .int .i64 (sd l), .int .i64 (pa l)])) :
    (w1.cell? ⟨P, 0, none⟩ = some (.slice a n cap) ∧ w1.frozen? ⟨P, 0, none⟩ = false) ∧
    RowCell X P (n + 1) (ps ++ [(k, l)]) (some ⟨g2, 0, none⟩) cap2 (w1.setCell ⟨P, 0, none⟩ (.slice (some ⟨g2, 0, none⟩) (n + 1) cap2)) := by
  have hne := own_not h.cell h.own
  have hP : w1.heap[P]? = some (.cells #[.slice a n cap] 26 (0, 0)) := (hg.block P (lt_of_block h.cell) (fun e => hne P e.symm rfl)).trans h.cell
  refine ⟨⟨(cell_of_row _ _ 0 _ _ _ hP).trans rfl, frozen_of_row _ _ 0 _ _ hP⟩, by rw [List.length_append, h.len]; rfl, heap_setCell_same _ _ _ _ _ _ hP, ?_, ?_, h.le⟩
  · rw [keysOf_snoc, flatL_two]
    exact own_far ho P 0 _ (own_not hP ho)
  · exact (h.below.grown hg h.below.size (fun k hk => (h.own.lt k hk).1)).setCell h.le _

/-- What a closure that puts leaves. -/
def PutPost (X : World) (P : Nat) (qs : List (Int × Int)) (e : Ending) (w' : World) : Prop := e = .returned (.tuple #[]) ∧ ∃ n a cap, RowCell X P n qs a cap w'
def putL (ps : List (Int × Int)) (k l : Int) : List (Int × Int) := if k < l then ps ++ [(k, l)] else ps

set_option maxRecDepth 100000 in
set_option maxHeartbeats 2000000 in
theorem sput_any (X : World) (P n cap : Nat) (ps : List (Int × Int)) (a : Option Addr) (s x t y : Int) (W : World) (hx : I64 x) (hy : I64 y) (h : RowCell X P n ps a cap W) (hn : n ≤ 100) :
    Calls Try.prog 54 #[.agg #[.int .i64 s, .int .i64 x], .agg #[.int .i64 t, .int .i64 y], .pointer (some ⟨P, 0, none⟩)] W (PutPost X P (putL ps (key s x) (key t y))) := by
  obtain ⟨i0, hi, hz0, hz1, hz2⟩ := info_parts Try.infoSpan
  have HOF := Lib.hid (fun W => sof_any s x t y W hx hy)
  generalize key s x = k at *
  generalize key t y = l at *
  have hZ : (k < l → ofS k l = sp (k, l) ∧ ofE k l = 0) ∧ (l ≤ k → ofE k l = 30) := by
    unfold ofS ofE
    exact ⟨fun h => by rw [if_pos h, if_pos h]; exact ⟨rfl, rfl⟩, fun h => by rw [if_neg (by omega)]⟩
  have HZ := Lib.hid hZ
  generalize ofS k l = Z at *
  generalize ofE k l = E at *
  have H1 := Lib.hid ((h.on (below_new W (.cells #[.int .i64 s, .int .i64 x] 23))).on (below_new _ (.cells #[.int .i64 t, .int .i64 y] 23)))
  clear h hx hy hZ
  go_enter Try.func54, Try.ntmps54
  go_wp2_with fail
  refine (HOF.out _).mono ?_
  rintro e Y1 ⟨rfl, hB1⟩
  have H2 := Lib.hid (H1.out.on hB1)
  have H3 := Lib.hid (H2.out.on (below_new Y1 (.cells #[.int .i64 Z.ls, .int .i64 Z.la, .int .i64 Z.hs, .int .i64 Z.ha] 25)))
  have H4 := Lib.hid (H3.out.on (below_new _ (.cells #[.int .i64 Z.ls, .int .i64 Z.la, .int .i64 Z.hs, .int .i64 Z.ha] 25)))
  clear H1 hB1
  obtain ⟨c1, c2⟩ := H2.out.got
  obtain ⟨c3, c4⟩ := H3.out.got
  rcases Int.lt_or_le k l with hkl | hkl
  · obtain ⟨rfl, rfl⟩ := HZ.out.1 hkl
    have hsz := H4.out.below.size
    go_wp2_with (at_builtin; refine wpList_append_lies _ rfl _ _ 26 rfl X.heap.size 25 i0 (.agg #[.int .i64 0, .int .i64 0, .int .i64 0, .int .i64 0]) 4 32 Try.underlying26 hi hz0 hz1 hz2 rfl (by decide) _ n (flatL (keysOf ps)) (by rfl) H4.out.own ⟨Y1.heap.size + 1, 0, none⟩ 1 1 [.int .i64 (sd k), .int .i64 (pa k), .int .i64 (sd l), .int .i64 (pa l)] (by rfl) rfl (World.news_of_block (heap_alloc2_new Y1 _ _)) (one_four _ _ _ _) (by decide) (by unfold maxLen; omega) (by omega) hsz _ rfl ?_; intro g2 cap2 w1 hown1 hgrow1 hat1 hlt1; obtain ⟨⟨f1, f2⟩, H5⟩ := H4.out.app hgrow1 hown1; have H6 := Lib.hid H5; clear hown1 hgrow1 H5)
    go_end0
    refine ⟨rfl, n + 1, some ⟨g2, 0, none⟩, cap2, ?_⟩
    unfold putL
    rw [if_pos hkl]
    exact H6.out
  · obtain rfl := HZ.out.2 hkl
    go_wp2_with fail
    go_end0
    refine ⟨rfl, n, a, cap, ?_⟩
    unfold putL
    rw [if_neg (by omega)]
    exact H3.out
/-- What a function that answers a row of spans leaves. -/
def RowPost (ps : List (Int × Int)) (w : World) (e : Ending) (w' : World) : Prop := ∃ (a : Option Addr) (cap : Nat), (e = .returned (.slice a ps.length cap) ∧ SRow w' a (ps.map sp)) ∧ Go.RowKit.Below w.heap.size w w'
/-- What a function that answers a row of spans of its own making leaves. -/
def OwnPost (ps : List (Int × Int)) (w : World) (e : Ending) (w' : World) : Prop := ∃ (a : Option Addr) (cap : Nat), (e = .returned (.slice a ps.length cap) ∧ w'.ownsRow w.heap.size 25 4 (.slice a ps.length cap) ps.length (flatL (keysOf ps))) ∧ Go.RowKit.Below w.heap.size w w'
theorem OwnPost.row {ps : List (Int × Int)} {w : World} {e : Ending} {w' : World} (h : OwnPost ps w e w') : RowPost ps w e w' := by
  obtain ⟨a, cap, ⟨h1, h2⟩, h3⟩ := h
  exact ⟨a, cap, ⟨h1, own_srow h2 rfl⟩, h3⟩
theorem own_low {W : World} {b b' n size : Nat} {e : TypeId} {v : Value} {xs : List Value} (h : W.ownsRow b e size v n xs) (hb : b' ≤ b) : W.ownsRow b' e size v n xs := by
  obtain ⟨h1, h2⟩ := h
  refine ⟨h1, ?_⟩
  rcases h2 with h2 | ⟨g, cap', cur, hv, hg, r⟩
  · exact .inl h2
  · exact .inr ⟨g, cap', cur, hv, Nat.le_trans hb hg, r⟩
/-- What one has alone. -/
def minusF (q r : S4) : List (Int × Int) := if (q.right && r.right) = true then minusL q r else []
theorem minusL_put (q r : S4) : putL (putL [] q.lo (klow q.hi r.lo)) (khigh q.lo r.hi) q.hi = minusL q r := by
  unfold minusL putL
  rw [show klow q.hi r.lo = mnk q.hi r.lo from rfl, show khigh q.lo r.hi = mxk q.lo r.hi from rfl]
  split <;> split <;> simp
theorem klow_ky (k l : Int) (hk : Ky k) (hl : Ky l) : Ky (klow k l) := by unfold klow; split <;> assumption
theorem khigh_ky (k l : Int) (hk : Ky k) (hl : Ky l) : Ky (khigh k l) := by unfold khigh; split <;> assumption

set_option maxRecDepth 100000 in
set_option maxHeartbeats 4000000 in
theorem sminus_core (q r : S4) (R : Bool) (x1 y1 x2 y2 : Int) (ps1 ps2 ps3 : List (Int × Int)) (w : World)
    (HZ : Hid ((R = true → ps3 = ps2) ∧ (R = false → ps3 = [])))
    (HO : Hid (∀ W, Calls Try.prog 49 #[.agg #[.int .i64 q.ls, .int .i64 q.la, .int .i64 q.hs, .int .i64 q.ha], .agg #[.int .i64 r.ls, .int .i64 r.la, .int .i64 r.hs, .int .i64 r.ha]] W fun e w' => e = .returned (.bool R) ∧ Go.RowKit.Below W.heap.size W w'))
    (HH : Hid (∀ (W : World) (p : Nat), W.heap[p]? = some (.cells #[.int .i64 q.hs, .int .i64 q.ha, .int .i64 r.ls, .int .i64 r.la] 23 (0, 0)) → Calls Try.prog 46 #[.slice (some ⟨p, 0, none⟩) 2 2] W fun e w' => e = .returned (.agg #[.int .i64 x1, .int .i64 y1]) ∧ Go.RowKit.Below W.heap.size W w'))
    (HG : Hid (∀ (W : World) (p : Nat), W.heap[p]? = some (.cells #[.int .i64 q.ls, .int .i64 q.la, .int .i64 r.hs, .int .i64 r.ha] 23 (0, 0)) → Calls Try.prog 45 #[.slice (some ⟨p, 0, none⟩) 2 2] W fun e w' => e = .returned (.agg #[.int .i64 x2, .int .i64 y2]) ∧ Go.RowKit.Below W.heap.size W w'))
    (HP1 : Hid (∀ (X : World) (P : Nat) W, RowCell X P 0 [] none 0 W → Calls Try.prog 54 #[.agg #[.int .i64 q.ls, .int .i64 q.la], .agg #[.int .i64 x1, .int .i64 y1], .pointer (some ⟨P, 0, none⟩)] W (PutPost X P ps1)))
    (HP2 : Hid (∀ (X : World) (P n cap : Nat) a W, RowCell X P n ps1 a cap W → Calls Try.prog 54 #[.agg #[.int .i64 x2, .int .i64 y2], .agg #[.int .i64 q.hs, .int .i64 q.ha], .pointer (some ⟨P, 0, none⟩)] W (PutPost X P ps2))) :
    Calls Try.prog 23 #[vS q, vS r] w (OwnPost ps3 w) := by
  have hmf : ∀ (fn : Fn) (first cap : Array Value) (w : World), (Instr.makeFunc fn first cap).run Try.prog w = .ok (.func fn first cap) w := fun _ _ _ _ => rfl
  have mx := mixed
  have HB := Lib.hid (Pair4.new w q r)
  have hL0 := bt (below_new w (.cells #[.int .i64 q.ls, .int .i64 q.la, .int .i64 q.hs, .int .i64 q.ha] 25)) (below_new _ (.cells #[.int .i64 r.ls, .int .i64 r.la, .int .i64 r.hs, .int .i64 r.ha] 25))
  go_enter Try.func23, Try.ntmps23
  go_wp2_with fail
  generalize ((w.alloc (.cells #[.int .i64 q.ls, .int .i64 q.la, .int .i64 q.hs, .int .i64 q.ha] 25)).alloc (.cells #[.int .i64 r.ls, .int .i64 r.la, .int .i64 r.hs, .int .i64 r.ha] 25)) = X at *
  refine (HO.out _).mono ?_
  rintro e Y0 ⟨rfl, hB0⟩
  have HX0 := Lib.hid (HB.out.on hB0)
  have HL := Lib.hid (bt hL0 hB0)
  clear HB hL0 hB0 HO
  cases R with
  | false =>
    go_wp2_with fail
    go_ret
    rw [HZ.out.2 (by trivial)]
    exact ⟨none, 0, ⟨rfl, ⟨rfl, .inl ⟨rfl, rfl⟩⟩⟩, HL.out⟩
  | true =>
    have HR0 : Hid (RowCell Y0 Y0.heap.size 0 [] none 0 (Y0.alloc (.cells #[.slice none 0 0] 26))) := ⟨rfl, heap_alloc_new _ _, ⟨rfl, .inl ⟨rfl, rfl⟩⟩, below_new _ _, Nat.le_refl _⟩
    have HX := Lib.hid (HX0.out.on (below_new Y0 (.cells #[.slice none 0 0] 26)))
    go_wp2_with fail
    generalize Y0.alloc (.cells #[.slice none 0 0] 26) = Z at *
    generalize Y0.heap.size = P at *
    obtain ⟨c1, c2, c3, c4, c5, c6, c7, c8⟩ := HX.out.cells
    go_region_held3 (fun w' => w'.cell? ⟨w.heap.size, 0, none⟩ = some (.int .i64 q.ls) ∧ w'.cell? ⟨w.heap.size, 1, none⟩ = some (.int .i64 q.la) ∧ w'.cell? ⟨w.heap.size, 2, none⟩ = some (.int .i64 q.hs) ∧ w'.cell? ⟨w.heap.size, 3, none⟩ = some (.int .i64 q.ha) ∧
        w'.cell? ⟨w.heap.size + 1, 0, none⟩ = some (.int .i64 r.ls) ∧ w'.cell? ⟨w.heap.size + 1, 1, none⟩ = some (.int .i64 r.la) ∧ w'.cell? ⟨w.heap.size + 1, 2, none⟩ = some (.int .i64 r.hs) ∧ w'.cell? ⟨w.heap.size + 1, 3, none⟩ = some (.int .i64 r.ha))
      (with_reducible first
        | exact (HX0.out.on H1.out.below).cells
        | (focus (refine (HX.out.on ?_).cells; (repeat (first | assumption | exact Go.RowKit.Below.refl _ _ | refine bl_alloc _ ?_ | refine bl_drew ?_)); done)))
      (first
        | (go_at_call 46; (refine (HH.out _ _ (by exact heap_alloc_new _ _)).mono ?_); rintro e Y1 ⟨rfl, hB1⟩; have hT1 : Go.RowKit.Below Z.heap.size Z Y1 := bt (by with_reducible repeat (first | exact Go.RowKit.Below.refl _ _ | refine bl_alloc _ ?_ | refine bl_drew ?_)) hB1; clear hB1)
        | (go_at_call 54; (refine (HP1.out Y0 P _ (HR0.out.on (by with_reducible repeat (first | exact hT1 | refine bl_alloc _ ?_ | refine bl_drew ?_)))).mono ?_); rintro e Y2 ⟨rfl, n1, a1, cap1, hR1⟩; have H1 := Lib.hid hR1; clear hR1))
    clear c1 c2 c3 c4 c5 c6 c7 c8 HX hT1 HP1 HH HR0
    have HX := Lib.hid (HX0.out.on H1.out.below)
    obtain ⟨c1, c2, c3, c4, c5, c6, c7, c8⟩ := HX.out.cells
    go_wp2_with fail
    go_region_held3 (fun w' => w'.cell? ⟨w.heap.size, 0, none⟩ = some (.int .i64 q.ls) ∧ w'.cell? ⟨w.heap.size, 1, none⟩ = some (.int .i64 q.la) ∧ w'.cell? ⟨w.heap.size, 2, none⟩ = some (.int .i64 q.hs) ∧ w'.cell? ⟨w.heap.size, 3, none⟩ = some (.int .i64 q.ha) ∧
        w'.cell? ⟨w.heap.size + 1, 0, none⟩ = some (.int .i64 r.ls) ∧ w'.cell? ⟨w.heap.size + 1, 1, none⟩ = some (.int .i64 r.la) ∧ w'.cell? ⟨w.heap.size + 1, 2, none⟩ = some (.int .i64 r.hs) ∧ w'.cell? ⟨w.heap.size + 1, 3, none⟩ = some (.int .i64 r.ha))
      (with_reducible first
        | exact (HX0.out.on H2.out.below).cells
        | (focus (refine (HX.out.on ?_).cells; (repeat (first | assumption | exact Go.RowKit.Below.refl _ _ | refine bl_alloc _ ?_ | refine bl_drew ?_)); done)))
      (first
        | (go_at_call 45; (refine (HG.out _ _ (by exact heap_alloc_new _ _)).mono ?_); rintro e Y3 ⟨rfl, hB3⟩; have hT3 : Go.RowKit.Below Y2.heap.size Y2 Y3 := bt (by with_reducible repeat (first | exact Go.RowKit.Below.refl _ _ | refine bl_alloc _ ?_ | refine bl_drew ?_)) hB3; clear hB3)
        | (go_at_call 54; (refine (HP2.out Y0 P _ _ _ _ (H1.out.on (by with_reducible repeat (first | exact hT3 | refine bl_alloc _ ?_ | refine bl_drew ?_)))).mono ?_); rintro e Y4 ⟨rfl, n2, a2, cap2, hR2⟩; have H2 := Lib.hid hR2; clear hR2))
    obtain ⟨g1, g2⟩ := H2.out.got
    go_wp2_with fail
    go_ret
    rw [HZ.out.1 (by trivial)]
    refine ⟨a2, cap2, ⟨?_, ?_⟩, bt HL.out H2.out.below⟩
    · rw [← H2.out.len]
      rfl
    · rw [← H2.out.len]
      exact own_low H2.out.own HL.out.size
theorem sminus_own (q r : S4) (w : World) (hq : q.ok) (hr : r.ok) : Calls Try.prog 23 #[vS q, vS r] w (OwnPost (minusF q r) w) := by
  have k1 := klow_ky q.hi r.lo (q.ky_hi hq) (r.ky_lo hr)
  have k2 := khigh_ky q.lo r.hi (q.ky_lo hq) (r.ky_hi hr)
  have h := sminus_core q r (q.right && r.right) (sd (klow q.hi r.lo)) (pa (klow q.hi r.lo)) (sd (khigh q.lo r.hi)) (pa (khigh q.lo r.hi)) (putL [] q.lo (klow q.hi r.lo)) (putL (putL [] q.lo (klow q.hi r.lo)) (khigh q.lo r.hi) q.hi) (minusF q r) w
    ⟨fun h => by rw [minusL_put]; unfold minusF; rw [if_pos h], fun h => by unfold minusF; rw [if_neg (by rw [h]; decide)]⟩
    (fun W => sboth_any q r W hq hr) (fun W p h => least_b2 _ _ _ _ hq.2 hr.1 W p h) (fun W p h => great_b2 _ _ _ _ hq.1 hr.2 W p h)
    (fun X P W hR => by
      have h := sput_any X P 0 0 [] none q.ls q.la (sd (klow q.hi r.lo)) (pa (klow q.hi r.lo)) W hq.1 (pa_i64 _ k1) hR (by omega)
      rw [key_back _ k1] at h
      exact h)
    (fun X P n cap a W hR => by
      have hl : n ≤ 100 := by
        rw [hR.len]; unfold putL; split <;> simp
      have h := sput_any X P n cap _ a (sd (khigh q.lo r.hi)) (pa (khigh q.lo r.hi)) q.hs q.ha W (pa_i64 _ k2) hq.2 hR hl
      rw [key_back _ k2] at h
      exact h)
  exact h
theorem sminus_any (q r : S4) (w : World) (hq : q.ok) (hr : r.ok) : Calls Try.prog 23 #[vS q, vS r] w (RowPost (minusF q r) w) := (sminus_own q r w hq hr).mono fun _ _ h => h.row
end Go.Proofs.Ytkokilbnhhmicaa

/- Joining sorted spans: the mathematics. -/
namespace Go.Proofs.Ytkokilbnhhmicaa.Bo
/-- A span comes behind a row whose spans begin no later. -/
def joinL (ps : List (Int × Int)) (k l : Int) : List (Int × Int) :=
  match ps.getLast? with
  | some x => if x.2 < k then ps ++ [(k, l)] else ps.dropLast ++ [(x.1, mxk x.2 l)]
  | none => [(k, l)]
theorem joinL_nil (k l : Int) : joinL [] k l = [(k, l)] := rfl
theorem joinL_put (qs : List (Int × Int)) (x : Int × Int) (k l : Int) (h : x.2 < k) : joinL (qs ++ [x]) k l = (qs ++ [x]) ++ [(k, l)] := by
  unfold joinL; rw [List.getLast?_concat]; simp [h]
theorem joinL_join (qs : List (Int × Int)) (x : Int × Int) (k l : Int) (h : ¬ x.2 < k) : joinL (qs ++ [x]) k l = qs ++ [(x.1, mxk x.2 l)] := by
  unfold joinL; rw [List.getLast?_concat]; simp [h]
theorem mxk_ky (k l : Int) (hk : Ky k) (hl : Ky l) : Ky (mxk k l) := by unfold mxk; split <;> assumption
/-- What the row is behind the first spans of a sorted one. -/
structure LInv (ms : List S4) (j : Nat) (ps : List (Int × Int)) : Prop where
  norm : Norm ps
  cov : ∀ n, cov ps n ↔ Bo.cov (rights (ms.take j)) n
  ky : ∀ p ∈ ps, Ky p.1 ∧ Ky p.2
  low : ∀ p ∈ ps, ∃ q ∈ ms.take j, p.1 = q.lo
  len : ps.length ≤ j
theorem LInv.start (ms : List S4) : LInv ms 0 [] := ⟨norm_nil, fun n => by rw [List.take_zero]; exact Iff.rfl, by simp, by simp, Nat.le_refl _⟩
theorem rights_snoc (l : List S4) (q : S4) : rights (l ++ [q]) = rights l ++ (if q.right = true then [(q.lo, q.hi)] else []) := by
  unfold rights
  rw [List.filter_append, List.map_append]
  by_cases h : q.right = true <;> simp [h]
theorem LInv.le {ms : List S4} {j : Nat} {ps : List (Int × Int)} (h : LInv ms j ps) (hs : ms.Pairwise (fun q r => q.lo ≤ r.lo)) (hj : j < ms.length) : ∀ p ∈ ps, p.1 ≤ ms[j].lo := by
  intro p hp
  obtain ⟨q, hq, e⟩ := h.low p hp
  obtain ⟨i, hi, e2⟩ := List.mem_iff_getElem.1 hq
  rw [List.length_take] at hi
  rw [List.getElem_take] at e2
  rw [e, ← e2]
  exact List.pairwise_iff_getElem.1 hs i j (by omega) hj (by omega)
theorem LInv.skip {ms : List S4} {j : Nat} {ps : List (Int × Int)} (h : LInv ms j ps) (hj : j < ms.length) (hr : ms[j].right = false) : LInv ms (j + 1) ps := by
  refine ⟨h.norm, fun n => ?_, h.ky, fun p hp => ?_, by have := h.len; omega⟩
  · rw [h.cov n, List.take_succ_eq_append_getElem hj, rights_snoc, hr]; simp
  · obtain ⟨q, hq, e⟩ := h.low p hp
    exact ⟨q, by rw [List.take_succ_eq_append_getElem hj]; exact List.mem_append_left _ hq, e⟩
theorem LInv.step {ms : List S4} {j : Nat} {ps : List (Int × Int)} (h : LInv ms j ps) (hs : ms.Pairwise (fun q r => q.lo ≤ r.lo)) (hj : j < ms.length) (hr : ms[j].right = true) (hok : ms[j].ok) : LInv ms (j + 1) (joinL ps ms[j].lo ms[j].hi) := by
  have hle := h.le hs hj
  have hlt := (sp_of_right _ hr).2
  have e1 : rights (ms.take (j + 1)) = rights (ms.take j) ++ [(ms[j].lo, ms[j].hi)] := by
    rw [List.take_succ_eq_append_getElem hj, rights_snoc, if_pos hr]
  have hmem : ms[j] ∈ ms.take (j + 1) := List.mem_iff_getElem.2 ⟨j, by rw [List.length_take]; omega, List.getElem_take ..⟩
  have hlow : ∀ p ∈ ps, ∃ q ∈ ms.take (j + 1), p.1 = q.lo := fun p hp => by
    obtain ⟨q, hq, e⟩ := h.low p hp
    exact ⟨q, by rw [List.take_succ_eq_append_getElem hj]; exact List.mem_append_left _ hq, e⟩
  have hkl := ms[j].ky_lo hok
  have hkh := ms[j].ky_hi hok
  have hcov := h.cov
  have hlen := h.len
  have hnorm := h.norm
  have hky := h.ky
  clear h hs hok hr
  generalize ms[j] = q at *
  rcases List.eq_nil_or_concat ps with rfl | ⟨qs, x, rfl⟩
  · rw [joinL_nil]
    refine ⟨norm_sing _ hlt, fun n => ?_, ?_, ?_, by simp⟩
    · rw [e1, cov_append, ← hcov n, cov_sing]
      exact ⟨.inr, fun a => by rcases a with a | a; exact absurd a (cov_nil _); exact a⟩
    · intro p hp; rw [List.mem_singleton.1 hp]; exact ⟨hkl, hkh⟩
    · intro p hp; rw [List.mem_singleton.1 hp]; exact ⟨q, hmem, rfl⟩
  · rw [List.concat_eq_append] at *
    by_cases hx : x.2 < q.lo
    · rw [joinL_put qs x _ _ hx]
      refine ⟨norm_put hnorm hlt (norm_all_lt hnorm hx), fun n => ?_, ?_, ?_, by simp at hlen ⊢; omega⟩
      · rw [e1, cov_append (rights _), ← hcov n, cov_append (qs ++ [x])]
      · intro p hp
        rcases List.mem_append.1 hp with e | e
        · exact hky p e
        · rw [List.mem_singleton.1 e]; exact ⟨hkl, hkh⟩
      · intro p hp
        rcases List.mem_append.1 hp with e | e
        · exact hlow p e
        · rw [List.mem_singleton.1 e]; exact ⟨q, hmem, rfl⟩
    · rw [joinL_join qs x _ _ hx]
      have hxm : x ∈ qs ++ [x] := by simp
      have h1 := hle x hxm
      have h2 := hnorm.1 x hxm
      have hmx : x.2 ≤ mxk x.2 q.hi ∧ q.hi ≤ mxk x.2 q.hi ∧ (mxk x.2 q.hi = x.2 ∨ mxk x.2 q.hi = q.hi) := by unfold mxk; split <;> omega
      refine ⟨?_, fun n => ?_, ?_, ?_, by simp at hlen ⊢; omega⟩
      · by_cases hg : x.2 < mxk x.2 q.hi
        · exact norm_join (x := x.1) (k := x.2) hnorm hg
        · have : (x.1, mxk x.2 q.hi) = x := Prod.ext rfl (by show mxk x.2 q.hi = x.2; omega)
          rw [this]; exact hnorm
      · rw [e1, cov_append (rights _), ← hcov n, cov_append qs, cov_append qs, cov_sing, cov_sing, cov_sing]
        show _ ∨ (x.1 ≤ n ∧ n < mxk x.2 q.hi) ↔ (_ ∨ _) ∨ (q.lo ≤ n ∧ n < q.hi)
        constructor
        · rintro (a | a)
          · exact .inl (.inl a)
          · by_cases b : n < x.2
            · exact .inl (.inr ⟨a.1, b⟩)
            · exact .inr (by omega)
        · rintro ((a | a) | a)
          · exact .inl a
          · exact .inr ⟨a.1, by have := a.2; omega⟩
          · exact .inr (by omega)
      · intro p hp
        rcases List.mem_append.1 hp with e | e
        · exact hky p (List.mem_append_left _ e)
        · rw [List.mem_singleton.1 e]; exact ⟨(hky x hxm).1, mxk_ky _ _ (hky x hxm).2 hkh⟩
      · intro p hp
        rcases List.mem_append.1 hp with e | e
        · exact hlow p (List.mem_append_left _ e)
        · rw [List.mem_singleton.1 e]; exact hlow x hxm
theorem cov_mem (l m : List S4) (h : ∀ x, x ∈ l ↔ x ∈ m) (n : Int) : Bo.cov (rights l) n ↔ Bo.cov (rights m) n := by
  rw [← has_cov, ← has_cov, List.any_eq_true, List.any_eq_true]
  exact ⟨fun ⟨x, h1, h2⟩ => ⟨x, (h x).1 h1, h2⟩, fun ⟨x, h1, h2⟩ => ⟨x, (h x).2 h1, h2⟩⟩
end Go.Proofs.Ytkokilbnhhmicaa.Bo

/- The closure of span.List. -/
namespace Go.Proofs.Ytkokilbnhhmicaa
open Go.RowKit Go.Sort Go.Proofs.Ytkokilbnhhmicaa.Bo
set_option linter.unusedVariables false

/-- The last span of such a row, where it lies. -/
theorem RowCell.last {X : World} {P n cap : Nat} {qs : List (Int × Int)} {x : Int × Int} {a : Option Addr} {W : World} (h : RowCell X P n (qs ++ [x]) a cap W) :
    n = qs.length + 1 ∧ ∃ g, a = some ⟨g, 0, none⟩ ∧ X.heap.size ≤ g ∧ g ≠ P ∧ Cells4 W g (qs.length * 4) (sp x) ∧ ∀ i, W.frozen? ⟨g, i, none⟩ = false := by
  have hn : n = qs.length + 1 := by rw [h.len]; simp
  refine ⟨hn, ?_⟩
  have hs := own_srow h.own h.len
  have hne := own_not h.cell h.own
  rcases h.own.2 with ⟨_, h2⟩ | ⟨g, cap', cur, h1, hb, hh, r⟩
  · omega
  · injection h1 with e1 _ _
    subst e1
    obtain ⟨b, off, e, hc⟩ := hs (by simp)
    injection e with e
    injection e with e1 e2
    subst e1 e2
    refine ⟨g, rfl, hb, hne g rfl, ?_, fun i => frozen_of_row _ _ i _ _ hh⟩
    have := hc qs.length (by simp)
    rw [Nat.zero_add] at this
    simpa using this
/-- The last span's end is put anew. -/
theorem RowCell.join {X : World} {P n cap g : Nat} {qs : List (Int × Int)} {x : Int × Int} {W : World} (h : RowCell X P n (qs ++ [x]) (some ⟨g, 0, none⟩) cap W) (hg : X.heap.size ≤ g) (hne : g ≠ P) (M : Int) :
    RowCell X P n (qs ++ [(x.1, M)]) (some ⟨g, 0, none⟩) cap ((((W.setCell ⟨g, qs.length * 4, none⟩ (.int .i64 (sd x.1))).setCell ⟨g, qs.length * 4 + 1, none⟩ (.int .i64 (pa x.1))).setCell ⟨g, qs.length * 4 + 2, none⟩ (.int .i64 (sd M))).setCell ⟨g, qs.length * 4 + 3, none⟩ (.int .i64 (pa M))) := by
  have hp : ∀ (v : World) i u, (v.setCell ⟨g, i, none⟩ u).heap[P]? = v.heap[P]? := fun v i u => heap_setCell_other _ _ _ _ (by simpa using hne.symm)
  refine ⟨by rw [h.len]; simp, ?_, own_join (x := x.1) (k := x.2) M h.own _ rfl, (((h.below.setCell hg _).setCell hg _).setCell hg _).setCell hg _, h.le⟩
  rw [hp, hp, hp, hp]
  exact h.cell

set_option maxRecDepth 100000 in
set_option maxHeartbeats 4000000 in
theorem sjoin_nil (X : World) (P cap : Nat) (a : Option Addr) (k l : Int) (W : World) (h : RowCell X P 0 [] a cap W) :
    Calls Try.prog 69 #[.agg #[.int .i64 (sd k), .int .i64 (pa k), .int .i64 (sd l), .int .i64 (pa l)], .pointer (some ⟨P, 0, none⟩)] W (PutPost X P [(k, l)]) := by
  have mx := mixed
  obtain ⟨i0, hi, hz0, hz1, hz2⟩ := info_parts Try.infoSpan
  obtain ⟨x1, e1⟩ : ∃ x, x = sd k := ⟨_, rfl⟩
  obtain ⟨y1, e2⟩ : ∃ x, x = pa k := ⟨_, rfl⟩
  obtain ⟨x2, e3⟩ : ∃ x, x = sd l := ⟨_, rfl⟩
  obtain ⟨y2, e4⟩ : ∃ x, x = pa l := ⟨_, rfl⟩
  have HE := Lib.hid (And.intro e1 (And.intro e2 (And.intro e3 e4)))
  rw [← e1, ← e2, ← e3, ← e4]
  clear e1 e2 e3 e4
  have H1 := Lib.hid (h.on (below_new W (.cells #[.int .i64 x1, .int .i64 y1, .int .i64 x2, .int .i64 y2] 25)))
  have HB : Hid (Box4 (W.alloc (.cells #[.int .i64 x1, .int .i64 y1, .int .i64 x2, .int .i64 y2] 25)) W.heap.size ⟨x1, y1, x2, y2⟩) := heap_alloc_new _ _
  clear h
  obtain ⟨c1, c2⟩ := H1.out.got
  go_enter Try.func69, Try.ntmps69
  go_wp2_with fail
  generalize W.alloc (.cells #[.int .i64 x1, .int .i64 y1, .int .i64 x2, .int .i64 y2] 25) = Y at *
  refine wp_region_quiet_below (by assumption) (by kernel_rfl) ?_
  repeat (go_big_quiet_step (fail))
  refine wpQuiet_nil ?_
  intro _ hw'
  obtain ⟨⟨nq, osq⟩, hw''⟩ := hw'
  subst hw''
  have hB2 := below_regrown Y nq osq
  have H2 := Lib.hid (H1.out.on hB2)
  have HB2 := Lib.hid (HB.out.on hB2)
  clear c1 c2 H1 HB hB2
  generalize grow (redrawn Y nq) osq = Z at *
  have H3 := Lib.hid (H2.out.on (below_new Z (.cells #[.int .i64 x1, .int .i64 y1, .int .i64 x2, .int .i64 y2] 25)))
  obtain ⟨c1, c2⟩ := H2.out.got
  obtain ⟨d1, d2, d3, d4⟩ := HB2.out.cells
  have hsz := H3.out.below.size
  go_wp2_with (at_builtin; refine wpList_append_lies _ rfl _ _ 26 rfl X.heap.size 25 i0 (.agg #[.int .i64 0, .int .i64 0, .int .i64 0, .int .i64 0]) 4 32 Try.underlying26 hi hz0 hz1 hz2 rfl (by decide) _ 0 (flatL (keysOf [])) (by rfl) H3.out.own ⟨Z.heap.size, 0, none⟩ 1 1 [.int .i64 x1, .int .i64 y1, .int .i64 x2, .int .i64 y2] (by rfl) rfl (World.news_of_block (heap_alloc_new Z _)) (one_four _ _ _ _) (by decide) (by unfold maxLen; omega) (by omega) hsz _ rfl ?_; intro g2 cap2 w1 hown1 hgrow1 hat1 hlt1; rw [HE.out.1, HE.out.2.1, HE.out.2.2.1, HE.out.2.2.2] at hown1; obtain ⟨⟨f1, f2⟩, H5⟩ := H3.out.app hgrow1 hown1; have H6 := Lib.hid H5; clear hown1 hgrow1 H5)
  go_end0
  exact ⟨rfl, 0 + 1, some ⟨g2, 0, none⟩, cap2, H6.out⟩
theorem fz_of {X : World} {P n cap g : Nat} {qs : List (Int × Int)} {x : Int × Int} {W : World} (h : RowCell X P n (qs ++ [x]) (some ⟨g, 0, none⟩) cap W) : ∀ i, W.frozen? ⟨g, i, none⟩ = false := by
  obtain ⟨_, g', e, _, _, _, hf⟩ := h.last
  injection e with e
  injection e with e
  subst e
  exact hf
set_option maxRecDepth 100000 in
set_option maxHeartbeats 4000000 in
theorem sjoin_put (X : World) (P n cap : Nat) (qs : List (Int × Int)) (x : Int × Int) (a : Option Addr) (k l : Int) (W : World) (hk : Ky k) (hkl : Ky l) (hx : Ky x.1 ∧ Ky x.2) (hn : n ≤ 100) (h : RowCell X P n (qs ++ [x]) a cap W) (hlt : x.2 < k) :
    Calls Try.prog 69 #[.agg #[.int .i64 (sd k), .int .i64 (pa k), .int .i64 (sd l), .int .i64 (pa l)], .pointer (some ⟨P, 0, none⟩)] W (PutPost X P ((qs ++ [x]) ++ [(k, l)])) := by
  have mx := mixed
  obtain ⟨RS, hRS⟩ : ∃ RS, (qs ++ [x]) ++ [(k, l)] = RS := ⟨_, rfl⟩
  rw [hRS]
  have HRS := Lib.hid hRS
  clear hRS
  obtain ⟨i0, hi, hz0, hz1, hz2⟩ := info_parts Try.infoSpan
  obtain ⟨rfl, g, rfl, hg, hgP, _, _⟩ := h.last
  have HA := Lib.hid (fun W => sahead_any (sd x.2) (pa x.2) (sd k) (pa k) W (pa_i64 _ hx.2) (pa_i64 _ hk))
  rw [key_back _ hx.2, key_back _ hk, decide_eq_true hlt] at HA
  obtain ⟨x1, e1⟩ : ∃ x, x = sd k := ⟨_, rfl⟩
  obtain ⟨y1, e2⟩ : ∃ x, x = pa k := ⟨_, rfl⟩
  obtain ⟨x2, e3⟩ : ∃ x, x = sd l := ⟨_, rfl⟩
  obtain ⟨y2, e4⟩ : ∃ x, x = pa l := ⟨_, rfl⟩
  obtain ⟨x3, e5⟩ : ∃ y, y = sd x.1 := ⟨_, rfl⟩
  obtain ⟨y3, e6⟩ : ∃ y, y = pa x.1 := ⟨_, rfl⟩
  obtain ⟨x4, e7⟩ : ∃ y, y = sd x.2 := ⟨_, rfl⟩
  obtain ⟨y4, e8⟩ : ∃ y, y = pa x.2 := ⟨_, rfl⟩
  have HE := Lib.hid (And.intro e1 (And.intro e2 (And.intro e3 e4)))
  have HF := Lib.hid (And.intro e5 (And.intro e6 (And.intro e7 e8)))
  rw [← e1, ← e2, ← e3, ← e4]
  rw [← e1, ← e2, ← e7, ← e8] at HA
  clear hlt
  clear e1 e2 e3 e4 e5 e6 e7 e8 hx hk hkl
  have H1 := Lib.hid (h.on (below_new W (.cells #[.int .i64 x1, .int .i64 y1, .int .i64 x2, .int .i64 y2] 25)))
  have HB : Hid (Box4 (W.alloc (.cells #[.int .i64 x1, .int .i64 y1, .int .i64 x2, .int .i64 y2] 25)) W.heap.size ⟨x1, y1, x2, y2⟩) := heap_alloc_new _ _
  clear h
  obtain ⟨c1, c2⟩ := H1.out.got
  have tq : (0 : Int) ≤ (qs.length : Int) := by omega
  have tq0 : decide ((qs.length : Int) < 0) = false := decide_eq_false (by omega)
  have tq1 : (qs.length : Int) < ((qs.length + 1 : Nat) : Int) := by omega
  have tq2 : (qs.length : Int) < (qs.length : Int) + 1 := by omega
  go_enter Try.func69, Try.ntmps69
  go_wp2_with fail
  generalize W.alloc (.cells #[.int .i64 x1, .int .i64 y1, .int .i64 x2, .int .i64 y2] 25) = Y at *
  have HQ : Hid (Cells4 Y g (qs.length * 4) ⟨x3, y3, x4, y4⟩) := by
    obtain ⟨_, g', e, _, _, hc, _⟩ := H1.out.last
    injection e with e
    injection e with e
    subst e
    rw [HF.out.1, HF.out.2.1, HF.out.2.2.1, HF.out.2.2.2]
    exact hc
  obtain ⟨p1, p2, p3, p4⟩ := HQ.out.re
  obtain ⟨p5, p6, p7, p8⟩ := HB.out.re
  have p9 : ∀ d os, (grow (redrawn Y d) os).cell? ⟨P, 0, none⟩ = some (.slice (some ⟨g, 0, none⟩) (qs.length + 1) cap) := cell_regrown c1
  refine wp_region_quiet_below (by assumption) (by kernel_rfl) ?_
  repeat (go_big_quiet_step (first | (go_at_call 50; exact Calls.regrown_of (HA.out _))))
  refine wpQuiet_nil ?_
  intro _ hw'
  obtain ⟨⟨nq, osq⟩, hw''⟩ := hw'
  subst hw''
  have hB2 := below_regrown Y nq osq
  have H2 := Lib.hid (H1.out.on hB2)
  have HB2 := Lib.hid (HB.out.on hB2)
  have HQ2 := Lib.hid (HQ.out.below hB2)
  clear c1 c2 H1 HB hB2 HQ p1 p2 p3 p4 p5 p6 p7 p8 p9
  generalize grow (redrawn Y nq) osq = Z at *
  have H3 := Lib.hid (H2.out.on (below_new Z (.cells #[.int .i64 x1, .int .i64 y1, .int .i64 x2, .int .i64 y2] 25)))
  obtain ⟨c1, c2⟩ := H2.out.got
  obtain ⟨d1, d2, d3, d4⟩ := HB2.out.cells
  have hsz := H3.out.below.size
  go_wp2_with (at_builtin; refine wpList_append_lies _ rfl _ _ 26 rfl X.heap.size 25 i0 (.agg #[.int .i64 0, .int .i64 0, .int .i64 0, .int .i64 0]) 4 32 Try.underlying26 hi hz0 hz1 hz2 rfl (by decide) _ (qs.length + 1) (flatL (keysOf (qs ++ [x]))) (by rfl) H3.out.own ⟨Z.heap.size, 0, none⟩ 1 1 [.int .i64 x1, .int .i64 y1, .int .i64 x2, .int .i64 y2] (by rfl) rfl (World.news_of_block (heap_alloc_new Z _)) (one_four _ _ _ _) (by decide) (by unfold maxLen; omega) (by omega) hsz _ rfl ?_; intro g2 cap2 w1 hown1 hgrow1 hat1 hlt1; rw [HE.out.1, HE.out.2.1, HE.out.2.2.1, HE.out.2.2.2] at hown1; obtain ⟨⟨f1, f2⟩, H5⟩ := H3.out.app hgrow1 hown1; have H6 := Lib.hid H5; clear hown1 hgrow1 H5)
  go_end0
  exact ⟨rfl, qs.length + 1 + 1, some ⟨g2, 0, none⟩, cap2, by rw [← HRS.out]; exact H6.out⟩

end Go.Proofs.Ytkokilbnhhmicaa
