/- The walk of the law CutPlaces. -/
import Derived.Test.YtmdnmcbjpjpgjaaCutL
import Derived.Deep.RegionHeld3
namespace Go.Proofs.Ytmdnmcbjpjpgjaa
open Go.RowKit Go.Sort Go.Proofs.Ytmdnmcbjpjpgjaa.Bo
set_option linter.unusedVariables false

theorem Two.cells4 {b : Nat} {s a t c : Int} {w : World} (h : Two b s a t c w) : w.cell? ⟨b, 0, none⟩ = some (.int .i64 s) ∧ w.cell? ⟨b, 1, none⟩ = some (.int .i64 a) ∧ w.cell? ⟨b + 1, 0, none⟩ = some (.int .i64 t) ∧ w.cell? ⟨b + 1, 1, none⟩ = some (.int .i64 c) :=
  ⟨(two_cells h.1).1, (two_cells h.1).2.1, (two_cells h.2).1, (two_cells h.2).2.1⟩
theorem crow_two (w : World) (s a t b : Int) : CRow (w.alloc (.cells #[.int .i64 s, .int .i64 a, .int .i64 t, .int .i64 b] 23)) (some ⟨w.heap.size, 0, none⟩) [(s, a), (t, b)] := by
  intro _
  refine ⟨w.heap.size, 0, rfl, fun j hj => ?_⟩
  have h := heap_alloc_new w (.cells #[.int .i64 s, .int .i64 a, .int .i64 t, .int .i64 b] 23)
  have hj' : j < 2 := hj
  rcases (show j = 0 ∨ j = 1 by omega) with rfl | rfl
  · exact ⟨(cell_of_row _ _ 0 _ _ _ h).trans rfl, (cell_of_row _ _ 1 _ _ _ h).trans rfl⟩
  · exact ⟨(cell_of_row _ _ 2 _ _ _ h).trans rfl, (cell_of_row _ _ 3 _ _ _ h).trans rfl⟩
theorem least_two (s a t b : Int) (ha : I64 a) : leastK [(s, a), (t, b)] = klow (key s a) (key t b) := by
  have h := key_ky s a ha
  unfold Ky at h
  show klow (klow 9223372036854775808 (key s a)) (key t b) = _
  rw [show klow 9223372036854775808 (key s a) = key s a from by unfold klow; split <;> omega]
theorem great_two (s a t b : Int) (ha : I64 a) : greatK [(s, a), (t, b)] = khigh (key s a) (key t b) := by
  have h := key_ky s a ha
  unfold Ky at h
  show khigh (khigh (-9223372036854775808) (key s a)) (key t b) = _
  rw [show khigh (-9223372036854775808) (key s a) = key s a from by unfold khigh; split <;> omega]

set_option maxRecDepth 100000 in
set_option maxHeartbeats 8000000 in
theorem cutPlaces_core (s a t b : Int) (x y v lx ly gx gy : Int) (R : Bool) (w : World)
    (HC : Hid (∀ W, Calls Try.prog 10 #[.agg #[.int .i64 s, .int .i64 a]] W fun e w' => e = .returned (.agg #[.int .i64 x, .int .i64 y]) ∧ Below W.heap.size W w'))
    (HRC : Hid (∀ W, Calls Try.prog 11 #[.agg #[.int .i64 s, .int .i64 a]] W fun e w' => e = .returned (.agg #[.int .i64 x, .int .i64 y]) ∧ Below W.heap.size W w'))
    (HR : Hid (∀ W, Calls Try.prog 12 #[.agg #[.int .i64 s, .int .i64 a]] W fun e w' => e = .returned (.bool R) ∧ Below W.heap.size W w'))
    (HP : Hid (∀ W, Calls Try.prog 13 #[.agg #[.int .i64 s, .int .i64 a], .agg #[.int .i64 t, .int .i64 b]] W fun e w' => e = .returned (.int .i64 v) ∧ Below W.heap.size W w'))
    (HRP : Hid (∀ W, Calls Try.prog 14 #[.agg #[.int .i64 s, .int .i64 a], .agg #[.int .i64 t, .int .i64 b]] W fun e w' => e = .returned (.int .i64 v) ∧ Below W.heap.size W w'))
    (HLO : Hid (∀ W, Calls Try.prog 17 #[.agg #[.int .i64 s, .int .i64 a], .agg #[.int .i64 t, .int .i64 b]] W fun e w' => e = .returned (.agg #[.int .i64 lx, .int .i64 ly]) ∧ Below W.heap.size W w'))
    (HHI : Hid (∀ W, Calls Try.prog 19 #[.agg #[.int .i64 s, .int .i64 a], .agg #[.int .i64 t, .int .i64 b]] W fun e w' => e = .returned (.agg #[.int .i64 gx, .int .i64 gy]) ∧ Below W.heap.size W w'))
    (HLE : Hid (∀ W : World, Calls Try.prog 16 #[.slice (some ⟨W.heap.size, 0, none⟩) 2 2] (W.alloc (.cells #[.int .i64 s, .int .i64 a, .int .i64 t, .int .i64 b] 23)) fun e w' => e = .returned (.agg #[.int .i64 lx, .int .i64 ly]) ∧ Below W.heap.size W w'))
    (HGR : Hid (∀ W : World, Calls Try.prog 18 #[.slice (some ⟨W.heap.size, 0, none⟩) 2 2] (W.alloc (.cells #[.int .i64 s, .int .i64 a, .int .i64 t, .int .i64 b] 23)) fun e w' => e = .returned (.agg #[.int .i64 gx, .int .i64 gy]) ∧ Below W.heap.size W w'))
    (HLN : Hid (∀ W, Calls Try.prog 16 #[.slice none 0 0] W fun e w' => e = .returned (.agg #[.int .i64 1, .int .i64 0]) ∧ Below W.heap.size W w'))
    (HGN : Hid (∀ W, Calls Try.prog 18 #[.slice none 0 0] W fun e w' => e = .returned (.agg #[.int .i64 (-1), .int .i64 0]) ∧ Below W.heap.size W w'))
    (hs : (R = true ∧ s = x ∧ a = y) ∨ (R = false ∧ x ≠ s) ∨ (R = false ∧ s = x ∧ y ≠ a)) :
    Calls Try.prog 3 #[.agg #[.int .i64 s, .int .i64 a], .agg #[.int .i64 t, .int .i64 b]] w fun e w' => e = .returned (.bool true) ∧ Below w.heap.size w w' := by
  have mx := mixed
  have eqc := eql_cut
  have nec := neq_cut
  have HAL := Lib.hid calive_any
  have HT := Lib.hid (show Two w.heap.size s a t b ((w.alloc (.cells #[.int .i64 s, .int .i64 a] 23)).alloc (.cells #[.int .i64 t, .int .i64 b] 23)) from ⟨heap_alloc2_old _ _ _, heap_alloc2_new _ _ _⟩)
  have hL : Below w.heap.size w ((w.alloc (.cells #[.int .i64 s, .int .i64 a] 23)).alloc (.cells #[.int .i64 t, .int .i64 b] 23)) := ((Below.refl _ _).alloc (Nat.le_refl _) _).alloc (by simp) _
  rcases hs with ⟨rfl, rfl, rfl⟩ | ⟨rfl, h1⟩ | ⟨rfl, rfl, h1⟩
  · go_enter Try.func3, Try.ntmps3
    go_wp2_with fail
    generalize ((w.alloc (.cells #[.int .i64 s, .int .i64 a] 23)).alloc (.cells #[.int .i64 t, .int .i64 b] 23)) = X at *
    obtain ⟨p1, p2⟩ := cut_regrown HT.out.1
    obtain ⟨p3, p4⟩ := cut_regrown HT.out.2
    refine wp_region_quiet_below (by assumption) (by kernel_rfl) ?_
    repeat (go_big_quiet_step (first
      | (go_at_call 10; exact Calls.regrown_of (HC.out _))
      | (go_at_call 11; exact Calls.regrown_of (HRC.out _))
      | (go_at_call 12; exact Calls.regrown_of (HR.out _))
      | (go_at_call 13; exact Calls.regrown_of (HP.out _))
      | (go_at_call 14; exact Calls.regrown_of (HRP.out _))))
    refine wpQuiet_nil ?_
    intro _ hw'
    obtain ⟨⟨nq, osq⟩, hw''⟩ := hw'
    subst hw''
    have hB := below_regrown X nq osq
    have T2 := Lib.hid (HT.out.below hB)
    have hL2 := bt hL hB
    clear p1 p2 p3 p4 hB hL HT
    go_wp2_with fail
    generalize grow (redrawn X nq) osq = Y at *
    obtain ⟨c1, c2, c3, c4, _, _, _, _⟩ := T2.out.cells
    have B0 : Below Y.heap.size Y Y.drew := (Below.refl _ _).drew
    go_region_held3 (fun w' => w'.cell? ⟨w.heap.size, 0, none⟩ = some (.int .i64 s) ∧ w'.cell? ⟨w.heap.size, 1, none⟩ = some (.int .i64 a) ∧ w'.cell? ⟨w.heap.size + 1, 0, none⟩ = some (.int .i64 t) ∧ w'.cell? ⟨w.heap.size + 1, 1, none⟩ = some (.int .i64 b))
      (first | go_keep | exact (T2.out.below B0).cells4 | exact hT4.out.cells4 | exact hT5.out.cells4 | exact hT6.out.cells4 | exact hT7.out.cells4 | exact hT8.out.cells4 | exact hT9.out.cells4 | exact hT10.out.cells4 | exact hT11.out.cells4 | exact hT12.out.cells4 | exact (hT4.out.below (below_new _ _)).cells4 | exact (hT6.out.below (below_new _ _)).cells4)
      (first
        | (go_at_call 15; (with_reducible refine (HAL.out _).mono ?_); rintro e y4 ⟨rfl, hB4'⟩; have hB4 := bt B0 hB4'; have hT4 := Lib.hid (T2.out.below hB4); clear hB4')
        | (go_at_call 16; (with_reducible refine (HLE.out _).mono ?_); rintro e y5 ⟨rfl, hB5'⟩; have hB5 := bt hB4 hB5'; have hT5 := Lib.hid (T2.out.below hB5); clear hB5')
        | (go_at_call 17; (with_reducible refine (HLO.out _).mono ?_); rintro e y6 ⟨rfl, hB6'⟩; have hB6 := bt hB5 hB6'; have hT6 := Lib.hid (T2.out.below hB6); clear hB6')
        | (go_at_call 18; (with_reducible refine (HGR.out _).mono ?_); rintro e y7 ⟨rfl, hB7'⟩; have hB7 := bt hB6 hB7'; have hT7 := Lib.hid (T2.out.below hB7); clear hB7')
        | (go_at_call 19; (with_reducible refine (HHI.out _).mono ?_); rintro e y8 ⟨rfl, hB8'⟩; have hB8 := bt hB7 hB8'; have hT8 := Lib.hid (T2.out.below hB8); clear hB8')
        | (go_at_call 16; (with_reducible refine (HLN.out _).mono ?_); rintro e y9 ⟨rfl, hB9'⟩; have hB9 := bt hB8 hB9'; have hT9 := Lib.hid (T2.out.below hB9); clear hB9')
        | (go_at_call 20; (with_reducible refine (last_b _).mono ?_); rintro e y10 ⟨rfl, hB10'⟩; have hB10 := bt hB9 hB10'; have hT10 := Lib.hid (T2.out.below hB10); clear hB10')
        | (go_at_call 18; (with_reducible refine (HGN.out _).mono ?_); rintro e y11 ⟨rfl, hB11'⟩; have hB11 := bt hB10 hB11'; have hT11 := Lib.hid (T2.out.below hB11); clear hB11')
        | (go_at_call 21; (with_reducible refine (first_b _).mono ?_); rintro e y12 ⟨rfl, hB12'⟩; have hB12 := bt hB11 hB12'; have hT12 := Lib.hid (T2.out.below hB12); clear hB12'))
    go_wp2_with fail
    go_ret
    exact ⟨rfl, bt hL2 hB12⟩

  · have t1 : (x == s) = false := beq_eq_false_iff_ne.2 h1
    clear h1
    go_enter Try.func3, Try.ntmps3
    go_wp2_with fail
    generalize ((w.alloc (.cells #[.int .i64 s, .int .i64 a] 23)).alloc (.cells #[.int .i64 t, .int .i64 b] 23)) = X at *
    obtain ⟨p1, p2⟩ := cut_regrown HT.out.1
    obtain ⟨p3, p4⟩ := cut_regrown HT.out.2
    refine wp_region_quiet_below (by assumption) (by kernel_rfl) ?_
    repeat (go_big_quiet_step (first
      | (go_at_call 10; exact Calls.regrown_of (HC.out _))
      | (go_at_call 11; exact Calls.regrown_of (HRC.out _))
      | (go_at_call 12; exact Calls.regrown_of (HR.out _))
      | (go_at_call 13; exact Calls.regrown_of (HP.out _))
      | (go_at_call 14; exact Calls.regrown_of (HRP.out _))))
    refine wpQuiet_nil ?_
    intro _ hw'
    obtain ⟨⟨nq, osq⟩, hw''⟩ := hw'
    subst hw''
    have hB := below_regrown X nq osq
    have T2 := Lib.hid (HT.out.below hB)
    have hL2 := bt hL hB
    clear p1 p2 p3 p4 hB hL HT
    go_wp2_with fail
    generalize grow (redrawn X nq) osq = Y at *
    obtain ⟨c1, c2, c3, c4, _, _, _, _⟩ := T2.out.cells
    have B0 : Below Y.heap.size Y Y.drew := (Below.refl _ _).drew
    go_region_held3 (fun w' => w'.cell? ⟨w.heap.size, 0, none⟩ = some (.int .i64 s) ∧ w'.cell? ⟨w.heap.size, 1, none⟩ = some (.int .i64 a) ∧ w'.cell? ⟨w.heap.size + 1, 0, none⟩ = some (.int .i64 t) ∧ w'.cell? ⟨w.heap.size + 1, 1, none⟩ = some (.int .i64 b))
      (first | go_keep | exact (T2.out.below B0).cells4 | exact hT4.out.cells4 | exact hT5.out.cells4 | exact hT6.out.cells4 | exact hT7.out.cells4 | exact hT8.out.cells4 | exact hT9.out.cells4 | exact hT10.out.cells4 | exact hT11.out.cells4 | exact hT12.out.cells4 | exact (hT4.out.below (below_new _ _)).cells4 | exact (hT6.out.below (below_new _ _)).cells4)
      (first
        | (go_at_call 15; (with_reducible refine (HAL.out _).mono ?_); rintro e y4 ⟨rfl, hB4'⟩; have hB4 := bt B0 hB4'; have hT4 := Lib.hid (T2.out.below hB4); clear hB4')
        | (go_at_call 16; (with_reducible refine (HLE.out _).mono ?_); rintro e y5 ⟨rfl, hB5'⟩; have hB5 := bt hB4 hB5'; have hT5 := Lib.hid (T2.out.below hB5); clear hB5')
        | (go_at_call 17; (with_reducible refine (HLO.out _).mono ?_); rintro e y6 ⟨rfl, hB6'⟩; have hB6 := bt hB5 hB6'; have hT6 := Lib.hid (T2.out.below hB6); clear hB6')
        | (go_at_call 18; (with_reducible refine (HGR.out _).mono ?_); rintro e y7 ⟨rfl, hB7'⟩; have hB7 := bt hB6 hB7'; have hT7 := Lib.hid (T2.out.below hB7); clear hB7')
        | (go_at_call 19; (with_reducible refine (HHI.out _).mono ?_); rintro e y8 ⟨rfl, hB8'⟩; have hB8 := bt hB7 hB8'; have hT8 := Lib.hid (T2.out.below hB8); clear hB8')
        | (go_at_call 16; (with_reducible refine (HLN.out _).mono ?_); rintro e y9 ⟨rfl, hB9'⟩; have hB9 := bt hB8 hB9'; have hT9 := Lib.hid (T2.out.below hB9); clear hB9')
        | (go_at_call 20; (with_reducible refine (last_b _).mono ?_); rintro e y10 ⟨rfl, hB10'⟩; have hB10 := bt hB9 hB10'; have hT10 := Lib.hid (T2.out.below hB10); clear hB10')
        | (go_at_call 18; (with_reducible refine (HGN.out _).mono ?_); rintro e y11 ⟨rfl, hB11'⟩; have hB11 := bt hB10 hB11'; have hT11 := Lib.hid (T2.out.below hB11); clear hB11')
        | (go_at_call 21; (with_reducible refine (first_b _).mono ?_); rintro e y12 ⟨rfl, hB12'⟩; have hB12 := bt hB11 hB12'; have hT12 := Lib.hid (T2.out.below hB12); clear hB12'))
    go_wp2_with fail
    go_ret
    exact ⟨rfl, bt hL2 hB12⟩

  · have t1 : (y == a) = false := beq_eq_false_iff_ne.2 h1
    clear h1
    go_enter Try.func3, Try.ntmps3
    go_wp2_with fail
    generalize ((w.alloc (.cells #[.int .i64 s, .int .i64 a] 23)).alloc (.cells #[.int .i64 t, .int .i64 b] 23)) = X at *
    obtain ⟨p1, p2⟩ := cut_regrown HT.out.1
    obtain ⟨p3, p4⟩ := cut_regrown HT.out.2
    refine wp_region_quiet_below (by assumption) (by kernel_rfl) ?_
    repeat (go_big_quiet_step (first
      | (go_at_call 10; exact Calls.regrown_of (HC.out _))
      | (go_at_call 11; exact Calls.regrown_of (HRC.out _))
      | (go_at_call 12; exact Calls.regrown_of (HR.out _))
      | (go_at_call 13; exact Calls.regrown_of (HP.out _))
      | (go_at_call 14; exact Calls.regrown_of (HRP.out _))))
    refine wpQuiet_nil ?_
    intro _ hw'
    obtain ⟨⟨nq, osq⟩, hw''⟩ := hw'
    subst hw''
    have hB := below_regrown X nq osq
    have T2 := Lib.hid (HT.out.below hB)
    have hL2 := bt hL hB
    clear p1 p2 p3 p4 hB hL HT
    go_wp2_with fail
    generalize grow (redrawn X nq) osq = Y at *
    obtain ⟨c1, c2, c3, c4, _, _, _, _⟩ := T2.out.cells
    have B0 : Below Y.heap.size Y Y.drew := (Below.refl _ _).drew
    go_region_held3 (fun w' => w'.cell? ⟨w.heap.size, 0, none⟩ = some (.int .i64 s) ∧ w'.cell? ⟨w.heap.size, 1, none⟩ = some (.int .i64 a) ∧ w'.cell? ⟨w.heap.size + 1, 0, none⟩ = some (.int .i64 t) ∧ w'.cell? ⟨w.heap.size + 1, 1, none⟩ = some (.int .i64 b))
      (first | go_keep | exact (T2.out.below B0).cells4 | exact hT4.out.cells4 | exact hT5.out.cells4 | exact hT6.out.cells4 | exact hT7.out.cells4 | exact hT8.out.cells4 | exact hT9.out.cells4 | exact hT10.out.cells4 | exact hT11.out.cells4 | exact hT12.out.cells4 | exact (hT4.out.below (below_new _ _)).cells4 | exact (hT6.out.below (below_new _ _)).cells4)
      (first
        | (go_at_call 15; (with_reducible refine (HAL.out _).mono ?_); rintro e y4 ⟨rfl, hB4'⟩; have hB4 := bt B0 hB4'; have hT4 := Lib.hid (T2.out.below hB4); clear hB4')
        | (go_at_call 16; (with_reducible refine (HLE.out _).mono ?_); rintro e y5 ⟨rfl, hB5'⟩; have hB5 := bt hB4 hB5'; have hT5 := Lib.hid (T2.out.below hB5); clear hB5')
        | (go_at_call 17; (with_reducible refine (HLO.out _).mono ?_); rintro e y6 ⟨rfl, hB6'⟩; have hB6 := bt hB5 hB6'; have hT6 := Lib.hid (T2.out.below hB6); clear hB6')
        | (go_at_call 18; (with_reducible refine (HGR.out _).mono ?_); rintro e y7 ⟨rfl, hB7'⟩; have hB7 := bt hB6 hB7'; have hT7 := Lib.hid (T2.out.below hB7); clear hB7')
        | (go_at_call 19; (with_reducible refine (HHI.out _).mono ?_); rintro e y8 ⟨rfl, hB8'⟩; have hB8 := bt hB7 hB8'; have hT8 := Lib.hid (T2.out.below hB8); clear hB8')
        | (go_at_call 16; (with_reducible refine (HLN.out _).mono ?_); rintro e y9 ⟨rfl, hB9'⟩; have hB9 := bt hB8 hB9'; have hT9 := Lib.hid (T2.out.below hB9); clear hB9')
        | (go_at_call 20; (with_reducible refine (last_b _).mono ?_); rintro e y10 ⟨rfl, hB10'⟩; have hB10 := bt hB9 hB10'; have hT10 := Lib.hid (T2.out.below hB10); clear hB10')
        | (go_at_call 18; (with_reducible refine (HGN.out _).mono ?_); rintro e y11 ⟨rfl, hB11'⟩; have hB11 := bt hB10 hB11'; have hT11 := Lib.hid (T2.out.below hB11); clear hB11')
        | (go_at_call 21; (with_reducible refine (first_b _).mono ?_); rintro e y12 ⟨rfl, hB12'⟩; have hB12 := bt hB11 hB12'; have hT12 := Lib.hid (T2.out.below hB12); clear hB12'))
    go_wp2_with fail
    go_ret
    exact ⟨rfl, bt hL2 hB12⟩


theorem nil_row (w : World) : CRow w none [] := fun h => by simp at h
theorem cutPlaces_walk (s a t b : Int) (ws0 : (Lit.int .i64 s).wf = true) (w0 : (Lit.int .i64 a).wf = true) (ws1 : (Lit.int .i64 t).wf = true) (w1 : (Lit.int .i64 b).wf = true) (w : World) :
    Calls Try.prog 3 #[.agg #[.int .i64 s, .int .i64 a], .agg #[.int .i64 t, .int .i64 b]] w fun e w' => e = .returned (.bool true) ∧ Below w.heap.size w w' := by
  have ha := i64_of_wf2 w0
  have hb := i64_of_wf2 w1
  have hz : ∀ c ∈ [(s, a), (t, b)], I64 c.2 := by
    intro c hc
    simp at hc
    rcases hc with rfl | rfl
    · exact ha
    · exact hb
  have hle : ∀ W : World, Calls Try.prog 16 #[.slice (some ⟨W.heap.size, 0, none⟩) 2 2] (W.alloc (.cells #[.int .i64 s, .int .i64 a, .int .i64 t, .int .i64 b] 23)) fun e w' => e = .returned (.agg #[.int .i64 (sd (klow (key s a) (key t b))), .int .i64 (pa (klow (key s a) (key t b)))]) ∧ Below W.heap.size W w' := by
    intro W
    have h := least_any _ 2 [(s, a), (t, b)] _ hz (crow_two W s a t b) (by simp)
    rw [least_two s a t b ha] at h
    exact h.mono fun _ _ h => ⟨h.1, bt (below_new _ _) h.2⟩
  have hgr : ∀ W : World, Calls Try.prog 18 #[.slice (some ⟨W.heap.size, 0, none⟩) 2 2] (W.alloc (.cells #[.int .i64 s, .int .i64 a, .int .i64 t, .int .i64 b] 23)) fun e w' => e = .returned (.agg #[.int .i64 (sd (khigh (key s a) (key t b))), .int .i64 (pa (khigh (key s a) (key t b)))]) ∧ Below W.heap.size W w' := by
    intro W
    have h := greatest_any _ 2 [(s, a), (t, b)] _ hz (crow_two W s a t b) (by simp)
    rw [great_two s a t b ha] at h
    exact h.mono fun _ _ h => ⟨h.1, bt (below_new _ _) h.2⟩
  refine cutPlaces_core s a t b _ _ _ _ _ _ _ _ w (fun W => canon_b s a ha W) (fun W => rcanon_any s a W ha) (fun W => (right_any s a W ha).mono fun _ _ h => ⟨h.1, h.2.1⟩) (fun W => compare_b s a t b _ rfl ha hb W) (fun W => rcompare_any s a t b W ha hb) (fun W => rlow_any s a t b W ha hb) (fun W => rhigh_any s a t b W ha hb) hle hgr (fun W => ?_) (fun W => ?_) ?_
  · have h := least_any none 0 [] W (by simp) (nil_row W) (by decide)
    rw [show leastK [] = 9223372036854775808 from rfl, sd_hi, pa_hi] at h
    exact h
  · have h := greatest_any none 0 [] W (by simp) (nil_row W) (by decide)
    rw [show greatK [] = -9223372036854775808 from rfl, sd_lo, pa_lo] at h
    exact h
  · by_cases h1 : s = sd (key s a)
    · by_cases h2 : a = pa (key s a)
      · exact .inl ⟨by rw [← h1, ← h2]; simp, h1, h2⟩
      · exact .inr (.inr ⟨by rw [beq_eq_false_iff_ne.2 h2, Bool.and_false], h1, fun e => h2 e.symm⟩)
    · exact .inr (.inl ⟨by rw [beq_eq_false_iff_ne.2 h1, Bool.false_and], fun e => h1 e.symm⟩)
end Go.Proofs.Ytmdnmcbjpjpgjaa
