/- A way of the walk of the law SpanTwo. -/
import Derived.Test.YtkokilbnhhmicaaSpanTwoA
namespace Go.Proofs.Ytkokilbnhhmicaa
open Go.RowKit Go.Sort Go.Proofs.Ytkokilbnhhmicaa.Bo
set_option linter.unusedVariables false

set_option maxRecDepth 100000 in
set_option maxHeartbeats 8000000 in
theorem spanTwo_v6 (q r Z U : S4) (ps : List (Int × Int)) (w : World)
    (HON1 : Hid (∀ W, Calls Try.prog 10 #[.agg #[.int .i64 q.ls, .int .i64 q.la, .int .i64 q.hs, .int .i64 q.ha]] W fun e w' => (∃ a, e = .returned (.slice a 1 1) ∧ SRow w' a [q]) ∧ Go.RowKit.Below W.heap.size W w'))
    (HON2 : Hid (∀ W, Calls Try.prog 10 #[.agg #[.int .i64 r.ls, .int .i64 r.la, .int .i64 r.hs, .int .i64 r.ha]] W fun e w' => (∃ a, e = .returned (.slice a 1 1) ∧ SRow w' a [r]) ∧ Go.RowKit.Below W.heap.size W w'))
    (HME : Hid (∀ a am W, SRow W a [q] → SRow W am [r] → Calls Try.prog 9 #[.slice a 1 1, .slice am 1 1] W ((LenPost (fun n => n = 0) W))))
    (HM : Hid (∀ W, Calls Try.prog 11 #[.agg #[.int .i64 q.ls, .int .i64 q.la, .int .i64 q.hs, .int .i64 q.ha], .agg #[.int .i64 r.ls, .int .i64 r.la, .int .i64 r.hs, .int .i64 r.ha]] W fun e w' => e = .returned (.tuple #[.agg #[.int .i64 Z.ls, .int .i64 Z.la, .int .i64 Z.hs, .int .i64 Z.ha], .bool false]) ∧ Go.RowKit.Below W.heap.size W w'))
    (HR1 : Hid (∀ W, Calls Try.prog 12 #[.agg #[.int .i64 q.ls, .int .i64 q.la, .int .i64 q.hs, .int .i64 q.ha]] W fun e w' => e = .returned (.bool true) ∧ Go.RowKit.Below W.heap.size W w'))
    (HR2 : Hid (∀ W, Calls Try.prog 12 #[.agg #[.int .i64 r.ls, .int .i64 r.la, .int .i64 r.hs, .int .i64 r.ha]] W fun e w' => e = .returned (.bool true) ∧ Go.RowKit.Below W.heap.size W w'))
    (HOV : Hid (∀ W, Calls Try.prog 13 #[.agg #[.int .i64 q.ls, .int .i64 q.la, .int .i64 q.hs, .int .i64 q.ha], .agg #[.int .i64 r.ls, .int .i64 r.la, .int .i64 r.hs, .int .i64 r.ha]] W fun e w' => e = .returned (.bool false) ∧ Go.RowKit.Below W.heap.size W w'))
    (HHO : Hid (∀ W, Calls Try.prog 19 #[.agg #[.int .i64 q.ls, .int .i64 q.la, .int .i64 q.hs, .int .i64 q.ha], .agg #[.int .i64 r.ls, .int .i64 r.la, .int .i64 r.hs, .int .i64 r.ha]] W fun e w' => e = .returned (.bool false) ∧ Go.RowKit.Below W.heap.size W w'))
    (HTO : Hid (∀ W, Calls Try.prog 20 #[.agg #[.int .i64 q.ls, .int .i64 q.la, .int .i64 q.hs, .int .i64 q.ha], .agg #[.int .i64 r.ls, .int .i64 r.la, .int .i64 r.hs, .int .i64 r.ha]] W fun e w' => e = .returned (.bool false) ∧ Go.RowKit.Below W.heap.size W w'))
    (HHU : Hid (∀ W, Calls Try.prog 21 #[.agg #[.int .i64 q.ls, .int .i64 q.la, .int .i64 q.hs, .int .i64 q.ha], .agg #[.int .i64 r.ls, .int .i64 r.la, .int .i64 r.hs, .int .i64 r.ha]] W fun e w' => e = .returned (.agg #[.int .i64 U.ls, .int .i64 U.la, .int .i64 U.hs, .int .i64 U.ha]) ∧ Go.RowKit.Below W.heap.size W w'))
    (HMI : Hid (∀ W, Calls Try.prog 23 #[.agg #[.int .i64 q.ls, .int .i64 q.la, .int .i64 q.hs, .int .i64 q.ha], .agg #[.int .i64 r.ls, .int .i64 r.la, .int .i64 r.hs, .int .i64 r.ha]] W (RowPost ps W)))
    (HMN : Hid (∀ a am W, SRow W a [q] → SRow W am [r] → Calls Try.prog 14 #[.slice a 1 1, .slice am 1 1] W (RowPost ps W)))
    (HML : Hid (∀ a am W, SRow W a [r] → SRow W am [q] → Calls Try.prog 14 #[.slice a 1 1, .slice am 1 1] W (LenPost (fun n => n = 0 ↔ false = true) W)))
    (HLO : Hid (∀ W, Calls Try.prog 16 #[.agg #[.int .i64 q.ls, .int .i64 q.la], .agg #[.int .i64 r.ls, .int .i64 r.la]] W fun e w' => e = .returned (.agg #[.int .i64 U.ls, .int .i64 U.la]) ∧ Go.RowKit.Below W.heap.size W w'))
    (HHI : Hid (∀ W, Calls Try.prog 17 #[.agg #[.int .i64 q.hs, .int .i64 q.ha], .agg #[.int .i64 r.hs, .int .i64 r.ha]] W fun e w' => e = .returned (.agg #[.int .i64 U.hs, .int .i64 U.ha]) ∧ Go.RowKit.Below W.heap.size W w'))
    (HLI : Hid (∀ a W, SRow W a [q, r] → Calls Try.prog 15 #[.slice a 2 2] W (LenPost (fun n => n = 1 ↔ false = true) W)))
    (hZ : Z = z4)
    (hpl : ps.length ≤ 2) :
    Calls Try.prog 3 #[vS q, vS r] w fun e w' => e = .returned (.bool true) ∧ Go.RowKit.Below w.heap.size w w' := by
  have mx := mixed
  subst hZ
  have HAL := Lib.hid salive_any
  have HSA := Lib.hid (fun a a2 cap cap2 W h1 h2 => same_ps a a2 cap cap2 ps W h1 h2 (by omega))
  have HBX0 := Lib.hid (Pair4.new w q r)
  have hL0 := bt (below_new w (.cells #[.int .i64 q.ls, .int .i64 q.la, .int .i64 q.hs, .int .i64 q.ha] 25)) (below_new _ (.cells #[.int .i64 r.ls, .int .i64 r.la, .int .i64 r.hs, .int .i64 r.ha] 25))
  go_enter Try.func3, Try.ntmps3
  go_wp2_with fail
  generalize ((w.alloc (.cells #[.int .i64 q.ls, .int .i64 q.la, .int .i64 q.hs, .int .i64 q.ha] 25)).alloc (.cells #[.int .i64 r.ls, .int .i64 r.la, .int .i64 r.hs, .int .i64 r.ha] 25)) = X0 at *
  obtain ⟨c1, c2, c3, c4, c5, c6, c7, c8⟩ := HBX0.out.cells
  go_region_held3 (fun w' => w'.cell? ⟨w.heap.size, 0, none⟩ = some (.int .i64 q.ls) ∧ w'.cell? ⟨w.heap.size, 1, none⟩ = some (.int .i64 q.la) ∧ w'.cell? ⟨w.heap.size, 2, none⟩ = some (.int .i64 q.hs) ∧ w'.cell? ⟨w.heap.size, 3, none⟩ = some (.int .i64 q.ha) ∧
        w'.cell? ⟨w.heap.size + 1, 0, none⟩ = some (.int .i64 r.ls) ∧ w'.cell? ⟨w.heap.size + 1, 1, none⟩ = some (.int .i64 r.la) ∧ w'.cell? ⟨w.heap.size + 1, 2, none⟩ = some (.int .i64 r.hs) ∧ w'.cell? ⟨w.heap.size + 1, 3, none⟩ = some (.int .i64 r.ha))
      (with_reducible (focus (refine (HBX0.out.on ?_).cells; (repeat (first | assumption | exact Go.RowKit.Below.refl _ _ | refine bl_drew ?_)); done)))
      (first
        | (go_at_call 10; (with_reducible refine (HON1.out _).mono ?_); rintro e O1 ⟨⟨aO1, rfl, hs1⟩, hB1⟩; have hO1 : Go.RowKit.Below X0.heap.size X0 O1 := bt (by with_reducible repeat (first | exact Go.RowKit.Below.refl _ _ | refine bl_drew ?_)) hB1; have HAO1 := Lib.hid hs1; clear hB1 hs1)
        | (go_at_call 10; (with_reducible refine (HON2.out _).mono ?_); rintro e O2 ⟨⟨aO2, rfl, hs2⟩, hB2⟩; have hB2' : Go.RowKit.Below O1.heap.size O1 O2 := bt (by with_reducible repeat (first | exact Go.RowKit.Below.refl _ _ | refine bl_drew ?_)) hB2; have hO2 := bt hO1 hB2'; have HAO2 := Lib.hid (HAO1.out.below hB2'); have HCO2 := Lib.hid hs2; clear hB2 hB2' hs2)
        | (go_at_call 9; (refine (HME.out _ _ _ (HAO2.out.below (by with_reducible repeat (first | exact Go.RowKit.Below.refl _ _ | refine bl_drew ?_))) (HCO2.out.below (by with_reducible repeat (first | exact Go.RowKit.Below.refl _ _ | refine bl_drew ?_)))).mono ?_); rintro e O3 ⟨aO3, nO3, capO3, ⟨rfl, hs3⟩, hB3⟩; subst hs3; have hO3 : Go.RowKit.Below X0.heap.size X0 O3 := bt (by with_reducible repeat (first | exact hO2 | exact Go.RowKit.Below.refl _ _ | refine bl_drew ?_)) hB3; clear hB3))
  clear c1 c2 c3 c4 c5 c6 c7 c8
  have HBX1 := Lib.hid (HBX0.out.on hO3)
  have hL1 := bt hL0 hO3
  clear HBX0 hL0 HME
  obtain ⟨c1, c2, c3, c4, c5, c6, c7, c8⟩ := HBX1.out.cells
  go_wp2_with fail
  clear c1 c2 c3 c4 c5 c6 c7 c8
  refine (HM.out _).mono ?_
  rintro e y1 ⟨rfl, hB1⟩
  have hA1 := bt hB1 (below_new y1 (.cells #[.int .i64 0, .int .i64 0, .int .i64 0, .int .i64 0] 25))
  have HBX2 := Lib.hid (HBX1.out.on hA1)
  have hL2 := bt hL1 hA1
  have HZ2 : Hid (Box4 (y1.alloc (.cells #[.int .i64 0, .int .i64 0, .int .i64 0, .int .i64 0] 25)) y1.heap.size z4) := heap_alloc_new _ _
  clear HBX1 hL1 hB1 hA1 HM
  obtain ⟨c1, c2, c3, c4, c5, c6, c7, c8⟩ := HBX2.out.cells
  go_wp2_with fail
  clear c1 c2 c3 c4 c5 c6 c7 c8
  generalize y1.alloc (.cells #[.int .i64 0, .int .i64 0, .int .i64 0, .int .i64 0] 25) = X2 at *
  generalize y1.heap.size = N2 at *
  refine (HR1.out _).mono ?_
  rintro e y2 ⟨rfl, hB2⟩
  have HBX3 := Lib.hid (HBX2.out.on hB2)
  have hL3 := bt hL2 hB2
  have HZ3 := Lib.hid (HZ2.out.on hB2)
  clear HBX2 hL2 hB2 HZ2 HR1
  obtain ⟨c1, c2, c3, c4, c5, c6, c7, c8⟩ := HBX3.out.cells
  go_wp2_with fail
  clear c1 c2 c3 c4 c5 c6 c7 c8
  refine (HR2.out _).mono ?_
  rintro e y3 ⟨rfl, hB3⟩
  have HBX4 := Lib.hid (HBX3.out.on hB3)
  have hL4 := bt hL3 hB3
  have HZ4 := Lib.hid (HZ3.out.on hB3)
  clear HBX3 hL3 hB3 HZ3 HR2
  obtain ⟨p1, p2, p3, p4⟩ := HBX4.out.1.re
  obtain ⟨p5, p6, p7, p8⟩ := HBX4.out.2.re
  obtain ⟨p9, p10, p11, p12⟩ := HZ4.out.re
  have nes : ∀ w, Sem.run Try.prog (binOp .neq 25 (.agg #[.int .i64 0, .int .i64 0, .int .i64 0, .int .i64 0]) (.agg #[.int .i64 0, .int .i64 0, .int .i64 0, .int .i64 0])) w = .ok (.bool false) w := neq_self z4
  unfold z4 at p9 p10 p11 p12
  go_wp2_with fail
  refine wp_region_quiet_below (by assumption) (by kernel_rfl) ?_
  repeat (go_big_quiet_step (first
    | (go_at_call 13; exact Calls.regrown_of (HOV.out _))))
  refine wpQuiet_nil ?_
  intro _ hw'
  obtain ⟨⟨nq, osq⟩, hw''⟩ := hw'
  subst hw''
  have hB5 := below_regrown y3 nq osq
  have hL5 := bt hL4 hB5
  have HBX5 := Lib.hid (HBX4.out.on hB5)
  clear hB5 hL4 HBX4 HZ4 p1 p2 p3 p4 p5 p6 p7 p8 p9 p10 p11 p12 nes HOV
  generalize grow (redrawn y3 nq) osq = X5 at *
  obtain ⟨c1, c2, c3, c4, c5, c6, c7, c8⟩ := HBX5.out.cells
  go_wp2_with fail
  go_region_held3 (fun w' => w'.cell? ⟨w.heap.size, 0, none⟩ = some (.int .i64 q.ls) ∧ w'.cell? ⟨w.heap.size, 1, none⟩ = some (.int .i64 q.la) ∧ w'.cell? ⟨w.heap.size, 2, none⟩ = some (.int .i64 q.hs) ∧ w'.cell? ⟨w.heap.size, 3, none⟩ = some (.int .i64 q.ha) ∧
        w'.cell? ⟨w.heap.size + 1, 0, none⟩ = some (.int .i64 r.ls) ∧ w'.cell? ⟨w.heap.size + 1, 1, none⟩ = some (.int .i64 r.la) ∧ w'.cell? ⟨w.heap.size + 1, 2, none⟩ = some (.int .i64 r.hs) ∧ w'.cell? ⟨w.heap.size + 1, 3, none⟩ = some (.int .i64 r.ha))
      (with_reducible (focus (refine (HBX5.out.on ?_).cells; (repeat (first | assumption | exact Go.RowKit.Below.refl _ _ | refine bl_drew ?_)); done)))
      (first
        | (go_at_call 10; (with_reducible refine (HON2.out _).mono ?_); rintro e M1 ⟨⟨aM1, rfl, hs1⟩, hB1⟩; have hM1 : Go.RowKit.Below X5.heap.size X5 M1 := bt (by with_reducible repeat (first | exact Go.RowKit.Below.refl _ _ | refine bl_drew ?_)) hB1; have HAM1 := Lib.hid hs1; clear hB1 hs1)
        | (go_at_call 10; (with_reducible refine (HON1.out _).mono ?_); rintro e M2 ⟨⟨aM2, rfl, hs2⟩, hB2⟩; have hB2' : Go.RowKit.Below M1.heap.size M1 M2 := bt (by with_reducible repeat (first | exact Go.RowKit.Below.refl _ _ | refine bl_drew ?_)) hB2; have hM2 := bt hM1 hB2'; have HAM2 := Lib.hid (HAM1.out.below hB2'); have HCM2 := Lib.hid hs2; clear hB2 hB2' hs2)
        | (go_at_call 14; (refine (HML.out _ _ _ (HAM2.out.below (by with_reducible repeat (first | exact Go.RowKit.Below.refl _ _ | refine bl_drew ?_))) (HCM2.out.below (by with_reducible repeat (first | exact Go.RowKit.Below.refl _ _ | refine bl_drew ?_)))).mono ?_); rintro e M3 ⟨aM3, nM3, capM3, ⟨rfl, hn3⟩, hB3⟩; have hM3 : Go.RowKit.Below X5.heap.size X5 M3 := bt (by with_reducible repeat (first | exact hM2 | exact Go.RowKit.Below.refl _ _ | refine bl_drew ?_)) hB3; have hnz : ¬ nM3 = 0 := (fun h => absurd (hn3.1 h) (by decide)); have hnz2 : ((nM3 : Int) == 0) = false := (by simpa using hnz); clear hB3))
  clear c1 c2 c3 c4 c5 c6 c7 c8 hnz hnz2 hn3
  have HBX6 := Lib.hid (HBX5.out.on hM3)
  have hL6 := bt hL5 hM3
  clear HBX5 hL5 HML
  obtain ⟨c1, c2, c3, c4, c5, c6, c7, c8⟩ := HBX6.out.cells
  go_wp2_with fail
  clear c1 c2 c3 c4 c5 c6 c7 c8
  refine (HLI.out _ _ (srow_block2 (q := q) (r := r) (heap_alloc_new M3 _))).mono ?_
  rintro e y6 ⟨a6, n6, cap6, ⟨rfl, hn6⟩, hB6⟩
  have hB6' := bt (below_new M3 (.cells #[.int .i64 q.ls, .int .i64 q.la, .int .i64 q.hs, .int .i64 q.ha, .int .i64 r.ls, .int .i64 r.la, .int .i64 r.hs, .int .i64 r.ha] 25)) hB6
  have HBY6 := Lib.hid (HBX6.out.on hB6')
  have hLY6 := bt hL6 hB6'
  clear hB6 hB6' HBX6 hL6 HLI
  have hnz : ¬ n6 = 1 := (fun h => absurd (hn6.1 h) (by decide))
  have hnz2 : ((n6 : Int) == 1) = false := by simpa using (by omega : ¬ (n6 : Int) = 1)
  have hL7 := bt (bt hLY6 (below_new y6 (.cells #[.int .i64 0, .int .i64 0, .int .i64 0, .int .i64 0] 25))) (below_new _ (.cells #[] 25))
  have HT7 : Hid (Tri w.heap.size y6.heap.size q r z4 ((y6.alloc (.cells #[.int .i64 0, .int .i64 0, .int .i64 0, .int .i64 0] 25)).alloc (.cells #[] 25))) := ⟨(HBY6.out.on (below_new y6 (.cells #[.int .i64 0, .int .i64 0, .int .i64 0, .int .i64 0] 25))).on (below_new _ _), heap_alloc2_old _ _ _⟩
  have hP : w.heap.size + 2 ≤ y6.heap.size := Nat.succ_le_of_lt (lt_of_block HBY6.out.2)
  clear HBY6 hLY6
  go_wp2_with fail
  generalize ((y6.alloc (.cells #[.int .i64 0, .int .i64 0, .int .i64 0, .int .i64 0] 25)).alloc (.cells #[] 25)) = X7 at *
  generalize y6.heap.size = P at *
  have HBX7 : Hid (Pair4 w.heap.size q r X7) := HT7.out.1
  have HUX7 : Hid (Box4 X7 P z4) := HT7.out.2
  obtain ⟨c1, c2, c3, c4, c5, c6, c7, c8⟩ := HBX7.out.cells
  go_region_held3 (fun w' => w'.cell? ⟨w.heap.size, 0, none⟩ = some (.int .i64 q.ls) ∧ w'.cell? ⟨w.heap.size, 1, none⟩ = some (.int .i64 q.la) ∧ w'.cell? ⟨w.heap.size, 2, none⟩ = some (.int .i64 q.hs) ∧ w'.cell? ⟨w.heap.size, 3, none⟩ = some (.int .i64 q.ha) ∧
        w'.cell? ⟨w.heap.size + 1, 0, none⟩ = some (.int .i64 r.ls) ∧ w'.cell? ⟨w.heap.size + 1, 1, none⟩ = some (.int .i64 r.la) ∧ w'.cell? ⟨w.heap.size + 1, 2, none⟩ = some (.int .i64 r.hs) ∧ w'.cell? ⟨w.heap.size + 1, 3, none⟩ = some (.int .i64 r.ha))
      (with_reducible first
        | (focus (refine (HBX7.out.on ?_).cells; (repeat (first | assumption | exact Go.RowKit.Below.refl _ _ | refine bl_drew ?_)); done))
        | exact ((HBX7.out.on hG2).put (by omega) (by omega) _ _ _ _).cells)
      (first
        | (go_at_call 16; (refine (HLO.out _).mono ?_); rintro e G1 ⟨rfl, hB1⟩; have hG1 : Go.RowKit.Below X7.heap.size X7 G1 := bt (by with_reducible repeat (first | exact Go.RowKit.Below.refl _ _ | refine bl_drew ?_)) hB1; clear hB1)
        | (go_at_call 17; (refine (HHI.out _).mono ?_); rintro e G2 ⟨rfl, hB2⟩; have hG2 : Go.RowKit.Below X7.heap.size X7 G2 := bt (by with_reducible repeat (first | exact hG1 | exact Go.RowKit.Below.refl _ _ | refine bl_drew ?_)) hB2; clear hB2; obtain ⟨⟨d1, d2, d3, d4⟩, e1, e2, e3, e4⟩ := Box4.zero (HUX7.out.on hG2)))
  have HT8 : Hid (Tri w.heap.size P q r U ((((G2.setCell ⟨P, 0, none⟩ (.int .i64 U.ls)).setCell ⟨P, 1, none⟩ (.int .i64 U.la)).setCell ⟨P, 2, none⟩ (.int .i64 U.hs)).setCell ⟨P, 3, none⟩ (.int .i64 U.ha))) := ⟨(HBX7.out.on hG2).put (by omega) (by omega) _ _ _ _, box_put4 (HUX7.out.on hG2) U⟩
  have hL8 := ((((bt hL7 hG2).setCell (p := ⟨P, 0, none⟩) (by show w.heap.size ≤ P; omega) (.int .i64 U.ls)).setCell (p := ⟨P, 1, none⟩) (by show w.heap.size ≤ P; omega) (.int .i64 U.la)).setCell (p := ⟨P, 2, none⟩) (by show w.heap.size ≤ P; omega) (.int .i64 U.hs)).setCell (p := ⟨P, 3, none⟩) (by show w.heap.size ≤ P; omega) (.int .i64 U.ha)
  clear c1 c2 c3 c4 c5 c6 c7 c8 d1 d2 d3 d4 e1 e2 e3 e4 hG1 hG2 HT7 HBX7 HUX7 hL7 HLO HHI
  go_wp2_with fail
  generalize ((((G2.setCell ⟨P, 0, none⟩ (.int .i64 U.ls)).setCell ⟨P, 1, none⟩ (.int .i64 U.la)).setCell ⟨P, 2, none⟩ (.int .i64 U.hs)).setCell ⟨P, 3, none⟩ (.int .i64 U.ha)) = X8 at *
  have HBX8 : Hid (Pair4 w.heap.size q r X8) := HT8.out.1
  obtain ⟨c1, c2, c3, c4, c5, c6, c7, c8⟩ := HBX8.out.cells
  go_region_held3 (fun w' => w'.cell? ⟨w.heap.size, 0, none⟩ = some (.int .i64 q.ls) ∧ w'.cell? ⟨w.heap.size, 1, none⟩ = some (.int .i64 q.la) ∧ w'.cell? ⟨w.heap.size, 2, none⟩ = some (.int .i64 q.hs) ∧ w'.cell? ⟨w.heap.size, 3, none⟩ = some (.int .i64 q.ha) ∧
        w'.cell? ⟨w.heap.size + 1, 0, none⟩ = some (.int .i64 r.ls) ∧ w'.cell? ⟨w.heap.size + 1, 1, none⟩ = some (.int .i64 r.la) ∧ w'.cell? ⟨w.heap.size + 1, 2, none⟩ = some (.int .i64 r.hs) ∧ w'.cell? ⟨w.heap.size + 1, 3, none⟩ = some (.int .i64 r.ha))
      (with_reducible (focus (refine (HBX8.out.on ?_).cells; (repeat (first | assumption | exact Go.RowKit.Below.refl _ _ | refine bl_drew ?_)); done)))
      (first
        | (go_at_call 10; (with_reducible refine (HON1.out _).mono ?_); rintro e K1 ⟨⟨aK1, rfl, hs1⟩, hB1⟩; have hK1 : Go.RowKit.Below X8.heap.size X8 K1 := bt (by with_reducible repeat (first | exact Go.RowKit.Below.refl _ _ | refine bl_drew ?_)) hB1; have HAK1 := Lib.hid hs1; clear hB1 hs1)
        | (go_at_call 10; (with_reducible refine (HON2.out _).mono ?_); rintro e K2 ⟨⟨aK2, rfl, hs2⟩, hB2⟩; have hB2' : Go.RowKit.Below K1.heap.size K1 K2 := bt (by with_reducible repeat (first | exact Go.RowKit.Below.refl _ _ | refine bl_drew ?_)) hB2; have hK2 := bt hK1 hB2'; have HAK2 := Lib.hid (HAK1.out.below hB2'); have HCK2 := Lib.hid hs2; clear hB2 hB2' hs2)
        | (go_at_call 14; (refine (HMN.out _ _ _ (HAK2.out.below (by with_reducible repeat (first | exact Go.RowKit.Below.refl _ _ | refine bl_drew ?_))) (HCK2.out.below (by with_reducible repeat (first | exact Go.RowKit.Below.refl _ _ | refine bl_drew ?_)))).mono ?_); rintro e K3 ⟨aK3, capK3, ⟨rfl, hs3⟩, hB3⟩; have hK3 : Go.RowKit.Below X8.heap.size X8 K3 := bt (by with_reducible repeat (first | exact hK2 | exact Go.RowKit.Below.refl _ _ | refine bl_drew ?_)) hB3; have HAK3 := Lib.hid hs3; clear hB3 hs3))
  clear c1 c2 c3 c4 c5 c6 c7 c8 HBX8
  have HT6 := Lib.hid (HT8.out.on hK3)
  have hL6 := bt hL8 hK3
  clear HT8 hL8 HMN hK1 hK2 hK3 HAK1 HAK2 HCK2
  go_wp2_with fail
  generalize K3 = X6 at *
  have eqs : ∀ w, Sem.run Try.prog (binOp .eql 25 (.agg #[.int .i64 U.ls, .int .i64 U.la, .int .i64 U.hs, .int .i64 U.ha]) (.agg #[.int .i64 U.ls, .int .i64 U.la, .int .i64 U.hs, .int .i64 U.ha])) w = .ok (.bool true) w := fun w => by have := eql_span U U w; simp at this; exact this
  obtain ⟨⟨c1, c2, c3, c4, c5, c6, c7, c8⟩, u1, u2, u3, u4⟩ := HT6.out.cells
  go_region_held3 (fun w' => (w'.cell? ⟨w.heap.size, 0, none⟩ = some (.int .i64 q.ls) ∧ w'.cell? ⟨w.heap.size, 1, none⟩ = some (.int .i64 q.la) ∧ w'.cell? ⟨w.heap.size, 2, none⟩ = some (.int .i64 q.hs) ∧ w'.cell? ⟨w.heap.size, 3, none⟩ = some (.int .i64 q.ha) ∧
        w'.cell? ⟨w.heap.size + 1, 0, none⟩ = some (.int .i64 r.ls) ∧ w'.cell? ⟨w.heap.size + 1, 1, none⟩ = some (.int .i64 r.la) ∧ w'.cell? ⟨w.heap.size + 1, 2, none⟩ = some (.int .i64 r.hs) ∧ w'.cell? ⟨w.heap.size + 1, 3, none⟩ = some (.int .i64 r.ha)) ∧
        w'.cell? ⟨P, 0, none⟩ = some (.int .i64 U.ls) ∧ w'.cell? ⟨P, 1, none⟩ = some (.int .i64 U.la) ∧ w'.cell? ⟨P, 2, none⟩ = some (.int .i64 U.hs) ∧ w'.cell? ⟨P, 3, none⟩ = some (.int .i64 U.ha))
      (with_reducible (focus (refine (HT6.out.on ?_).cells; (repeat (first | assumption | exact Go.RowKit.Below.refl _ _ | refine bl_drew ?_)); done)))
      (first
        | (go_at_call 18; (refine (HAL.out _).mono ?_); rintro e V1 ⟨rfl, hB1⟩; have hV1 : Go.RowKit.Below X6.heap.size X6 V1 := bt (by with_reducible repeat (first | exact Go.RowKit.Below.refl _ _ | refine bl_drew ?_)) hB1; clear hB1)
        | (go_at_call 19; (refine (HHO.out _).mono ?_); rintro e V2 ⟨rfl, hB2⟩; have hV2 : Go.RowKit.Below X6.heap.size X6 V2 := bt (by with_reducible repeat (first | exact hV1 | exact Go.RowKit.Below.refl _ _ | refine bl_drew ?_)) hB2; clear hB2)
        | (go_at_call 20; (refine (HTO.out _).mono ?_); rintro e V3 ⟨rfl, hB3⟩; have hV3 : Go.RowKit.Below X6.heap.size X6 V3 := bt (by with_reducible repeat (first | exact hV2 | exact Go.RowKit.Below.refl _ _ | refine bl_drew ?_)) hB3; clear hB3)
        | (go_at_call 21; (refine (HHU.out _).mono ?_); rintro e V4 ⟨rfl, hB4⟩; have hV4 : Go.RowKit.Below X6.heap.size X6 V4 := bt (by with_reducible repeat (first | exact hV3 | exact Go.RowKit.Below.refl _ _ | refine bl_drew ?_)) hB4; clear hB4)
        | (go_at_call 23; (refine (HMI.out _).mono ?_); rintro e V5 ⟨aV5, capV5, ⟨rfl, hs5⟩, hB5⟩; have hV5 : Go.RowKit.Below X6.heap.size X6 V5 := bt (by with_reducible repeat (first | exact hV4 | exact Go.RowKit.Below.refl _ _ | refine bl_drew ?_)) hB5; have HS5 := Lib.hid hs5; clear hB5 hs5)
        | (go_at_call 22; (refine (HSA.out _ _ _ _ _ (HS5.out.below (by with_reducible repeat (first | exact Go.RowKit.Below.refl _ _ | refine bl_drew ?_))) (HAK3.out.below (by with_reducible repeat (first | exact hV5 | exact Go.RowKit.Below.refl _ _ | refine bl_drew ?_)))).mono ?_); rintro e V6 ⟨rfl, hB6⟩; have hV6 : Go.RowKit.Below X6.heap.size X6 V6 := bt (by with_reducible repeat (first | exact hV5 | exact Go.RowKit.Below.refl _ _ | refine bl_drew ?_)) hB6; clear hB6))
  all_goals
    go_wp2_with fail
    go_ret
    exact ⟨rfl, bt hL6 hV6⟩
end Go.Proofs.Ytkokilbnhhmicaa
