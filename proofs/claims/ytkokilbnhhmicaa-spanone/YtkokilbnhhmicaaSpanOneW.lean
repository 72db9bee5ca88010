/- The walk of the law SpanOne. -/
import Derived.Test.YtkokilbnhhmicaaBH
namespace Go.Proofs.Ytkokilbnhhmicaa
open Go.RowKit Go.Sort Go.Proofs.Ytkokilbnhhmicaa.Bo
set_option linter.unusedVariables false

set_option maxRecDepth 100000 in
set_option maxHeartbeats 4000000 in
theorem spanOne_core (q Z T : S4) (n E m x y : Int) (b R H : Bool) (w : World)
    (HO : Hid (∀ W, Calls Try.prog 24 #[.agg #[.int .i64 q.ls, .int .i64 q.la], .agg #[.int .i64 q.hs, .int .i64 q.ha]] W fun e w' => e = .returned (.tuple #[.agg #[.int .i64 Z.ls, .int .i64 Z.la, .int .i64 Z.hs, .int .i64 Z.ha], .int .i64 E]) ∧ Go.RowKit.Below W.heap.size W w'))
    (HRO : Hid (∀ W, Calls Try.prog 25 #[.agg #[.int .i64 q.ls, .int .i64 q.la], .agg #[.int .i64 q.hs, .int .i64 q.ha]] W fun e w' => e = .returned (.tuple #[.agg #[.int .i64 Z.ls, .int .i64 Z.la, .int .i64 Z.hs, .int .i64 Z.ha], .int .i64 E]) ∧ Go.RowKit.Below W.heap.size W w'))
    (HC : Hid (∀ W, Calls Try.prog 26 #[.agg #[.int .i64 q.ls, .int .i64 q.la, .int .i64 q.hs, .int .i64 q.ha]] W fun e w' => e = .returned (.tuple #[.int .u64 m, .bool b]) ∧ Go.RowKit.Below W.heap.size W w'))
    (HRC : Hid (∀ W, Calls Try.prog 27 #[.agg #[.int .i64 q.ls, .int .i64 q.la, .int .i64 q.hs, .int .i64 q.ha]] W fun e w' => e = .returned (.tuple #[.int .u64 m, .bool b]) ∧ Go.RowKit.Below W.heap.size W w'))
    (HR : Hid (∀ W, Calls Try.prog 28 #[.agg #[.int .i64 q.ls, .int .i64 q.la, .int .i64 q.hs, .int .i64 q.ha]] W fun e w' => e = .returned (.bool R) ∧ Go.RowKit.Below W.heap.size W w'))
    (HRR : Hid (∀ W, Calls Try.prog 12 #[.agg #[.int .i64 q.ls, .int .i64 q.la, .int .i64 q.hs, .int .i64 q.ha]] W fun e w' => e = .returned (.bool R) ∧ Go.RowKit.Below W.heap.size W w'))
    (HH : Hid (∀ W, Calls Try.prog 29 #[.agg #[.int .i64 q.ls, .int .i64 q.la, .int .i64 q.hs, .int .i64 q.ha], .int .i64 n] W fun e w' => e = .returned (.bool H) ∧ Go.RowKit.Below W.heap.size W w'))
    (HRH : Hid (∀ W, Calls Try.prog 30 #[.agg #[.int .i64 q.ls, .int .i64 q.la, .int .i64 q.hs, .int .i64 q.ha], .int .i64 n] W fun e w' => e = .returned (.bool H) ∧ Go.RowKit.Below W.heap.size W w'))
    (HE : Hid (∀ W, Calls Try.prog 31 #[.agg #[.int .i64 q.ls, .int .i64 q.la, .int .i64 q.hs, .int .i64 q.ha]] W fun e w' => e = .returned (.tuple #[.int .i64 x, .int .i64 y]) ∧ Go.RowKit.Below W.heap.size W w'))
    (HN : Hid (R = false → x = 0 ∧ y = 0))
    (HX : Hid (R = true → ∃ I, ∀ W, Calls Try.prog 32 #[.agg #[.int .i64 q.ls, .int .i64 q.la]] W fun e w' => e = .returned (.tuple #[.int .i64 x, .bool I]) ∧ Go.RowKit.Below W.heap.size W w'))
    (HY : Hid (R = true → ∃ I, ∀ W, Calls Try.prog 33 #[.agg #[.int .i64 q.hs, .int .i64 q.ha]] W fun e w' => e = .returned (.tuple #[.int .i64 y, .bool I]) ∧ Go.RowKit.Below W.heap.size W w'))
    (HHX : Hid (R = true → ∀ W, Calls Try.prog 29 #[.agg #[.int .i64 q.ls, .int .i64 q.la, .int .i64 q.hs, .int .i64 q.ha], .int .i64 x] W fun e w' => e = .returned (.bool true) ∧ Go.RowKit.Below W.heap.size W w'))
    (HHY : Hid (R = true → ∀ W, Calls Try.prog 29 #[.agg #[.int .i64 q.ls, .int .i64 q.la, .int .i64 q.hs, .int .i64 q.ha], .int .i64 y] W fun e w' => e = .returned (.bool true) ∧ Go.RowKit.Below W.heap.size W w'))
    (HP : Hid (∀ W, Calls Try.prog 34 #[.int .i64 n] W fun e w' => e = .returned (.agg #[.int .i64 T.ls, .int .i64 T.la, .int .i64 T.hs, .int .i64 T.ha]) ∧ Go.RowKit.Below W.heap.size W w'))
    (HA : Hid (∀ W, Calls Try.prog 35 #[.int .i64 n] W fun e w' => e = .returned (.agg #[.int .i64 T.ls, .int .i64 T.la]) ∧ Go.RowKit.Below W.heap.size W w'))
    (HB : Hid (∀ W, Calls Try.prog 36 #[.int .i64 n] W fun e w' => e = .returned (.agg #[.int .i64 T.hs, .int .i64 T.ha]) ∧ Go.RowKit.Below W.heap.size W w')) :
    Calls Try.prog 4 #[vS q, .int .i64 n] w fun e w' => e = .returned (.bool true) ∧ Go.RowKit.Below w.heap.size w w' := by
  have mx := mixed
  have HAL := Lib.hid salive_any
  have nes := neq_self Z
  have eqs : ∀ w, Sem.run Try.prog (binOp .eql 25 (.agg #[.int .i64 T.ls, .int .i64 T.la, .int .i64 T.hs, .int .i64 T.ha]) (.agg #[.int .i64 T.ls, .int .i64 T.la, .int .i64 T.hs, .int .i64 T.ha])) w = .ok (.bool true) w := fun w => by rw [eql_span]; simp
  have HQ : Hid (Box4 (w.alloc (.cells #[.int .i64 q.ls, .int .i64 q.la, .int .i64 q.hs, .int .i64 q.ha] 25)) w.heap.size q) := heap_alloc_new _ _
  have hL := below_new w (.cells #[.int .i64 q.ls, .int .i64 q.la, .int .i64 q.hs, .int .i64 q.ha] 25)
  go_enter Try.func4, Try.ntmps4
  go_wp2_with fail
  refine (HO.out _).mono ?_
  rintro e y1 ⟨rfl, hB1⟩
  have hA1 := bt hB1 (below_new y1 (.cells #[.int .i64 Z.ls, .int .i64 Z.la, .int .i64 Z.hs, .int .i64 Z.ha] 25))
  have hL1 := bt hL hA1
  have HQ1 := Lib.hid (HQ.out.on hA1)
  have HZ1 : Hid (Box4 (y1.alloc (.cells #[.int .i64 Z.ls, .int .i64 Z.la, .int .i64 Z.hs, .int .i64 Z.ha] 25)) y1.heap.size Z) := heap_alloc_new _ _
  obtain ⟨c1, c2, c3, c4⟩ := HQ1.out.cells
  clear hB1 hA1 hL HQ
  go_wp2_with fail
  generalize y1.alloc (.cells #[.int .i64 Z.ls, .int .i64 Z.la, .int .i64 Z.hs, .int .i64 Z.ha] 25) = X1 at *
  generalize y1.heap.size = N1 at *
  refine (HRO.out _).mono ?_
  rintro e y2 ⟨rfl, hB2⟩
  have hA2 := bt hB2 (below_new y2 (.cells #[.int .i64 Z.ls, .int .i64 Z.la, .int .i64 Z.hs, .int .i64 Z.ha] 25))
  have hL2 := bt hL1 hA2
  have HQ2 := Lib.hid (HQ1.out.on hA2)
  have HZ2 := Lib.hid (HZ1.out.on hA2)
  have HV2 : Hid (Box4 (y2.alloc (.cells #[.int .i64 Z.ls, .int .i64 Z.la, .int .i64 Z.hs, .int .i64 Z.ha] 25)) y2.heap.size Z) := heap_alloc_new _ _
  clear c1 c2 c3 c4 hB2 hA2 hL1 HQ1 HZ1
  obtain ⟨c1, c2, c3, c4⟩ := HQ2.out.cells
  go_wp2_with fail
  clear c1 c2 c3 c4
  generalize y2.alloc (.cells #[.int .i64 Z.ls, .int .i64 Z.la, .int .i64 Z.hs, .int .i64 Z.ha] 25) = X2 at *
  generalize y2.heap.size = N2 at *
  refine (HC.out _).mono ?_
  rintro e y3 ⟨rfl, hB3⟩
  have hL3 := bt hL2 hB3
  have HQ3 := Lib.hid (HQ2.out.on hB3)
  have HZ3 := Lib.hid (HZ2.out.on hB3)
  have HV3 := Lib.hid (HV2.out.on hB3)
  clear hB3 hL2 HQ2 HZ2 HV2
  obtain ⟨c1, c2, c3, c4⟩ := HQ3.out.cells
  go_wp2_with fail
  clear c1 c2 c3 c4
  refine (HRC.out _).mono ?_
  rintro e y4 ⟨rfl, hB4⟩
  have hL4 := bt hL3 hB4
  have HQ4 := Lib.hid (HQ3.out.on hB4)
  have HZ4 := Lib.hid (HZ3.out.on hB4)
  have HV4 := Lib.hid (HV3.out.on hB4)
  clear hB4 hL3 HQ3 HZ3 HV3
  obtain ⟨p1, p2, p3, p4⟩ := HQ4.out.re
  obtain ⟨p5, p6, p7, p8⟩ := HZ4.out.re
  obtain ⟨p9, p10, p11, p12⟩ := HV4.out.re
  have t1 : (E != E) = false := by simp
  have t2 : (m != m) = false := by simp
  have t3 : (b != b) = false := by simp
  have t4 : (R != R) = false := by simp
  have t5 : (H != H) = false := by simp
  go_wp2_with fail
  refine wp_region_quiet_below (by assumption) (by kernel_rfl) ?_
  repeat (go_big_quiet_step (first
    | (go_at_call 28; exact Calls.regrown_of (HR.out _))
    | (go_at_call 12; exact Calls.regrown_of (HRR.out _))
    | (go_at_call 29; exact Calls.regrown_of (HH.out _))
    | (go_at_call 30; exact Calls.regrown_of (HRH.out _))))
  refine wpQuiet_nil ?_
  intro _ hw'
  obtain ⟨⟨nq, osq⟩, hw''⟩ := hw'
  subst hw''
  have hB5 := below_regrown y4 nq osq
  have hL5 := bt hL4 hB5
  have HQ5 := Lib.hid (HQ4.out.on hB5)
  clear hB5 hL4 HQ4 HZ4 HV4 p1 p2 p3 p4 p5 p6 p7 p8 p9 p10 p11 p12 t1 t2 t3 t4 t5
  generalize grow (redrawn y4 nq) osq = y5 at *
  obtain ⟨c1, c2, c3, c4⟩ := HQ5.out.cells
  go_wp2_with fail
  clear c1 c2 c3 c4
  refine (HE.out _).mono ?_
  rintro e y6 ⟨rfl, hB6⟩
  have hL6 := bt hL5 hB6
  have HQ6 := Lib.hid (HQ5.out.on hB6)
  clear hB6 hL5 HQ5
  obtain ⟨c1, c2, c3, c4⟩ := HQ6.out.cells
  go_wp2_with fail
  clear c1 c2 c3 c4
  refine (HRR.out _).mono ?_
  rintro e y7 ⟨rfl, hB7⟩
  have hL7 := bt hL6 hB7
  have HQ7 := Lib.hid (HQ6.out.on hB7)
  clear hB7 hL6 HQ6
  obtain ⟨c1, c2, c3, c4⟩ := HQ7.out.cells
  cases R with
  | false =>
    obtain ⟨rfl, rfl⟩ := HN.out rfl
    go_wp2_with fail
    refine (HAL.out _).mono ?_
    rintro e y8 ⟨rfl, hB8⟩
    go_wp2_with fail
    go_ret
    exact ⟨rfl, bt hL7 hB8⟩
  | true =>
    obtain ⟨I, hX⟩ := HX.out rfl
    obtain ⟨J, hY⟩ := HY.out rfl
    have HX2 := Lib.hid hX
    have HY2 := Lib.hid hY
    have HHX2 := Lib.hid (HHX.out rfl)
    have HHY2 := Lib.hid (HHY.out rfl)
    clear hX hY HX HY HHX HHY HN
    go_wp2_with fail
    clear c1 c2 c3 c4
    refine (HX2.out _).mono ?_
    rintro e y8 ⟨rfl, hB8⟩
    have hL8 := bt hL7 hB8
    have HQ8 := Lib.hid (HQ7.out.on hB8)
    clear hB8 hL7 HQ7
    obtain ⟨c1, c2, c3, c4⟩ := HQ8.out.cells
    go_wp2_with fail
    clear c1 c2 c3 c4
    refine (HY2.out _).mono ?_
    rintro e y9 ⟨rfl, hB9⟩
    have hL9 := bt hL8 hB9
    have HQ9 := Lib.hid (HQ8.out.on hB9)
    clear hB9 hL8 HQ8
    go_wp2_with fail
    refine (HAL.out _).mono ?_
    rintro e y10 ⟨rfl, hB10⟩
    have hL10 := bt hL9 hB10
    have HQ10 := Lib.hid (HQ9.out.on hB10)
    clear hB10 hL9 HQ9
    obtain ⟨c1, c2, c3, c4⟩ := HQ10.out.cells
    have t1 : (x == x) = true := beq_self_eq_true _
    have t2 : (y == y) = true := beq_self_eq_true _
    go_wp2_with fail
    clear c1 c2 c3 c4
    refine (HHX2.out _).mono ?_
    rintro e y11 ⟨rfl, hB11⟩
    have hL11 := bt hL10 hB11
    have HQ11 := Lib.hid (HQ10.out.on hB11)
    clear hB11 hL10 HQ10
    obtain ⟨c1, c2, c3, c4⟩ := HQ11.out.cells
    go_wp2_with fail
    clear c1 c2 c3 c4
    refine (HHY2.out _).mono ?_
    rintro e y12 ⟨rfl, hB12⟩
    have hL12 := bt hL11 hB12
    clear hB12 hL11 HQ11
    go_wp2_with fail
    refine (HP.out _).mono ?_
    rintro e y13 ⟨rfl, hB13⟩
    have hL13 := bt hL12 hB13
    clear hB13 hL12
    go_wp2_with fail
    refine (HA.out _).mono ?_
    rintro e y14 ⟨rfl, hB14⟩
    have hL14 := bt hL13 hB14
    clear hB14 hL13
    go_wp2_with fail
    refine (HB.out _).mono ?_
    rintro e y15 ⟨rfl, hB15⟩
    have hL15 := bt hL14 hB15
    clear hB15 hL14
    go_wp2_with fail
    go_ret
    exact ⟨rfl, hL15⟩
theorem spanOne_walk (q : S4) (n : Int) (hq : q.ok) (wn : (Lit.int .i64 n).wf = true) (w : World) : Calls Try.prog 4 #[vS q, .int .i64 n] w fun e w' => e = .returned (.bool true) ∧ Go.RowKit.Below w.heap.size w w' := by
  have hn := i64_of_wf2 wn
  have k1 := q.ky_lo hq
  have k2 := q.ky_hi hq
  unfold Ky at k1 k2
  refine spanOne_core q (ofS q.lo q.hi) (sp (n, n + 1)) n (ofE q.lo q.hi) (cntV q) (endL q) (endH q) (cntB q) q.right (q.has n) w (fun W => sof_any _ _ _ _ W hq.1 hq.2) (fun W => rof_any _ _ _ _ W hq.1 hq.2) (fun W => scount_any q W hq) (fun W => rcount_any q W hq)
    (fun W => sright_any q W hq) (fun W => rright_any q W hq) (fun W => shas_any q n W hq hn) (fun W => rhas_any q n W hq hn) (fun W => sends_any q W hq) ?_ ?_ ?_ ?_ ?_ (fun W => spoint_any n W hn) (fun W => rahead_any n W hn) (fun W => rbehind_any n W hn)
  · intro h
    unfold endL endH
    rw [if_neg (by rw [h]; decide), if_neg (by rw [h]; decide)]
    exact ⟨rfl, rfl⟩
  · intro h
    have hlt := (sp_of_right q h).2
    refine ⟨nxb (key q.ls q.la), fun W => ?_⟩
    have := rnext_any q.ls q.la W hq.1
    rw [show nx (key q.ls q.la) = endL q from by unfold endL; rw [if_pos h]; exact (nx_in q.lo (by omega)).1] at this
    exact this
  · intro h
    have hlt := (sp_of_right q h).2
    refine ⟨pvb (key q.hs q.ha), fun W => ?_⟩
    have := rprev_any q.hs q.ha W hq.2
    rw [show pv (key q.hs q.ha) = endH q from by unfold endH; rw [if_pos h]; exact (pv_in q.hi (by omega)).1] at this
    exact this
  · intro h W
    have hlt := (sp_of_right q h).2
    have e : endL q = q.lo := by unfold endL; rw [if_pos h]
    have hi : I64 (endL q) := by rw [e]; unfold I64; omega
    have := shas_any q (endL q) W hq hi
    rw [show q.has (endL q) = true from by unfold S4.has; rw [h, e]; simp; omega] at this
    exact this
  · intro h W
    have hlt := (sp_of_right q h).2
    have e : endH q = q.hi - 1 := by unfold endH; rw [if_pos h]
    have hi : I64 (endH q) := by rw [e]; unfold I64; omega
    have := shas_any q (endH q) W hq hi
    rw [show q.has (endH q) = true from by unfold S4.has; rw [h, e]; simp; omega] at this
    exact this
end Go.Proofs.Ytkokilbnhhmicaa
