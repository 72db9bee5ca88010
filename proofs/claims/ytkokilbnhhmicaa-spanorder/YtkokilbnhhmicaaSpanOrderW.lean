/- The walk of the law SpanOrder. -/
import Derived.Test.YtkokilbnhhmicaaBH
namespace Go.Proofs.Ytkokilbnhhmicaa
open Go.RowKit Go.Sort Go.Proofs.Ytkokilbnhhmicaa.Bo
set_option linter.unusedVariables false

theorem scompare_b (q r : S4) (z : Int) (h : scmp q r = z) (w : World) (hq : q.ok) (hr : r.ok) : Calls Try.prog 43 #[.agg #[.int .i64 q.ls, .int .i64 q.la, .int .i64 q.hs, .int .i64 q.ha], .agg #[.int .i64 r.ls, .int .i64 r.la, .int .i64 r.hs, .int .i64 r.ha]] w fun e w' => e = .returned (.int .i64 z) ∧ Go.RowKit.Below w.heap.size w w' := by
  rw [← h]; exact (scompare_any q r w hq hr).mono fun _ _ h => ⟨h.1, h.2.1⟩
theorem rcompare_b (s a t b v : Int) (h : kcmp (key s a) (key t b) = v) (ha : I64 a) (hb : I64 b) (w : World) : Calls Try.prog 44 #[.agg #[.int .i64 s, .int .i64 a], .agg #[.int .i64 t, .int .i64 b]] w fun e w' => e = .returned (.int .i64 v) ∧ Go.RowKit.Below w.heap.size w w' := by
  rw [← h]; exact rcompare_any s a t b w ha hb
theorem kcmp_neg (a b : Int) : kcmp b a = -kcmp a b := by unfold kcmp; split <;> (try split) <;> (try split) <;> omega
theorem kcmp_three (a b : Int) : kcmp a b = -1 ∨ kcmp a b = 0 ∨ kcmp a b = 1 := by unfold kcmp; split <;> (try split) <;> simp
theorem scmp_neg (q r : S4) : scmp r q = -scmp q r := by
  unfold scmp
  rw [kcmp_neg q.lo r.lo, kcmp_neg q.hi r.hi]
  by_cases h : kcmp q.lo r.lo = 0
  · rw [h]; rfl
  · rw [if_neg h, if_neg (by omega)]

set_option maxRecDepth 100000 in
set_option maxHeartbeats 2000000 in
theorem spanOrder_core (q r : S4) (x y z z2 : Int) (w : World) (h : (x = 0 ∧ z = y) ∨ (x ≠ 0 ∧ z = x)) (h3 : z = -1 ∧ z2 = 1 ∨ z = 0 ∧ z2 = 0 ∨ z = 1 ∧ z2 = -1)
    (HS : Hid (∀ W, Calls Try.prog 43 #[.agg #[.int .i64 q.ls, .int .i64 q.la, .int .i64 q.hs, .int .i64 q.ha], .agg #[.int .i64 r.ls, .int .i64 r.la, .int .i64 r.hs, .int .i64 r.ha]] W fun e w' => e = .returned (.int .i64 z) ∧ Go.RowKit.Below W.heap.size W w'))
    (HS2 : Hid (∀ W, Calls Try.prog 43 #[.agg #[.int .i64 r.ls, .int .i64 r.la, .int .i64 r.hs, .int .i64 r.ha], .agg #[.int .i64 q.ls, .int .i64 q.la, .int .i64 q.hs, .int .i64 q.ha]] W fun e w' => e = .returned (.int .i64 z2) ∧ Go.RowKit.Below W.heap.size W w'))
    (HR1 : Hid (∀ W, Calls Try.prog 44 #[.agg #[.int .i64 q.ls, .int .i64 q.la], .agg #[.int .i64 r.ls, .int .i64 r.la]] W fun e w' => e = .returned (.int .i64 x) ∧ Go.RowKit.Below W.heap.size W w'))
    (HR2 : Hid (∀ W, Calls Try.prog 44 #[.agg #[.int .i64 q.hs, .int .i64 q.ha], .agg #[.int .i64 r.hs, .int .i64 r.ha]] W fun e w' => e = .returned (.int .i64 y) ∧ Go.RowKit.Below W.heap.size W w')) :
    Calls Try.prog 8 #[vS q, vS r] w fun e w' => e = .returned (.bool true) ∧ Go.RowKit.Below w.heap.size w w' := by
  have HAL := Lib.hid salive_any
  have HB := Lib.hid (Pair4.new w q r)
  have hL := bt (below_new w (.cells #[.int .i64 q.ls, .int .i64 q.la, .int .i64 q.hs, .int .i64 q.ha] 25)) (below_new _ (.cells #[.int .i64 r.ls, .int .i64 r.la, .int .i64 r.hs, .int .i64 r.ha] 25))
  go_enter Try.func8, Try.ntmps8
  go_wp2_with fail
  refine (HS.out _).mono ?_
  rintro e x1 ⟨rfl, hB1⟩
  have hL1 := bt hL hB1
  have HB1 := Lib.hid (HB.out.on hB1)
  clear hB1 hL HB
  obtain ⟨c1, c2, c3, c4, c5, c6, c7, c8⟩ := HB1.out.cells
  go_wp2_with fail
  refine (HR1.out _).mono ?_
  rintro e x2 ⟨rfl, hB2⟩
  have hL2 := bt hL1 hB2
  have HB2 := Lib.hid (HB1.out.on hB2)
  clear hB2 hL1 HB1 c1 c2 c3 c4 c5 c6 c7 c8
  obtain ⟨c1, c2, c3, c4, c5, c6, c7, c8⟩ := HB2.out.cells
  rcases h with ⟨rfl, rfl⟩ | ⟨hx, rfl⟩
  · go_wp2_with fail
    refine (HR2.out _).mono ?_
    rintro e x3 ⟨rfl, hB3⟩
    have hL3 := bt hL2 hB3
    have HB3 := Lib.hid (HB2.out.on hB3)
    clear hB3 hL2 HB2 c1 c2 c3 c4 c5 c6 c7 c8
    go_wp2_with fail
    refine (HAL.out _).mono ?_
    rintro e x4 ⟨rfl, hB4⟩
    have hL4 := bt hL3 hB4
    have HB4 := Lib.hid (HB3.out.on hB4)
    clear hB4 hL3 HB3
    obtain ⟨c1, c2, c3, c4, c5, c6, c7, c8⟩ := HB4.out.cells
    rcases h3 with ⟨rfl, rfl⟩ | ⟨rfl, rfl⟩ | ⟨rfl, rfl⟩
    all_goals
      go_wp2_with fail
      refine (HS2.out _).mono ?_
      rintro e x5 ⟨rfl, hB5⟩
      go_wp2_with fail
      go_ret
      exact ⟨rfl, bt hL4 hB5⟩
  · have tx : (z == 0) = false := beq_eq_false_iff_ne.2 hx
    clear hx
    go_wp2_with fail
    refine (HAL.out _).mono ?_
    rintro e x4 ⟨rfl, hB4⟩
    have hL4 := bt hL2 hB4
    have HB4 := Lib.hid (HB2.out.on hB4)
    clear hB4 hL2 HB2 c1 c2 c3 c4 c5 c6 c7 c8 tx
    obtain ⟨c1, c2, c3, c4, c5, c6, c7, c8⟩ := HB4.out.cells
    rcases h3 with ⟨rfl, rfl⟩ | ⟨rfl, rfl⟩ | ⟨rfl, rfl⟩
    all_goals
      go_wp2_with fail
      refine (HS2.out _).mono ?_
      rintro e x5 ⟨rfl, hB5⟩
      go_wp2_with fail
      go_ret
      exact ⟨rfl, bt hL4 hB5⟩
theorem spanOrder_walk (q r : S4) (hq : q.ok) (hr : r.ok) (w : World) : Calls Try.prog 8 #[vS q, vS r] w fun e w' => e = .returned (.bool true) ∧ Go.RowKit.Below w.heap.size w w' := by
  refine spanOrder_core q r (kcmp q.lo r.lo) (kcmp q.hi r.hi) (scmp q r) (scmp r q) w ?_ ?_ (fun W => scompare_b q r _ rfl W hq hr) (fun W => scompare_b r q _ rfl W hr hq) (fun W => rcompare_b _ _ _ _ _ rfl hq.1 hr.1 W) (fun W => rcompare_b _ _ _ _ _ rfl hq.2 hr.2 W)
  · unfold scmp
    by_cases h : kcmp q.lo r.lo = 0
    · exact .inl ⟨h, by rw [if_pos h]⟩
    · exact .inr ⟨h, by rw [if_neg h]⟩
  · rw [scmp_neg q r]
    have h1 := kcmp_three q.lo r.lo
    have h2 := kcmp_three q.hi r.hi
    unfold scmp
    split <;> omega
end Go.Proofs.Ytkokilbnhhmicaa
