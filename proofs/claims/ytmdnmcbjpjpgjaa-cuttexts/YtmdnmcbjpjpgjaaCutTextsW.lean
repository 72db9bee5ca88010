/- The walk of the law CutTexts. -/
import Derived.Test.YtmdnmcbjpjpgjaaCutShiftsW
import Derived.Test.YtmdnmcbjpjpgjaaCutRT
namespace Go.Proofs.Ytmdnmcbjpjpgjaa
open Go.RowKit Go.Sort Go.Proofs.Ytmdnmcbjpjpgjaa.Bo
set_option linter.unusedVariables false

set_option maxRecDepth 100000 in
set_option maxHeartbeats 4000000 in
theorem cutTexts_core (s a : Int) (b T : ByteArray) (x y N cx cy : Int) (w : World) (hb : b.size ≤ 10000) (hT : T.size ≤ 20)
    (HR : Hid (∀ W, Calls Try.prog 33 #[.string b] W fun e w' => e = .returned (.tuple #[.agg #[.int .i64 x, .int .i64 y], .int .i64 N]) ∧ Below W.heap.size W w'))
    (HRR : Hid (∀ W, Calls Try.prog 34 #[.string b] W fun e w' => e = .returned (.tuple #[.agg #[.int .i64 x, .int .i64 y], .int .i64 N]) ∧ Below W.heap.size W w'))
    (HT : Hid (∀ W, Calls Try.prog 35 #[.agg #[.int .i64 s, .int .i64 a]] W fun e w' => e = .returned (.string T) ∧ Below W.heap.size W w'))
    (HRT : Hid (∀ W, Calls Try.prog 36 #[.agg #[.int .i64 s, .int .i64 a]] W fun e w' => e = .returned (.string T) ∧ Below W.heap.size W w'))
    (HB : Hid (∀ W, Calls Try.prog 33 #[.string (T ++ ⟨#[44]⟩ ++ b)] W fun e w' => e = .returned (.tuple #[.agg #[.int .i64 cx, .int .i64 cy], .int .i64 (T.size : Int)]) ∧ Below W.heap.size W w'))
    (HC : Hid (∀ W, Calls Try.prog 10 #[.agg #[.int .i64 s, .int .i64 a]] W fun e w' => e = .returned (.agg #[.int .i64 cx, .int .i64 cy]) ∧ Below W.heap.size W w')) :
    Calls Try.prog 6 #[.agg #[.int .i64 s, .int .i64 a], .string b] w fun e w' => e = .returned (.bool true) ∧ Below w.heap.size w w' := by
  have mx := mixed
  have eqc := eql_cut
  have nec := neq_cut
  have HAL := Lib.hid calive_any
  have t1 : decide ((10000 : Int) < (b.size : Int)) = false := decide_eq_false (by omega)
  go_enter Try.func6, Try.ntmps6
  go_wp2_with fail
  refine (HR.out _).mono ?_
  rintro e x1 ⟨rfl, hB1⟩
  have hL1 := bt (bt (below_new w (.cells #[.int .i64 s, .int .i64 a] 23)) hB1) (below_new x1 (.cells #[.int .i64 x, .int .i64 y] 23))
  have G1 := Lib.hid (box_on (box_new _ hB1) (below_new x1 (.cells #[.int .i64 x, .int .i64 y] 23)))
  have A1 := Lib.hid (heap_alloc_new x1 (.cells #[.int .i64 x, .int .i64 y] 23))
  clear hB1
  go_wp2_with fail
  generalize x1.alloc (.cells #[.int .i64 x, .int .i64 y] 23) = X at *
  refine (HRR.out _).mono ?_
  rintro e x2 ⟨rfl, hB2⟩
  have hB3 := bt hB2 (below_new x2 (.cells #[.int .i64 x, .int .i64 y] 23))
  have hL3 := bt hL1 hB3
  have G3 := Lib.hid (box_on G1.out hB3)
  have A3 := Lib.hid (box_on A1.out hB3)
  have B3 := Lib.hid (heap_alloc_new x2 (.cells #[.int .i64 x, .int .i64 y] 23))
  obtain ⟨c1, c2, _, _⟩ := two_cells G3.out
  clear hB2 hB3 hL1 G1 A1
  go_wp2_with fail
  generalize x2.alloc (.cells #[.int .i64 x, .int .i64 y] 23) = Y at *
  clear c1 c2
  refine (HT.out _).mono ?_
  rintro e x4 ⟨rfl, hB4⟩
  go_wp2_with fail
  refine (HB.out _).mono ?_
  rintro e x5 ⟨rfl, hB5⟩
  have hB6 := bt (bt hB4 hB5) (below_new x5 (.cells #[.int .i64 cx, .int .i64 cy] 23))
  have hL6 := bt hL3 hB6
  have G6 := Lib.hid (box_on G3.out hB6)
  have A6 := Lib.hid (box_on A3.out hB6)
  have B6 := Lib.hid (box_on B3.out hB6)
  have D6 := Lib.hid (heap_alloc_new x5 (.cells #[.int .i64 cx, .int .i64 cy] 23))
  clear hB4 hB5 hB6 hL3 G3 A3 B3
  go_wp2_with fail
  generalize x5.alloc (.cells #[.int .i64 cx, .int .i64 cy] 23) = Z at *
  obtain ⟨p1, p2⟩ := cut_regrown G6.out
  obtain ⟨p3, p4⟩ := cut_regrown A6.out
  obtain ⟨p5, p6⟩ := cut_regrown B6.out
  obtain ⟨p7, p8⟩ := cut_regrown D6.out
  have te : (T.toList == T.toList) = true := beq_self_eq_true _
  refine wp_region_quiet_below (by assumption) (by kernel_rfl) ?_
  repeat (go_big_quiet_step (first
    | (go_at_call 15; exact Calls.regrown_of (HAL.out _))
    | (go_at_call 35; exact Calls.regrown_of (HT.out _))
    | (go_at_call 36; exact Calls.regrown_of (HRT.out _))
    | (go_at_call 10; exact Calls.regrown_of (HC.out _))))
  refine wpQuiet_nil ?_
  intro _ hw'
  obtain ⟨⟨nq, osq⟩, hw''⟩ := hw'
  subst hw''
  have hL8 := bt hL6 (below_regrown Z nq osq)
  go_wp2_with fail
  go_ret
  exact ⟨rfl, hL8⟩

set_option maxHeartbeats 1000000 in
theorem cutTexts_walk (s a : Int) (b : ByteArray) (ws0 : (Lit.int .i64 s).wf = true) (w0 : (Lit.int .i64 a).wf = true) (w1 : b.size ≤ maxLen) (w : World) :
    Calls Try.prog 6 #[.agg #[.int .i64 s, .int .i64 a], .string b] w fun e w' => e = .returned (.bool true) ∧ Below w.heap.size w w' := by
  have ha := i64_of_wf2 w0
  by_cases hbig : 10000 < b.size
  · have t1 : decide ((10000 : Int) < (b.size : Int)) = true := decide_eq_true (by omega)
    have HAL := Lib.hid calive_any
    clear ha ws0 w0
    go_enter Try.func6, Try.ntmps6
    go_wp2_with fail
    refine (HAL.out _).mono ?_
    rintro e x1 ⟨rfl, hB1⟩
    go_wp2_with fail
    go_ret
    exact ⟨rfl, bt (below_new w _) hB1⟩
  · have hk := key_ky s a ha
    have hl := ktext_len _ hk
    have hsz : (⟨(ktext (key s a)).toArray⟩ : ByteArray).size = (ktext (key s a)).length := by simp [ByteArray.size]
    refine cutTexts_core s a b ⟨(ktext (key s a)).toArray⟩ _ _ _ _ _ w (by omega) (by omega) (fun W => cread_any b W w1) (fun W => rcread_any b W (by omega)) (fun W => ctext_any s a W ha) (fun W => rctext_any s a W ha) (fun W => ?_) (fun W => canon_b s a ha W)
    have h := cread_any (⟨(ktext (key s a)).toArray⟩ ++ ⟨#[44]⟩ ++ b) W (by rw [ByteArray.size_append, ByteArray.size_append, hsz, show (⟨#[44]⟩ : ByteArray).size = 1 from rfl]; unfold maxLen; omega)
    have e : rdCut ((⟨(ktext (key s a)).toArray⟩ : ByteArray) ++ ⟨#[44]⟩ ++ b).data.toList = (key s a, (ktext (key s a)).length) := by
      rw [show ((⟨(ktext (key s a)).toArray⟩ : ByteArray) ++ ⟨#[44]⟩ ++ b).data.toList = ktext (key s a) ++ (44 :: b.data.toList) from by simp]
      refine rdCut_text _ _ hk ?_
      intro c hc
      simp at hc
      subst hc
      left; decide
    rw [e] at h
    rw [hsz]
    exact h
end Go.Proofs.Ytmdnmcbjpjpgjaa
