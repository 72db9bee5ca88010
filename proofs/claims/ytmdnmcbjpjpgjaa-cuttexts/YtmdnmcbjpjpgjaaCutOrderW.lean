/- The walk of the law CutOrder. -/
import Derived.Test.YtmdnmcbjpjpgjaaCutAl
import Derived.OpenShut
namespace Go.Proofs.Ytmdnmcbjpjpgjaa
open Go.RowKit Go.Sort Go.Proofs.Ytmdnmcbjpjpgjaa.Bo
set_option linter.unusedVariables false

theorem i64_of_wf2 {n : Int} (h : (Lit.int .i64 n).wf = true) : I64 n := by
  have := bounds_i64 h; unfold I64; omega
theorem compare_b (s a t b : Int) (v : Int) (h : kcmp (key s a) (key t b) = v) (ha : I64 a) (hb : I64 b) (w : World) :
    Calls Try.prog 13 #[.agg #[.int .i64 s, .int .i64 a], .agg #[.int .i64 t, .int .i64 b]] w fun e w' => e = .returned (.int .i64 v) ∧ Below w.heap.size w w' := by
  subst h; exact (compare_any s a t b w ha hb).mono fun _ _ h => ⟨h.1, h.2.1⟩
theorem canon_b (s a : Int) (ha : I64 a) (w : World) :
    Calls Try.prog 10 #[.agg #[.int .i64 s, .int .i64 a]] w fun e w' => e = .returned (.agg #[.int .i64 (sd (key s a)), .int .i64 (pa (key s a))]) ∧ Below w.heap.size w w' := (canon_any s a w ha).mono fun _ _ h => ⟨h.1, h.2.1⟩

/-- The cells of three boxes that lie side by side. -/
theorem three_boxes (w : World) (s a t b u c : Int) :
    (((w.alloc (.cells #[.int .i64 s, .int .i64 a] 23)).alloc (.cells #[.int .i64 t, .int .i64 b] 23)).alloc (.cells #[.int .i64 u, .int .i64 c] 23)).heap[w.heap.size]? = some (.cells #[.int .i64 s, .int .i64 a] 23 (0, 0)) ∧
    (((w.alloc (.cells #[.int .i64 s, .int .i64 a] 23)).alloc (.cells #[.int .i64 t, .int .i64 b] 23)).alloc (.cells #[.int .i64 u, .int .i64 c] 23)).heap[w.heap.size + 1]? = some (.cells #[.int .i64 t, .int .i64 b] 23 (0, 0)) ∧
    (((w.alloc (.cells #[.int .i64 s, .int .i64 a] 23)).alloc (.cells #[.int .i64 t, .int .i64 b] 23)).alloc (.cells #[.int .i64 u, .int .i64 c] 23)).heap[w.heap.size + 1 + 1]? = some (.cells #[.int .i64 u, .int .i64 c] 23 (0, 0)) ∧
    Below w.heap.size w (((w.alloc (.cells #[.int .i64 s, .int .i64 a] 23)).alloc (.cells #[.int .i64 t, .int .i64 b] 23)).alloc (.cells #[.int .i64 u, .int .i64 c] 23)) := by
  refine ⟨?_, ?_, ?_, (((Below.refl _ _).alloc (Nat.le_refl _) _).alloc (by simp) _).alloc (by simp; omega) _⟩
  · rw [heap_alloc_old _ _ (by simp; omega)]; exact heap_alloc2_old _ _ _
  · rw [heap_alloc_old _ _ (by simp)]; exact heap_alloc2_new _ _ _
  · have h := heap_alloc_new ((w.alloc (.cells #[.int .i64 s, .int .i64 a] 23)).alloc (.cells #[.int .i64 t, .int .i64 b] 23)) (.cells #[.int .i64 u, .int .i64 c] 23)
    simpa using h

set_option maxRecDepth 100000 in
set_option maxHeartbeats 2000000 in
theorem cutOrder_core (s a t b u c : Int) (vab vba vbc vac xa ya xb yb : Int) (w : World)
    (HAB : Hid (∀ W, Calls Try.prog 13 #[.agg #[.int .i64 s, .int .i64 a], .agg #[.int .i64 t, .int .i64 b]] W fun e w' => e = .returned (.int .i64 vab) ∧ Below W.heap.size W w'))
    (HBA : Hid (∀ W, Calls Try.prog 13 #[.agg #[.int .i64 t, .int .i64 b], .agg #[.int .i64 s, .int .i64 a]] W fun e w' => e = .returned (.int .i64 vba) ∧ Below W.heap.size W w'))
    (HBC : Hid (∀ W, Calls Try.prog 13 #[.agg #[.int .i64 t, .int .i64 b], .agg #[.int .i64 u, .int .i64 c]] W fun e w' => e = .returned (.int .i64 vbc) ∧ Below W.heap.size W w'))
    (HAC : Hid (∀ W, Calls Try.prog 13 #[.agg #[.int .i64 s, .int .i64 a], .agg #[.int .i64 u, .int .i64 c]] W fun e w' => e = .returned (.int .i64 vac) ∧ Below W.heap.size W w'))
    (HCA : Hid (∀ W, Calls Try.prog 10 #[.agg #[.int .i64 s, .int .i64 a]] W fun e w' => e = .returned (.agg #[.int .i64 xa, .int .i64 ya]) ∧ Below W.heap.size W w'))
    (HCB : Hid (∀ W, Calls Try.prog 10 #[.agg #[.int .i64 t, .int .i64 b]] W fun e w' => e = .returned (.agg #[.int .i64 xb, .int .i64 yb]) ∧ Below W.heap.size W w'))
    (hs : (vab = 1 ∧ vba = -1) ∨ (vab = -1 ∧ vba = 1 ∧ 0 < vbc) ∨ (vab = -1 ∧ vba = 1 ∧ vbc ≤ 0 ∧ vac ≤ 0) ∨ (vab = 0 ∧ vba = 0 ∧ 0 < vbc ∧ xa = xb ∧ ya = yb) ∨ (vab = 0 ∧ vba = 0 ∧ vbc ≤ 0 ∧ vac ≤ 0 ∧ xa = xb ∧ ya = yb)) :
    Calls Try.prog 8 #[.agg #[.int .i64 s, .int .i64 a], .agg #[.int .i64 t, .int .i64 b], .agg #[.int .i64 u, .int .i64 c]] w fun e w' => e = .returned (.bool true) ∧ Below w.heap.size w w' := by
  have mx := mixed
  have eqc := eql_cut
  have HAL := Lib.hid calive_any
  obtain ⟨g1, g2, g3, hL⟩ := three_boxes w s a t b u c
  have HG1 := Lib.hid g1
  have HG2 := Lib.hid g2
  have HG3 := Lib.hid g3
  clear g1 g2 g3
  rcases hs with ⟨rfl, rfl⟩ | ⟨rfl, rfl, h1⟩ | ⟨rfl, rfl, h1, h2⟩ | ⟨rfl, rfl, h1, rfl, rfl⟩ | ⟨rfl, rfl, h1, h2, rfl, rfl⟩
  · go_enter Try.func8, Try.ntmps8
    go_wp2_with fail
    generalize (((w.alloc (.cells #[.int .i64 s, .int .i64 a] 23)).alloc (.cells #[.int .i64 t, .int .i64 b] 23)).alloc (.cells #[.int .i64 u, .int .i64 c] 23)) = X at *
    obtain ⟨p1, p2⟩ := cut_regrown HG1.out
    obtain ⟨p3, p4⟩ := cut_regrown HG2.out
    obtain ⟨p5, p6⟩ := cut_regrown HG3.out
    refine wp_region_quiet_below (by assumption) (by kernel_rfl) ?_
    repeat (go_big_quiet_step (first
      | (go_at_call 15; exact Calls.regrown_of (HAL.out _))
      | (go_at_call 13; with_reducible first | exact Calls.regrown_of (HAB.out _) | exact Calls.regrown_of (HBA.out _) | exact Calls.regrown_of (HBC.out _) | exact Calls.regrown_of (HAC.out _))
      | (go_at_call 10; with_reducible first | exact Calls.regrown_of (HCA.out _) | exact Calls.regrown_of (HCB.out _))))
    refine wpQuiet_nil ?_
    intro _ hw'
    obtain ⟨⟨nq, osq⟩, hw''⟩ := hw'
    subst hw''
    have hB := below_regrown X nq osq
    have g1 := Lib.hid ((hB.block _ (lt_of_block HG1.out)).trans HG1.out)
    have g2 := Lib.hid ((hB.block _ (lt_of_block HG2.out)).trans HG2.out)
    have g3 := Lib.hid ((hB.block _ (lt_of_block HG3.out)).trans HG3.out)
    have hL2 := bt hL hB
    clear p1 p2 p3 p4 p5 p6 HG1 HG2 HG3 hB hL
    go_wp2_with fail
    generalize grow (redrawn X nq) osq = Y at *
    obtain ⟨p1, p2⟩ := cut_regrown g1.out
    obtain ⟨p3, p4⟩ := cut_regrown g2.out
    obtain ⟨p5, p6⟩ := cut_regrown g3.out
    refine wp_region_quiet_below (by assumption) (by kernel_rfl) ?_
    repeat (go_big_quiet_step (first
      | (go_at_call 15; exact Calls.regrown_of (HAL.out _))
      | (go_at_call 13; with_reducible first | exact Calls.regrown_of (HAB.out _) | exact Calls.regrown_of (HBA.out _) | exact Calls.regrown_of (HBC.out _) | exact Calls.regrown_of (HAC.out _))
      | (go_at_call 10; with_reducible first | exact Calls.regrown_of (HCA.out _) | exact Calls.regrown_of (HCB.out _))))
    refine wpQuiet_nil ?_
    intro _ hw'
    obtain ⟨⟨nq, osq⟩, hw''⟩ := hw'
    subst hw''
    have hL3 := bt hL2 (below_regrown Y nq osq)
    go_wp2_with fail
    go_ret
    exact ⟨rfl, hL3⟩

  · have t1 : decide (0 < vbc) = true := decide_eq_true h1
    clear h1
    go_enter Try.func8, Try.ntmps8
    go_wp2_with fail
    generalize (((w.alloc (.cells #[.int .i64 s, .int .i64 a] 23)).alloc (.cells #[.int .i64 t, .int .i64 b] 23)).alloc (.cells #[.int .i64 u, .int .i64 c] 23)) = X at *
    obtain ⟨p1, p2⟩ := cut_regrown HG1.out
    obtain ⟨p3, p4⟩ := cut_regrown HG2.out
    obtain ⟨p5, p6⟩ := cut_regrown HG3.out
    refine wp_region_quiet_below (by assumption) (by kernel_rfl) ?_
    repeat (go_big_quiet_step (first
      | (go_at_call 15; exact Calls.regrown_of (HAL.out _))
      | (go_at_call 13; with_reducible first | exact Calls.regrown_of (HAB.out _) | exact Calls.regrown_of (HBA.out _) | exact Calls.regrown_of (HBC.out _) | exact Calls.regrown_of (HAC.out _))
      | (go_at_call 10; with_reducible first | exact Calls.regrown_of (HCA.out _) | exact Calls.regrown_of (HCB.out _))))
    refine wpQuiet_nil ?_
    intro _ hw'
    obtain ⟨⟨nq, osq⟩, hw''⟩ := hw'
    subst hw''
    have hB := below_regrown X nq osq
    have g1 := Lib.hid ((hB.block _ (lt_of_block HG1.out)).trans HG1.out)
    have g2 := Lib.hid ((hB.block _ (lt_of_block HG2.out)).trans HG2.out)
    have g3 := Lib.hid ((hB.block _ (lt_of_block HG3.out)).trans HG3.out)
    have hL2 := bt hL hB
    clear p1 p2 p3 p4 p5 p6 HG1 HG2 HG3 hB hL
    go_wp2_with fail
    generalize grow (redrawn X nq) osq = Y at *
    obtain ⟨p1, p2⟩ := cut_regrown g1.out
    obtain ⟨p3, p4⟩ := cut_regrown g2.out
    obtain ⟨p5, p6⟩ := cut_regrown g3.out
    refine wp_region_quiet_below (by assumption) (by kernel_rfl) ?_
    repeat (go_big_quiet_step (first
      | (go_at_call 15; exact Calls.regrown_of (HAL.out _))
      | (go_at_call 13; with_reducible first | exact Calls.regrown_of (HAB.out _) | exact Calls.regrown_of (HBA.out _) | exact Calls.regrown_of (HBC.out _) | exact Calls.regrown_of (HAC.out _))
      | (go_at_call 10; with_reducible first | exact Calls.regrown_of (HCA.out _) | exact Calls.regrown_of (HCB.out _))))
    refine wpQuiet_nil ?_
    intro _ hw'
    obtain ⟨⟨nq, osq⟩, hw''⟩ := hw'
    subst hw''
    have hL3 := bt hL2 (below_regrown Y nq osq)
    go_wp2_with fail
    go_ret
    exact ⟨rfl, hL3⟩

  · have t1 : decide (0 < vbc) = false := decide_eq_false (by omega)
    have t2 : decide (vac ≤ 0) = true := decide_eq_true h2
    clear h1 h2
    go_enter Try.func8, Try.ntmps8
    go_wp2_with fail
    generalize (((w.alloc (.cells #[.int .i64 s, .int .i64 a] 23)).alloc (.cells #[.int .i64 t, .int .i64 b] 23)).alloc (.cells #[.int .i64 u, .int .i64 c] 23)) = X at *
    obtain ⟨p1, p2⟩ := cut_regrown HG1.out
    obtain ⟨p3, p4⟩ := cut_regrown HG2.out
    obtain ⟨p5, p6⟩ := cut_regrown HG3.out
    refine wp_region_quiet_below (by assumption) (by kernel_rfl) ?_
    repeat (go_big_quiet_step (first
      | (go_at_call 15; exact Calls.regrown_of (HAL.out _))
      | (go_at_call 13; with_reducible first | exact Calls.regrown_of (HAB.out _) | exact Calls.regrown_of (HBA.out _) | exact Calls.regrown_of (HBC.out _) | exact Calls.regrown_of (HAC.out _))
      | (go_at_call 10; with_reducible first | exact Calls.regrown_of (HCA.out _) | exact Calls.regrown_of (HCB.out _))))
    refine wpQuiet_nil ?_
    intro _ hw'
    obtain ⟨⟨nq, osq⟩, hw''⟩ := hw'
    subst hw''
    have hB := below_regrown X nq osq
    have g1 := Lib.hid ((hB.block _ (lt_of_block HG1.out)).trans HG1.out)
    have g2 := Lib.hid ((hB.block _ (lt_of_block HG2.out)).trans HG2.out)
    have g3 := Lib.hid ((hB.block _ (lt_of_block HG3.out)).trans HG3.out)
    have hL2 := bt hL hB
    clear p1 p2 p3 p4 p5 p6 HG1 HG2 HG3 hB hL
    go_wp2_with fail
    generalize grow (redrawn X nq) osq = Y at *
    obtain ⟨p1, p2⟩ := cut_regrown g1.out
    obtain ⟨p3, p4⟩ := cut_regrown g2.out
    obtain ⟨p5, p6⟩ := cut_regrown g3.out
    refine wp_region_quiet_below (by assumption) (by kernel_rfl) ?_
    repeat (go_big_quiet_step (first
      | (go_at_call 15; exact Calls.regrown_of (HAL.out _))
      | (go_at_call 13; with_reducible first | exact Calls.regrown_of (HAB.out _) | exact Calls.regrown_of (HBA.out _) | exact Calls.regrown_of (HBC.out _) | exact Calls.regrown_of (HAC.out _))
      | (go_at_call 10; with_reducible first | exact Calls.regrown_of (HCA.out _) | exact Calls.regrown_of (HCB.out _))))
    refine wpQuiet_nil ?_
    intro _ hw'
    obtain ⟨⟨nq, osq⟩, hw''⟩ := hw'
    subst hw''
    have hL3 := bt hL2 (below_regrown Y nq osq)
    go_wp2_with fail
    go_ret
    exact ⟨rfl, hL3⟩

  · have t1 : decide (0 < vbc) = true := decide_eq_true h1
    clear h1
    go_enter Try.func8, Try.ntmps8
    go_wp2_with fail
    generalize (((w.alloc (.cells #[.int .i64 s, .int .i64 a] 23)).alloc (.cells #[.int .i64 t, .int .i64 b] 23)).alloc (.cells #[.int .i64 u, .int .i64 c] 23)) = X at *
    obtain ⟨p1, p2⟩ := cut_regrown HG1.out
    obtain ⟨p3, p4⟩ := cut_regrown HG2.out
    obtain ⟨p5, p6⟩ := cut_regrown HG3.out
    refine wp_region_quiet_below (by assumption) (by kernel_rfl) ?_
    repeat (go_big_quiet_step (first
      | (go_at_call 15; exact Calls.regrown_of (HAL.out _))
      | (go_at_call 13; with_reducible first | exact Calls.regrown_of (HAB.out _) | exact Calls.regrown_of (HBA.out _) | exact Calls.regrown_of (HBC.out _) | exact Calls.regrown_of (HAC.out _))
      | (go_at_call 10; with_reducible first | exact Calls.regrown_of (HCA.out _) | exact Calls.regrown_of (HCB.out _))))
    refine wpQuiet_nil ?_
    intro _ hw'
    obtain ⟨⟨nq, osq⟩, hw''⟩ := hw'
    subst hw''
    have hB := below_regrown X nq osq
    have g1 := Lib.hid ((hB.block _ (lt_of_block HG1.out)).trans HG1.out)
    have g2 := Lib.hid ((hB.block _ (lt_of_block HG2.out)).trans HG2.out)
    have g3 := Lib.hid ((hB.block _ (lt_of_block HG3.out)).trans HG3.out)
    have hL2 := bt hL hB
    clear p1 p2 p3 p4 p5 p6 HG1 HG2 HG3 hB hL
    go_wp2_with fail
    generalize grow (redrawn X nq) osq = Y at *
    obtain ⟨p1, p2⟩ := cut_regrown g1.out
    obtain ⟨p3, p4⟩ := cut_regrown g2.out
    obtain ⟨p5, p6⟩ := cut_regrown g3.out
    refine wp_region_quiet_below (by assumption) (by kernel_rfl) ?_
    repeat (go_big_quiet_step (first
      | (go_at_call 15; exact Calls.regrown_of (HAL.out _))
      | (go_at_call 13; with_reducible first | exact Calls.regrown_of (HAB.out _) | exact Calls.regrown_of (HBA.out _) | exact Calls.regrown_of (HBC.out _) | exact Calls.regrown_of (HAC.out _))
      | (go_at_call 10; with_reducible first | exact Calls.regrown_of (HCA.out _) | exact Calls.regrown_of (HCB.out _))))
    refine wpQuiet_nil ?_
    intro _ hw'
    obtain ⟨⟨nq, osq⟩, hw''⟩ := hw'
    subst hw''
    have hL3 := bt hL2 (below_regrown Y nq osq)
    go_wp2_with fail
    go_ret
    exact ⟨rfl, hL3⟩

  · have t1 : decide (0 < vbc) = false := decide_eq_false (by omega)
    have t2 : decide (vac ≤ 0) = true := decide_eq_true h2
    clear h1 h2
    go_enter Try.func8, Try.ntmps8
    go_wp2_with fail
    generalize (((w.alloc (.cells #[.int .i64 s, .int .i64 a] 23)).alloc (.cells #[.int .i64 t, .int .i64 b] 23)).alloc (.cells #[.int .i64 u, .int .i64 c] 23)) = X at *
    obtain ⟨p1, p2⟩ := cut_regrown HG1.out
    obtain ⟨p3, p4⟩ := cut_regrown HG2.out
    obtain ⟨p5, p6⟩ := cut_regrown HG3.out
    refine wp_region_quiet_below (by assumption) (by kernel_rfl) ?_
    repeat (go_big_quiet_step (first
      | (go_at_call 15; exact Calls.regrown_of (HAL.out _))
      | (go_at_call 13; with_reducible first | exact Calls.regrown_of (HAB.out _) | exact Calls.regrown_of (HBA.out _) | exact Calls.regrown_of (HBC.out _) | exact Calls.regrown_of (HAC.out _))
      | (go_at_call 10; with_reducible first | exact Calls.regrown_of (HCA.out _) | exact Calls.regrown_of (HCB.out _))))
    refine wpQuiet_nil ?_
    intro _ hw'
    obtain ⟨⟨nq, osq⟩, hw''⟩ := hw'
    subst hw''
    have hB := below_regrown X nq osq
    have g1 := Lib.hid ((hB.block _ (lt_of_block HG1.out)).trans HG1.out)
    have g2 := Lib.hid ((hB.block _ (lt_of_block HG2.out)).trans HG2.out)
    have g3 := Lib.hid ((hB.block _ (lt_of_block HG3.out)).trans HG3.out)
    have hL2 := bt hL hB
    clear p1 p2 p3 p4 p5 p6 HG1 HG2 HG3 hB hL
    go_wp2_with fail
    generalize grow (redrawn X nq) osq = Y at *
    obtain ⟨p1, p2⟩ := cut_regrown g1.out
    obtain ⟨p3, p4⟩ := cut_regrown g2.out
    obtain ⟨p5, p6⟩ := cut_regrown g3.out
    refine wp_region_quiet_below (by assumption) (by kernel_rfl) ?_
    repeat (go_big_quiet_step (first
      | (go_at_call 15; exact Calls.regrown_of (HAL.out _))
      | (go_at_call 13; with_reducible first | exact Calls.regrown_of (HAB.out _) | exact Calls.regrown_of (HBA.out _) | exact Calls.regrown_of (HBC.out _) | exact Calls.regrown_of (HAC.out _))
      | (go_at_call 10; with_reducible first | exact Calls.regrown_of (HCA.out _) | exact Calls.regrown_of (HCB.out _))))
    refine wpQuiet_nil ?_
    intro _ hw'
    obtain ⟨⟨nq, osq⟩, hw''⟩ := hw'
    subst hw''
    have hL3 := bt hL2 (below_regrown Y nq osq)
    go_wp2_with fail
    go_ret
    exact ⟨rfl, hL3⟩


theorem cutOrder_walk (s a t b u c : Int) (ws0 : (Lit.int .i64 s).wf = true) (w0 : (Lit.int .i64 a).wf = true) (ws1 : (Lit.int .i64 t).wf = true) (w1 : (Lit.int .i64 b).wf = true) (ws2 : (Lit.int .i64 u).wf = true) (w2 : (Lit.int .i64 c).wf = true) (w : World) :
    Calls Try.prog 8 #[.agg #[.int .i64 s, .int .i64 a], .agg #[.int .i64 t, .int .i64 b], .agg #[.int .i64 u, .int .i64 c]] w fun e w' => e = .returned (.bool true) ∧ Below w.heap.size w w' := by
  have ha := i64_of_wf2 w0
  have hb := i64_of_wf2 w1
  have hc := i64_of_wf2 w2
  refine cutOrder_core s a t b u c _ _ _ _ _ _ _ _ w (fun W => compare_b s a t b _ rfl ha hb W) (fun W => compare_b t b s a _ rfl hb ha W) (fun W => compare_b t b u c _ rfl hb hc W) (fun W => compare_b s a u c _ rfl ha hc W) (fun W => canon_b s a ha W) (fun W => canon_b t b hb W) ?_
  generalize key s a = k
  generalize key t b = l
  generalize key u c = m
  rcases Int.lt_trichotomy k l with h | h | h
  · rw [kcmp_lt k l h, kcmp_gt l k h]
    rcases (show m < l ∨ l ≤ m by omega) with h2 | h2
    · rw [kcmp_gt l m h2]; exact .inr (.inl ⟨rfl, rfl, by decide⟩)
    · refine .inr (.inr (.inl ⟨rfl, rfl, ?_, ?_⟩))
      · unfold kcmp; split <;> (try split) <;> omega
      · unfold kcmp; split <;> (try split) <;> omega
  · subst h
    rw [kcmp_eq k k rfl]
    rcases (show m < k ∨ k ≤ m by omega) with h2 | h2
    · rw [kcmp_gt k m h2]; exact .inr (.inr (.inr (.inl ⟨rfl, rfl, by decide, rfl, rfl⟩)))
    · refine .inr (.inr (.inr (.inr ⟨rfl, rfl, ?_, ?_, rfl, rfl⟩)))
      · unfold kcmp; split <;> (try split) <;> omega
      · unfold kcmp; split <;> (try split) <;> omega
  · rw [kcmp_gt k l h, kcmp_lt l k h]; exact .inl ⟨rfl, rfl⟩
end Go.Proofs.Ytmdnmcbjpjpgjaa
