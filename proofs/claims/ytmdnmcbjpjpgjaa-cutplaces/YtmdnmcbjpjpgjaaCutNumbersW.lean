/- The walk of the law CutNumbers. -/
import Derived.Test.YtmdnmcbjpjpgjaaCutBetweenW
namespace Go.Proofs.Ytmdnmcbjpjpgjaa
open Go.RowKit Go.Sort Go.Proofs.Ytmdnmcbjpjpgjaa.Bo
set_option linter.unusedVariables false

theorem neq_cut (s a t b : Int) (w : World) : Sem.run Try.prog (binOp .neq 23 (.agg #[.int .i64 s, .int .i64 a]) (.agg #[.int .i64 t, .int .i64 b])) w = .ok (.bool (!(s == t && a == b))) w := by
  have hS : Try.prog.underlying 23 = some (.struct (Try.prog.fieldsOf 23)) := by kernel_rfl
  have hp : Try.prog.stoodInHeld 23 = false := by kernel_rfl
  have u3 := Try.underlying3
  have u2 := Try.underlying2
  rw [run_neq_struct, show (10000 : Nat) = 9999 + 1 from rfl, run_equalIn_agg w 9999 23 _ _ hS hp]
  simp only [Program.fieldsOf, Try.underlying23]
  go_simp
  by_cases h1 : s = t <;> by_cases h2 : a = b <;> simp [h1, h2]
theorem right_key (k : Int) (hk : Ky k) (w : World) : Calls Try.prog 12 #[.agg #[.int .i64 (sd k), .int .i64 (pa k)]] w fun e w' => e = .returned (.bool true) ∧ Below w.heap.size w w' := by
  have h := right_any (sd k) (pa k) w (pa_i64 k hk)
  rw [key_back k hk] at h
  simp only [beq_self_eq_true, Bool.and_self] at h
  exact h.mono fun _ _ h => ⟨h.1, h.2.1⟩

set_option maxRecDepth 100000 in
set_option maxHeartbeats 4000000 in
theorem cutNumbers_core (s a n : Int) (A B cx cy xa ya xb yb : Int) (I H : Bool) (w : World)
    (HN : Hid (∀ W, Calls Try.prog 22 #[.agg #[.int .i64 s, .int .i64 a]] W fun e w' => e = .returned (.tuple #[.int .i64 A, .bool I]) ∧ Below W.heap.size W w'))
    (HRN : Hid (∀ W, Calls Try.prog 23 #[.agg #[.int .i64 s, .int .i64 a]] W fun e w' => e = .returned (.tuple #[.int .i64 A, .bool I]) ∧ Below W.heap.size W w'))
    (HP : Hid (∀ W, Calls Try.prog 24 #[.agg #[.int .i64 s, .int .i64 a]] W fun e w' => e = .returned (.tuple #[.int .i64 B, .bool H]) ∧ Below W.heap.size W w'))
    (HRP : Hid (∀ W, Calls Try.prog 25 #[.agg #[.int .i64 s, .int .i64 a]] W fun e w' => e = .returned (.tuple #[.int .i64 B, .bool H]) ∧ Below W.heap.size W w'))
    (HA : Hid (∀ W, Calls Try.prog 26 #[.int .i64 n] W fun e w' => e = .returned (.agg #[.int .i64 xa, .int .i64 ya]) ∧ Below W.heap.size W w'))
    (HRA : Hid (∀ W, Calls Try.prog 27 #[.int .i64 n] W fun e w' => e = .returned (.agg #[.int .i64 xa, .int .i64 ya]) ∧ Below W.heap.size W w'))
    (HB : Hid (∀ W, Calls Try.prog 28 #[.int .i64 n] W fun e w' => e = .returned (.agg #[.int .i64 xb, .int .i64 yb]) ∧ Below W.heap.size W w'))
    (HRB : Hid (∀ W, Calls Try.prog 29 #[.int .i64 n] W fun e w' => e = .returned (.agg #[.int .i64 xb, .int .i64 yb]) ∧ Below W.heap.size W w'))
    (HC : Hid (∀ W, Calls Try.prog 10 #[.agg #[.int .i64 s, .int .i64 a]] W fun e w' => e = .returned (.agg #[.int .i64 cx, .int .i64 cy]) ∧ Below W.heap.size W w'))
    (HNA : Hid (∀ W, Calls Try.prog 22 #[.agg #[.int .i64 xa, .int .i64 ya]] W fun e w' => e = .returned (.tuple #[.int .i64 n, .bool true]) ∧ Below W.heap.size W w'))
    (HPB : Hid (∀ W, Calls Try.prog 24 #[.agg #[.int .i64 xb, .int .i64 yb]] W fun e w' => e = .returned (.tuple #[.int .i64 n, .bool true]) ∧ Below W.heap.size W w'))
    (HR1 : Hid (∀ W, Calls Try.prog 12 #[.agg #[.int .i64 xa, .int .i64 ya]] W fun e w' => e = .returned (.bool true) ∧ Below W.heap.size W w'))
    (HR2 : Hid (∀ W, Calls Try.prog 12 #[.agg #[.int .i64 xb, .int .i64 yb]] W fun e w' => e = .returned (.bool true) ∧ Below W.heap.size W w'))
    (HAA : Hid (I = true → (∀ W, Calls Try.prog 26 #[.int .i64 A] W fun e w' => e = .returned (.agg #[.int .i64 cx, .int .i64 cy]) ∧ Below W.heap.size W w'))) (HBB : Hid (H = true → (∀ W, Calls Try.prog 28 #[.int .i64 B] W fun e w' => e = .returned (.agg #[.int .i64 cx, .int .i64 cy]) ∧ Below W.heap.size W w')))
    (hs : (I = true ∧ H = false) ∨ (I = false ∧ H = true) ∨ (I = true ∧ H = true)) :
    Calls Try.prog 4 #[.agg #[.int .i64 s, .int .i64 a], .int .i64 n] w fun e w' => e = .returned (.bool true) ∧ Below w.heap.size w w' := by
  have mx := mixed
  have eqc := eql_cut
  have nec := neq_cut
  have HAL := Lib.hid calive_any
  have g1 := heap_alloc_new w (.cells #[.int .i64 s, .int .i64 a] 23)
  have hL := (Below.refl w.heap.size w).alloc (Nat.le_refl _) (.cells #[.int .i64 s, .int .i64 a] 23)
  have HG := Lib.hid g1
  clear g1
  rcases hs with ⟨rfl, rfl⟩ | ⟨rfl, rfl⟩ | ⟨rfl, rfl⟩
  · have tHAA := HAA.out rfl
    replace HAA := Lib.hid tHAA
    clear tHAA
    clear HBB
    go_enter Try.func4, Try.ntmps4
    go_wp2_with fail
    refine (HN.out _).mono ?_
    rintro e x1 ⟨rfl, hB⟩
    have hL1 := bt hL hB
    have g := (hB.block _ (lt_of_block HG.out)).trans HG.out
    have HG1 := Lib.hid g
    obtain ⟨c1, c2, _, _⟩ := two_cells g
    clear g HG
    clear hB hL
    go_wp2_with fail
    clear c1 c2
    refine (HRN.out _).mono ?_
    rintro e x2 ⟨rfl, hB⟩
    have hL2 := bt hL1 hB
    have g := (hB.block _ (lt_of_block HG1.out)).trans HG1.out
    have HG2 := Lib.hid g
    obtain ⟨c1, c2, _, _⟩ := two_cells g
    clear g HG1
    clear hB hL1
    go_wp2_with fail
    clear c1 c2
    refine (HP.out _).mono ?_
    rintro e x3 ⟨rfl, hB⟩
    have hL3 := bt hL2 hB
    have g := (hB.block _ (lt_of_block HG2.out)).trans HG2.out
    have HG3 := Lib.hid g
    obtain ⟨c1, c2, _, _⟩ := two_cells g
    clear g HG2
    clear hB hL2
    go_wp2_with fail
    clear c1 c2
    refine (HRP.out _).mono ?_
    rintro e x4 ⟨rfl, hB⟩
    have hL4 := bt hL3 hB
    have g := (hB.block _ (lt_of_block HG3.out)).trans HG3.out
    have HG4 := Lib.hid g
    obtain ⟨c1, c2, _, _⟩ := two_cells g
    clear g HG3
    clear hB hL3
    go_wp2_with fail
    clear c1 c2
    refine (HA.out _).mono ?_
    rintro e x5 ⟨rfl, hB⟩
    have hL5 := bt hL4 hB
    have g := (hB.block _ (lt_of_block HG4.out)).trans HG4.out
    have HG5 := Lib.hid g
    obtain ⟨c1, c2, _, _⟩ := two_cells g
    clear g HG4
    clear hB hL4
    go_wp2_with fail
    clear c1 c2
    refine (HRA.out _).mono ?_
    rintro e x6 ⟨rfl, hB⟩
    have hL6 := bt hL5 hB
    have g := (hB.block _ (lt_of_block HG5.out)).trans HG5.out
    have HG6 := Lib.hid g
    obtain ⟨c1, c2, _, _⟩ := two_cells g
    clear g HG5
    clear hB hL5
    go_wp2_with fail
    clear c1 c2
    refine (HB.out _).mono ?_
    rintro e x7 ⟨rfl, hB⟩
    have hL7 := bt hL6 hB
    have g := (hB.block _ (lt_of_block HG6.out)).trans HG6.out
    have HG7 := Lib.hid g
    obtain ⟨c1, c2, _, _⟩ := two_cells g
    clear g HG6
    clear hB hL6
    go_wp2_with fail
    clear c1 c2
    refine (HRB.out _).mono ?_
    rintro e x8 ⟨rfl, hB⟩
    have hL8 := bt hL7 hB
    have g := (hB.block _ (lt_of_block HG7.out)).trans HG7.out
    have HG8 := Lib.hid g
    obtain ⟨c1, c2, _, _⟩ := two_cells g
    clear g HG7
    clear hB hL7
    go_wp2_with fail
    clear c1 c2
    obtain ⟨p1, p2⟩ := cut_regrown HG8.out
    clear HG8
    refine wp_region_quiet_below (by assumption) (by kernel_rfl) ?_
    repeat (go_big_quiet_step (first
      | (go_at_call 26; exact Calls.regrown_of (HAA.out _))
      | (go_at_call 10; exact Calls.regrown_of (HC.out _))))
    refine wpQuiet_nil ?_
    intro _ hw'
    obtain ⟨⟨nq, osq⟩, hw''⟩ := hw'
    subst hw''
    have hL9 := bt hL8 (below_regrown x8 nq osq)
    clear p1 p2 hL8
    go_wp2_with fail
    generalize grow (redrawn x8 nq) osq = x9 at *
    refine (HA.out _).mono ?_
    rintro e x10 ⟨rfl, hB⟩
    have hL10 := bt hL9 hB
    clear hB hL9
    go_wp2_with fail
    refine (HNA.out _).mono ?_
    rintro e x11 ⟨rfl, hB⟩
    have hL11 := bt hL10 hB
    clear hB hL10
    go_wp2_with fail
    refine (HB.out _).mono ?_
    rintro e x12 ⟨rfl, hB⟩
    have hL12 := bt hL11 hB
    clear hB hL11
    go_wp2_with fail
    refine (HPB.out _).mono ?_
    rintro e x13 ⟨rfl, hB⟩
    have hL13 := bt hL12 hB
    clear hB hL12
    go_wp2_with fail
    refine (HAL.out _).mono ?_
    rintro e x14 ⟨rfl, hB⟩
    have hL14 := bt hL13 hB
    clear hB hL13
    go_wp2_with fail
    refine (HA.out _).mono ?_
    rintro e x15 ⟨rfl, hB⟩
    have hL15 := bt hL14 hB
    clear hB hL14
    go_wp2_with fail
    refine (HR1.out _).mono ?_
    rintro e x16 ⟨rfl, hB⟩
    have hL16 := bt hL15 hB
    clear hB hL15
    go_wp2_with fail
    refine (HB.out _).mono ?_
    rintro e x17 ⟨rfl, hB⟩
    have hL17 := bt hL16 hB
    clear hB hL16
    go_wp2_with fail
    refine (HR2.out _).mono ?_
    rintro e x18 ⟨rfl, hB⟩
    have hL18 := bt hL17 hB
    clear hB hL17
    go_wp2_with fail
    go_ret
    exact ⟨rfl, hL18⟩

  · have tHBB := HBB.out rfl
    replace HBB := Lib.hid tHBB
    clear tHBB
    clear HAA
    go_enter Try.func4, Try.ntmps4
    go_wp2_with fail
    refine (HN.out _).mono ?_
    rintro e x1 ⟨rfl, hB⟩
    have hL1 := bt hL hB
    have g := (hB.block _ (lt_of_block HG.out)).trans HG.out
    have HG1 := Lib.hid g
    obtain ⟨c1, c2, _, _⟩ := two_cells g
    clear g HG
    clear hB hL
    go_wp2_with fail
    clear c1 c2
    refine (HRN.out _).mono ?_
    rintro e x2 ⟨rfl, hB⟩
    have hL2 := bt hL1 hB
    have g := (hB.block _ (lt_of_block HG1.out)).trans HG1.out
    have HG2 := Lib.hid g
    obtain ⟨c1, c2, _, _⟩ := two_cells g
    clear g HG1
    clear hB hL1
    go_wp2_with fail
    clear c1 c2
    refine (HP.out _).mono ?_
    rintro e x3 ⟨rfl, hB⟩
    have hL3 := bt hL2 hB
    have g := (hB.block _ (lt_of_block HG2.out)).trans HG2.out
    have HG3 := Lib.hid g
    obtain ⟨c1, c2, _, _⟩ := two_cells g
    clear g HG2
    clear hB hL2
    go_wp2_with fail
    clear c1 c2
    refine (HRP.out _).mono ?_
    rintro e x4 ⟨rfl, hB⟩
    have hL4 := bt hL3 hB
    have g := (hB.block _ (lt_of_block HG3.out)).trans HG3.out
    have HG4 := Lib.hid g
    obtain ⟨c1, c2, _, _⟩ := two_cells g
    clear g HG3
    clear hB hL3
    go_wp2_with fail
    clear c1 c2
    refine (HA.out _).mono ?_
    rintro e x5 ⟨rfl, hB⟩
    have hL5 := bt hL4 hB
    have g := (hB.block _ (lt_of_block HG4.out)).trans HG4.out
    have HG5 := Lib.hid g
    obtain ⟨c1, c2, _, _⟩ := two_cells g
    clear g HG4
    clear hB hL4
    go_wp2_with fail
    clear c1 c2
    refine (HRA.out _).mono ?_
    rintro e x6 ⟨rfl, hB⟩
    have hL6 := bt hL5 hB
    have g := (hB.block _ (lt_of_block HG5.out)).trans HG5.out
    have HG6 := Lib.hid g
    obtain ⟨c1, c2, _, _⟩ := two_cells g
    clear g HG5
    clear hB hL5
    go_wp2_with fail
    clear c1 c2
    refine (HB.out _).mono ?_
    rintro e x7 ⟨rfl, hB⟩
    have hL7 := bt hL6 hB
    have g := (hB.block _ (lt_of_block HG6.out)).trans HG6.out
    have HG7 := Lib.hid g
    obtain ⟨c1, c2, _, _⟩ := two_cells g
    clear g HG6
    clear hB hL6
    go_wp2_with fail
    clear c1 c2
    refine (HRB.out _).mono ?_
    rintro e x8 ⟨rfl, hB⟩
    have hL8 := bt hL7 hB
    have g := (hB.block _ (lt_of_block HG7.out)).trans HG7.out
    have HG8 := Lib.hid g
    obtain ⟨c1, c2, _, _⟩ := two_cells g
    clear g HG7
    clear hB hL7
    go_wp2_with fail
    clear c1 c2
    obtain ⟨p1, p2⟩ := cut_regrown HG8.out
    clear HG8
    refine wp_region_quiet_below (by assumption) (by kernel_rfl) ?_
    repeat (go_big_quiet_step (first
      | (go_at_call 28; exact Calls.regrown_of (HBB.out _))
      | (go_at_call 10; exact Calls.regrown_of (HC.out _))))
    refine wpQuiet_nil ?_
    intro _ hw'
    obtain ⟨⟨nq, osq⟩, hw''⟩ := hw'
    subst hw''
    have hL9 := bt hL8 (below_regrown x8 nq osq)
    clear p1 p2 hL8
    go_wp2_with fail
    generalize grow (redrawn x8 nq) osq = x9 at *
    refine (HA.out _).mono ?_
    rintro e x10 ⟨rfl, hB⟩
    have hL10 := bt hL9 hB
    clear hB hL9
    go_wp2_with fail
    refine (HNA.out _).mono ?_
    rintro e x11 ⟨rfl, hB⟩
    have hL11 := bt hL10 hB
    clear hB hL10
    go_wp2_with fail
    refine (HB.out _).mono ?_
    rintro e x12 ⟨rfl, hB⟩
    have hL12 := bt hL11 hB
    clear hB hL11
    go_wp2_with fail
    refine (HPB.out _).mono ?_
    rintro e x13 ⟨rfl, hB⟩
    have hL13 := bt hL12 hB
    clear hB hL12
    go_wp2_with fail
    refine (HAL.out _).mono ?_
    rintro e x14 ⟨rfl, hB⟩
    have hL14 := bt hL13 hB
    clear hB hL13
    go_wp2_with fail
    refine (HA.out _).mono ?_
    rintro e x15 ⟨rfl, hB⟩
    have hL15 := bt hL14 hB
    clear hB hL14
    go_wp2_with fail
    refine (HR1.out _).mono ?_
    rintro e x16 ⟨rfl, hB⟩
    have hL16 := bt hL15 hB
    clear hB hL15
    go_wp2_with fail
    refine (HB.out _).mono ?_
    rintro e x17 ⟨rfl, hB⟩
    have hL17 := bt hL16 hB
    clear hB hL16
    go_wp2_with fail
    refine (HR2.out _).mono ?_
    rintro e x18 ⟨rfl, hB⟩
    have hL18 := bt hL17 hB
    clear hB hL17
    go_wp2_with fail
    go_ret
    exact ⟨rfl, hL18⟩

  · have tHAA := HAA.out rfl
    replace HAA := Lib.hid tHAA
    clear tHAA
    have tHBB := HBB.out rfl
    replace HBB := Lib.hid tHBB
    clear tHBB
    go_enter Try.func4, Try.ntmps4
    go_wp2_with fail
    refine (HN.out _).mono ?_
    rintro e x1 ⟨rfl, hB⟩
    have hL1 := bt hL hB
    have g := (hB.block _ (lt_of_block HG.out)).trans HG.out
    have HG1 := Lib.hid g
    obtain ⟨c1, c2, _, _⟩ := two_cells g
    clear g HG
    clear hB hL
    go_wp2_with fail
    clear c1 c2
    refine (HRN.out _).mono ?_
    rintro e x2 ⟨rfl, hB⟩
    have hL2 := bt hL1 hB
    have g := (hB.block _ (lt_of_block HG1.out)).trans HG1.out
    have HG2 := Lib.hid g
    obtain ⟨c1, c2, _, _⟩ := two_cells g
    clear g HG1
    clear hB hL1
    go_wp2_with fail
    clear c1 c2
    refine (HP.out _).mono ?_
    rintro e x3 ⟨rfl, hB⟩
    have hL3 := bt hL2 hB
    have g := (hB.block _ (lt_of_block HG2.out)).trans HG2.out
    have HG3 := Lib.hid g
    obtain ⟨c1, c2, _, _⟩ := two_cells g
    clear g HG2
    clear hB hL2
    go_wp2_with fail
    clear c1 c2
    refine (HRP.out _).mono ?_
    rintro e x4 ⟨rfl, hB⟩
    have hL4 := bt hL3 hB
    have g := (hB.block _ (lt_of_block HG3.out)).trans HG3.out
    have HG4 := Lib.hid g
    obtain ⟨c1, c2, _, _⟩ := two_cells g
    clear g HG3
    clear hB hL3
    go_wp2_with fail
    clear c1 c2
    refine (HA.out _).mono ?_
    rintro e x5 ⟨rfl, hB⟩
    have hL5 := bt hL4 hB
    have g := (hB.block _ (lt_of_block HG4.out)).trans HG4.out
    have HG5 := Lib.hid g
    obtain ⟨c1, c2, _, _⟩ := two_cells g
    clear g HG4
    clear hB hL4
    go_wp2_with fail
    clear c1 c2
    refine (HRA.out _).mono ?_
    rintro e x6 ⟨rfl, hB⟩
    have hL6 := bt hL5 hB
    have g := (hB.block _ (lt_of_block HG5.out)).trans HG5.out
    have HG6 := Lib.hid g
    obtain ⟨c1, c2, _, _⟩ := two_cells g
    clear g HG5
    clear hB hL5
    go_wp2_with fail
    clear c1 c2
    refine (HB.out _).mono ?_
    rintro e x7 ⟨rfl, hB⟩
    have hL7 := bt hL6 hB
    have g := (hB.block _ (lt_of_block HG6.out)).trans HG6.out
    have HG7 := Lib.hid g
    obtain ⟨c1, c2, _, _⟩ := two_cells g
    clear g HG6
    clear hB hL6
    go_wp2_with fail
    clear c1 c2
    refine (HRB.out _).mono ?_
    rintro e x8 ⟨rfl, hB⟩
    have hL8 := bt hL7 hB
    have g := (hB.block _ (lt_of_block HG7.out)).trans HG7.out
    have HG8 := Lib.hid g
    obtain ⟨c1, c2, _, _⟩ := two_cells g
    clear g HG7
    clear hB hL7
    go_wp2_with fail
    clear c1 c2
    obtain ⟨p1, p2⟩ := cut_regrown HG8.out
    clear HG8
    refine wp_region_quiet_below (by assumption) (by kernel_rfl) ?_
    repeat (go_big_quiet_step (first
      | (go_at_call 26; exact Calls.regrown_of (HAA.out _))
      | (go_at_call 28; exact Calls.regrown_of (HBB.out _))
      | (go_at_call 10; exact Calls.regrown_of (HC.out _))))
    refine wpQuiet_nil ?_
    intro _ hw'
    obtain ⟨⟨nq, osq⟩, hw''⟩ := hw'
    subst hw''
    have hL9 := bt hL8 (below_regrown x8 nq osq)
    clear p1 p2 hL8
    go_wp2_with fail
    generalize grow (redrawn x8 nq) osq = x9 at *
    refine (HA.out _).mono ?_
    rintro e x10 ⟨rfl, hB⟩
    have hL10 := bt hL9 hB
    clear hB hL9
    go_wp2_with fail
    refine (HNA.out _).mono ?_
    rintro e x11 ⟨rfl, hB⟩
    have hL11 := bt hL10 hB
    clear hB hL10
    go_wp2_with fail
    refine (HB.out _).mono ?_
    rintro e x12 ⟨rfl, hB⟩
    have hL12 := bt hL11 hB
    clear hB hL11
    go_wp2_with fail
    refine (HPB.out _).mono ?_
    rintro e x13 ⟨rfl, hB⟩
    have hL13 := bt hL12 hB
    clear hB hL12
    go_wp2_with fail
    refine (HAL.out _).mono ?_
    rintro e x14 ⟨rfl, hB⟩
    have hL14 := bt hL13 hB
    clear hB hL13
    go_wp2_with fail
    refine (HA.out _).mono ?_
    rintro e x15 ⟨rfl, hB⟩
    have hL15 := bt hL14 hB
    clear hB hL14
    go_wp2_with fail
    refine (HR1.out _).mono ?_
    rintro e x16 ⟨rfl, hB⟩
    have hL16 := bt hL15 hB
    clear hB hL15
    go_wp2_with fail
    refine (HB.out _).mono ?_
    rintro e x17 ⟨rfl, hB⟩
    have hL17 := bt hL16 hB
    clear hB hL16
    go_wp2_with fail
    refine (HR2.out _).mono ?_
    rintro e x18 ⟨rfl, hB⟩
    have hL18 := bt hL17 hB
    clear hB hL17
    go_wp2_with fail
    go_ret
    exact ⟨rfl, hL18⟩


theorem cutNumbers_walk (s a n : Int) (ws0 : (Lit.int .i64 s).wf = true) (w0 : (Lit.int .i64 a).wf = true) (w1 : (Lit.int .i64 n).wf = true) (w : World) :
    Calls Try.prog 4 #[.agg #[.int .i64 s, .int .i64 a], .int .i64 n] w fun e w' => e = .returned (.bool true) ∧ Below w.heap.size w w' := by
  have ha := i64_of_wf2 w0
  have hn := i64_of_wf2 w1
  obtain ⟨hk1, hk2⟩ := ky_of_i64 n hn
  have hk := key_ky s a ha
  have hn' := hn
  unfold I64 at hn'
  have hna : ∀ W, Calls Try.prog 22 #[.agg #[.int .i64 (sd n), .int .i64 (pa n)]] W fun e w' => e = .returned (.tuple #[.int .i64 n, .bool true]) ∧ Below W.heap.size W w' := by
    intro W
    have h := next_b (sd n) (pa n) W (pa_i64 n hk1)
    rw [key_back n hk1, (nx_in n (by omega)).1, (nx_in n (by omega)).2] at h
    exact h
  have hpb : ∀ W, Calls Try.prog 24 #[.agg #[.int .i64 (sd (n + 1)), .int .i64 (pa (n + 1))]] W fun e w' => e = .returned (.tuple #[.int .i64 n, .bool true]) ∧ Below W.heap.size W w' := by
    intro W
    have h := prev_b (sd (n + 1)) (pa (n + 1)) W (pa_i64 _ hk2)
    rw [key_back _ hk2, (pv_in (n + 1) (by omega)).1, (pv_in (n + 1) (by omega)).2, Int.add_sub_cancel] at h
    exact h
  have haa : nxb (key s a) = true → ∀ W, Calls Try.prog 26 #[.int .i64 (nx (key s a))] W fun e w' => e = .returned (.agg #[.int .i64 (sd (key s a)), .int .i64 (pa (key s a))]) ∧ Below W.heap.size W w' := by
    intro h W
    have h' : key s a ≠ 9223372036854775808 := by unfold nxb at h; exact of_decide_eq_true h
    unfold Ky at hk
    rw [(nx_in (key s a) (by omega)).1]
    exact ahead_b _ (by unfold I64; omega) W
  have hbb : pvb (key s a) = true → ∀ W, Calls Try.prog 28 #[.int .i64 (pv (key s a))] W fun e w' => e = .returned (.agg #[.int .i64 (sd (key s a)), .int .i64 (pa (key s a))]) ∧ Below W.heap.size W w' := by
    intro h W
    have h' : key s a ≠ -9223372036854775808 := by unfold pvb at h; exact of_decide_eq_true h
    unfold Ky at hk
    rw [(pv_in (key s a) (by omega)).1]
    have h2 := behind_b (key s a - 1) (by unfold I64; omega) W
    rw [Int.sub_add_cancel] at h2
    exact h2
  refine cutNumbers_core s a n _ _ _ _ _ _ _ _ _ _ w (fun W => next_b s a W ha) (fun W => rnext_any s a W ha) (fun W => prev_b s a W ha) (fun W => rprev_any s a W ha) (fun W => ahead_b n hn W) (fun W => rahead_any n W hn) (fun W => behind_b n hn W) (fun W => rbehind_any n W hn) (fun W => canon_b s a ha W) hna hpb (right_key n hk1) (right_key _ hk2) haa hbb ?_
  generalize key s a = k at *
  rcases ky_cases k hk with ⟨rfl, h1, h2⟩ | ⟨rfl, h1, h2⟩ | ⟨g1, g2, h1, h2⟩
  · exact .inl ⟨(nx_in _ (by decide)).2, pv_lo.2⟩
  · exact .inr (.inl ⟨nx_hi.2, (pv_in _ (by decide)).2⟩)
  · exact .inr (.inr ⟨(nx_in k g2).2, (pv_in k g1).2⟩)
end Go.Proofs.Ytmdnmcbjpjpgjaa
