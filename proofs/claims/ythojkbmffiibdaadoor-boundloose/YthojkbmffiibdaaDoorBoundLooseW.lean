/- The walk of the law BoundLoose. -/
import Derived.Test.YthojkbmffiibdaaDoorBK
import Derived.Test.YthojkbmffiibdaaDoorBA
namespace Go.Proofs.YthojkbmffiibdaaDoor
open Go.RowKit Go.Sort Go.Proofs.YthojkbmffiibdaaDoor.Bo
set_option linter.unusedVariables false

/-- Two bounds. -/
structure Bl2 (w : World) (k1 a1 k2 a2 : Int) (X : World) : Prop where
  b1 : X.heap[w.heap.size]? = some (bB k1 a1)
  b2 : X.heap[w.heap.size + 1]? = some (bB k2 a2)
  be : Go.RowKit.Below w.heap.size w X
theorem Bl2.new (w : World) (k1 a1 k2 a2 : Int) : Bl2 w k1 a1 k2 a2 ((w.alloc (bB k1 a1)).alloc (bB k2 a2)) :=
  ⟨box_on (heap_alloc_new w _) (below_new _ _), new_at _ (by simp), bt (below_new _ _) (below_new _ _)⟩
theorem Bl2.on {w : World} {k1 a1 k2 a2 : Int} {W W' : World} (h : Bl2 w k1 a1 k2 a2 W) (hb : Go.RowKit.Below W.heap.size W W') : Bl2 w k1 a1 k2 a2 W' := ⟨box_on h.b1 hb, box_on h.b2 hb, bt h.be hb⟩

theorem lnumber_any (n : Int) (w : World) (hn : I64 n) : Calls Tryd.prog 27 #[.int .i64 n] w fun e w' => e = .returned (.string ⟨(textOf n).toArray⟩) ∧ Go.RowKit.Below w.heap.size w w' := by
  have HT := Lib.hid (fun W => rtext_any n W hn)
  go_enter Tryd.func27, Tryd.ntmps27
  go_wp2_with fail
  refine (HT.out _).mono ?_
  rintro e y ⟨rfl, hB⟩
  go_wp2_with fail
  go_ret
  exact ⟨rfl, hB⟩

set_option maxRecDepth 100000 in
set_option maxHeartbeats 2000000 in
theorem boundLoose_guard (k1 a1 k2 a2 m : Int) (w : World) (h : m < 0 ∨ 20 < m ∨ k1 < 1 ∨ 2 < k1 ∨ k2 < 1 ∨ 2 < k2) :
    Calls Tryd.prog 8 #[.agg #[.int .i64 k1, .int .i64 a1], .agg #[.int .i64 k2, .int .i64 a2], .int .i64 m] w fun e w' => e = .returned (.bool true) ∧ Go.RowKit.Below w.heap.size w w' := by
  have HAL := Lib.hid balive_any
  have HX := Lib.hid (Bl2.new w k1 a1 k2 a2)
  have H := Lib.hid h
  clear h
  go_enter Tryd.func8, Tryd.ntmps8
  go_upto_region 1 with fail
  generalize (w.alloc (bB k1 a1)).alloc (bB k2 a2) = X at *
  obtain ⟨c1, c2, _, _⟩ := two_cells HX.out.b1
  obtain ⟨c3, c4, _, _⟩ := two_cells HX.out.b2
  by_cases h1 : m < 0
  · have t1 : decide (m < 0) = true := decide_eq_true h1
    go_wp2_with fail
    refine (HAL.out _).mono ?_
    rintro e y ⟨rfl, hB⟩
    have hL := bt HX.out.be hB
    go_wp2_with fail
    go_ret
    exact ⟨rfl, hL⟩
  have t1 : decide (m < 0) = false := decide_eq_false h1
  by_cases h2 : 20 < m
  · have t2 : decide (20 < m) = true := decide_eq_true h2
    clear h1
    go_wp2_with fail
    refine (HAL.out _).mono ?_
    rintro e y ⟨rfl, hB⟩
    have hL := bt HX.out.be hB
    go_wp2_with fail
    go_ret
    exact ⟨rfl, hL⟩
  have t2 : decide (20 < m) = false := decide_eq_false h2
  by_cases h3 : k1 < 1
  · have t3 : decide (k1 < 1) = true := decide_eq_true h3
    clear h1 h2
    go_wp2_with fail
    refine (HAL.out _).mono ?_
    rintro e y ⟨rfl, hB⟩
    have hL := bt HX.out.be hB
    go_wp2_with fail
    go_ret
    exact ⟨rfl, hL⟩
  have t3 : decide (k1 < 1) = false := decide_eq_false h3
  by_cases h4 : 2 < k1
  · have t4 : decide (2 < k1) = true := decide_eq_true h4
    clear h1 h2 h3
    go_wp2_with fail
    refine (HAL.out _).mono ?_
    rintro e y ⟨rfl, hB⟩
    have hL := bt HX.out.be hB
    go_wp2_with fail
    go_ret
    exact ⟨rfl, hL⟩
  have t4 : decide (2 < k1) = false := decide_eq_false h4
  by_cases h5 : k2 < 1
  · have t5 : decide (k2 < 1) = true := decide_eq_true h5
    clear h1 h2 h3 h4
    go_wp2_with fail
    refine (HAL.out _).mono ?_
    rintro e y ⟨rfl, hB⟩
    have hL := bt HX.out.be hB
    go_wp2_with fail
    go_ret
    exact ⟨rfl, hL⟩
  have t5 : decide (k2 < 1) = false := decide_eq_false h5
  have h6 : 2 < k2 := by have := H.out; omega
  have t6 : decide (2 < k2) = true := decide_eq_true h6
  clear h1 h2 h3 h4 h5
  go_wp2_with fail
  refine (HAL.out _).mono ?_
  rintro e y ⟨rfl, hB⟩
  have hL := bt HX.out.be hB
  go_wp2_with fail
  go_ret
  exact ⟨rfl, hL⟩

abbrev bl (j : Nat) : ByteArray := ⟨(List.replicate j 32).toArray⟩
theorem bl_size (j : Nat) : (bl j).size = j := by simp [ByteArray.size]
theorem bl_next (j : Nat) : bl j ++ ⟨#[32]⟩ = bl (j + 1) := by
  unfold bl
  rw [List.replicate_succ']
  generalize List.replicate j (32 : UInt8) = L
  apply ByteArray.ext
  simp

set_option maxRecDepth 100000 in
set_option maxHeartbeats 8000000 in
theorem boundLoose_core (k1 a1 k2 a2 E : Int) (m n : Nat) (O Q B A C OB OBA OBAB P PB PBC PBCB T TX : ByteArray) (Z : S4) (w : World)
    (hm : m ≤ 20) (t3 : decide (k1 < 1) = false) (t4 : decide (2 < k1) = false) (t5 : decide (k2 < 1) = false) (t6 : decide (2 < k2) = false)
    (HO : Hid ((k1 = 2 → O = ⟨#[91]⟩) ∧ (k1 ≠ 2 → O = ⟨#[40]⟩) ∧ (k2 = 2 → Q = ⟨#[93]⟩) ∧ (k2 ≠ 2 → Q = ⟨#[41]⟩))) (HBl : Hid (bl m = B))
    (HP : Hid (P.size ≤ 1000))
    (HD : Hid (∀ W : World, (Op.stringOp .add O B).run Tryd.prog W = .ok (.string OB) W ∧ (Op.stringOp .add OB A).run Tryd.prog W = .ok (.string OBA) W ∧ (Op.stringOp .add OBA B).run Tryd.prog W = .ok (.string OBAB) W ∧ (Op.stringOp .add OBAB ⟨#[44]⟩).run Tryd.prog W = .ok (.string P) W))
    (HD2 : Hid (∀ W : World, (Op.stringOp .add P B).run Tryd.prog W = .ok (.string PB) W ∧ (Op.stringOp .add PB C).run Tryd.prog W = .ok (.string PBC) W ∧ (Op.stringOp .add PBC B).run Tryd.prog W = .ok (.string PBCB) W ∧ (Op.stringOp .add PBCB Q).run Tryd.prog W = .ok (.string T) W))
    (HD3 : Hid (∀ W : World, (Op.stringOp .add T ⟨#[120]⟩).run Tryd.prog W = .ok (.string TX) W))
    (HA : Hid (∀ W, Calls Tryd.prog 27 #[.int .i64 a1] W fun e w' => e = .returned (.string A) ∧ Go.RowKit.Below W.heap.size W w'))
    (HC : Hid (∀ W, Calls Tryd.prog 27 #[.int .i64 a2] W fun e w' => e = .returned (.string C) ∧ Go.RowKit.Below W.heap.size W w'))
    (HL : Hid (∀ W, Calls Tryd.prog 19 #[.string TX] W fun e w' => e = .returned (.tuple #[.agg #[.int .i64 Z.ls, .int .i64 Z.la, .int .i64 Z.hs, .int .i64 Z.ha], .int .i64 (n : Int), .int .i64 E]) ∧ Go.RowKit.Below W.heap.size W w'))
    (HS : Hid (∀ W, Calls Tryd.prog 10 #[.agg #[.int .i64 k1, .int .i64 a1], .agg #[.int .i64 k2, .int .i64 a2]] W fun e w' => e = .returned (.tuple #[.agg #[.int .i64 Z.ls, .int .i64 Z.la, .int .i64 Z.hs, .int .i64 Z.ha], .int .i64 E]) ∧ Go.RowKit.Below W.heap.size W w'))
    (HR : Hid ((E = 0 ∧ n = T.size) ∨ (E ≠ 0 ∧ n = P.size + m))) :
    Calls Tryd.prog 8 #[.agg #[.int .i64 k1, .int .i64 a1], .agg #[.int .i64 k2, .int .i64 a2], .int .i64 (m : Int)] w fun e w' => e = .returned (.bool true) ∧ Go.RowKit.Below w.heap.size w w' := by
  have mx := mixed
  have HAL := Lib.hid balive_any
  have HX := Lib.hid (Bl2.new w k1 a1 k2 a2)
  have HM := Lib.hid hm
  have t1 : decide ((m : Int) < 0) = false := decide_eq_false (by omega)
  have t2 : decide (20 < (m : Int)) = false := decide_eq_false (by omega)
  go_enter Tryd.func8, Tryd.ntmps8
  go_upto_region 1 with fail
  generalize (w.alloc (bB k1 a1)).alloc (bB k2 a2) = X at *
  obtain ⟨c1, c2, _, _⟩ := two_cells HX.out.b1
  obtain ⟨c3, c4, _, _⟩ := two_cells HX.out.b2
  go_wp2_with fail
  clear t1 t2 t3 t4 t5 t6 c1 c2 c3 c4
  go_loopw [7, 45] (fun b i wr => ∃ j : Nat, i = .int .i64 (j : Int) ∧ j ≤ m ∧ b = .string (bl j) ∧ Go.RowKit.Below X.heap.size X wr) (fun _ i _ => m - (intOf i).toNat)
  case atStart => exact ⟨0, rfl, Nat.zero_le _, rfl, Go.RowKit.Below.refl _ _⟩
  case round =>
    obtain ⟨j, rfl, hj, rfl, hBr⟩ := hrel
    by_cases hlt : j < m
    · have hadd : ∀ W : World, (Op.stringOp .add (bl j) ⟨#[32]⟩).run Tryd.prog W = .ok (.string (bl (j + 1))) W := fun W => by
        rw [← bl_next]; exact run_string_add_sum W _ _ (by rw [bl_size]; show j + 1 ≤ _; omega)
      have t1 : decide ((j : Int) < (m : Int)) = true := decide_eq_true (by omega)
      have q1 : IntKind.i64.wrap ((j : Int) + 1) = (j : Int) + 1 := IntWalk.i64_in _ (by omega)
      generalize hb0 : bl j = B0 at *
      generalize hb1 : bl (j + 1) = B1 at *
      have H1 := Lib.hid hb1
      clear hb0 hb1
      go_wp2_with fail
      go_roundw
      case rel => exact ⟨j + 1, by go_num, by omega, by rw [H1.out], hBr⟩
      case measure => simp [intOf]; omega
    · obtain rfl : j = m := by omega
      have t1 : decide ((j : Int) < (j : Int)) = false := decide_eq_false (by omega)
      have HX1 := Lib.hid (HX.out.on hBr)
      have hQ : IntKind.i64.wrap ((P.size : Int) + (j : Int)) = (P.size : Int) + (j : Int) := IntWalk.i64_in _ (by have := HP.out; omega)
      rw [HBl.out]
      have hBe := HX1.out.be
      clear hj hlt HX hBr
      obtain ⟨c1, c2, _, _⟩ := two_cells HX1.out.b1
      obtain ⟨c3, c4, _, _⟩ := two_cells HX1.out.b2
      go_upto_if 52 with (fail)
      go_cut [8] from 53 to 54 (fun s8 wx => s8 = .string O ∧ wx = wr)
      case first =>
        obtain ⟨o1, o2, o3, o4⟩ := HO.out
        by_cases h1 : k1 = 2
        · have e1 := o1 h1
          have t1 : (k1 == 2) = true := beq_iff_eq.mpr h1
          clear o1 o2 h1 o3 o4
          have E1 := Lib.hid e1
          clear e1
          go_wp2_with fail
          go_meet
          exact ⟨congrArg Value.string E1.out.symm, rfl⟩
        · have e1 := o2 h1
          have t1 : (k1 == 2) = false := beq_eq_false_iff_ne.mpr h1
          clear o1 o2 h1 o3 o4
          have E1 := Lib.hid e1
          clear e1
          go_wp2_with fail
          go_meet
          exact ⟨congrArg Value.string E1.out.symm, rfl⟩
      case rest =>
       obtain ⟨rfl, rfl⟩ := hcut
       go_upto_if 55 with (fail)
       go_cut [9] from 56 to 57 (fun s9 wx => s9 = .string Q ∧ wx = wc)
       case first =>
        obtain ⟨o1, o2, o3, o4⟩ := HO.out
        by_cases h1 : k2 = 2
        · have e1 := o3 h1
          have t1 : (k2 == 2) = true := beq_iff_eq.mpr h1
          clear o1 o2 h1 o3 o4
          have E1 := Lib.hid e1
          clear e1
          go_wp2_with fail
          go_meet
          exact ⟨congrArg Value.string E1.out.symm, rfl⟩
        · have e1 := o4 h1
          have t1 : (k2 == 2) = false := beq_eq_false_iff_ne.mpr h1
          clear o1 o2 h1 o3 o4
          have E1 := Lib.hid e1
          clear e1
          go_wp2_with fail
          go_meet
          exact ⟨congrArg Value.string E1.out.symm, rfl⟩
       case rest =>
        obtain ⟨rfl, rfl⟩ := hcut
        clear c1 c2 c3 c4
        obtain ⟨p1, p2⟩ := cut_regrown HX1.out.b1
        obtain ⟨p3, p4⟩ := cut_regrown HX1.out.b2
        obtain ⟨s1, s2, s3, s4⟩ := (⟨fun W => (HD.out W).1, fun W => (HD.out W).2.1, fun W => (HD.out W).2.2.1, fun W => (HD.out W).2.2.2⟩ : (∀ W : World, (Op.stringOp .add O B).run Tryd.prog W = .ok (.string OB) W) ∧ (∀ W : World, (Op.stringOp .add OB A).run Tryd.prog W = .ok (.string OBA) W) ∧ (∀ W : World, (Op.stringOp .add OBA B).run Tryd.prog W = .ok (.string OBAB) W) ∧ (∀ W : World, (Op.stringOp .add OBAB ⟨#[44]⟩).run Tryd.prog W = .ok (.string P) W))
        obtain ⟨s5, s6, s7, s8⟩ := (⟨fun W => (HD2.out W).1, fun W => (HD2.out W).2.1, fun W => (HD2.out W).2.2.1, fun W => (HD2.out W).2.2.2⟩ : (∀ W : World, (Op.stringOp .add P B).run Tryd.prog W = .ok (.string PB) W) ∧ (∀ W : World, (Op.stringOp .add PB C).run Tryd.prog W = .ok (.string PBC) W) ∧ (∀ W : World, (Op.stringOp .add PBC B).run Tryd.prog W = .ok (.string PBCB) W) ∧ (∀ W : World, (Op.stringOp .add PBCB Q).run Tryd.prog W = .ok (.string T) W))
        go_upto_region 13 with fail
        refine wp_region_quiet_below (by assumption) (by kernel_rfl) ?_
        repeat (go_big_quiet_step (first | (go_at_call 27; first | exact Calls.regrown_of (HA.out _) | exact Calls.regrown_of (HC.out _))))
        refine wpQuiet_nil ?_
        intro _ hw'
        obtain ⟨⟨nq, osq⟩, hw''⟩ := hw'
        subst hw''
        have hB := below_regrown wc nq osq
        have HX2 := Lib.hid (HX1.out.on hB)
        show Exit.then _ _ Exit.normal _ (grow (redrawn wc nq) osq)
        generalize grow (redrawn wc nq) osq = Y at *
        clear p1 p2 p3 p4 s5 s6 s7 s8 hB HX1 hBe
        have s9 := HD3.out
        go_wp2_with fail
        refine (HL.out _).mono ?_
        rintro e z0 ⟨rfl, hB⟩
        have hA := bt hB (below_new z0 (.cells #[.int .i64 Z.ls, .int .i64 Z.la, .int .i64 Z.hs, .int .i64 Z.ha] 27))
        have HX3 := Lib.hid (HX2.out.on hA)
        have HZ0 : Hid (Box4 (z0.alloc (.cells #[.int .i64 Z.ls, .int .i64 Z.la, .int .i64 Z.hs, .int .i64 Z.ha] 27)) z0.heap.size Z) := heap_alloc_new _ _
        clear hB hA HX2 s9
        go_upto_region 15 with fail
        generalize z0.alloc (.cells #[.int .i64 Z.ls, .int .i64 Z.la, .int .i64 Z.hs, .int .i64 Z.ha] 27) = X0 at *
        generalize z0.heap.size = N0 at *
        obtain ⟨c1, c2, _, _⟩ := two_cells HX3.out.b1
        obtain ⟨c3, c4, _, _⟩ := two_cells HX3.out.b2
        go_wp2_with fail
        refine (HS.out _).mono ?_
        rintro e z1 ⟨rfl, hB⟩
        have hA := bt hB (below_new z1 (.cells #[.int .i64 Z.ls, .int .i64 Z.la, .int .i64 Z.hs, .int .i64 Z.ha] 27))
        have HX4 := Lib.hid (HX3.out.on hA)
        have HZ1 := Lib.hid (HZ0.out.on hA)
        have HV1 : Hid (Box4 (z1.alloc (.cells #[.int .i64 Z.ls, .int .i64 Z.la, .int .i64 Z.hs, .int .i64 Z.ha] 27)) z1.heap.size Z) := heap_alloc_new _ _
        clear hB hA HX3 HZ0 c1 c2 c3 c4
        go_upto_region 16 with fail
        generalize z1.alloc (.cells #[.int .i64 Z.ls, .int .i64 Z.la, .int .i64 Z.hs, .int .i64 Z.ha] 27) = X1 at *
        generalize z1.heap.size = N1 at *
        obtain ⟨c1, c2, _, _⟩ := two_cells HX4.out.b1
        go_wp2_with fail
        refine (HA.out _).mono ?_
        rintro e y2 ⟨rfl, hB⟩
        have hL2 := bt HX4.out.be hB
        have HZ2 := Lib.hid (HZ1.out.on hB)
        have HV2 := Lib.hid (HV1.out.on hB)
        clear hB HX4 HZ1 HV1 c1 c2
        go_wp2_with fail
        refine (HAL.out _).mono ?_
        rintro e y3 ⟨rfl, hB⟩
        have hL3 := bt hL2 hB
        obtain ⟨c1, c2, c3, c4⟩ := (HZ2.out.on hB).cells
        obtain ⟨c5, c6, c7, c8⟩ := (HV2.out.on hB).cells
        have hs := eqs_self Z
        have r1 : (E == E) = true := beq_self_eq_true _
        clear s1 s2 s3 s4
        rcases HR.out with ⟨e1, e2⟩ | ⟨e1, e2⟩
        · have r2 : (E == 0) = true := beq_iff_eq.mpr e1
          have r3 : ((n : Int) == (T.size : Int)) = true := beq_iff_eq.mpr (by omega)
          clear e1 e2
          go_wp2_with fail
          go_ret
          exact ⟨rfl, hL3⟩
        · have r2 : (E == 0) = false := beq_eq_false_iff_ne.mpr e1
          have r3 : (E != 0) = true := bne_iff_ne.mpr e1
          have r4 : ((n : Int) == (P.size : Int) + (j : Int)) = true := beq_iff_eq.mpr (by omega)
          clear e1 e2
          go_wp2_with fail
          go_ret
          exact ⟨rfl, hL3⟩
theorem person_read (k1 a1 k2 a2 : Int) (m : Nat) (o e : UInt8) (h1 : (k1 = 2 ∧ o = 91) ∨ (k1 = 1 ∧ o = 40)) (h2 : (k2 = 2 ∧ e = 93) ∨ (k2 = 1 ∧ e = 41)) (ha : I64 a1) (hc : I64 a2) :
    ∃ n : Nat, rdB (ptext o e m a1 a2 ++ [120]) true = (bdS k1 a1 k2 a2, n, bdE k1 a1 k2 a2) ∧ ((bdE k1 a1 k2 a2 = 0 ∧ n = (ptext o e m a1 a2).length) ∨ (bdE k1 a1 k2 a2 ≠ 0 ∧ n = 1 + m + (textOf a1).length + m + 1 + m)) := by
  have hO : o = 40 ∨ o = 91 := by rcases h1 with h | h <;> simp [h.2]
  have hE : e = 41 ∨ e = 93 := by rcases h2 with h | h <;> simp [h.2]
  have hp := rdB_person o e m a1 a2 [120] hO hE ha hc
  have hk : (kindB k1 && kindB k2) = true := by
    rcases h1 with ⟨rfl, _⟩ | ⟨rfl, _⟩ <;> rcases h2 with ⟨rfl, _⟩ | ⟨rfl, _⟩ <;> rfl
  have e1 : lowE (some a1) (decide (o = 40)) = lowK k1 a1 := by
    rcases h1 with ⟨rfl, rfl⟩ | ⟨rfl, rfl⟩ <;> rfl
  have e2 : highE (some a2) (decide (e = 93)) = highK k2 a2 := by
    rcases h2 with ⟨rfl, rfl⟩ | ⟨rfl, rfl⟩ <;> rfl
  rw [e1, e2] at hp
  have eS : bdS k1 a1 k2 a2 = ofS (lowK k1 a1) (highK k2 a2) := by unfold bdS; rw [if_pos hk]
  have eE : bdE k1 a1 k2 a2 = ofE (lowK k1 a1) (highK k2 a2) := by unfold bdE; rw [if_pos hk]
  rw [eS, eE, hp]
  unfold ofS ofE
  by_cases h : lowK k1 a1 < highK k2 a2
  · rw [if_pos h, if_pos h, if_pos h]
    exact ⟨_, rfl, Or.inl ⟨rfl, rfl⟩⟩
  · rw [if_neg h, if_neg h, if_neg h]
    exact ⟨_, rfl, Or.inr ⟨by decide, rfl⟩⟩
theorem boundLoose_walk (k1 a1 k2 a2 m : Int) (wk1 : (Lit.int .i64 k1).wf = true) (w1 : (Lit.int .i64 a1).wf = true) (wk2 : (Lit.int .i64 k2).wf = true) (w2 : (Lit.int .i64 a2).wf = true) (wm : (Lit.int .i64 m).wf = true) (w : World) :
    Calls Tryd.prog 8 #[.agg #[.int .i64 k1, .int .i64 a1], .agg #[.int .i64 k2, .int .i64 a2], .int .i64 m] w fun e w' => e = .returned (.bool true) ∧ Go.RowKit.Below w.heap.size w w' := by
  have i1 := i64_of_wf2 w1
  have i2 := i64_of_wf2 w2
  by_cases h : m < 0 ∨ 20 < m ∨ k1 < 1 ∨ 2 < k1 ∨ k2 < 1 ∨ 2 < k2
  · exact boundLoose_guard k1 a1 k2 a2 m w h
  obtain ⟨j, rfl⟩ : ∃ j : Nat, m = j := ⟨m.toNat, by omega⟩
  obtain ⟨o, ho⟩ : ∃ o : UInt8, (k1 = 2 ∧ o = 91) ∨ (k1 = 1 ∧ o = 40) := by
    rcases (by omega : k1 = 2 ∨ k1 = 1) with e | e
    · exact ⟨91, Or.inl ⟨e, rfl⟩⟩
    · exact ⟨40, Or.inr ⟨e, rfl⟩⟩
  obtain ⟨e, he⟩ : ∃ e : UInt8, (k2 = 2 ∧ e = 93) ∨ (k2 = 1 ∧ e = 41) := by
    rcases (by omega : k2 = 2 ∨ k2 = 1) with e | e
    · exact ⟨93, Or.inl ⟨e, rfl⟩⟩
    · exact ⟨41, Or.inr ⟨e, rfl⟩⟩
  obtain ⟨n, hn, hr⟩ := person_read k1 a1 k2 a2 j o e ho he i1 i2
  have lA := (textOf_len a1 i1).2
  have lC := (textOf_len a2 i2).2
  have hj : j ≤ 20 := by omega
  have zO : (⟨#[o]⟩ : ByteArray).size = 1 := rfl
  have zQ : (⟨#[e]⟩ : ByteArray).size = 1 := rfl
  have zc : (⟨#[44]⟩ : ByteArray).size = 1 := rfl
  have zx : (⟨#[120]⟩ : ByteArray).size = 1 := rfl
  have zB := bl_size j
  have zA : (⟨(textOf a1).toArray⟩ : ByteArray).size = (textOf a1).length := by simp [ByteArray.size]
  have zC : (⟨(textOf a2).toArray⟩ : ByteArray).size = (textOf a2).length := by simp [ByteArray.size]
  have eT : ((⟨#[o]⟩ : ByteArray) ++ bl j ++ ⟨(textOf a1).toArray⟩ ++ bl j ++ ⟨#[44]⟩ ++ bl j ++ ⟨(textOf a2).toArray⟩ ++ bl j ++ ⟨#[e]⟩).data.toList = ptext o e j a1 a2 := by
    unfold ptext; simp
  have eX : ((⟨#[o]⟩ : ByteArray) ++ bl j ++ ⟨(textOf a1).toArray⟩ ++ bl j ++ ⟨#[44]⟩ ++ bl j ++ ⟨(textOf a2).toArray⟩ ++ bl j ++ ⟨#[e]⟩ ++ ⟨#[120]⟩).data.toList = ptext o e j a1 a2 ++ [120] := by
    unfold ptext; simp
  have hL := fun W => brdL_any ((⟨#[o]⟩ : ByteArray) ++ bl j ++ ⟨(textOf a1).toArray⟩ ++ bl j ++ ⟨#[44]⟩ ++ bl j ++ ⟨(textOf a2).toArray⟩ ++ bl j ++ ⟨#[e]⟩ ++ ⟨#[120]⟩) W (by simp only [ByteArray.size_append]; omega)
  rw [eX, hn] at hL
  have zT : ((⟨#[o]⟩ : ByteArray) ++ bl j ++ ⟨(textOf a1).toArray⟩ ++ bl j ++ ⟨#[44]⟩ ++ bl j ++ ⟨(textOf a2).toArray⟩ ++ bl j ++ ⟨#[e]⟩).size = (ptext o e j a1 a2).length := by
    rw [← eT]; rfl
  refine boundLoose_core k1 a1 k2 a2 (bdE k1 a1 k2 a2) j n ⟨#[o]⟩ ⟨#[e]⟩ (bl j) ⟨(textOf a1).toArray⟩ ⟨(textOf a2).toArray⟩ _ _ _ _ _ _ _ _ _ (bdS k1 a1 k2 a2) w hj (decide_eq_false (by omega)) (decide_eq_false (by omega)) (decide_eq_false (by omega)) (decide_eq_false (by omega)) ⟨?_, ?_, ?_, ?_⟩ rfl ?_
    (fun W => ⟨run_string_add_sum W _ _ ?_, run_string_add_sum W _ _ ?_, run_string_add_sum W _ _ ?_, run_string_add_sum W _ _ ?_⟩)
    (fun W => ⟨run_string_add_sum W _ _ ?_, run_string_add_sum W _ _ ?_, run_string_add_sum W _ _ ?_, run_string_add_sum W _ _ ?_⟩)
    (fun W => run_string_add_sum W _ _ ?_) (fun W => lnumber_any a1 W i1) (fun W => lnumber_any a2 W i2) hL (fun W => rspan_any k1 a1 k2 a2 W i1 i2) ?_
  · intro h3; rcases ho with h4 | h4
    · rw [h4.2]
    · omega
  · intro h3; rcases ho with h4 | h4
    · omega
    · rw [h4.2]
  · intro h3; rcases he with h4 | h4
    · rw [h4.2]
    · omega
  · intro h3; rcases he with h4 | h4
    · omega
    · rw [h4.2]
  · show _ ≤ _; (try simp only [ByteArray.size_append]); omega
  · show _ ≤ _; (try simp only [ByteArray.size_append]); omega
  · show _ ≤ _; (try simp only [ByteArray.size_append]); omega
  · show _ ≤ _; (try simp only [ByteArray.size_append]); omega
  · show _ ≤ _; (try simp only [ByteArray.size_append]); omega
  · show _ ≤ _; (try simp only [ByteArray.size_append]); omega
  · show _ ≤ _; (try simp only [ByteArray.size_append]); omega
  · show _ ≤ _; (try simp only [ByteArray.size_append]); omega
  · show _ ≤ _; (try simp only [ByteArray.size_append]); omega
  · show _ ≤ _; (try simp only [ByteArray.size_append]); omega
  · rcases hr with ⟨h1, h2⟩ | ⟨h1, h2⟩
    · exact Or.inl ⟨h1, by rw [zT]; exact h2⟩
    · exact Or.inr ⟨h1, by simp only [ByteArray.size_append]; omega⟩
end Go.Proofs.YthojkbmffiibdaaDoor
