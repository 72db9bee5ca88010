/- A part of the proof: contracts of the functions that the statements reach. -/
import Derived.RangeFuncNested
import Derived.RangeFuncBound
import Derived.RangeFuncCalls
import Derived.RangeFuncLeaves
import Derived.Shelf.Abstract
import Derived.Shelf.RegionOpen
import Derived.WalkKit
import Derived.OwnWalkIn
import Derived.TacticsInMore
import Derived.LoopNIn
import Derived.LoopIn
import Derived.Shelf.SlSortCmp.WholeK
import Derived.WalkSpells
import Derived.WalkLawsBesides
import Derived.Lib.Hide
import Derived.Laws.StructEq
import Derived.Shelf.SlSortCmp.QuietGrown
import Derived.Laws.EntriesVeiled
import Derived.Deep.CutRange
import Derived.RegionTactic
import Derived.Lib.QuietBelow
import Derived.BigQuiet
import Derived.OpenShut
import Derived.Deep.RegionHeld3
import Derived.Deep.QuietTactic
import Derived.Maps.AppendAt
import Derived.Laws.IdiomCopy
import Derived.Deep.AppendLies
import Derived.Deep.LoopGhost
import Derived.Deep.Upon
import Derived.StillTailTactics
import Derived.Lib.SmallJoins
import Derived.Deep.SlicePairs
import Derived.Deep.Strs
import Derived.ChangeOld
import Derived.SizedLaws
import Derived.Lib.SliceRun
import Derived.Laws.CopyRow
import Derived.Below
import Derived.Laws.CopyOwn
import Derived.Deep.RegionLaw
import Derived.IntWalk
import Derived.Lib.MinMax
import Derived.Test.YtjgcdmeojjnjlaaCL

/- canSpare, fill: the walks. -/
namespace Go.Proofs.Ytjgcdmeojjnjlaa
open Go.RowKit Go.Sort Go.Proofs.Ytjgcdmeojjnjlaa.Bo Go.Proofs.Ytjgcdmeojjnjlaa.Bb Go.Proofs.Ytjgcdmeojjnjlaa.Rf
set_option linter.unusedVariables false
set_option maxRecDepth 100000
set_option maxHeartbeats 2000000 in
theorem bspare_core (T A g p n sc : Nat) (sa : Option Addr) (d : Int) (w : World) (hA : w.cell? ⟨T, 1, none⟩ = some (aP A)) (hd : w.cell? ⟨T, 0, none⟩ = some (.int .i64 d)) (hc : w.cell? ⟨g, p * 3, none⟩ = some (.slice sa n sc))
    (HAT : Hid (∀ X, Go.RowKit.Below w.heap.size w X → Calls Try.prog 50 #[aP A, .int .i64 (p : Int)] X fun e w' => e = .returned (.pointer (some ⟨g, p * 3, none⟩)) ∧ X = w')) :
    Calls Try.prog 109 #[aP T, .int .i64 (p : Int)] w fun e w' => e = .returned (.bool (decide (d ≤ (n : Int)))) ∧ Go.RowKit.Below w.heap.size w w' := by
  have mx := mixed
  have p1 := cell_regrown hA
  have p2 := cell_regrown hd
  have p3 := cell_regrown hc
  clear hA hd hc
  go_enter Try.func109, Try.ntmps109
  go_upto_region 1 with fail
  refine wp_region_quiet_below (by assumption) (by kernel_rfl) ?_
  repeat (go_big_quiet_step (first
    | (go_at_call 50; exact Calls.regrown_of ((HAT.out _ (below_regrown _ _ _)).mono fun e w' h => ⟨h.1, h.2 ▸ Go.RowKit.Below.refl _ _⟩))))
  refine wpQuiet_nil ?_
  intro _ hw'
  obtain ⟨⟨nq, osq⟩, hw''⟩ := hw'
  subst hw''
  have HY := Lib.hid (below_regrown w nq osq)
  clear p1 p2 p3
  generalize grow (redrawn w nq) osq = Y at *
  go_wp2_with fail
  go_ret
  exact ⟨rfl, HY.out⟩
set_option maxHeartbeats 4000000 in
theorem bfill_a (T A g y n nk sc kc kb : Nat) (sa : Option Addr) (j : Nat) (w : World) (hA : w.cell? ⟨T, 1, none⟩ = some (aP A)) (hc : w.cell? ⟨g, y * 3, none⟩ = some (.slice sa n sc)) (hk : w.cell? ⟨g, y * 3 + 1, none⟩ = some (.slice (some ⟨kb, 0, none⟩) nk kc)) (hnk : j + 1 < nk ∧ nk = n + 1 ∧ nk ≤ 1000)
    (p : Int) (hp : w.cell? ⟨kb, j, none⟩ = some (.int .i64 p)) (HCP : Hid (∀ X, Go.RowKit.Below w.heap.size w X → Calls Try.prog 109 #[aP T, .int .i64 p] X fun e w' => e = .returned (.bool true) ∧ Go.RowKit.Below X.heap.size X w')) (PF : World → Prop)
    (HAT : Hid (∀ X, Go.RowKit.Below w.heap.size w X → Calls Try.prog 50 #[aP A, .int .i64 (y : Int)] X fun e w' => e = .returned (.pointer (some ⟨g, y * 3, none⟩)) ∧ X = w'))
    (HC : Hid (∀ X, Go.RowKit.Below w.heap.size w X → Calls Try.prog 110 #[aP T, .pointer (some ⟨g, y * 3, none⟩), .int .i64 (j : Int)] X fun e w' => e = .returned (.tuple #[]) ∧ PF w')) :
    Calls Try.prog 103 #[aP T, .agg #[.int .i64 (y : Int), .int .i64 ((j : Int) + 1)]] w fun e w' => e = .returned (.tuple #[]) ∧ PF w' := by
  have mx := mixed
  have HB0 := Lib.hid (below_new w (stO ((y : Int), ((j : Int) + 1))))
  have hs0 := heap_alloc_new w (stO ((y : Int), ((j : Int) + 1)))
  have HS0 := Lib.hid hs0
  have HA := Lib.hid hA
  have HCC := Lib.hid hc
  have HCK := Lib.hid hk
  have p1 := cell_regrown (HB0.out.cell (p := ⟨T, 1, none⟩) (World.block_lt_of_cell? w _ hA) |>.trans hA)
  have p2 := cell_regrown ((cell_of_row _ _ 0 _ _ _ hs0).trans rfl : (w.alloc (stO ((y : Int), ((j : Int) + 1)))).cell? ⟨w.heap.size, 0, none⟩ = some (.int .i64 (y : Int)))
  have i9 : n + 1 ≤ 1000 := by omega
  have HP := Lib.hid hp
  have i1 : IntKind.i64.wrap ((j : Int) + 1 - 1) = (j : Int) := by rw [show (j : Int) + 1 - 1 = (j : Int) by omega]; exact IntWalk.i64_in _ (by omega)
  have i1' : IntKind.i64.wrap (j : Int) = (j : Int) := IntWalk.i64_in _ (by omega)
  have i2 : (0 : Int) < (j : Int) + 1 := by omega
  have i3 : (0 : Int) ≤ (j : Int) := by omega
  have i4 : (j : Int) < (nk : Int) := by omega
  clear hA hc hk hs0 hp hnk
  go_enter Try.func103, Try.ntmps103
  go_upto_region 1 with fail
  generalize w.alloc (stO ((y : Int), ((j : Int) + 1))) = X0 at *
  refine wp_region_quiet_below (by assumption) (by kernel_rfl) ?_
  repeat (go_big_quiet_step (first
    | (go_at_call 50; exact Calls.regrown_of ((HAT.out _ (bt HB0.out (below_regrown _ _ _))).mono fun e w' h => ⟨h.1, h.2 ▸ Go.RowKit.Below.refl _ _⟩))))
  refine wpQuiet_nil ?_
  intro _ hw'
  obtain ⟨⟨nq, osq⟩, hw''⟩ := hw'
  subst hw''
  have HB1 := Lib.hid (bt HB0.out (below_regrown X0 nq osq))
  have HS1 := Lib.hid (box_on HS0.out (below_regrown X0 nq osq))
  clear p1 p2
  generalize grow (redrawn X0 nq) osq = Y at *
  have cell : ∀ (Z : World), Go.RowKit.Below w.heap.size w Z → ∀ (a : Addr) u, w.cell? a = some u → Z.cell? a = some u := fun Z hZ a u hu => (hZ.cell (p := a) (World.block_lt_of_cell? w _ hu)).trans hu
  have p1 := cell_regrown ((cell_of_row _ _ 1 _ _ _ HS1.out).trans rfl : Y.cell? ⟨w.heap.size, 1, none⟩ = some (.int .i64 ((j : Int) + 1)))
  have p2 := cell_regrown (cell Y HB1.out _ _ HCK.out)
  have p3 := cell_regrown (cell Y HB1.out _ _ HP.out)
  clear cell
  go_upto_region 3 with fail
  refine wp_region_quiet_below (by assumption) (by kernel_rfl) ?_
  repeat (go_big_quiet_step (first
    | (go_at_call 109; exact Calls.regrown_of (HCP.out _ (bt HB1.out (below_regrown _ _ _))))))
  refine wpQuiet_nil ?_
  intro _ hw'
  obtain ⟨⟨nq2, osq2⟩, hw''⟩ := hw'
  subst hw''
  have HB2 := Lib.hid (bt HB1.out (below_regrown Y nq2 osq2))
  have HS2 := Lib.hid (box_on HS1.out (below_regrown Y nq2 osq2))
  clear p1 p2 p3
  generalize grow (redrawn Y nq2) osq2 = Y2 at *
  have c1 : Y2.cell? ⟨w.heap.size, 1, none⟩ = some (.int .i64 ((j : Int) + 1)) := (cell_of_row _ _ 1 _ _ _ HS2.out).trans rfl
  go_wp2_with fail
  refine (HC.out _ HB2.out).mono ?_
  rintro e w' ⟨rfl, hpf⟩
  have HPF := Lib.hid hpf
  clear hpf c1
  go_wp2_with fail
  go_end0
  exact ⟨rfl, HPF.out⟩
set_option maxHeartbeats 4000000 in
theorem bfill_b (T A g y n nk sc kc kb : Nat) (sa : Option Addr) (w : World) (hA : w.cell? ⟨T, 1, none⟩ = some (aP A)) (hc : w.cell? ⟨g, y * 3, none⟩ = some (.slice sa n sc)) (hk : w.cell? ⟨g, y * 3 + 1, none⟩ = some (.slice (some ⟨kb, 0, none⟩) nk kc)) (hnk : 0 < nk ∧ nk = n + 1 ∧ nk ≤ 1000)
    (q : Int) (hq : w.cell? ⟨kb, 1, none⟩ = some (.int .i64 q)) (HCQ : Hid (∀ X, Go.RowKit.Below w.heap.size w X → Calls Try.prog 109 #[aP T, .int .i64 q] X fun e w' => e = .returned (.bool true) ∧ Go.RowKit.Below X.heap.size X w')) (hlt : 0 < n) (PF : World → Prop)
    (HAT : Hid (∀ X, Go.RowKit.Below w.heap.size w X → Calls Try.prog 50 #[aP A, .int .i64 (y : Int)] X fun e w' => e = .returned (.pointer (some ⟨g, y * 3, none⟩)) ∧ X = w'))
    (HC : Hid (∀ X, Go.RowKit.Below w.heap.size w X → Calls Try.prog 111 #[aP T, .pointer (some ⟨g, y * 3, none⟩), .int .i64 0] X fun e w' => e = .returned (.tuple #[]) ∧ PF w')) :
    Calls Try.prog 103 #[aP T, .agg #[.int .i64 (y : Int), .int .i64 (0 : Int)]] w fun e w' => e = .returned (.tuple #[]) ∧ PF w' := by
  have mx := mixed
  have HB0 := Lib.hid (below_new w (stO ((y : Int), (0 : Int))))
  have hs0 := heap_alloc_new w (stO ((y : Int), (0 : Int)))
  have HS0 := Lib.hid hs0
  have HA := Lib.hid hA
  have HCC := Lib.hid hc
  have HCK := Lib.hid hk
  have p1 := cell_regrown (HB0.out.cell (p := ⟨T, 1, none⟩) (World.block_lt_of_cell? w _ hA) |>.trans hA)
  have p2 := cell_regrown ((cell_of_row _ _ 0 _ _ _ hs0).trans rfl : (w.alloc (stO ((y : Int), (0 : Int)))).cell? ⟨w.heap.size, 0, none⟩ = some (.int .i64 (y : Int)))
  have i9 : n + 1 ≤ 1000 := by omega
  have HQ := Lib.hid hq
  have i5 : IntKind.i64.wrap ((0 : Int) + 1) = (0 : Int) + 1 := IntWalk.i64_in _ (by omega)
  have i6 : (0 : Int) ≤ (0 : Int) + 1 := by omega
  have i7 : (0 : Int) + 1 < (nk : Int) := by omega
  have j1 : 1 < nk := by omega
  have j2 : (1 : Int) < (nk : Int) := by omega
  have j3 : 0 < n := by omega
  have j4 : IntKind.i64.wrap 1 = 1 := by decide
  have i8 : (0 : Int) < (n : Int) := by omega
  clear hA hc hk hs0 hq hlt hnk
  go_enter Try.func103, Try.ntmps103
  go_upto_region 1 with fail
  generalize w.alloc (stO ((y : Int), (0 : Int))) = X0 at *
  refine wp_region_quiet_below (by assumption) (by kernel_rfl) ?_
  repeat (go_big_quiet_step (first
    | (go_at_call 50; exact Calls.regrown_of ((HAT.out _ (bt HB0.out (below_regrown _ _ _))).mono fun e w' h => ⟨h.1, h.2 ▸ Go.RowKit.Below.refl _ _⟩))))
  refine wpQuiet_nil ?_
  intro _ hw'
  obtain ⟨⟨nq, osq⟩, hw''⟩ := hw'
  subst hw''
  have HB1 := Lib.hid (bt HB0.out (below_regrown X0 nq osq))
  have HS1 := Lib.hid (box_on HS0.out (below_regrown X0 nq osq))
  clear p1 p2
  generalize grow (redrawn X0 nq) osq = Y at *
  have cell : ∀ (Z : World), Go.RowKit.Below w.heap.size w Z → ∀ (a : Addr) u, w.cell? a = some u → Z.cell? a = some u := fun Z hZ a u hu => (hZ.cell (p := a) (World.block_lt_of_cell? w _ hu)).trans hu
  have p1 := cell_regrown ((cell_of_row _ _ 1 _ _ _ HS1.out).trans rfl : Y.cell? ⟨w.heap.size, 1, none⟩ = some (.int .i64 (0 : Int)))
  have p2 := cell_regrown (cell Y HB1.out _ _ HCK.out)
  clear cell
  go_upto_region 3 with fail
  refine wp_region_quiet_below (by assumption) (by kernel_rfl) ?_
  repeat (go_big_quiet_step (first
    | (fail)))
  refine wpQuiet_nil ?_
  intro _ hw'
  obtain ⟨⟨nq2, osq2⟩, hw''⟩ := hw'
  subst hw''
  have HB2 := Lib.hid (bt HB1.out (below_regrown Y nq2 osq2))
  have HS2 := Lib.hid (box_on HS1.out (below_regrown Y nq2 osq2))
  clear p1 p2
  generalize grow (redrawn Y nq2) osq2 = Y2 at *
  have cell : ∀ (Z : World), Go.RowKit.Below w.heap.size w Z → ∀ (a : Addr) u, w.cell? a = some u → Z.cell? a = some u := fun Z hZ a u hu => (hZ.cell (p := a) (World.block_lt_of_cell? w _ hu)).trans hu
  have p1 := cell_regrown ((cell_of_row _ _ 1 _ _ _ HS2.out).trans rfl : Y2.cell? ⟨w.heap.size, 1, none⟩ = some (.int .i64 (0 : Int)))
  have p2 := cell_regrown (cell Y2 HB2.out _ _ HCC.out)
  have p3 := cell_regrown (cell Y2 HB2.out _ _ HCK.out)
  have p4 := cell_regrown (cell Y2 HB2.out _ _ HQ.out)
  clear cell
  go_upto_region 5 with fail
  refine wp_region_quiet_below (by assumption) (by kernel_rfl) ?_
  repeat (go_big_quiet_step (first
    | (go_at_call 109; exact Calls.regrown_of (HCQ.out _ (bt HB2.out (below_regrown _ _ _))))))
  refine wpQuiet_nil ?_
  intro _ hw'
  obtain ⟨⟨nq3, osq3⟩, hw''⟩ := hw'
  subst hw''
  have HB3 := Lib.hid (bt HB2.out (below_regrown Y2 nq3 osq3))
  have HS3 := Lib.hid (box_on HS2.out (below_regrown Y2 nq3 osq3))
  clear p1 p2 p3 p4
  generalize grow (redrawn Y2 nq3) osq3 = Y3 at *
  have c1 : Y3.cell? ⟨w.heap.size, 1, none⟩ = some (.int .i64 (0 : Int)) := (cell_of_row _ _ 1 _ _ _ HS3.out).trans rfl
  go_wp2_with fail
  refine (HC.out _ HB3.out).mono ?_
  rintro e w' ⟨rfl, hpf⟩
  have HPF := Lib.hid hpf
  clear hpf c1
  go_wp2_with fail
  go_end0
  exact ⟨rfl, HPF.out⟩
set_option maxHeartbeats 4000000 in
theorem bfill_c (T A g y n nk sc kc kb : Nat) (sa : Option Addr) (j : Nat) (w : World) (hA : w.cell? ⟨T, 1, none⟩ = some (aP A)) (hc : w.cell? ⟨g, y * 3, none⟩ = some (.slice sa n sc)) (hk : w.cell? ⟨g, y * 3 + 1, none⟩ = some (.slice (some ⟨kb, 0, none⟩) nk kc)) (hnk : j + 1 < nk ∧ nk = n + 1 ∧ nk ≤ 1000)
    (p : Int) (hp : w.cell? ⟨kb, j, none⟩ = some (.int .i64 p)) (HCP : Hid (∀ X, Go.RowKit.Below w.heap.size w X → Calls Try.prog 109 #[aP T, .int .i64 p] X fun e w' => e = .returned (.bool false) ∧ Go.RowKit.Below X.heap.size X w')) (q : Int) (hq : w.cell? ⟨kb, j + 1 + 1, none⟩ = some (.int .i64 q)) (HCQ : Hid (∀ X, Go.RowKit.Below w.heap.size w X → Calls Try.prog 109 #[aP T, .int .i64 q] X fun e w' => e = .returned (.bool true) ∧ Go.RowKit.Below X.heap.size X w')) (hlt : j + 1 < n) (PF : World → Prop)
    (HAT : Hid (∀ X, Go.RowKit.Below w.heap.size w X → Calls Try.prog 50 #[aP A, .int .i64 (y : Int)] X fun e w' => e = .returned (.pointer (some ⟨g, y * 3, none⟩)) ∧ X = w'))
    (HC : Hid (∀ X, Go.RowKit.Below w.heap.size w X → Calls Try.prog 111 #[aP T, .pointer (some ⟨g, y * 3, none⟩), .int .i64 ((j : Int) + 1)] X fun e w' => e = .returned (.tuple #[]) ∧ PF w')) :
    Calls Try.prog 103 #[aP T, .agg #[.int .i64 (y : Int), .int .i64 ((j : Int) + 1)]] w fun e w' => e = .returned (.tuple #[]) ∧ PF w' := by
  have mx := mixed
  have HB0 := Lib.hid (below_new w (stO ((y : Int), ((j : Int) + 1))))
  have hs0 := heap_alloc_new w (stO ((y : Int), ((j : Int) + 1)))
  have HS0 := Lib.hid hs0
  have HA := Lib.hid hA
  have HCC := Lib.hid hc
  have HCK := Lib.hid hk
  have p1 := cell_regrown (HB0.out.cell (p := ⟨T, 1, none⟩) (World.block_lt_of_cell? w _ hA) |>.trans hA)
  have p2 := cell_regrown ((cell_of_row _ _ 0 _ _ _ hs0).trans rfl : (w.alloc (stO ((y : Int), ((j : Int) + 1)))).cell? ⟨w.heap.size, 0, none⟩ = some (.int .i64 (y : Int)))
  have i9 : n + 1 ≤ 1000 := by omega
  have HP := Lib.hid hp
  have i1 : IntKind.i64.wrap ((j : Int) + 1 - 1) = (j : Int) := by rw [show (j : Int) + 1 - 1 = (j : Int) by omega]; exact IntWalk.i64_in _ (by omega)
  have i1' : IntKind.i64.wrap (j : Int) = (j : Int) := IntWalk.i64_in _ (by omega)
  have i2 : (0 : Int) < (j : Int) + 1 := by omega
  have i3 : (0 : Int) ≤ (j : Int) := by omega
  have i4 : (j : Int) < (nk : Int) := by omega
  have HQ := Lib.hid hq
  have i5 : IntKind.i64.wrap (((j : Int) + 1) + 1) = ((j : Int) + 1) + 1 := IntWalk.i64_in _ (by omega)
  have i6 : (0 : Int) ≤ ((j : Int) + 1) + 1 := by omega
  have i7 : ((j : Int) + 1) + 1 < (nk : Int) := by omega
  have i8 : ((j : Int) + 1) < (n : Int) := by omega
  clear hA hc hk hs0 hp hq hlt hnk
  go_enter Try.func103, Try.ntmps103
  go_upto_region 1 with fail
  generalize w.alloc (stO ((y : Int), ((j : Int) + 1))) = X0 at *
  refine wp_region_quiet_below (by assumption) (by kernel_rfl) ?_
  repeat (go_big_quiet_step (first
    | (go_at_call 50; exact Calls.regrown_of ((HAT.out _ (bt HB0.out (below_regrown _ _ _))).mono fun e w' h => ⟨h.1, h.2 ▸ Go.RowKit.Below.refl _ _⟩))))
  refine wpQuiet_nil ?_
  intro _ hw'
  obtain ⟨⟨nq, osq⟩, hw''⟩ := hw'
  subst hw''
  have HB1 := Lib.hid (bt HB0.out (below_regrown X0 nq osq))
  have HS1 := Lib.hid (box_on HS0.out (below_regrown X0 nq osq))
  clear p1 p2
  generalize grow (redrawn X0 nq) osq = Y at *
  have cell : ∀ (Z : World), Go.RowKit.Below w.heap.size w Z → ∀ (a : Addr) u, w.cell? a = some u → Z.cell? a = some u := fun Z hZ a u hu => (hZ.cell (p := a) (World.block_lt_of_cell? w _ hu)).trans hu
  have p1 := cell_regrown ((cell_of_row _ _ 1 _ _ _ HS1.out).trans rfl : Y.cell? ⟨w.heap.size, 1, none⟩ = some (.int .i64 ((j : Int) + 1)))
  have p2 := cell_regrown (cell Y HB1.out _ _ HCK.out)
  have p3 := cell_regrown (cell Y HB1.out _ _ HP.out)
  clear cell
  go_upto_region 3 with fail
  refine wp_region_quiet_below (by assumption) (by kernel_rfl) ?_
  repeat (go_big_quiet_step (first
    | (go_at_call 109; exact Calls.regrown_of (HCP.out _ (bt HB1.out (below_regrown _ _ _))))))
  refine wpQuiet_nil ?_
  intro _ hw'
  obtain ⟨⟨nq2, osq2⟩, hw''⟩ := hw'
  subst hw''
  have HB2 := Lib.hid (bt HB1.out (below_regrown Y nq2 osq2))
  have HS2 := Lib.hid (box_on HS1.out (below_regrown Y nq2 osq2))
  clear p1 p2 p3
  generalize grow (redrawn Y nq2) osq2 = Y2 at *
  have cell : ∀ (Z : World), Go.RowKit.Below w.heap.size w Z → ∀ (a : Addr) u, w.cell? a = some u → Z.cell? a = some u := fun Z hZ a u hu => (hZ.cell (p := a) (World.block_lt_of_cell? w _ hu)).trans hu
  have p1 := cell_regrown ((cell_of_row _ _ 1 _ _ _ HS2.out).trans rfl : Y2.cell? ⟨w.heap.size, 1, none⟩ = some (.int .i64 ((j : Int) + 1)))
  have p2 := cell_regrown (cell Y2 HB2.out _ _ HCC.out)
  have p3 := cell_regrown (cell Y2 HB2.out _ _ HCK.out)
  have p4 := cell_regrown (cell Y2 HB2.out _ _ HQ.out)
  clear cell
  go_upto_region 5 with fail
  refine wp_region_quiet_below (by assumption) (by kernel_rfl) ?_
  repeat (go_big_quiet_step (first
    | (go_at_call 109; exact Calls.regrown_of (HCQ.out _ (bt HB2.out (below_regrown _ _ _))))))
  refine wpQuiet_nil ?_
  intro _ hw'
  obtain ⟨⟨nq3, osq3⟩, hw''⟩ := hw'
  subst hw''
  have HB3 := Lib.hid (bt HB2.out (below_regrown Y2 nq3 osq3))
  have HS3 := Lib.hid (box_on HS2.out (below_regrown Y2 nq3 osq3))
  clear p1 p2 p3 p4
  generalize grow (redrawn Y2 nq3) osq3 = Y3 at *
  have c1 : Y3.cell? ⟨w.heap.size, 1, none⟩ = some (.int .i64 ((j : Int) + 1)) := (cell_of_row _ _ 1 _ _ _ HS3.out).trans rfl
  go_wp2_with fail
  refine (HC.out _ HB3.out).mono ?_
  rintro e w' ⟨rfl, hpf⟩
  have HPF := Lib.hid hpf
  clear hpf c1
  go_wp2_with fail
  go_end0
  exact ⟨rfl, HPF.out⟩
set_option maxHeartbeats 4000000 in
theorem bfill_d (T A g y n nk sc kc kb : Nat) (sa : Option Addr) (w : World) (hA : w.cell? ⟨T, 1, none⟩ = some (aP A)) (hc : w.cell? ⟨g, y * 3, none⟩ = some (.slice sa n sc)) (hk : w.cell? ⟨g, y * 3 + 1, none⟩ = some (.slice (some ⟨kb, 0, none⟩) nk kc)) (hnk : 0 < nk ∧ nk = n + 1 ∧ nk ≤ 1000)
    (q : Int) (hq : w.cell? ⟨kb, 1, none⟩ = some (.int .i64 q)) (HCQ : Hid (∀ X, Go.RowKit.Below w.heap.size w X → Calls Try.prog 109 #[aP T, .int .i64 q] X fun e w' => e = .returned (.bool false) ∧ Go.RowKit.Below X.heap.size X w')) (hlt : 0 < n) (PF : World → Prop)
    (HAT : Hid (∀ X, Go.RowKit.Below w.heap.size w X → Calls Try.prog 50 #[aP A, .int .i64 (y : Int)] X fun e w' => e = .returned (.pointer (some ⟨g, y * 3, none⟩)) ∧ X = w'))
    (HC : Hid (∀ X, Go.RowKit.Below w.heap.size w X → Calls Try.prog 112 #[aP T, .pointer (some ⟨g, y * 3, none⟩), .int .i64 0] X fun e w' => e = .returned (.tuple #[]) ∧ PF w')) :
    Calls Try.prog 103 #[aP T, .agg #[.int .i64 (y : Int), .int .i64 (0 : Int)]] w fun e w' => e = .returned (.tuple #[]) ∧ PF w' := by
  have mx := mixed
  have HB0 := Lib.hid (below_new w (stO ((y : Int), (0 : Int))))
  have hs0 := heap_alloc_new w (stO ((y : Int), (0 : Int)))
  have HS0 := Lib.hid hs0
  have HA := Lib.hid hA
  have HCC := Lib.hid hc
  have HCK := Lib.hid hk
  have p1 := cell_regrown (HB0.out.cell (p := ⟨T, 1, none⟩) (World.block_lt_of_cell? w _ hA) |>.trans hA)
  have p2 := cell_regrown ((cell_of_row _ _ 0 _ _ _ hs0).trans rfl : (w.alloc (stO ((y : Int), (0 : Int)))).cell? ⟨w.heap.size, 0, none⟩ = some (.int .i64 (y : Int)))
  have i9 : n + 1 ≤ 1000 := by omega
  have HQ := Lib.hid hq
  have i5 : IntKind.i64.wrap ((0 : Int) + 1) = (0 : Int) + 1 := IntWalk.i64_in _ (by omega)
  have i6 : (0 : Int) ≤ (0 : Int) + 1 := by omega
  have i7 : (0 : Int) + 1 < (nk : Int) := by omega
  have j1 : 1 < nk := by omega
  have j2 : (1 : Int) < (nk : Int) := by omega
  have j3 : 0 < n := by omega
  have j4 : IntKind.i64.wrap 1 = 1 := by decide
  have i8 : (0 : Int) < (n : Int) := by omega
  clear hA hc hk hs0 hq hlt hnk
  go_enter Try.func103, Try.ntmps103
  go_upto_region 1 with fail
  generalize w.alloc (stO ((y : Int), (0 : Int))) = X0 at *
  refine wp_region_quiet_below (by assumption) (by kernel_rfl) ?_
  repeat (go_big_quiet_step (first
    | (go_at_call 50; exact Calls.regrown_of ((HAT.out _ (bt HB0.out (below_regrown _ _ _))).mono fun e w' h => ⟨h.1, h.2 ▸ Go.RowKit.Below.refl _ _⟩))))
  refine wpQuiet_nil ?_
  intro _ hw'
  obtain ⟨⟨nq, osq⟩, hw''⟩ := hw'
  subst hw''
  have HB1 := Lib.hid (bt HB0.out (below_regrown X0 nq osq))
  have HS1 := Lib.hid (box_on HS0.out (below_regrown X0 nq osq))
  clear p1 p2
  generalize grow (redrawn X0 nq) osq = Y at *
  have cell : ∀ (Z : World), Go.RowKit.Below w.heap.size w Z → ∀ (a : Addr) u, w.cell? a = some u → Z.cell? a = some u := fun Z hZ a u hu => (hZ.cell (p := a) (World.block_lt_of_cell? w _ hu)).trans hu
  have p1 := cell_regrown ((cell_of_row _ _ 1 _ _ _ HS1.out).trans rfl : Y.cell? ⟨w.heap.size, 1, none⟩ = some (.int .i64 (0 : Int)))
  have p2 := cell_regrown (cell Y HB1.out _ _ HCK.out)
  clear cell
  go_upto_region 3 with fail
  refine wp_region_quiet_below (by assumption) (by kernel_rfl) ?_
  repeat (go_big_quiet_step (first
    | (fail)))
  refine wpQuiet_nil ?_
  intro _ hw'
  obtain ⟨⟨nq2, osq2⟩, hw''⟩ := hw'
  subst hw''
  have HB2 := Lib.hid (bt HB1.out (below_regrown Y nq2 osq2))
  have HS2 := Lib.hid (box_on HS1.out (below_regrown Y nq2 osq2))
  clear p1 p2
  generalize grow (redrawn Y nq2) osq2 = Y2 at *
  have cell : ∀ (Z : World), Go.RowKit.Below w.heap.size w Z → ∀ (a : Addr) u, w.cell? a = some u → Z.cell? a = some u := fun Z hZ a u hu => (hZ.cell (p := a) (World.block_lt_of_cell? w _ hu)).trans hu
  have p1 := cell_regrown ((cell_of_row _ _ 1 _ _ _ HS2.out).trans rfl : Y2.cell? ⟨w.heap.size, 1, none⟩ = some (.int .i64 (0 : Int)))
  have p2 := cell_regrown (cell Y2 HB2.out _ _ HCC.out)
  have p3 := cell_regrown (cell Y2 HB2.out _ _ HCK.out)
  have p4 := cell_regrown (cell Y2 HB2.out _ _ HQ.out)
  clear cell
  go_upto_region 5 with fail
  refine wp_region_quiet_below (by assumption) (by kernel_rfl) ?_
  repeat (go_big_quiet_step (first
    | (go_at_call 109; exact Calls.regrown_of (HCQ.out _ (bt HB2.out (below_regrown _ _ _))))))
  refine wpQuiet_nil ?_
  intro _ hw'
  obtain ⟨⟨nq3, osq3⟩, hw''⟩ := hw'
  subst hw''
  have HB3 := Lib.hid (bt HB2.out (below_regrown Y2 nq3 osq3))
  have HS3 := Lib.hid (box_on HS2.out (below_regrown Y2 nq3 osq3))
  clear p1 p2 p3 p4
  generalize grow (redrawn Y2 nq3) osq3 = Y3 at *
  have c1 : Y3.cell? ⟨w.heap.size, 1, none⟩ = some (.int .i64 (0 : Int)) := (cell_of_row _ _ 1 _ _ _ HS3.out).trans rfl
  go_wp2_with fail
  refine (HC.out _ HB3.out).mono ?_
  rintro e w' ⟨rfl, hpf⟩
  have HPF := Lib.hid hpf
  clear hpf c1
  go_wp2_with fail
  go_end0
  exact ⟨rfl, HPF.out⟩
set_option maxHeartbeats 4000000 in
theorem bfill_e (T A g y n nk sc kc kb : Nat) (sa : Option Addr) (j : Nat) (w : World) (hA : w.cell? ⟨T, 1, none⟩ = some (aP A)) (hc : w.cell? ⟨g, y * 3, none⟩ = some (.slice sa n sc)) (hk : w.cell? ⟨g, y * 3 + 1, none⟩ = some (.slice (some ⟨kb, 0, none⟩) nk kc)) (hnk : j + 1 < nk ∧ nk = n + 1 ∧ nk ≤ 1000)
    (p : Int) (hp : w.cell? ⟨kb, j, none⟩ = some (.int .i64 p)) (HCP : Hid (∀ X, Go.RowKit.Below w.heap.size w X → Calls Try.prog 109 #[aP T, .int .i64 p] X fun e w' => e = .returned (.bool false) ∧ Go.RowKit.Below X.heap.size X w')) (q : Int) (hq : w.cell? ⟨kb, j + 1 + 1, none⟩ = some (.int .i64 q)) (HCQ : Hid (∀ X, Go.RowKit.Below w.heap.size w X → Calls Try.prog 109 #[aP T, .int .i64 q] X fun e w' => e = .returned (.bool false) ∧ Go.RowKit.Below X.heap.size X w')) (hlt : j + 1 < n) (PF : World → Prop)
    (HAT : Hid (∀ X, Go.RowKit.Below w.heap.size w X → Calls Try.prog 50 #[aP A, .int .i64 (y : Int)] X fun e w' => e = .returned (.pointer (some ⟨g, y * 3, none⟩)) ∧ X = w'))
    (HC : Hid (∀ X, Go.RowKit.Below w.heap.size w X → Calls Try.prog 112 #[aP T, .pointer (some ⟨g, y * 3, none⟩), .int .i64 (j : Int)] X fun e w' => e = .returned (.tuple #[]) ∧ PF w')) :
    Calls Try.prog 103 #[aP T, .agg #[.int .i64 (y : Int), .int .i64 ((j : Int) + 1)]] w fun e w' => e = .returned (.tuple #[]) ∧ PF w' := by
  have mx := mixed
  have HB0 := Lib.hid (below_new w (stO ((y : Int), ((j : Int) + 1))))
  have hs0 := heap_alloc_new w (stO ((y : Int), ((j : Int) + 1)))
  have HS0 := Lib.hid hs0
  have HA := Lib.hid hA
  have HCC := Lib.hid hc
  have HCK := Lib.hid hk
  have p1 := cell_regrown (HB0.out.cell (p := ⟨T, 1, none⟩) (World.block_lt_of_cell? w _ hA) |>.trans hA)
  have p2 := cell_regrown ((cell_of_row _ _ 0 _ _ _ hs0).trans rfl : (w.alloc (stO ((y : Int), ((j : Int) + 1)))).cell? ⟨w.heap.size, 0, none⟩ = some (.int .i64 (y : Int)))
  have i9 : n + 1 ≤ 1000 := by omega
  have HP := Lib.hid hp
  have i1 : IntKind.i64.wrap ((j : Int) + 1 - 1) = (j : Int) := by rw [show (j : Int) + 1 - 1 = (j : Int) by omega]; exact IntWalk.i64_in _ (by omega)
  have i1' : IntKind.i64.wrap (j : Int) = (j : Int) := IntWalk.i64_in _ (by omega)
  have i2 : (0 : Int) < (j : Int) + 1 := by omega
  have i3 : (0 : Int) ≤ (j : Int) := by omega
  have i4 : (j : Int) < (nk : Int) := by omega
  have HQ := Lib.hid hq
  have i5 : IntKind.i64.wrap (((j : Int) + 1) + 1) = ((j : Int) + 1) + 1 := IntWalk.i64_in _ (by omega)
  have i6 : (0 : Int) ≤ ((j : Int) + 1) + 1 := by omega
  have i7 : ((j : Int) + 1) + 1 < (nk : Int) := by omega
  have i8 : ((j : Int) + 1) < (n : Int) := by omega
  clear hA hc hk hs0 hp hq hlt hnk
  go_enter Try.func103, Try.ntmps103
  go_upto_region 1 with fail
  generalize w.alloc (stO ((y : Int), ((j : Int) + 1))) = X0 at *
  refine wp_region_quiet_below (by assumption) (by kernel_rfl) ?_
  repeat (go_big_quiet_step (first
    | (go_at_call 50; exact Calls.regrown_of ((HAT.out _ (bt HB0.out (below_regrown _ _ _))).mono fun e w' h => ⟨h.1, h.2 ▸ Go.RowKit.Below.refl _ _⟩))))
  refine wpQuiet_nil ?_
  intro _ hw'
  obtain ⟨⟨nq, osq⟩, hw''⟩ := hw'
  subst hw''
  have HB1 := Lib.hid (bt HB0.out (below_regrown X0 nq osq))
  have HS1 := Lib.hid (box_on HS0.out (below_regrown X0 nq osq))
  clear p1 p2
  generalize grow (redrawn X0 nq) osq = Y at *
  have cell : ∀ (Z : World), Go.RowKit.Below w.heap.size w Z → ∀ (a : Addr) u, w.cell? a = some u → Z.cell? a = some u := fun Z hZ a u hu => (hZ.cell (p := a) (World.block_lt_of_cell? w _ hu)).trans hu
  have p1 := cell_regrown ((cell_of_row _ _ 1 _ _ _ HS1.out).trans rfl : Y.cell? ⟨w.heap.size, 1, none⟩ = some (.int .i64 ((j : Int) + 1)))
  have p2 := cell_regrown (cell Y HB1.out _ _ HCK.out)
  have p3 := cell_regrown (cell Y HB1.out _ _ HP.out)
  clear cell
  go_upto_region 3 with fail
  refine wp_region_quiet_below (by assumption) (by kernel_rfl) ?_
  repeat (go_big_quiet_step (first
    | (go_at_call 109; exact Calls.regrown_of (HCP.out _ (bt HB1.out (below_regrown _ _ _))))))
  refine wpQuiet_nil ?_
  intro _ hw'
  obtain ⟨⟨nq2, osq2⟩, hw''⟩ := hw'
  subst hw''
  have HB2 := Lib.hid (bt HB1.out (below_regrown Y nq2 osq2))
  have HS2 := Lib.hid (box_on HS1.out (below_regrown Y nq2 osq2))
  clear p1 p2 p3
  generalize grow (redrawn Y nq2) osq2 = Y2 at *
  have cell : ∀ (Z : World), Go.RowKit.Below w.heap.size w Z → ∀ (a : Addr) u, w.cell? a = some u → Z.cell? a = some u := fun Z hZ a u hu => (hZ.cell (p := a) (World.block_lt_of_cell? w _ hu)).trans hu
  have p1 := cell_regrown ((cell_of_row _ _ 1 _ _ _ HS2.out).trans rfl : Y2.cell? ⟨w.heap.size, 1, none⟩ = some (.int .i64 ((j : Int) + 1)))
  have p2 := cell_regrown (cell Y2 HB2.out _ _ HCC.out)
  have p3 := cell_regrown (cell Y2 HB2.out _ _ HCK.out)
  have p4 := cell_regrown (cell Y2 HB2.out _ _ HQ.out)
  clear cell
  go_upto_region 5 with fail
  refine wp_region_quiet_below (by assumption) (by kernel_rfl) ?_
  repeat (go_big_quiet_step (first
    | (go_at_call 109; exact Calls.regrown_of (HCQ.out _ (bt HB2.out (below_regrown _ _ _))))))
  refine wpQuiet_nil ?_
  intro _ hw'
  obtain ⟨⟨nq3, osq3⟩, hw''⟩ := hw'
  subst hw''
  have HB3 := Lib.hid (bt HB2.out (below_regrown Y2 nq3 osq3))
  have HS3 := Lib.hid (box_on HS2.out (below_regrown Y2 nq3 osq3))
  clear p1 p2 p3 p4
  generalize grow (redrawn Y2 nq3) osq3 = Y3 at *
  have c1 : Y3.cell? ⟨w.heap.size, 1, none⟩ = some (.int .i64 ((j : Int) + 1)) := (cell_of_row _ _ 1 _ _ _ HS3.out).trans rfl
  go_wp2_with fail
  refine (HC.out _ HB3.out).mono ?_
  rintro e w' ⟨rfl, hpf⟩
  have HPF := Lib.hid hpf
  clear hpf c1
  go_wp2_with fail
  go_end0
  exact ⟨rfl, HPF.out⟩
set_option maxHeartbeats 4000000 in
theorem bfill_f (T A g y n nk sc kc kb : Nat) (sa : Option Addr) (j : Nat) (w : World) (hA : w.cell? ⟨T, 1, none⟩ = some (aP A)) (hc : w.cell? ⟨g, y * 3, none⟩ = some (.slice sa n sc)) (hk : w.cell? ⟨g, y * 3 + 1, none⟩ = some (.slice (some ⟨kb, 0, none⟩) nk kc)) (hnk : j + 1 < nk ∧ nk = n + 1 ∧ nk ≤ 1000)
    (p : Int) (hp : w.cell? ⟨kb, j, none⟩ = some (.int .i64 p)) (HCP : Hid (∀ X, Go.RowKit.Below w.heap.size w X → Calls Try.prog 109 #[aP T, .int .i64 p] X fun e w' => e = .returned (.bool false) ∧ Go.RowKit.Below X.heap.size X w')) (hlt : n ≤ j + 1) (PF : World → Prop)
    (HAT : Hid (∀ X, Go.RowKit.Below w.heap.size w X → Calls Try.prog 50 #[aP A, .int .i64 (y : Int)] X fun e w' => e = .returned (.pointer (some ⟨g, y * 3, none⟩)) ∧ X = w'))
    (HC : Hid (∀ X, Go.RowKit.Below w.heap.size w X → Calls Try.prog 112 #[aP T, .pointer (some ⟨g, y * 3, none⟩), .int .i64 (j : Int)] X fun e w' => e = .returned (.tuple #[]) ∧ PF w')) :
    Calls Try.prog 103 #[aP T, .agg #[.int .i64 (y : Int), .int .i64 ((j : Int) + 1)]] w fun e w' => e = .returned (.tuple #[]) ∧ PF w' := by
  have mx := mixed
  have HB0 := Lib.hid (below_new w (stO ((y : Int), ((j : Int) + 1))))
  have hs0 := heap_alloc_new w (stO ((y : Int), ((j : Int) + 1)))
  have HS0 := Lib.hid hs0
  have HA := Lib.hid hA
  have HCC := Lib.hid hc
  have HCK := Lib.hid hk
  have p1 := cell_regrown (HB0.out.cell (p := ⟨T, 1, none⟩) (World.block_lt_of_cell? w _ hA) |>.trans hA)
  have p2 := cell_regrown ((cell_of_row _ _ 0 _ _ _ hs0).trans rfl : (w.alloc (stO ((y : Int), ((j : Int) + 1)))).cell? ⟨w.heap.size, 0, none⟩ = some (.int .i64 (y : Int)))
  have i9 : n + 1 ≤ 1000 := by omega
  have HP := Lib.hid hp
  have i1 : IntKind.i64.wrap ((j : Int) + 1 - 1) = (j : Int) := by rw [show (j : Int) + 1 - 1 = (j : Int) by omega]; exact IntWalk.i64_in _ (by omega)
  have i1' : IntKind.i64.wrap (j : Int) = (j : Int) := IntWalk.i64_in _ (by omega)
  have i2 : (0 : Int) < (j : Int) + 1 := by omega
  have i3 : (0 : Int) ≤ (j : Int) := by omega
  have i4 : (j : Int) < (nk : Int) := by omega
  have i8 : ¬ ((j : Int) + 1) < (n : Int) := by omega
  clear hA hc hk hs0 hp hlt hnk
  go_enter Try.func103, Try.ntmps103
  go_upto_region 1 with fail
  generalize w.alloc (stO ((y : Int), ((j : Int) + 1))) = X0 at *
  refine wp_region_quiet_below (by assumption) (by kernel_rfl) ?_
  repeat (go_big_quiet_step (first
    | (go_at_call 50; exact Calls.regrown_of ((HAT.out _ (bt HB0.out (below_regrown _ _ _))).mono fun e w' h => ⟨h.1, h.2 ▸ Go.RowKit.Below.refl _ _⟩))))
  refine wpQuiet_nil ?_
  intro _ hw'
  obtain ⟨⟨nq, osq⟩, hw''⟩ := hw'
  subst hw''
  have HB1 := Lib.hid (bt HB0.out (below_regrown X0 nq osq))
  have HS1 := Lib.hid (box_on HS0.out (below_regrown X0 nq osq))
  clear p1 p2
  generalize grow (redrawn X0 nq) osq = Y at *
  have cell : ∀ (Z : World), Go.RowKit.Below w.heap.size w Z → ∀ (a : Addr) u, w.cell? a = some u → Z.cell? a = some u := fun Z hZ a u hu => (hZ.cell (p := a) (World.block_lt_of_cell? w _ hu)).trans hu
  have p1 := cell_regrown ((cell_of_row _ _ 1 _ _ _ HS1.out).trans rfl : Y.cell? ⟨w.heap.size, 1, none⟩ = some (.int .i64 ((j : Int) + 1)))
  have p2 := cell_regrown (cell Y HB1.out _ _ HCK.out)
  have p3 := cell_regrown (cell Y HB1.out _ _ HP.out)
  clear cell
  go_upto_region 3 with fail
  refine wp_region_quiet_below (by assumption) (by kernel_rfl) ?_
  repeat (go_big_quiet_step (first
    | (go_at_call 109; exact Calls.regrown_of (HCP.out _ (bt HB1.out (below_regrown _ _ _))))))
  refine wpQuiet_nil ?_
  intro _ hw'
  obtain ⟨⟨nq2, osq2⟩, hw''⟩ := hw'
  subst hw''
  have HB2 := Lib.hid (bt HB1.out (below_regrown Y nq2 osq2))
  have HS2 := Lib.hid (box_on HS1.out (below_regrown Y nq2 osq2))
  clear p1 p2 p3
  generalize grow (redrawn Y nq2) osq2 = Y2 at *
  have cell : ∀ (Z : World), Go.RowKit.Below w.heap.size w Z → ∀ (a : Addr) u, w.cell? a = some u → Z.cell? a = some u := fun Z hZ a u hu => (hZ.cell (p := a) (World.block_lt_of_cell? w _ hu)).trans hu
  have p1 := cell_regrown ((cell_of_row _ _ 1 _ _ _ HS2.out).trans rfl : Y2.cell? ⟨w.heap.size, 1, none⟩ = some (.int .i64 ((j : Int) + 1)))
  have p2 := cell_regrown (cell Y2 HB2.out _ _ HCC.out)
  have p3 := cell_regrown (cell Y2 HB2.out _ _ HCK.out)
  clear cell
  go_upto_region 5 with fail
  refine wp_region_quiet_below (by assumption) (by kernel_rfl) ?_
  repeat (go_big_quiet_step (first
    | (fail)))
  refine wpQuiet_nil ?_
  intro _ hw'
  obtain ⟨⟨nq3, osq3⟩, hw''⟩ := hw'
  subst hw''
  have HB3 := Lib.hid (bt HB2.out (below_regrown Y2 nq3 osq3))
  have HS3 := Lib.hid (box_on HS2.out (below_regrown Y2 nq3 osq3))
  clear p1 p2 p3
  generalize grow (redrawn Y2 nq3) osq3 = Y3 at *
  have c1 : Y3.cell? ⟨w.heap.size, 1, none⟩ = some (.int .i64 ((j : Int) + 1)) := (cell_of_row _ _ 1 _ _ _ HS3.out).trans rfl
  go_wp2_with fail
  refine (HC.out _ HB3.out).mono ?_
  rintro e w' ⟨rfl, hpf⟩
  have HPF := Lib.hid hpf
  clear hpf c1
  go_wp2_with fail
  go_end0
  exact ⟨rfl, HPF.out⟩
end Go.Proofs.Ytjgcdmeojjnjlaa
/- fill, by the tree: a step of mending. -/
namespace Go.Proofs.Ytjgcdmeojjnjlaa
open Go.RowKit Go.Sort Go.Proofs.Ytjgcdmeojjnjlaa.Bo Go.Proofs.Ytjgcdmeojjnjlaa.Bb
set_option linter.unusedVariables false
set_option maxRecDepth 100000
section
variable {w0 W : World} {S B : Nat → Prop} {base T A : Nat} {t : Bx}
theorem BtH.spare (h : BtH w0 S B base T A t W) (p : Nat) (n : Kn) (hp : t.f (p : Int) = some n) (d : Nat) (hd : t.d = (d : Int)) (b : Bool) (hb : decide (d ≤ n.segs.length) = b) : ∀ X, Go.RowKit.Below W.heap.size W X → Calls Try.prog 109 #[aP T, .int .i64 (p : Int)] X fun e w' => e = .returned (.bool b) ∧ Go.RowKit.Below X.heap.size X w' := by
  intro X hX
  have hx := h.below hX
  obtain ⟨g, hg⟩ := hx.gOf p (by rw [hp]; simp)
  obtain ⟨sa, ka, sc, kc, v⟩ := hx.node hg p n hp
  have := bspare_core T A g p n.segs.length sc sa t.d X ((cell_of_row _ _ 1 _ _ _ hx.top).trans rfl) ((cell_of_row _ _ 0 _ _ _ hx.top).trans rfl) v.cs (Lib.hid v.at_)
  have e : decide (t.d ≤ (n.segs.length : Int)) = b := by rw [← hb, hd]; simp
  rw [e] at this
  exact this
/-- What the node of a step is, and its children. -/
theorem Bb.Short.nodes {d : Nat} (hd : 2 ≤ d) {f : Int → Option Kn} {n : Nat} {root : Int} {L : List G5} {h : Nat} {y : BF} {cx : List BF} {u : Bt} (o : Short d f n root L h (y :: cx) u) :
    f (y.i : Int) = some ⟨y.s, (y.l ++ u :: y.r).map Bt.idx⟩ ∧ y.s.length = y.l.length + y.r.length ∧ 1 ≤ y.s.length ∧ y.s.length + 1 ≤ 2 * d ∧ (∀ k ∈ y.l ++ y.r, f (k.i : Int) = some ⟨k.s, k.ks.map Bt.idx⟩ ∧ Deg d h k ∧ Shape h k) ∧ f (u.i : Int) = some ⟨u.s, u.ks.map Bt.idx⟩ ∧ Shape h u := by
  obtain ⟨h1, h2, h3, h4⟩ := o.z.ctx
  unfold BF.ok at h2
  obtain ⟨k1, k2, k3, k4⟩ := o.dx
  refine ⟨by rw [h1]; simp, h2, ?_, k2, fun k hk => ⟨(h3 k hk).node, k1 k hk, (h3 k hk).shape⟩, o.z.tree.node, o.z.tree.shape⟩
  split at k3
  · exact k3
  · omega
/-- The node of a step and its children stand in different places. -/
theorem Bb.Short.apart {d : Nat} {f : Int → Option Kn} {n : Nat} {root : Int} {L : List G5} {h : Nat} {y : BF} {cx : List BF} {u : Bt} (o : Short d f n root L h (y :: cx) u) :
    y.i ≠ u.i ∧ (∀ k ∈ y.l ++ y.r, y.i ≠ k.i ∧ k.i ≠ u.i) ∧ ∀ a b p q, y.l ++ u :: y.r = a ++ p :: q :: b → p.i ≠ q.i := by
  have z := o.z.fold
  have hnd := z.nd
  simp only [List.flatMap_nil, List.append_nil] at hnd
  rw [List.nodup_append] at hnd
  obtain ⟨_, d2, _⟩ := hnd
  have e : Bt.ids (h + 1) (.mk y.i y.s (y.l ++ u :: y.r)) = y.i :: (y.l ++ u :: y.r).flatMap (Bt.ids h) := rfl
  rw [e, List.nodup_cons] at d2
  obtain ⟨d3, d4⟩ := d2
  have hin : ∀ k ∈ y.l ++ u :: y.r, k.i ∈ (y.l ++ u :: y.r).flatMap (Bt.ids h) := fun k hk => List.mem_flatMap.2 ⟨k, hk, Bt.i_mem h k⟩
  have two : ∀ a b p q, y.l ++ u :: y.r = a ++ p :: q :: b → p.i ≠ q.i := by
    intro a b p q e1 e2
    rw [e1] at d4
    simp only [List.flatMap_append, List.flatMap_cons] at d4
    have d5 := (List.nodup_append.1 d4).2.1
    have d6 := (List.nodup_append.1 d5).2.2
    exact d6 p.i (Bt.i_mem h p) q.i (List.mem_append.2 (.inl (Bt.i_mem h q))) e2
  refine ⟨fun e1 => d3 (e1 ▸ hin u (by simp)), fun k hk => ⟨fun e1 => d3 (e1 ▸ hin k ?_), fun e1 => ?_⟩, two⟩
  · rcases List.mem_append.1 hk with q | q
    · simp [q]
    · simp [q]
  · simp only [List.flatMap_append, List.flatMap_cons] at d4
    have d5 := List.nodup_append.1 d4
    rcases List.mem_append.1 hk with q | q
    · exact d5.2.2 k.i (List.mem_flatMap.2 ⟨k, q, Bt.i_mem h k⟩) u.i (List.mem_append.2 (.inl (Bt.i_mem h u))) e1
    · exact (List.nodup_append.1 d5.2.1).2.2 u.i (Bt.i_mem h u) k.i (List.mem_flatMap.2 ⟨k, q, Bt.i_mem h k⟩) e1.symm
/-- What mending a step leaves. -/
def Mended (w0 W : World) (S B : Nat → Prop) (base T A : Nat) (t : Bx) (d : Nat) (L : List G5) (h : Nat) (y : BF) (cx : List BF) (w' : World) : Prop :=
  ∃ F m u', (BtH w0 S B base T A { t with f := F, n := m } w' ∧ ∀ b, B b → w'.heap[b]? = W.heap[b]?) ∧ Short d F m t.root L (h + 1) cx u' ∧ u'.i = y.i
theorem Bb.Shape.len {h : Nat} {u : Bt} (s : Shape h u) : u.ks.length ≤ u.s.length + 1 := by
  rcases s with ⟨_, e⟩ | ⟨_, e⟩
  · rw [e]; exact Nat.zero_le _
  · omega
set_option maxHeartbeats 1000000 in
theorem BtH.fillA (h : BtH w0 S B base T A t W) (d : Nat) (hd : t.d = (d : Int)) (hd2 : 2 ≤ d) (hd64 : d ≤ 64) {L : List G5} {hh : Nat} {y : BF} {cx : List BF} {u : Bt} {l : List Bt} {p : Bt} (o : Short d t.f t.n t.root L hh (y :: cx) u) (hsh : u.s.length + 2 ≤ d) (hl : y.l = l ++ [p]) (hge : d ≤ p.s.length) :
    Calls Try.prog 103 #[aP T, .agg #[.int .i64 (y.i : Int), .int .i64 ((l.length : Int) + 1)]] W fun e w' => e = .returned (.tuple #[]) ∧ Mended w0 W S B base T A t d L hh y cx w' := by
  obtain ⟨n1, n2, n3, n4, n5, n6, n7⟩ := o.nodes hd2
  obtain ⟨a1, a2, a3⟩ := o.apart
  have hpin : p ∈ y.l ++ y.r := by simp [hl]
  obtain ⟨np1, np2, np3⟩ := n5 p hpin
  have hK : y.l ++ u :: y.r = l ++ p :: u :: y.r := by rw [hl]; simp
  have hll : y.l.length = l.length + 1 := by rw [hl]; simp
  have hdp := ((deg_eq d hh p).1 np2).1
  have hkp := np3.len
  have hku := n7.len
  obtain ⟨ps, m, hpm⟩ : ∃ ps m, p.s = ps ++ [m] := by
    rcases List.eq_nil_or_concat p.s with e | ⟨a, b, e⟩
    · rw [e] at hge; simp at hge; omega
    · exact ⟨a, b, by rw [e, List.concat_eq_append]⟩
  have hxl : l.length < y.s.length := by omega
  have hx : y.s[l.length]? = some y.s[l.length] := List.getElem?_eq_getElem hxl
  have hs : y.s = y.s.take l.length ++ y.s[l.length] :: y.s.drop (l.length + 1) := by rw [← List.drop_eq_getElem_cons hxl, List.take_append_drop]
  have k1 : ((y.l ++ u :: y.r).map Bt.idx)[l.length]? = some (p.i : Int) := by rw [hK]; simp; rfl
  have k2 : ((y.l ++ u :: y.r).map Bt.idx)[l.length + 1]? = some (u.i : Int) := by rw [hK]; simp; rfl
  have hkl : ((y.l ++ u :: y.r).map Bt.idx).length = y.s.length + 1 := by simp; omega
  obtain ⟨g, hg⟩ := h.gOf y.i (by rw [n1]; simp)
  obtain ⟨sa, ka, sc, kc, v⟩ := h.node hg y.i _ n1
  have hkc := v.ck
  have hlt : l.length < ((y.l ++ u :: y.r).map Bt.idx).length := by omega
  obtain ⟨kb, rfl, _, q1, _⟩ := own_at v.ok rfl l.length hlt
  rw [show (⟨y.s, (y.l ++ u :: y.r).map Bt.idx⟩ : Kn).kids[l.length]'hlt = (p.i : Int) from (List.getElem?_eq_some_iff.1 k1).2] at q1
  refine bfill_a T A g y.i y.s.length ((y.l ++ u :: y.r).map Bt.idx).length sc kc kb sa l.length W ((cell_of_row _ _ 1 _ _ _ h.top).trans rfl) v.cs hkc ⟨by omega, hkl, by omega⟩ (p.i : Int) q1 (Lib.hid (h.spare p.i _ np1 d hd true (by simpa using hge))) _ (Lib.hid v.at_) (Lib.hid fun X hX => ?_)
  have hkeep : ∀ b, B b → X.heap[b]? = W.heap[b]? := fun b hb => hX.block b (h.size b hb).2
  have hset : y.s.set l.length m = y.s.take l.length ++ m :: y.s.drop (l.length + 1) := set_cut _ _ _ hxl
  rcases np3 with ⟨e1, e2⟩ | ⟨e1, e2⟩
  · refine ((h.below hX).turnBackL (hg.below hX) y.i p.i u.i _ _ _ n1 np1 n6 (a2 p hpin).1 a1 (a2 p hpin).2 l.length _ m ps k1 k2 hx hpm (by show p.ks.map Bt.idx = []; rw [e2]; rfl) ⟨by show y.s.length ≤ 1000; omega, by show ((y.l ++ u :: y.r).map Bt.idx).length ≤ 1000; omega⟩ ⟨by show p.s.length ≤ 1000; omega, by show (p.ks.map Bt.idx).length ≤ 1000; rw [List.length_map]; omega⟩ ⟨by show u.s.length ≤ 1000; omega, by show (u.ks.map Bt.idx).length ≤ 1000; rw [List.length_map]; omega⟩).mono ?_
    rintro e w' ⟨rfl, F, f1, f2, f3, f4, f5, f6⟩
    refine ⟨rfl, F, t.n, _, ⟨f1, fun b hb => (f6 b hb).trans (hkeep b hb)⟩, o.back (pk := []) (ck := []) hl hs (by rw [List.length_take]; omega) hpm (by rw [e2]; rfl) (.inl ⟨e1, rfl, rfl⟩) hge (by omega) (by rw [f2, hset]) (by rw [f3, e2]) f4 f5, rfl⟩
  · obtain ⟨pk, c, hpk⟩ : ∃ pk c, p.ks = pk ++ [c] := by
      rcases List.eq_nil_or_concat p.ks with e | ⟨a, b, e⟩
      · rw [e] at e2; simp at e2
      · exact ⟨a, b, by rw [e, List.concat_eq_append]⟩
    have hpkl : pk.length = ps.length + 1 := by rw [hpk, hpm] at e2; simpa using e2
    refine ((h.below hX).turnBackK (hg.below hX) y.i p.i u.i _ _ _ n1 np1 n6 (a2 p hpin).1 a1 (a2 p hpin).2 l.length _ m ps k1 k2 hx hpm (pk.map Bt.idx) c.idx (by show p.ks.map Bt.idx = _; rw [hpk, List.map_append]; rfl) (by rw [List.length_map]; exact hpkl) ⟨by show y.s.length ≤ 1000; omega, by show ((y.l ++ u :: y.r).map Bt.idx).length ≤ 1000; omega⟩ ⟨by show p.s.length ≤ 1000; omega, by show (p.ks.map Bt.idx).length ≤ 1000; rw [List.length_map]; omega⟩ ⟨by show u.s.length ≤ 1000; omega, by show (u.ks.map Bt.idx).length ≤ 1000; rw [List.length_map]; omega⟩).mono ?_
    rintro e w' ⟨rfl, F, f1, f2, f3, f4, f5, f6⟩
    refine ⟨rfl, F, t.n, _, ⟨f1, fun b hb => (f6 b hb).trans (hkeep b hb)⟩, o.back (pk := pk) (ck := [c]) hl hs (by rw [List.length_take]; omega) hpm hpk (.inr ⟨e1, hpkl, rfl⟩) hge (by omega) (by rw [f2, hset]) f3 f4 f5, rfl⟩
set_option maxHeartbeats 1000000 in
theorem BtH.onCall (h : BtH w0 S B base T A t W) (d : Nat) (hd2 : 2 ≤ d) (hd64 : d ≤ 64) {L : List G5} {hh : Nat} {y : BF} {cx : List BF} {u : Bt} {r : List Bt} {q : Bt} (o : Short d t.f t.n t.root L hh (y :: cx) u) (hsh : u.s.length + 2 ≤ d) (hr : y.r = q :: r) (hge : d ≤ q.s.length) {g : Nat} (hg : PlG W A g) :
    ∀ X, Go.RowKit.Below W.heap.size W X → Calls Try.prog 111 #[aP T, .pointer (some ⟨g, y.i * 3, none⟩), .int .i64 (y.l.length : Int)] X fun e w' => e = .returned (.tuple #[]) ∧ Mended w0 W S B base T A t d L hh y cx w' := by
  intro X hX
  obtain ⟨n1, n2, n3, n4, n5, n6, n7⟩ := o.nodes hd2
  obtain ⟨a1, a2, a3⟩ := o.apart
  have hqin : q ∈ y.l ++ y.r := by simp [hr]
  obtain ⟨np1, np2, np3⟩ := n5 q hqin
  have hrl : y.r.length = r.length + 1 := by rw [hr]; rfl
  have hdq := ((deg_eq d hh q).1 np2).1
  have hkq := np3.len
  have hku := n7.len
  obtain ⟨m, qs, hqm⟩ : ∃ m qs, q.s = m :: qs := by
    cases e : q.s with
    | nil => rw [e] at hge; simp at hge; omega
    | cons a b => exact ⟨a, b, rfl⟩
  have hxl : y.l.length < y.s.length := by omega
  have hx : y.s[y.l.length]? = some y.s[y.l.length] := List.getElem?_eq_getElem hxl
  have hs : y.s = y.s.take y.l.length ++ y.s[y.l.length] :: y.s.drop (y.l.length + 1) := by rw [← List.drop_eq_getElem_cons hxl, List.take_append_drop]
  have k1 : ((y.l ++ u :: y.r).map Bt.idx)[y.l.length]? = some (u.i : Int) := by simp; rfl
  have k2 : ((y.l ++ u :: y.r).map Bt.idx)[y.l.length + 1]? = some (q.i : Int) := by rw [hr]; simp; rfl
  have hkl : ((y.l ++ u :: y.r).map Bt.idx).length = y.s.length + 1 := by simp; omega
  have hkeep : ∀ b, B b → X.heap[b]? = W.heap[b]? := fun b hb => hX.block b (h.size b hb).2
  have hset : y.s.set y.l.length m = y.s.take y.l.length ++ m :: y.s.drop (y.l.length + 1) := set_cut _ _ _ hxl
  rcases np3 with ⟨e1, e2⟩ | ⟨e1, e2⟩
  · refine ((h.below hX).turnOnL (hg.below hX) y.i u.i q.i _ _ _ n1 n6 np1 a1 (a2 q hqin).1 (a2 q hqin).2.symm y.l.length _ m qs hqm (by show q.ks.map Bt.idx = []; rw [e2]; rfl) k1 k2 hx ⟨by show y.s.length ≤ 1000; omega, by show ((y.l ++ u :: y.r).map Bt.idx).length ≤ 1000; omega⟩ ⟨by show u.s.length ≤ 1000; omega, by show (u.ks.map Bt.idx).length ≤ 1000; rw [List.length_map]; omega⟩ ⟨by show q.s.length ≤ 1000; omega, by show (q.ks.map Bt.idx).length ≤ 1000; rw [List.length_map]; omega⟩).mono ?_
    rintro e w' ⟨rfl, F, f1, f2, f3, f4, f5, f6⟩
    refine ⟨rfl, F, t.n, _, ⟨f1, fun b hb => (f6 b hb).trans (hkeep b hb)⟩, o.on (qk := []) (ck := []) hr hs (by rw [List.length_take]; omega) hqm (by rw [e2]; rfl) (.inl ⟨e1, rfl, rfl⟩) hge (by omega) (by rw [f2, hset]) (by rw [f3, List.append_nil]) (by rw [f4, e2]) f5, rfl⟩
  · obtain ⟨c, qk, hqk⟩ : ∃ c qk, q.ks = c :: qk := by
      cases e : q.ks with
      | nil => rw [e] at e2; simp at e2
      | cons a b => exact ⟨a, b, rfl⟩
    have hqkl : qk.length = qs.length + 1 := by rw [hqk, hqm] at e2; simpa using e2
    refine ((h.below hX).turnOnK (hg.below hX) y.i u.i q.i _ _ _ n1 n6 np1 a1 (a2 q hqin).1 (a2 q hqin).2.symm y.l.length _ m qs hqm c.idx (qk.map Bt.idx) (by show q.ks.map Bt.idx = _; rw [hqk]; rfl) k1 k2 hx ⟨by show y.s.length ≤ 1000; omega, by show ((y.l ++ u :: y.r).map Bt.idx).length ≤ 1000; omega⟩ ⟨by show u.s.length ≤ 1000; omega, by show (u.ks.map Bt.idx).length ≤ 1000; rw [List.length_map]; omega⟩ ⟨by show q.s.length ≤ 1000; omega, by show (q.ks.map Bt.idx).length ≤ 1000; rw [List.length_map]; omega⟩).mono ?_
    rintro e w' ⟨rfl, F, f1, f2, f3, f4, f5, f6⟩
    refine ⟨rfl, F, t.n, _, ⟨f1, fun b hb => (f6 b hb).trans (hkeep b hb)⟩, o.on (qk := qk) (ck := [c]) hr hs (by rw [List.length_take]; omega) hqm hqk (.inr ⟨e1, hqkl, rfl⟩) hge (by omega) (by rw [f2, hset]) (by rw [f3, List.map_append]; rfl) f4 f5, rfl⟩
set_option maxHeartbeats 1000000 in
theorem BtH.joinCall (h : BtH w0 S B base T A t W) (d : Nat) (hd2 : 2 ≤ d) (hd64 : d ≤ 64) {L : List G5} {hh : Nat} {y : BF} {cx : List BF} {u : Bt} {la lb : List Bt} {p q : Bt} (o : Short d t.f t.n t.root L hh (y :: cx) u) (hks : y.l ++ u :: y.r = la ++ p :: q :: lb)
    (hsum : p.s.length + q.s.length + 2 ≤ 2 * d) (hsum2 : d ≤ p.s.length + q.s.length + 2) (fp : t.f (p.i : Int) = some ⟨p.s, p.ks.map Bt.idx⟩) (fq : t.f (q.i : Int) = some ⟨q.s, q.ks.map Bt.idx⟩) (sp : Shape hh p) (sq : Shape hh q) (dkp : DegK d hh p.ks) (dkq : DegK d hh q.ks) (dko : ∀ k ∈ la ++ lb, Deg d hh k)
    (hyp : y.i ≠ p.i) (hyq : y.i ≠ q.i) {g : Nat} (hg : PlG W A g) :
    ∀ X, Go.RowKit.Below W.heap.size W X → Calls Try.prog 112 #[aP T, .pointer (some ⟨g, y.i * 3, none⟩), .int .i64 (la.length : Int)] X fun e w' => e = .returned (.tuple #[]) ∧ Mended w0 W S B base T A t d L hh y cx w' := by
  intro X hX
  obtain ⟨n1, n2, n3, n4, n5, n6, n7⟩ := o.nodes hd2
  obtain ⟨a1, a2, a3⟩ := o.apart
  have hkp := sp.len
  have hkq := sq.len
  have hpos : 0 < t.n := by
    rw [o.z.cnt]
    exact List.length_pos_of_mem (List.mem_append.2 (.inr (List.mem_append.2 (.inl (Bt.i_mem hh u)))))
  obtain ⟨m, hm⟩ : ∃ m, t.n = m + 1 := ⟨t.n - 1, by omega⟩
  have hlen := congrArg List.length hks
  simp only [List.length_append, List.length_cons] at hlen
  have hxl : la.length < y.s.length := by omega
  have hx : y.s[la.length]? = some y.s[la.length] := List.getElem?_eq_getElem hxl
  have hs : y.s = y.s.take la.length ++ y.s[la.length] :: y.s.drop (la.length + 1) := by rw [← List.drop_eq_getElem_cons hxl, List.take_append_drop]
  have k1 : ((y.l ++ u :: y.r).map Bt.idx)[la.length]? = some (p.i : Int) := by rw [hks]; simp; rfl
  have k2 : ((y.l ++ u :: y.r).map Bt.idx)[la.length + 1]? = some (q.i : Int) := by rw [hks]; simp; rfl
  have hkl : ((y.l ++ u :: y.r).map Bt.idx).length = y.s.length + 1 := by simp; omega
  have hkk : ((y.l ++ u :: y.r).map Bt.idx).take (la.length + 1) ++ ((y.l ++ u :: y.r).map Bt.idx).drop (la.length + 1 + 1) = (la ++ p :: lb).map Bt.idx := by
    have e : (y.l ++ u :: y.r).map Bt.idx = (la.map Bt.idx ++ [p.idx]) ++ q.idx :: lb.map Bt.idx := by rw [hks]; simp
    have e1 : (la.map Bt.idx ++ [p.idx]).length = la.length + 1 := by simp
    have e2 : ((la.map Bt.idx ++ [p.idx]) ++ q.idx :: lb.map Bt.idx).take (la.length + 1) = la.map Bt.idx ++ [p.idx] := by rw [← e1]; exact List.take_left
    have e3 : ((la.map Bt.idx ++ [p.idx]) ++ q.idx :: lb.map Bt.idx).drop (la.length + 1) = q.idx :: lb.map Bt.idx := by rw [← e1]; exact List.drop_left
    rw [e, e2, ← List.drop_drop, e3]
    simp
  have hkeep : ∀ b, B b → X.heap[b]? = W.heap[b]? := fun b hb => hX.block b (h.size b hb).2
  refine ((h.below hX).join (hg.below hX) y.i p.i q.i _ _ _ n1 fp fq hyp hyq (a3 la lb p q hks) la.length _ m hm k1 k2 hx ⟨by show y.s.length ≤ 1000; omega, by show ((y.l ++ u :: y.r).map Bt.idx).length ≤ 1000; omega⟩ ⟨by show p.s.length ≤ 1000; omega, by show (p.ks.map Bt.idx).length ≤ 1000; rw [List.length_map]; omega⟩ ⟨by show q.s.length ≤ 1000; omega, by show (q.ks.map Bt.idx).length ≤ 1000; rw [List.length_map]; omega⟩).mono ?_
  rintro e w' ⟨rfl, F, f1, f2, f3, f4, f5, f6⟩
  have o2 := o
  rw [hm] at o2
  exact ⟨rfl, F, m, _, ⟨f1, fun b hb => (f6 b hb).trans (hkeep b hb)⟩, o2.join hks hs (by rw [List.length_take]; omega) hsum hsum2 dkp dkq (by rw [f2, hkk]) (by rw [f3, List.map_append]) f4 f5 dko, rfl⟩
set_option maxHeartbeats 1000000 in
theorem BtH.fill (h : BtH w0 S B base T A t W) (d : Nat) (hd : t.d = (d : Int)) (hd2 : 2 ≤ d) (hd64 : d ≤ 64) {L : List G5} {hh : Nat} {y : BF} {cx : List BF} {u : Bt} (o : Short d t.f t.n t.root L hh (y :: cx) u) (hsh : u.s.length + 2 ≤ d) :
    Calls Try.prog 103 #[aP T, .agg #[.int .i64 (y.i : Int), .int .i64 (y.l.length : Int)]] W fun e w' => e = .returned (.tuple #[]) ∧ Mended w0 W S B base T A t d L hh y cx w' := by
  obtain ⟨n1, n2, n3, n4, n5, n6, n7⟩ := o.nodes hd2
  obtain ⟨a1, a2, a3⟩ := o.apart
  have hlo : d ≤ u.s.length + 2 := by have := o.lo; simpa using this
  have hkl : ((y.l ++ u :: y.r).map Bt.idx).length = y.s.length + 1 := by simp; omega
  obtain ⟨g, hg⟩ := h.gOf y.i (by rw [n1]; simp)
  obtain ⟨sa, ka, sc, kc, v⟩ := h.node hg y.i _ n1
  have hkc : W.cell? ⟨g, y.i * 3 + 1, none⟩ = some (.slice ka ((y.l ++ u :: y.r).map Bt.idx).length kc) := v.ck
  have hA : W.cell? ⟨T, 1, none⟩ = some (aP A) := (cell_of_row _ _ 1 _ _ _ h.top).trans rfl
  have kid : ∀ (i : Nat) (x : Int), ((y.l ++ u :: y.r).map Bt.idx)[i]? = some x → ∃ kb, ka = some ⟨kb, 0, none⟩ ∧ W.cell? ⟨kb, i, none⟩ = some (.int .i64 x) := fun i x hx => by
    obtain ⟨hi, e⟩ := List.getElem?_eq_some_iff.1 hx
    obtain ⟨kb, e1, _, q1, _⟩ := own_at v.ok rfl i hi
    rw [show (⟨y.s, (y.l ++ u :: y.r).map Bt.idx⟩ : Kn).kids[i]'hi = x from e] at q1
    exact ⟨kb, e1, q1⟩
  rcases List.eq_nil_or_concat y.l with e | ⟨l, p, e⟩
  · have hl0 : y.l.length = 0 := by rw [e]; rfl
    obtain ⟨q, r, hr⟩ : ∃ q r, y.r = q :: r := by
      cases er : y.r with
      | nil => rw [er, e] at n2; simp at n2; rw [n2] at n3; simp at n3
      | cons a b => exact ⟨a, b, rfl⟩
    have hqin : q ∈ y.l ++ y.r := by simp [hr]
    obtain ⟨np1, np2, np3⟩ := n5 q hqin
    have hdq := (deg_eq d hh q).1 np2
    obtain ⟨kb, rfl, hq⟩ := kid 1 (q.i : Int) (by rw [e, hr]; rfl)
    rw [hl0]
    by_cases hge : d ≤ q.s.length
    · refine bfill_b T A g y.i y.s.length ((y.l ++ u :: y.r).map Bt.idx).length sc kc kb sa W hA v.cs hkc ⟨by omega, hkl, by omega⟩ (q.i : Int) hq (Lib.hid (h.spare q.i _ np1 d hd true (by simpa using hge))) (by omega) _ (Lib.hid v.at_) (Lib.hid ?_)
      have := h.onCall d hd2 hd64 o hsh hr hge hg
      rw [hl0] at this; exact this
    · refine bfill_d T A g y.i y.s.length ((y.l ++ u :: y.r).map Bt.idx).length sc kc kb sa W hA v.cs hkc ⟨by omega, hkl, by omega⟩ (q.i : Int) hq (Lib.hid (h.spare q.i _ np1 d hd false (by simpa using hge))) (by omega) _ (Lib.hid v.at_) (Lib.hid ?_)
      exact h.joinCall d hd2 hd64 (la := []) (lb := r) (p := u) (q := q) o (by rw [e, hr, List.nil_append]) (by omega) (by omega) n6 np1 n7 np3 o.dk hdq.2 (fun k hk => (n5 k (by simp at hk; simp [hr, hk])).2.1) a1 (a2 q hqin).1 hg
  · rw [List.concat_eq_append] at e
    have hll : y.l.length = l.length + 1 := by rw [e]; simp
    have hcast : (y.l.length : Int) = (l.length : Int) + 1 := by omega
    have hpin : p ∈ y.l ++ y.r := by simp [e]
    obtain ⟨np1, np2, np3⟩ := n5 p hpin
    have hdp := (deg_eq d hh p).1 np2
    by_cases hgp : d ≤ p.s.length
    · rw [hcast]; exact h.fillA d hd hd2 hd64 o hsh e hgp
    · have HCP := h.spare p.i _ np1 d hd false (by simpa using hgp)
      obtain ⟨kb, rfl, hp⟩ := kid l.length (p.i : Int) (by rw [e]; simp; rfl)
      have hjoin := h.joinCall d hd2 hd64 (la := l) (lb := y.r) (p := p) (q := u) o (by rw [e]; simp) (by omega) (by omega) np1 n6 np3 n7 hdp.2 o.dk (fun k hk => (n5 k (by rw [e]; simp at hk ⊢; rcases hk with hk | hk <;> simp [hk])).2.1) (a2 p hpin).1 a1 hg
      rw [hcast]
      cases hr : y.r with
      | nil =>
        exact bfill_f T A g y.i y.s.length ((y.l ++ u :: y.r).map Bt.idx).length sc kc kb sa l.length W hA v.cs hkc ⟨by omega, hkl, by omega⟩ (p.i : Int) hp (Lib.hid HCP) (by rw [hr] at n2; simp at n2; omega) _ (Lib.hid v.at_) (Lib.hid hjoin)
      | cons q r =>
        have hqin : q ∈ y.l ++ y.r := by simp [hr]
        obtain ⟨nq1, nq2, nq3⟩ := n5 q hqin
        have hrl : y.r.length = r.length + 1 := by rw [hr]; rfl
        obtain ⟨kb2, e3, hq⟩ := kid (l.length + 1 + 1) (q.i : Int) (by
          have e9 : ((y.l ++ u :: y.r).map Bt.idx) = (l.map Bt.idx ++ [p.idx, u.idx]) ++ q.idx :: r.map Bt.idx := by rw [e, hr]; simp
          have e8 : (l.map Bt.idx ++ [p.idx, u.idx]).length = l.length + 1 + 1 := by simp
          rw [e9, ← e8, List.getElem?_append_right (Nat.le_refl _), Nat.sub_self]; rfl)
        obtain rfl : kb = kb2 := by injection e3 with e3; injection e3
        by_cases hgq : d ≤ q.s.length
        · refine bfill_c T A g y.i y.s.length ((y.l ++ u :: y.r).map Bt.idx).length sc kc kb sa l.length W hA v.cs hkc ⟨by omega, hkl, by omega⟩ (p.i : Int) hp (Lib.hid HCP) (q.i : Int) hq (Lib.hid (h.spare q.i _ nq1 d hd true (by simpa using hgq))) (by omega) _ (Lib.hid v.at_) (Lib.hid ?_)
          have := h.onCall d hd2 hd64 o hsh hr hgq hg
          rw [hcast] at this; exact this
        · exact bfill_e T A g y.i y.s.length ((y.l ++ u :: y.r).map Bt.idx).length sc kc kb sa l.length W hA v.cs hkc ⟨by omega, hkl, by omega⟩ (p.i : Int) hp (Lib.hid HCP) (q.i : Int) hq (Lib.hid (h.spare q.i _ nq1 d hd false (by simpa using hgq))) (by omega) _ (Lib.hid v.at_) (Lib.hid hjoin)
end
end Go.Proofs.Ytjgcdmeojjnjlaa
/- mendShort: the walk. -/
namespace Go.Proofs.Ytjgcdmeojjnjlaa
open Go.RowKit Go.Sort Go.Proofs.Ytjgcdmeojjnjlaa.Bo Go.Proofs.Ytjgcdmeojjnjlaa.Bb Go.Proofs.Ytjgcdmeojjnjlaa.Rf
set_option linter.unusedVariables false
set_option linter.unusedSimpArgs false
set_option maxRecDepth 100000
/-- What a round of mending may find. -/
def MendRound (T A wb k : Nat) (PI : Nat → World → Prop) (PE : World → Prop) (W : World) : Prop :=
  (k = 0 ∧ ∀ X, Go.RowKit.Below W.heap.size W X → PE X) ∨
  ∃ (p g go n sc d : Nat) (sa : Option Addr), 0 < k ∧ W.cell? ⟨T, 1, none⟩ = some (aP A) ∧ W.cell? ⟨T, 0, none⟩ = some (.int .i64 (d : Int)) ∧ W.cell? ⟨wb, k * 2, none⟩ = some (.int .i64 (p : Int)) ∧ W.cell? ⟨g, go, none⟩ = some (.slice sa n sc) ∧ n ≤ 1000 ∧ 2 ≤ d ∧ d ≤ 64 ∧
    (∀ X, Go.RowKit.Below W.heap.size W X → Calls Try.prog 50 #[aP A, .int .i64 (p : Int)] X fun e w' => e = .returned (.pointer (some ⟨g, go, none⟩)) ∧ X = w') ∧
    ((d ≤ n + 1 ∧ ∀ X, Go.RowKit.Below W.heap.size W X → PE X) ∨
      (n + 2 ≤ d ∧ ∃ q a : Int, W.cell? ⟨wb, (k - 1) * 2, none⟩ = some (.int .i64 q) ∧ W.cell? ⟨wb, (k - 1) * 2 + 1, none⟩ = some (.int .i64 a) ∧ ∀ X, Go.RowKit.Below W.heap.size W X → Calls Try.prog 103 #[aP T, .agg #[.int .i64 q, .int .i64 a]] X fun e w' => e = .returned (.tuple #[]) ∧ PI (k - 1) w'))
/-- What its end may find. -/
def MendEnd (T A : Nat) (PF : World → Prop) (W : World) : Prop :=
  ∃ (g go n sc : Nat) (sa : Option Addr) (root : Int), W.cell? ⟨T, 1, none⟩ = some (aP A) ∧ W.cell? ⟨T, 2, none⟩ = some (.int .i64 root) ∧ W.cell? ⟨g, go, none⟩ = some (.slice sa n sc) ∧ n ≤ 1000 ∧
    (∀ X, Go.RowKit.Below W.heap.size W X → Calls Try.prog 50 #[aP A, .int .i64 root] X fun e w' => e = .returned (.pointer (some ⟨g, go, none⟩)) ∧ X = w') ∧
    ((0 < n ∧ ∀ X, Go.RowKit.Below W.heap.size W X → PF X) ∨
      (n = 0 ∧ ∃ kv : Int, (∀ X, Go.RowKit.Below W.heap.size W X → Calls Try.prog 51 #[.pointer (some ⟨g, go, none⟩), .int .i64 0] X fun e w' => e = .returned (.int .i64 kv) ∧ X = w') ∧
        ∀ X, Go.RowKit.Below W.heap.size W X → Calls Try.prog 104 #[aP A, .int .i64 root] X fun e w' => e = .returned (.bool true) ∧ (∃ v, w'.cell? ⟨T, 2, none⟩ = some v) ∧ w'.frozen? ⟨T, 2, none⟩ = false ∧ PF (w'.setCell ⟨T, 2, none⟩ (.int .i64 kv))))
set_option maxHeartbeats 4000000 in
theorem bmend_core (T A wb N wc : Nat) (hN : 1 ≤ N ∧ N ≤ 100000) (w : World) (PI : Nat → World → Prop) (PE PF : World → Prop)
    (HI : Hid (∀ k W, k < N → PI k W → MendRound T A wb k PI PE W)) (H0 : Hid (PI (N - 1) w)) (HE : Hid (∀ W, PE W → MendEnd T A PF W)) :
    Calls Try.prog 96 #[aP T, .slice (some ⟨wb, 0, none⟩) N wc] w fun e w' => e = .returned (.tuple #[]) ∧ PF w' := by
  have mx := mixed
  have i1 : IntKind.i64.wrap ((N : Int) - 1) = ((N - 1 : Nat) : Int) := by rw [show (N : Int) - 1 = ((N - 1 : Nat) : Int) by omega]; exact IntWalk.i64_in _ (by omega)
  have RR : ∀ W, PE W → MendEnd T A PF W := HE.out
  go_enter Try.func96, Try.ntmps96
  go_wp2_with fail
  go_loopg [4] N (fun k kv wr => ∃ j : Nat, k = j + 1 ∧ kv = .int .i64 (j : Int) ∧ j < N ∧ PI j wr)
  case atStart => exact ⟨N - 1, by omega, rfl, by omega, H0.out⟩
  case round =>
    obtain ⟨j, hkj, rfl, hj, hp⟩ := hrel
    have HK := Lib.hid hkj
    have HP := HI.out j wr hj hp
    clear hkj hp
    rcases HP with ⟨rfl, hpe⟩ | ⟨p, g, go, n, sc, d, sa, h0, c1, c0, cp, cs, hn, hd2, hd64, hat, hor⟩
    · have HPE := Lib.hid hpe
      clear hpe
      go_upto_region 1 with fail
      refine wp_region_quiet_below (by assumption) (by kernel_rfl) ?_
      repeat (go_big_quiet_step (first | fail))
      refine wpQuiet_nil ?_
      intro _ hw'
      obtain ⟨⟨nq2, osq2⟩, hw''⟩ := hw'
      subst hw''
      have he := HPE.out _ (below_regrown wr nq2 osq2)
      generalize grow (redrawn wr nq2) osq2 = Y2 at *
      go_wp2_with fail
      obtain ⟨g9, p9, n9, sc9, sa9, root, c1, c2, cs9, hn9, hat9, hor9⟩ := RR _ he
      have HAT9 := Lib.hid hat9
      have q1 := cell_regrown c1
      have q2 := cell_regrown c2
      have HC9 := Lib.hid (And.intro c1 (And.intro c2 cs9))
      have HOR9 := Lib.hid hor9
      clear hat9 c1 c2 cs9 hor9 he
      go_upto_region 4 with fail
      refine wp_region_quiet_below (by assumption) (by kernel_rfl) ?_
      repeat (go_big_quiet_step (first
        | (go_at_call 50; exact Calls.regrown_of ((HAT9.out _ (below_regrown _ _ _)).mono fun e w' h => ⟨h.1, h.2 ▸ Go.RowKit.Below.refl _ _⟩))))
      refine wpQuiet_nil ?_
      intro _ hw'
      obtain ⟨⟨nq3, osq3⟩, hw''⟩ := hw'
      subst hw''
      have HB9 := Lib.hid (below_regrown Y2 nq3 osq3)
      clear q1 q2
      generalize grow (redrawn Y2 nq3) osq3 = Y3 at *
      have cs3 : Y3.cell? ⟨g9, p9, none⟩ = some (.slice sa9 n9 sc9) := (HB9.out.cell (p := ⟨g9, p9, none⟩) (World.block_lt_of_cell? Y2 _ HC9.out.2.2)).trans HC9.out.2.2
      rcases HOR9.out with ⟨hp9, hpf⟩ | ⟨rfl, kv, hkid, hfr⟩
      · have b9 : ¬ (n9 : Int) = 0 := by omega
        have b9' : ¬ n9 = 0 := by omega
        have HPF := Lib.hid (hpf _ HB9.out)
        clear hpf
        go_wp2_with fail
        go_end0
        exact ⟨rfl, HPF.out⟩
      · have HKD := Lib.hid (hkid _ HB9.out)
        have HFR0 := Lib.hid hfr
        clear hkid hfr
        go_wp2_with fail
        refine HKD.out.mono ?_
        rintro e V1 ⟨rfl, rfl⟩
        have HBD : Hid (Go.RowKit.Below Y2.heap.size Y2 Y3.drew) := bt HB9.out (Go.RowKit.Below.refl _ _).drew
        have d1 : Y3.drew.cell? ⟨T, 1, none⟩ = some (aP A) := (HBD.out.cell (p := ⟨T, 1, none⟩) (World.block_lt_of_cell? Y2 _ HC9.out.1)).trans HC9.out.1
        have d2 : Y3.drew.cell? ⟨T, 2, none⟩ = some (.int .i64 root) := (HBD.out.cell (p := ⟨T, 2, none⟩) (World.block_lt_of_cell? Y2 _ HC9.out.2.1)).trans HC9.out.2.1
        go_upto_region 7 with fail
        have HFR := Lib.hid (HFR0.out _ HBD.out)
        obtain ⟨S5, hS5⟩ : ∃ S5 : World → Prop, S5 = fun w' => w'.cell? ⟨T, 1, none⟩ = some (aP A) ∧ w'.cell? ⟨T, 2, none⟩ = some (.int .i64 root) := ⟨_, rfl⟩
        have HS1 : Hid (S5 Y3.drew) := by show S5 _; rw [hS5]; exact ⟨d1, d2⟩
        clear d1 d2
        refine wp_plain_T S5 8 mx HS1.out (fun _ _ h => h) (fun hHeld => ?_)
        subst hS5
        generalize Y3.drew = Z at *
        refine wpAnyT_pure (i := 0) (v := ?_) (by kernel_rfl) rfl (by kernel_rfl) (by kernel_rfl) (by kernel_rfl) (fun _ _ _ h => h) (Or.inl ⟨by rfl, ?_⟩) (by assumption) ?_
        rotate_left
        · intro w0; go_simp; all_goals (with_reducible rfl)
        try simp only [Act.put, List.setIfInBounds_toArray, List.set_cons_zero, List.set_cons_succ]
        refine wpAnyT_pure (i := 1) (v := ?_) (by kernel_rfl) rfl (by kernel_rfl) (by kernel_rfl) (by kernel_rfl) (fun _ _ _ h => h) (Or.inl ⟨by rfl, ?_⟩) (by assumption) ?_
        rotate_left
        · intro w0; go_simp; all_goals (with_reducible rfl)
        try simp only [Act.put, List.setIfInBounds_toArray, List.set_cons_zero, List.set_cons_succ]
        refine wpAnyT_pure (i := 2) (v := ?_) (by kernel_rfl) rfl (by kernel_rfl) (by kernel_rfl) (by kernel_rfl) (fun _ _ _ h => h) (Or.inl ⟨by rfl, ?_⟩) (by assumption) ?_
        rotate_left
        · intro w0; go_simp; all_goals (with_reducible rfl)
        try simp only [Act.put, List.setIfInBounds_toArray, List.set_cons_zero, List.set_cons_succ]
        refine wpAnyT_take (i := 3) (v := ?_) [8] (by kernel_rfl) (by kernel_rfl) (by kernel_rfl) rfl (by kernel_rfl) (by kernel_rfl) (by kernel_rfl) (fun _ _ _ h => h) (Or.inl ⟨by rfl, ?_⟩) (by assumption) ?_
        rotate_left
        · intro w0 hSw; (try dsimp only at hSw); go_simp; all_goals (with_reducible rfl)
        try simp only [Act.put, List.setIfInBounds_toArray, List.set_cons_zero, List.set_cons_succ]
        refine wpAnyT_pure (i := 4) (v := ?_) (by kernel_rfl) rfl (by kernel_rfl) (by kernel_rfl) (by kernel_rfl) (fun _ _ _ h => h) (Or.inl ⟨by rfl, ?_⟩) (by assumption) ?_
        rotate_left
        · intro w0; go_simp; all_goals (with_reducible rfl)
        try simp only [Act.put, List.setIfInBounds_toArray, List.set_cons_zero, List.set_cons_succ]
        refine wpAnyT_pure (i := 5) (v := ?_) (by kernel_rfl) rfl (by kernel_rfl) (by kernel_rfl) (by kernel_rfl) (fun _ _ _ h => h) (Or.inl ⟨by rfl, ?_⟩) (by assumption) ?_
        rotate_left
        · intro w0; go_simp; all_goals (with_reducible rfl)
        try simp only [Act.put, List.setIfInBounds_toArray, List.set_cons_zero, List.set_cons_succ]
        refine wpAnyT_pure (i := 6) (v := ?_) (by kernel_rfl) rfl (by kernel_rfl) (by kernel_rfl) (by kernel_rfl) (fun _ _ _ h => h) (Or.inl ⟨by rfl, ?_⟩) (by assumption) ?_
        rotate_left
        · intro w0; go_simp; all_goals (with_reducible rfl)
        try simp only [Act.put, List.setIfInBounds_toArray, List.set_cons_zero, List.set_cons_succ]
        refine wpAnyT_take (i := 7) (v := ?_) [8] (by kernel_rfl) (by kernel_rfl) (by kernel_rfl) rfl (by kernel_rfl) (by kernel_rfl) (by kernel_rfl) (fun _ _ _ h => h) (Or.inl ⟨by rfl, ?_⟩) (by assumption) ?_
        rotate_left
        · intro w0 hSw; (try dsimp only at hSw); go_simp; all_goals (with_reducible rfl)
        try simp only [Act.put, List.setIfInBounds_toArray, List.set_cons_zero, List.set_cons_succ]
        refine wpAnyT_stop (by kernel_rfl) rfl (fun K0 hK0 => ?_)
        go_simp
        refine HFR.out.mono ?_
        rintro e V ⟨rfl, hv⟩
        have HV := Lib.hid hv
        clear hv
        try dsimp only
        refine hK0.out _ _ ?_
        clear hK0 K0
        try simp only [Act.put, List.setIfInBounds_toArray, List.set_cons_zero, List.set_cons_succ]
        refine wpAny_end (by kernel_rfl) ?_ _
        simp only [onlyN]
        obtain ⟨⟨v, hv⟩, hz, hpf⟩ := HV.out
        have HPF := Lib.hid hpf
        clear hpf hHeld
        go_wp2_with fail
        go_end0
        exact ⟨rfl, HPF.out⟩
    · have HAT := Lib.hid hat
      have i2 : IntKind.i64.wrap ((d : Int) - 1) = (d : Int) - 1 := IntWalk.i64_in _ (by omega)
      have i3 : (0 : Int) < (j : Int) := by omega
      have i3' : 0 < j := h0
      have i4 : j < N := hj
      have i5 : (0 : Int) ≤ (j : Int) := by omega
      have i6 : (j : Int) < (N : Int) := by omega
      have p1 := cell_regrown c1
      have p0 := cell_regrown c0
      have pp := cell_regrown cp
      have ps := cell_regrown cs
      have HC := Lib.hid (And.intro c1 (And.intro c0 (And.intro cp cs)))
      clear hat c1 c0 cp cs
      rcases hor with ⟨hle, hpe⟩ | ⟨hlt, q, a, cq, ca, hfill⟩
      · have HPE := Lib.hid hpe
        have b1 : ¬ (n : Int) < (d : Int) - 1 := by omega
        clear hpe
        go_upto_region 1 with fail
        refine wp_region_quiet_below (by assumption) (by kernel_rfl) ?_
        repeat (go_big_quiet_step (first
          | (go_at_call 50; exact Calls.regrown_of ((HAT.out _ (below_regrown _ _ _)).mono fun e w' h => ⟨h.1, h.2 ▸ Go.RowKit.Below.refl _ _⟩))))
        refine wpQuiet_nil ?_
        intro _ hw'
        obtain ⟨⟨nq2, osq2⟩, hw''⟩ := hw'
        subst hw''
        have he := HPE.out _ (below_regrown wr nq2 osq2)
        clear p1 p0 pp ps
        generalize grow (redrawn wr nq2) osq2 = Y2 at *
        go_wp2_with fail
        obtain ⟨g9, p9, n9, sc9, sa9, root, c1, c2, cs9, hn9, hat9, hor9⟩ := RR _ he
        have HAT9 := Lib.hid hat9
        have q1 := cell_regrown c1
        have q2 := cell_regrown c2
        have HC9 := Lib.hid (And.intro c1 (And.intro c2 cs9))
        have HOR9 := Lib.hid hor9
        clear hat9 c1 c2 cs9 hor9 he
        go_upto_region 4 with fail
        refine wp_region_quiet_below (by assumption) (by kernel_rfl) ?_
        repeat (go_big_quiet_step (first
          | (go_at_call 50; exact Calls.regrown_of ((HAT9.out _ (below_regrown _ _ _)).mono fun e w' h => ⟨h.1, h.2 ▸ Go.RowKit.Below.refl _ _⟩))))
        refine wpQuiet_nil ?_
        intro _ hw'
        obtain ⟨⟨nq3, osq3⟩, hw''⟩ := hw'
        subst hw''
        have HB9 := Lib.hid (below_regrown Y2 nq3 osq3)
        clear q1 q2
        generalize grow (redrawn Y2 nq3) osq3 = Y3 at *
        have cs3 : Y3.cell? ⟨g9, p9, none⟩ = some (.slice sa9 n9 sc9) := (HB9.out.cell (p := ⟨g9, p9, none⟩) (World.block_lt_of_cell? Y2 _ HC9.out.2.2)).trans HC9.out.2.2
        rcases HOR9.out with ⟨hp9, hpf⟩ | ⟨rfl, kv, hkid, hfr⟩
        · have b9 : ¬ (n9 : Int) = 0 := by omega
          have b9' : ¬ n9 = 0 := by omega
          have HPF := Lib.hid (hpf _ HB9.out)
          clear hpf
          go_wp2_with fail
          go_end0
          exact ⟨rfl, HPF.out⟩
        · have HKD := Lib.hid (hkid _ HB9.out)
          have HFR0 := Lib.hid hfr
          clear hkid hfr
          go_wp2_with fail
          refine HKD.out.mono ?_
          rintro e V1 ⟨rfl, rfl⟩
          have HBD : Hid (Go.RowKit.Below Y2.heap.size Y2 Y3.drew) := bt HB9.out (Go.RowKit.Below.refl _ _).drew
          have d1 : Y3.drew.cell? ⟨T, 1, none⟩ = some (aP A) := (HBD.out.cell (p := ⟨T, 1, none⟩) (World.block_lt_of_cell? Y2 _ HC9.out.1)).trans HC9.out.1
          have d2 : Y3.drew.cell? ⟨T, 2, none⟩ = some (.int .i64 root) := (HBD.out.cell (p := ⟨T, 2, none⟩) (World.block_lt_of_cell? Y2 _ HC9.out.2.1)).trans HC9.out.2.1
          go_upto_region 7 with fail
          have HFR := Lib.hid (HFR0.out _ HBD.out)
          obtain ⟨S5, hS5⟩ : ∃ S5 : World → Prop, S5 = fun w' => w'.cell? ⟨T, 1, none⟩ = some (aP A) ∧ w'.cell? ⟨T, 2, none⟩ = some (.int .i64 root) := ⟨_, rfl⟩
          have HS1 : Hid (S5 Y3.drew) := by show S5 _; rw [hS5]; exact ⟨d1, d2⟩
          clear d1 d2
          refine wp_plain_T S5 8 mx HS1.out (fun _ _ h => h) (fun hHeld => ?_)
          subst hS5
          generalize Y3.drew = Z at *
          refine wpAnyT_pure (i := 0) (v := ?_) (by kernel_rfl) rfl (by kernel_rfl) (by kernel_rfl) (by kernel_rfl) (fun _ _ _ h => h) (Or.inl ⟨by rfl, ?_⟩) (by assumption) ?_
          rotate_left
          · intro w0; go_simp; all_goals (with_reducible rfl)
          try simp only [Act.put, List.setIfInBounds_toArray, List.set_cons_zero, List.set_cons_succ]
          refine wpAnyT_pure (i := 1) (v := ?_) (by kernel_rfl) rfl (by kernel_rfl) (by kernel_rfl) (by kernel_rfl) (fun _ _ _ h => h) (Or.inl ⟨by rfl, ?_⟩) (by assumption) ?_
          rotate_left
          · intro w0; go_simp; all_goals (with_reducible rfl)
          try simp only [Act.put, List.setIfInBounds_toArray, List.set_cons_zero, List.set_cons_succ]
          refine wpAnyT_pure (i := 2) (v := ?_) (by kernel_rfl) rfl (by kernel_rfl) (by kernel_rfl) (by kernel_rfl) (fun _ _ _ h => h) (Or.inl ⟨by rfl, ?_⟩) (by assumption) ?_
          rotate_left
          · intro w0; go_simp; all_goals (with_reducible rfl)
          try simp only [Act.put, List.setIfInBounds_toArray, List.set_cons_zero, List.set_cons_succ]
          refine wpAnyT_take (i := 3) (v := ?_) [8] (by kernel_rfl) (by kernel_rfl) (by kernel_rfl) rfl (by kernel_rfl) (by kernel_rfl) (by kernel_rfl) (fun _ _ _ h => h) (Or.inl ⟨by rfl, ?_⟩) (by assumption) ?_
          rotate_left
          · intro w0 hSw; (try dsimp only at hSw); go_simp; all_goals (with_reducible rfl)
          try simp only [Act.put, List.setIfInBounds_toArray, List.set_cons_zero, List.set_cons_succ]
          refine wpAnyT_pure (i := 4) (v := ?_) (by kernel_rfl) rfl (by kernel_rfl) (by kernel_rfl) (by kernel_rfl) (fun _ _ _ h => h) (Or.inl ⟨by rfl, ?_⟩) (by assumption) ?_
          rotate_left
          · intro w0; go_simp; all_goals (with_reducible rfl)
          try simp only [Act.put, List.setIfInBounds_toArray, List.set_cons_zero, List.set_cons_succ]
          refine wpAnyT_pure (i := 5) (v := ?_) (by kernel_rfl) rfl (by kernel_rfl) (by kernel_rfl) (by kernel_rfl) (fun _ _ _ h => h) (Or.inl ⟨by rfl, ?_⟩) (by assumption) ?_
          rotate_left
          · intro w0; go_simp; all_goals (with_reducible rfl)
          try simp only [Act.put, List.setIfInBounds_toArray, List.set_cons_zero, List.set_cons_succ]
          refine wpAnyT_pure (i := 6) (v := ?_) (by kernel_rfl) rfl (by kernel_rfl) (by kernel_rfl) (by kernel_rfl) (fun _ _ _ h => h) (Or.inl ⟨by rfl, ?_⟩) (by assumption) ?_
          rotate_left
          · intro w0; go_simp; all_goals (with_reducible rfl)
          try simp only [Act.put, List.setIfInBounds_toArray, List.set_cons_zero, List.set_cons_succ]
          refine wpAnyT_take (i := 7) (v := ?_) [8] (by kernel_rfl) (by kernel_rfl) (by kernel_rfl) rfl (by kernel_rfl) (by kernel_rfl) (by kernel_rfl) (fun _ _ _ h => h) (Or.inl ⟨by rfl, ?_⟩) (by assumption) ?_
          rotate_left
          · intro w0 hSw; (try dsimp only at hSw); go_simp; all_goals (with_reducible rfl)
          try simp only [Act.put, List.setIfInBounds_toArray, List.set_cons_zero, List.set_cons_succ]
          refine wpAnyT_stop (by kernel_rfl) rfl (fun K0 hK0 => ?_)
          go_simp
          refine HFR.out.mono ?_
          rintro e V ⟨rfl, hv⟩
          have HV := Lib.hid hv
          clear hv
          try dsimp only
          refine hK0.out _ _ ?_
          clear hK0 K0
          try simp only [Act.put, List.setIfInBounds_toArray, List.set_cons_zero, List.set_cons_succ]
          refine wpAny_end (by kernel_rfl) ?_ _
          simp only [onlyN]
          obtain ⟨⟨v, hv⟩, hz, hpf⟩ := HV.out
          have HPF := Lib.hid hpf
          clear hpf hHeld
          go_wp2_with fail
          go_end0
          exact ⟨rfl, HPF.out⟩
      · have b1 : (n : Int) < (d : Int) - 1 := by omega
        have HFILL := Lib.hid hfill
        have HCQ := Lib.hid (And.intro cq ca)
        clear hfill cq ca
        go_upto_region 1 with fail
        refine wp_region_quiet_below (by assumption) (by kernel_rfl) ?_
        repeat (go_big_quiet_step (first
          | (go_at_call 50; exact Calls.regrown_of ((HAT.out _ (below_regrown _ _ _)).mono fun e w' h => ⟨h.1, h.2 ▸ Go.RowKit.Below.refl _ _⟩))))
        refine wpQuiet_nil ?_
        intro _ hw'
        obtain ⟨⟨nq2, osq2⟩, hw''⟩ := hw'
        subst hw''
        have HBE := Lib.hid (below_regrown wr nq2 osq2)
        clear p1 p0 pp ps
        generalize grow (redrawn wr nq2) osq2 = Y2 at *
        have hfill := HFILL.out _ HBE.out
        have e1 : Y2.cell? ⟨wb, (j - 1) * 2, none⟩ = some (.int .i64 q) := (HBE.out.cell (p := ⟨wb, (j - 1) * 2, none⟩) (World.block_lt_of_cell? wr _ HCQ.out.1)).trans HCQ.out.1
        have e2 : Y2.cell? ⟨wb, (j - 1) * 2 + 1, none⟩ = some (.int .i64 a) := (HBE.out.cell (p := ⟨wb, (j - 1) * 2 + 1, none⟩) (World.block_lt_of_cell? wr _ HCQ.out.2)).trans HCQ.out.2
        obtain ⟨m, rfl⟩ : ∃ m, j = m + 1 := ⟨j - 1, by omega⟩
        have i7 : IntKind.i64.wrap (((m + 1 : Nat) : Int) - 1) = (m : Int) := by rw [show ((m + 1 : Nat) : Int) - 1 = (m : Int) by omega]; exact IntWalk.i64_in _ (by omega)
        have i8 : m < N := by omega
        simp only [Nat.add_sub_cancel] at e1 e2 hfill
        have HF := Lib.hid hfill
        clear hfill
        go_wp2_with fail
        refine HF.out.mono ?_
        rintro e V ⟨rfl, hv⟩
        have HV := Lib.hid hv
        clear hv e1 e2
        go_wp2_with fail
        go_roundg (m + 1)
        case measure => have := HK.out; omega
        case rel => exact ⟨m, rfl, rfl, i8, HV.out⟩
theorem rowSt_at (cx : List BF) (k : Nat) (hk : k < cx.length) (z : Int × Int) : (rowSt cx ++ [z]).getD k (0, 0) = ((cx[cx.length - 1 - k].i : Int), (cx[cx.length - 1 - k].l.length : Int)) := by
  rw [List.getD_eq_getElem?_getD, List.getElem?_append_left (by rw [rowSt_len]; exact hk)]
  unfold rowSt
  rw [List.getElem?_map, List.getElem?_reverse hk, List.getElem?_eq_getElem (by omega)]; rfl
/-- A node's place. -/
theorem BtH.atNode {w0 W : World} {S B : Nat → Prop} {base T A : Nat} {t : Bx} (h : BtH w0 S B base T A t W) (p : Nat) (n : Kn) (hp : t.f (p : Int) = some n) :
    ∃ (g go sc : Nat) (sa : Option Addr), NdPt W base (.pointer (some ⟨g, go, none⟩)) n ∧ W.cell? ⟨g, go, none⟩ = some (.slice sa n.segs.length sc) ∧ ∀ X, Go.RowKit.Below W.heap.size W X → Calls Try.prog 50 #[aP A, .int .i64 (p : Int)] X fun e w' => e = .returned (.pointer (some ⟨g, go, none⟩)) ∧ X = w' := by
  obtain ⟨a, S0, h1, _⟩ := h
  obtain ⟨np, k1, k2⟩ := bat_node h1 p n hp
  have k3 := k1
  obtain ⟨g, go, r, e, q1, q2, q3⟩ := k3
  obtain rfl : np = some ⟨g, go, none⟩ := by injection e
  refine ⟨g, go, r.s.c, r.s.a, k1, ?_, k2⟩
  rw [q1, ← q3.nums.1]
section
variable {w0 W : World} {S B : Nat → Prop} {base T A : Nat} {t : Bx}
/-- Between two rounds of mending. -/
def MendAt (w0 W : World) (S B : Nat → Prop) (base T A : Nat) (t : Bx) (d : Nat) (L : List G5) (cx : List BF) (xs : List (Int × Int)) (k : Nat) (V : World) : Prop :=
  ∃ F n u, (BtH w0 S B base T A { t with f := F, n := n } V ∧ ∀ b, B b → V.heap[b]? = W.heap[b]?) ∧ Short d F n t.root L (cx.length - k) (cx.drop (cx.length - k)) u ∧ (xs.getD k (0, 0)).1 = (u.i : Int)
def MendDone (w0 W : World) (S B : Nat → Prop) (base T A : Nat) (t : Bx) (d : Nat) (L : List G5) (V : World) : Prop :=
  ∃ F n, (BtH w0 S B base T A { t with f := F, n := n } V ∧ ∀ b, B b → V.heap[b]? = W.heap[b]?) ∧ ((TreeAt d F n t.root L ∧ t.root ≠ -1) ∨ ∃ h u, Short d F n t.root L h [] u)
def MendFin (w0 W : World) (S B : Nat → Prop) (base T A : Nat) (t : Bx) (d : Nat) (L : List G5) (V : World) : Prop :=
  ∃ F n r, TreeAt d F n r L ∧ BtH w0 S B base T A { t with f := F, n := n, root := r } V ∧ ∀ b, B b → V.heap[b]? = W.heap[b]?
theorem kid0_eq (u : Bt) : kidV ⟨u.s, u.ks.map Bt.idx⟩ 0 = kid0 u.ks := by
  unfold kidV kid0
  cases u.ks with
  | nil => rfl
  | cons c r => rfl
set_option maxHeartbeats 1000000 in
theorem mend_end (d : Nat) (hd2 : 2 ≤ d) (hd64 : d ≤ 64) {L : List G5} (V : World) (hV : MendDone w0 W S B base T A t d L V) : MendEnd T A (MendFin w0 W S B base T A t d L) V := by
  obtain ⟨F, n, ⟨h1, h2⟩, h3⟩ := hV
  have cA : V.cell? ⟨T, 1, none⟩ = some (aP A) := (cell_of_row _ _ 1 _ _ _ h1.top).trans rfl
  have cR : V.cell? ⟨T, 2, none⟩ = some (.int .i64 t.root) := (cell_of_row _ _ 2 _ _ _ h1.top).trans rfl
  have right : ∀ (m : Kn) (p : Nat), t.root = (p : Int) → F (p : Int) = some m → 1 ≤ m.segs.length → m.segs.length ≤ 1000 → TreeAt d F n t.root L → MendEnd T A (MendFin w0 W S B base T A t d L) V := fun m p e1 e2 e3 e5 e4 => by
    obtain ⟨g, go, sc, sa, k1, k2, k3⟩ := h1.atNode p m e2
    exact ⟨g, go, _, sc, sa, t.root, cA, cR, k2, e5, by rw [e1]; exact k3, .inl ⟨e3, fun X hX => ⟨F, n, t.root, e4, h1.below hX, fun b hb => (hX.block b (h1.size b hb).2).trans (h2 b hb)⟩⟩⟩
  rcases h3 with ⟨ht, hr⟩ | ⟨hh, u, o⟩
  · obtain ⟨p, m, e1, e2, e3⟩ := ht.rootN hr
    refine right m p e1 e2 e3 ?_ ht
    rcases ht with ⟨_, _, e, _⟩ | ⟨H, x, z, hdg, _⟩
    · exact absurd e hr
    · have hx : (p : Int) = (x.i : Int) := e1.symm.trans z.root
      rw [hx, z.tree.node] at e2
      injection e2 with e2
      subst e2
      have h9 := ((degR_eq d H x).1 hdg).1.2
      show x.s.length ≤ 1000
      omega
  · have hroot : t.root = (u.i : Int) := o.z.root
    have hnode : F (u.i : Int) = some ⟨u.s, u.ks.map Bt.idx⟩ := o.z.tree.node
    have hhi := o.hi
    by_cases hs : u.s = []
    · obtain ⟨g, go, sc, sa, k1, k2, k3⟩ := h1.atNode u.i _ hnode
      have hpos : 0 < n := by
        rw [o.z.cnt]
        exact List.length_pos_of_mem (List.mem_append.2 (.inr (List.mem_append.2 (.inl (Bt.i_mem hh u)))))
      obtain ⟨m, rfl⟩ : ∃ m, n = m + 1 := ⟨n - 1, by omega⟩
      have hl : (⟨u.s, u.ks.map Bt.idx⟩ : Kn).segs.length = 0 := by show u.s.length = 0; rw [hs]; rfl
      rw [hl] at k2
      refine ⟨g, go, 0, sc, sa, t.root, cA, cR, k2, by omega, by rw [hroot]; exact k3, .inr ⟨rfl, kid0 u.ks, fun X hX => ?_, fun X hX => ?_⟩⟩
      · have := bkid_any (k1.below hX) 0 (fun q => Nat.pos_of_ne_zero q)
        rw [kid0_eq] at this; exact this
      · rw [hroot]
        refine ((h1.below hX).free u.i (by show F _ ≠ none; rw [hnode]; simp) m rfl).mono ?_
        rintro e w' ⟨rfl, f1, f2⟩
        refine ⟨rfl, ⟨_, (cell_of_row _ _ 2 _ _ _ f1.top).trans rfl⟩, frozen_of_row _ _ 2 _ _ f1.top, ?_⟩
        obtain ⟨g1, g2⟩ := f1.setRoot (kid0 u.ks)
        refine ⟨updK F (u.i : Int) none, m, kid0 u.ks, o.root hd2 hs (updK_self _ _ _) (fun k hk => updK_ne _ _ _ _ hk), g1, fun b hb => ((g2 b hb).trans (f2 b hb)).trans ((hX.block b (h1.size b hb).2).trans (h2 b hb))⟩
    · have hpos : 1 ≤ u.s.length := Nat.pos_of_ne_zero (fun q => hs (List.length_eq_zero_iff.1 q))
      exact right _ u.i hroot hnode hpos (by show u.s.length ≤ 1000; omega) (o.done (by rw [if_pos rfl]; exact hpos))
set_option maxHeartbeats 1000000 in
theorem BtH.mend (h : BtH w0 S B base T A t W) (d : Nat) (hd : t.d = (d : Int)) (hd2 : 2 ≤ d) (hd64 : d ≤ 64) {L : List G5} {cx : List BF} {u : Bt} (o : Short d t.f t.n t.root L 0 cx u) (hr : t.root ≠ -1) (al : Int) (ap : Option Addr) (cap bb : Nat) (hN : cx.length < 100000)
    (ho : W.ownsRow bb 125 2 (.slice ap (cx.length + 1) cap) (cx.length + 1) (flat2 (rowSt cx ++ [((u.i : Int), al)]))) (hB : ∀ b, (Value.slice ap (cx.length + 1) cap).ownBlock = some b → B b) :
    Calls Try.prog 96 #[aP T, .slice ap (cx.length + 1) cap] W fun e w' => e = .returned (.tuple #[]) ∧ MendFin w0 W S B base T A t d L w' := by
  have hxl : (rowSt cx ++ [((u.i : Int), al)]).length = cx.length + 1 := by simp [rowSt_len]
  obtain ⟨wb, rfl, _, _⟩ := own_at2 ho hxl.symm 0 (by omega)
  obtain ⟨xs, hxs⟩ : ∃ xs, xs = rowSt cx ++ [((u.i : Int), al)] := ⟨_, rfl⟩
  rw [← hxs] at ho hxl
  have hend : (xs.getD cx.length (0, 0)).1 = (u.i : Int) := by
    rw [hxs, List.getD_eq_getElem?_getD, List.getElem?_append_right (by rw [rowSt_len]; exact Nat.le_refl _), rowSt_len, Nat.sub_self]; rfl
  have hfr : ∀ k (hk : k < cx.length), xs.getD k (0, 0) = ((cx[cx.length - 1 - k].i : Int), (cx[cx.length - 1 - k].l.length : Int)) := fun k hk => hxs ▸ rowSt_at cx k hk _
  have hcell : ∀ (V : World), (∀ b, B b → V.heap[b]? = W.heap[b]?) → ∀ k, k < cx.length + 1 → V.cell? ⟨wb, k * 2, none⟩ = some (.int .i64 (xs.getD k (0, 0)).1) ∧ V.cell? ⟨wb, k * 2 + 1, none⟩ = some (.int .i64 (xs.getD k (0, 0)).2) := fun V hV k hk => by
    obtain ⟨g, e, q1, q2⟩ := own_at2 (own_kpQ ho (fun b hb => hV b (hB b hb))) hxl.symm k hk
    obtain rfl : wb = g := by injection e with e; injection e
    have : xs.getD k (0, 0) = xs[k]'(by omega) := by rw [List.getD_eq_getElem?_getD, List.getElem?_eq_getElem (by omega)]; rfl
    rw [this]; exact ⟨q1, q2⟩
  refine bmend_core T A wb (cx.length + 1) cap ⟨by omega, by omega⟩ W (MendAt w0 W S B base T A t d L cx xs) (MendDone w0 W S B base T A t d L) (MendFin w0 W S B base T A t d L) (Lib.hid ?_) (Lib.hid ?_) (Lib.hid fun V hV => mend_end d hd2 hd64 V hV)
  · rintro k V hk ⟨F, n, v, ⟨h1, h2⟩, h3, h4⟩
    by_cases hk0 : k = 0
    · subst hk0
      refine .inl ⟨rfl, fun X hX => ⟨F, n, ⟨h1.below hX, fun b hb => (hX.block b (h1.size b hb).2).trans (h2 b hb)⟩, .inr ⟨cx.length - 0, v, ?_⟩⟩⟩
      rw [Nat.sub_zero, List.drop_length] at h3
      exact h3
    · have hnode : F (v.i : Int) = some ⟨v.s, v.ks.map Bt.idx⟩ := h3.z.tree.node
      obtain ⟨g, go, sc, sa, k1, k2, k3⟩ := h1.atNode v.i _ hnode
      have hc := (hcell V h2 k hk).1
      rw [h4] at hc
      have hhi := h3.hi
      have hj : cx.length - k < cx.length := by omega
      have hdT : V.cell? ⟨T, 0, none⟩ = some (.int .i64 (d : Int)) := by rw [← hd]; exact (cell_of_row _ _ 0 _ _ _ h1.top).trans rfl
      refine .inr ⟨v.i, g, go, v.s.length, sc, d, sa, by omega, (cell_of_row _ _ 1 _ _ _ h1.top).trans rfl, hdT, hc, k2, by omega, hd2, hd64, k3, ?_⟩
      by_cases hle : d ≤ v.s.length + 1
      · refine .inl ⟨hle, fun X hX => ⟨F, n, ⟨h1.below hX, fun b hb => (hX.block b (h1.size b hb).2).trans (h2 b hb)⟩, .inl ⟨h3.stop hj hle, hr⟩⟩⟩
      · have h5 := h3.step hj
        have hc2 := hcell V h2 (k - 1) (by omega)
        have he := hfr (k - 1) (by omega)
        rw [he] at hc2
        have ei : cx.length - 1 - (k - 1) = cx.length - k := by omega
        simp only [ei] at hc2 he
        refine .inr ⟨by omega, _, _, hc2.1, hc2.2, fun X hX => ?_⟩
        refine ((h1.below hX).fill d hd hd2 hd64 h5 (by omega)).mono ?_
        rintro e w' ⟨rfl, F', m, u', ⟨f1, f2⟩, f3, f4⟩
        refine ⟨rfl, F', m, u', ⟨f1, fun b hb => (f2 b hb).trans ((hX.block b (h1.size b hb).2).trans (h2 b hb))⟩, ?_, ?_⟩
        · rw [show cx.length - (k - 1) = cx.length - k + 1 by omega]; exact f3
        · rw [he, f4]
  · refine ⟨t.f, t.n, u, ⟨h, fun b hb => rfl⟩, ?_, hend⟩
    show Short d t.f t.n t.root L (cx.length - cx.length) (cx.drop (cx.length - cx.length)) u
    rw [Nat.sub_self, List.drop_zero]; exact o
end
end Go.Proofs.Ytjgcdmeojjnjlaa
