/- A part of the proof: contracts of the functions that the statements reach. -/
import Derived.RangeFuncNested
import Derived.RangeFuncBound
import Derived.RangeFuncCalls
import Derived.RangeFuncLeaves
import Derived.Shelf.Abstract
import Derived.Shelf.RegionOpen
import Derived.WalkKit
import Derived.OwnWalkIn
import Derived.TacticsInMore
import Derived.LoopNIn
import Derived.LoopIn
import Derived.Shelf.SlSortCmp.WholeK
import Derived.WalkSpells
import Derived.WalkLawsBesides
import Derived.Lib.Hide
import Derived.Laws.StructEq
import Derived.Shelf.SlSortCmp.QuietGrown
import Derived.Laws.EntriesVeiled
import Derived.Deep.CutRange
import Derived.RegionTactic
import Derived.Lib.QuietBelow
import Derived.BigQuiet
import Derived.OpenShut
import Derived.Deep.RegionHeld3
import Derived.Deep.QuietTactic
import Derived.Maps.AppendAt
import Derived.Laws.IdiomCopy
import Derived.Deep.AppendLies
import Derived.Deep.LoopGhost
import Derived.Deep.Upon
import Derived.StillTailTactics
import Derived.Lib.SmallJoins
import Derived.Deep.SlicePairs
import Derived.Deep.Strs
import Derived.ChangeOld
import Derived.SizedLaws
import Derived.Lib.SliceRun
import Derived.Laws.CopyRow
import Derived.Below
import Derived.Laws.CopyOwn
import Derived.Deep.RegionLaw
import Derived.IntWalk
import Derived.Test.YtjgcdmeojjnjlaaCF

/- ahead, behind: a way gone through from its end. -/
namespace Go.Proofs.Ytjgcdmeojjnjlaa
open Go.RowKit Go.Sort Go.Shelf Go.Proofs.Ytjgcdmeojjnjlaa.Bo Go.Proofs.Ytjgcdmeojjnjlaa.Bb Go.Proofs.Ytjgcdmeojjnjlaa.Rf
set_option linter.unusedVariables false
set_option linter.unusedSimpArgs false
set_option maxRecDepth 100000
attribute [local go_sem] Oper.semAt_some
theorem own_from_box {B b : Nat} {o : Obj} (ho : o.isCells = true) {X Y : World} {row : Option Nat} (h : X.heap[b]? = some o) (hg : X.grownBy Y row) (hr : ∀ r, row = some r → B ≤ r ∧ ∃ o : Obj, X.heap[r]? = some o ∧ o.isCells = false) : Y.heap[b]? = some o :=
  (hg.block b (lt_of_block h) (fun e => by
    obtain ⟨_, o', ho', hc⟩ := hr b e.symm
    rw [h] at ho'
    cases ho'
    rw [ho] at hc
    cases hc)).trans h
abbrev tbO (T : Nat) : Obj := .cells #[aP T] 26 (0, 0)
abbrev rsO (v : Option Addr) : Obj := .cells #[.pointer v] 93 (0, 0)
abbrev stO (x : Int × Int) : Obj := .cells #[.int .i64 x.1, .int .i64 x.2] 125 (0, 0)
theorem find_rev (ok : Int × Int → Bool) (xs : List (Int × Int)) (j : Nat) (hj : j < xs.length) (h : ∀ i, i < j → ok (xs.getD (xs.length - 1 - i) (0, 0)) = false) (hk : ok (xs.getD (xs.length - 1 - j) (0, 0)) = true) : xs.reverse.find? ok = some (xs.getD (xs.length - 1 - j) (0, 0)) := by
  rw [List.find?_eq_some_iff_getElem]
  refine ⟨hk, j, by simpa using hj, ?_, fun i hi => ?_⟩
  · rw [List.getElem_reverse, List.getD_eq_getElem?_getD, List.getElem?_eq_getElem (by omega)]; rfl
  · have := h i hi
    rw [List.getD_eq_getElem?_getD, List.getElem?_eq_getElem (by omega)] at this
    rw [List.getElem_reverse]
    simpa using this
theorem find_rev_none (ok : Int × Int → Bool) (xs : List (Int × Int)) (h : ∀ i, i < xs.length → ok (xs.getD (xs.length - 1 - i) (0, 0)) = false) : xs.reverse.find? ok = none := by
  rw [List.find?_eq_none]
  intro x hx
  obtain ⟨i, hi, rfl⟩ := List.mem_iff_getElem.1 hx
  have hi' : i < xs.length := by simpa using hi
  have := h i hi'
  rw [List.getD_eq_getElem?_getD, List.getElem?_eq_getElem (by omega)] at this
  rw [List.getElem_reverse]
  simpa using this
def ansI (ok : Int × Int → Bool) (pt : Int × Int → Option Addr) (l : List (Int × Int)) : Option Addr := match l.find? ok with | some x => pt x | none => none
/-- Between two rounds. -/
def AhI (w W0 : World) (Q : Nat → Prop) (T : Nat) (ok : Int × Int → Bool) (xs : List (Int × Int)) (j : Nat) (W : World) : Prop :=
  (W.heap[w.heap.size]? = some (tbO T) ∧ W.heap[w.heap.size + 1]? = some (rsO none) ∧ (∀ i, i < j → ok (xs.getD (xs.length - 1 - i) (0, 0)) = false)) ∧ Go.RowKit.Below w.heap.size w W ∧ Go.RowKit.Below W0.heap.size W0 W
def AhX (w W0 : World) (ans : Option Addr) (c : Code) (j : Nat) (W : World) : Prop := (c = .ret ∧ W.heap[w.heap.size + 1]? = some (rsO ans)) ∧ Go.RowKit.Below w.heap.size w W
theorem ahI_own (w W0 : World) (Q : Nat → Prop) (T : Nat) (ok : Int × Int → Bool) (xs : List (Int × Int)) (B : Nat) (h1 : w.heap.size ≤ B) (h2 : W0.heap.size ≤ B) : OwnFrom B (AhI w W0 Q T ok xs) := fun s X Y row hs hg hr =>
  ⟨⟨own_from_box rfl hs.1.1 hg hr, own_from_box rfl hs.1.2.1 hg hr, hs.1.2.2⟩, hs.2.1.grown hg hs.2.1.size (fun j e => by have := (hr j e).1; omega), hs.2.2.grown hg hs.2.2.size (fun j e => by have := (hr j e).1; omega)⟩
theorem ahX_own (w W0 : World) (ans : Option Addr) (c : Code) (B : Nat) (h1 : w.heap.size ≤ B) : OwnFrom B (AhX w W0 ans c) := fun s X Y row hs hg hr =>
  ⟨⟨hs.1.1, own_from_box rfl hs.1.2 hg hr⟩, hs.2.grown hg hs.2.size (fun j e => by have := (hr j e).1; omega)⟩
set_option maxHeartbeats 4000000 in
theorem bahead_core (T A : Nat) (ap : Option Addr) (cap base : Nat) (xs : List (Int × Int)) (t : Bx) (ok : Int × Int → Bool) (pt : Int × Int → Option Addr) (w : World) (HT : Hid (w.heap[T]? = some (bO A t)))
    (ho : w.ownsRow base 125 2 (.slice ap xs.length cap) xs.length (flat2 xs)) (hN : xs.length ≤ 1000000)
    (HAT : Hid (∀ x ∈ xs, ok x = decide (0 < x.2) ∧ (0 < x.2 → ∃ g po sb n c, w.cell? ⟨g, po, none⟩ = some (.slice (some ⟨sb, 0, none⟩) n c) ∧ (∀ W, Go.RowKit.Below w.heap.size w W → Calls Try.prog 50 #[aP A, .int .i64 x.1] W fun e w' => e = .returned (.pointer (some ⟨g, po, none⟩)) ∧ W = w') ∧ x.2 ≤ n ∧ n ≤ 1000000 ∧ pt x = some ⟨sb, (x.2.toNat - 1) * 5, none⟩))) :
    Calls Try.prog 53 #[aP T, .slice ap xs.length cap] w fun e w' => e = .returned (.pointer (ansI ok pt xs.reverse)) ∧ Go.RowKit.Below w.heap.size w w' := by
  have mx := mixed
  obtain ⟨ans, hans0⟩ : ∃ ans, ans = ansI ok pt xs.reverse := ⟨_, rfl⟩
  rw [← hans0]
  have HANS := Lib.hid hans0
  clear hans0
  have hB0 : Go.RowKit.Below w.heap.size w ((w.alloc (tbO T)).alloc (rsO none)) := bt (below_new _ _) (below_new _ _)
  have hB1 : Go.RowKit.Below w.heap.size w (((w.alloc (tbO T)).alloc (rsO none)).alloc (.cells #[.slice ap xs.length cap] 95)) := bt hB0 (below_new _ _)
  have HB1 := Lib.hid hB1
  have HTB : Hid ((((w.alloc (tbO T)).alloc (rsO none)).alloc (.cells #[.slice ap xs.length cap] 95)).heap[w.heap.size]? = some (tbO T)) := box_on (box_on (heap_alloc_new _ _) (below_new _ _)) (below_new _ _)
  have HRS : Hid ((((w.alloc (tbO T)).alloc (rsO none)).alloc (.cells #[.slice ap xs.length cap] 95)).heap[w.heap.size + 1]? = some (rsO none)) := box_on (new_at' _ (by simp)) (below_new _ _)
  have HBX : Hid ((((w.alloc (tbO T)).alloc (rsO none)).alloc (.cells #[.slice ap xs.length cap] 95)).heap[w.heap.size + 2]? = some (.cells #[.slice ap xs.length cap] 95 (0, 0))) := new_at' _ (by simp)
  have HOW := Lib.hid (own_on ho hB1)
  have HOLT := Lib.hid (fun b hb => (ho.lt b hb).2)
  clear hB0 hB1 ho
  refine (callsIn_wide (n := 6)).1 ?_
  refine callsIn_of_wp_marks Try.func53 rfl trivial ?_ rfl
  simp only [Try.ntmps53, List.size_toArray, List.length_cons, List.length_nil, Nat.reduceAdd, Nat.reduceSub, Array.replicate_succ, Array.replicate_zero, List.push_toArray, List.append_toArray, List.nil_append, List.cons_append]
  gi_wp2_with (refine ⟨trivial, ?_⟩; gi_at_call 79; refine (callsIn_wide.2 (bback_any ap xs.length cap _)).mono ?_; rintro e w' ⟨rfl, rfl⟩)
  obtain ⟨Q, HQ⟩ : ∃ Q : Nat → Prop, Hid (Q = fun b => b = w.heap.size + 2 ∨ (Value.slice ap xs.length cap).ownBlock = some b) := ⟨_, rfl⟩
  generalize ((w.alloc (tbO T)).alloc (rsO none)).alloc (.cells #[.slice ap xs.length cap] 95) = W0 at *
  have hsz : w.heap.size + 2 < W0.heap.size := lt_of_block HBX.out
  have hQlt : ∀ b, Q b → b < W0.heap.size := fun b hb => by
    rw [HQ.out] at hb
    rcases hb with rfl | hb
    · exact hsz
    · have := HOLT.out b hb; omega
  have HQL := Lib.hid hQlt
  have hdd : ∀ m : Nat, (Fence.wide.depth.isSome = true → 1 ≤ m) := fun m h => by cases h
  refine wpIn_rangeN (gf := 98) (lb := #[.pointer (some ⟨w.heap.size + 2, 0, none⟩)]) rfl (enters_of Try.func98 (by kernel_rfl) rfl)
    (bback_seq (w.heap.size + 2) ap cap base xs Q W0 HBX.out HOW.out (by rw [HQ.out]; exact .inl rfl) (fun b hb => by rw [HQ.out]; exact .inr hb) hN) kpQ.trans (kpQ_b hQlt) (Go.RowKit.Below.refl _ _) (fun _ => rfl)
    (AhI w W0 Q T ok xs) (AhX w W0 ans) (ahI_own w W0 Q T ok xs _ (by omega) (Nat.le_refl _)) (fun c => ahX_own w W0 ans c _ (by omega))
    ⟨⟨HTB.out, HRS.out, fun i hi => absurd hi (Nat.not_lt_zero _)⟩, HB1.out, Go.RowKit.Below.refl _ _⟩ ?round ?done ?stop
  case round =>
    rintro l j W K hj ⟨⟨h1, h2, h3⟩, h4, h5⟩ hK
    have hx : ∃ x, xs.getD (xs.length - 1 - j) (0, 0) = x ∧ x ∈ xs := ⟨_, rfl, by
      rw [List.getD_eq_getElem?_getD, List.getElem?_eq_getElem (by omega)]; exact List.getElem_mem _⟩
    obtain ⟨x, ex, hxm⟩ := hx
    have HX := Lib.hid ex
    rw [ex]
    have HW := Lib.hid (⟨⟨h1, h2, h3⟩, h4, h5⟩ : AhI w W0 Q T ok xs j W)
    clear h1 h2 h3 h4 h5 ex
    gi_wp2
    have hb6 := below_new W (stO x)
    refine hK _ _ ((KeepsOthers.alloc _ _).from _) (fun b hb => hb6.block b (Nat.lt_of_lt_of_le (HQL.out b hb) HW.out.2.2.size)) ⟨fun i V => (AhI w W0 Q T ok xs i V ∧ V.heap[W.heap.size]? = some (stO x)) ∧ W.heap.size ≤ V.heap.size, ?_, ⟨⟨own_after (ahI_own w W0 Q T ok xs W0.heap.size (by omega) (Nat.le_refl _)) HW.out hb6, heap_alloc_new W (stO x)⟩, hb6.size⟩, ?_⟩
    · exact fun s X Y row hs hg hr => ⟨⟨ahI_own w W0 Q T ok xs W0.heap.size (by omega) (Nat.le_refl _) s X Y row hs.1.1 hg hr, own_from_box rfl hs.1.2 hg hr⟩, Nat.le_trans hs.2 hg.size⟩
    rintro V ⟨⟨hI, hS⟩, hWV⟩
    have hWV0 : w.heap.size + 2 < W.heap.size := by have := HW.out.2.2.size; omega
    generalize W.heap.size = BX at *
    have HI := Lib.hid hI
    obtain ⟨⟨g1, g2, g3⟩, g4, g5⟩ := hI
    have HG3 := Lib.hid g3
    have c1 : V.cell? ⟨w.heap.size, 0, none⟩ = some (aP T) := (cell_of_row _ _ 0 _ _ _ g1).trans rfl
    have c2 : V.cell? ⟨T, 1, none⟩ = some (aP A) := (cell_of_row _ _ 1 _ _ _ (box_on HT.out g4)).trans rfl
    have c3 : V.cell? ⟨w.heap.size + 1, 0, none⟩ = some (.pointer none) := (cell_of_row _ _ 0 _ _ _ g2).trans rfl
    have f3 : V.frozen? ⟨w.heap.size + 1, 0, none⟩ = false := frozen_of_row _ _ 0 _ _ g2
    have c4 : V.cell? ⟨BX, 0, none⟩ = some (.int .i64 x.1) := (cell_of_row _ _ 0 _ _ _ hS).trans rfl
    have c5 : V.cell? ⟨BX, 1, none⟩ = some (.int .i64 x.2) := (cell_of_row _ _ 1 _ _ _ hS).trans rfl
    have HKQ : Hid (∀ Y, Go.RowKit.Below W0.heap.size W0 Y → kpQ Q V Y) := fun Y hY b hb => (hY.block b (HQL.out b hb)).trans (g5.block b (HQL.out b hb)).symm
    have HG4 := Lib.hid g4
    have HG5 := Lib.hid g5
    have HV2 := Lib.hid g2
    clear g1 g2 g3 g4 g5 hS
    obtain ⟨hok, hat⟩ := HAT.out x hxm
    by_cases hpos : 0 < x.2
    · obtain ⟨g, po, sb, n, c, k1, k2, k3, k4, k5⟩ := hat hpos
      obtain ⟨m, hm⟩ : ∃ m : Nat, x.2 = (m : Int) + 1 := ⟨(x.2 - 1).toNat, by omega⟩
      have hk1 : V.cell? ⟨g, po, none⟩ = some (.slice (some ⟨sb, 0, none⟩) n c) := (HG4.out.cell (p := ⟨g, po, none⟩) (World.block_lt_of_cell? w _ k1)).trans k1
      have hans : ans = some ⟨sb, m * 5, none⟩ := by
        rw [HANS.out]; unfold ansI; rw [find_rev ok xs j hj HG3.out (by rw [HX.out, hok]; simpa using hpos), HX.out]
        show pt x = _
        rw [k5, show x.2.toNat - 1 = m by omega]
      have HAN := Lib.hid hans
      have HAC : Hid (∀ W, Go.RowKit.Below w.heap.size w W → Calls Try.prog 50 #[aP A, .int .i64 x.1] W fun e w' => e = .returned (.pointer (some ⟨g, po, none⟩)) ∧ W = w') := k2
      rw [hm] at c5
      have i1 : IntKind.i64.wrap ((m : Int) + 1 - 1) = (m : Int) := by rw [show (m : Int) + 1 - 1 = (m : Int) by omega]; exact IntWalk.i64_in _ (by omega)
      have i2 : IntKind.i64.wrap (m : Int) = (m : Int) := IntWalk.i64_in _ (by omega)
      have t1 : (0 : Int) < (m : Int) + 1 := by omega
      have t2 : (0 : Int) ≤ (m : Int) := by omega
      have t3 : (m : Int) < (n : Int) := by omega
      have HGD : Hid (Go.RowKit.Below w.heap.size w V.drew) := HG4.out.drew
      have hg := World.block_lt_of_cell? w _ k1
      have hT := lt_of_block HT.out
      obtain ⟨S, hS⟩ : ∃ S : World → Prop, S = fun w' => w'.cell? ⟨w.heap.size, 0, none⟩ = some (aP T) ∧ w'.cell? ⟨T, 1, none⟩ = some (aP A) ∧ w'.cell? ⟨BX, 0, none⟩ = some (.int .i64 x.1) ∧ w'.cell? ⟨BX, 1, none⟩ = some (.int .i64 ((m : Int) + 1)) ∧ w'.cell? ⟨g, po, none⟩ = some (.slice (some ⟨sb, 0, none⟩) n c) := ⟨_, rfl⟩
      have HS1 : Hid (S V.drew) := by rw [hS]; exact ⟨c1, c2, c4, c5, hk1⟩
      have HS2 : Hid (S (V.setCell ⟨w.heap.size + 1, 0, none⟩ (.pointer (some ⟨sb, m * 5, none⟩))).drew) := by
        rw [hS]
        have far : ∀ (p : Addr) (u : Value), w.heap.size + 1 ≠ p.block → V.cell? p = some u → (V.setCell ⟨w.heap.size + 1, 0, none⟩ (.pointer (some ⟨sb, m * 5, none⟩))).drew.cell? p = some u := fun p u hne hu => (World.cell?_setCell_far _ _ _ _ hne).trans hu
        exact ⟨far _ _ (by simp) c1, far _ _ (by dsimp only; omega) c2, far _ _ (by dsimp only; omega) c4, far _ _ (by dsimp only; omega) c5, far _ _ (by dsimp only at hg ⊢; omega) hk1⟩
      have e3 : V.drew.cell? ⟨w.heap.size + 1, 0, none⟩ = some (.pointer none) := c3
      have q3 : V.drew.frozen? ⟨w.heap.size + 1, 0, none⟩ = false := f3
      clear hok hat hpos k1 k2 k3 k4 k5 hm hans hg hT
      gi_wp2
      clear c1 c2 c4 c5 hk1
      refine wpIn_round_held (S := S) mx (by kernel_rfl) HS1.out (fun _ _ h => h) (fun hHeld => ?_)
      subst hS
      refine wpAnyH_take (i := 0) (v := ?_) rfl (by kernel_rfl) (by kernel_rfl) (by kernel_rfl) (fun _ _ _ h => h) (Or.inl ⟨by rfl, ?_⟩) (by assumption) ?_
      rotate_left
      · intro w0 hSw; (try dsimp only at hSw); go_simp; all_goals (with_reducible rfl)
      try simp only [Act.put, List.setIfInBounds_toArray, List.set_cons_zero, List.set_cons_succ]
      refine wpAnyH_take (i := 1) (v := ?_) rfl (by kernel_rfl) (by kernel_rfl) (by kernel_rfl) (fun _ _ _ h => h) (Or.inl ⟨by rfl, ?_⟩) (by assumption) ?_
      rotate_left
      · intro w0 hSw; (try dsimp only at hSw); go_simp; all_goals (with_reducible rfl)
      try simp only [Act.put, List.setIfInBounds_toArray, List.set_cons_zero, List.set_cons_succ]
      refine wpAnyH_take (i := 2) (v := ?_) rfl (by kernel_rfl) (by kernel_rfl) (by kernel_rfl) (fun _ _ _ h => h) (Or.inl ⟨by rfl, ?_⟩) (by assumption) ?_
      rotate_left
      · intro w0 hSw; (try dsimp only at hSw); go_simp; all_goals (with_reducible rfl)
      try simp only [Act.put, List.setIfInBounds_toArray, List.set_cons_zero, List.set_cons_succ]
      refine wpAnyH_take (i := 3) (v := ?_) rfl (by kernel_rfl) (by kernel_rfl) (by kernel_rfl) (fun _ _ _ h => h) (Or.inl ⟨by rfl, ?_⟩) (by assumption) ?_
      rotate_left
      · intro w0 hSw; (try dsimp only at hSw); go_simp; all_goals (with_reducible rfl)
      try simp only [Act.put, List.setIfInBounds_toArray, List.set_cons_zero, List.set_cons_succ]
      refine wpAnyH_take (i := 4) (v := ?_) rfl (by kernel_rfl) (by kernel_rfl) (by kernel_rfl) (fun _ _ _ h => h) (Or.inl ⟨by rfl, ?_⟩) (by assumption) ?_
      rotate_left
      · intro w0 hSw; (try dsimp only at hSw); go_simp; all_goals (with_reducible rfl)
      try simp only [Act.put, List.setIfInBounds_toArray, List.set_cons_zero, List.set_cons_succ]
      refine wpAnyH_take (i := 5) (v := ?_) rfl (by kernel_rfl) (by kernel_rfl) (by kernel_rfl) (fun _ _ _ h => h) (Or.inl ⟨by rfl, ?_⟩) (by assumption) ?_
      rotate_left
      · intro w0 hSw; (try dsimp only at hSw); go_simp; all_goals (with_reducible rfl)
      try simp only [Act.put, List.setIfInBounds_toArray, List.set_cons_zero, List.set_cons_succ]
      refine wpAnyH_take (i := 10) (v := ?_) rfl (by kernel_rfl) (by kernel_rfl) (by kernel_rfl) (fun _ _ _ h => h) (Or.inl ⟨by rfl, ?_⟩) (by assumption) ?_
      rotate_left
      · intro w0 hSw; (try dsimp only at hSw); go_simp; all_goals (with_reducible rfl)
      try simp only [Act.put, List.setIfInBounds_toArray, List.set_cons_zero, List.set_cons_succ]
      refine wpAnyH_take (i := 11) (v := ?_) rfl (by kernel_rfl) (by kernel_rfl) (by kernel_rfl) (fun _ _ _ h => h) (Or.inl ⟨by rfl, ?_⟩) (by assumption) ?_
      rotate_left
      · intro w0 hSw; (try dsimp only at hSw); go_simp; all_goals (with_reducible rfl)
      try simp only [Act.put, List.setIfInBounds_toArray, List.set_cons_zero, List.set_cons_succ]
      refine wpAnyH_take (i := 12) (v := ?_) rfl (by kernel_rfl) (by kernel_rfl) (by kernel_rfl) (fun _ _ _ h => h) (Or.inl ⟨by rfl, ?_⟩) (by assumption) ?_
      rotate_left
      · intro w0 hSw; (try dsimp only at hSw); go_simp; all_goals (with_reducible rfl)
      try simp only [Act.put, List.setIfInBounds_toArray, List.set_cons_zero, List.set_cons_succ]
      refine wpAnyH_ready (rs := [6]) (by kernel_rfl) (by simp) ?_
      refine AllReadyH.cons rfl (fun K0 hK0 => ?_) AllReadyH.nil
      go_simp
      refine (HAC.out _ HGD.out).mono ?_
      rintro e w' ⟨rfl, rfl⟩
      try dsimp only
      refine hK0.out _ _ ?_ (fun hHeld => ?_)
      · (with_reducible first | exact HS1.out | exact HS2.out)
      clear hK0 K0
      try simp only [Act.put, List.setIfInBounds_toArray, List.set_cons_zero, List.set_cons_succ]
      refine wpAnyH_take (i := 7) (v := ?_) rfl (by kernel_rfl) (by kernel_rfl) (by kernel_rfl) (fun _ _ _ h => h) (Or.inl ⟨by rfl, ?_⟩) (by assumption) ?_
      rotate_left
      · intro w0 hSw; (try dsimp only at hSw); go_simp; all_goals (with_reducible rfl)
      try simp only [Act.put, List.setIfInBounds_toArray, List.set_cons_zero, List.set_cons_succ]
      refine wpAnyH_take (i := 8) (v := ?_) rfl (by kernel_rfl) (by kernel_rfl) (by kernel_rfl) (fun _ _ _ h => h) (Or.inl ⟨by rfl, ?_⟩) (by assumption) ?_
      rotate_left
      · intro w0 hSw; (try dsimp only at hSw); go_simp; all_goals (with_reducible rfl)
      try simp only [Act.put, List.setIfInBounds_toArray, List.set_cons_zero, List.set_cons_succ]
      refine wpAnyH_take (i := 9) (v := ?_) rfl (by kernel_rfl) (by kernel_rfl) (by kernel_rfl) (fun _ _ _ h => h) (Or.inl ⟨by rfl, ?_⟩) (by assumption) ?_
      rotate_left
      · intro w0 hSw; (try dsimp only at hSw); go_simp; all_goals (with_reducible rfl)
      try simp only [Act.put, List.setIfInBounds_toArray, List.set_cons_zero, List.set_cons_succ]
      refine wpAnyH_take (i := 13) (v := ?_) rfl (by kernel_rfl) (by kernel_rfl) (by kernel_rfl) (fun _ _ _ h => h) (Or.inl ⟨by rfl, ?_⟩) (by assumption) ?_
      rotate_left
      · intro w0 hSw; (try dsimp only at hSw); go_simp; all_goals (with_reducible rfl)
      try simp only [Act.put, List.setIfInBounds_toArray, List.set_cons_zero, List.set_cons_succ]
      refine wpAnyH_ready (rs := [14]) (by kernel_rfl) (by simp) ?_
      refine AllReadyH.cons rfl (fun K0 hK0 => ?_) AllReadyH.nil
      go_simp
      refine hK0.out _ _ ?_ (fun hHeld => ?_)
      · (with_reducible first | exact HS1.out | exact HS2.out)
      clear hK0 K0
      try simp only [Act.put, List.setIfInBounds_toArray, List.set_cons_zero, List.set_cons_succ]
      refine wpAnyH_done (by kernel_rfl) ?_ _
      simp only [onlyN]
      gi_wp2
      refine ⟨⟨(KeepsOthers.setCell V _ _).size, fun k o _ hk ho => (KeepsOthers.setCell V _ _).same k o hk ho⟩, ⟨rfl, ?_⟩, ?_⟩
      · rw [HAN.out]; exact heap_setCell_same _ (w.heap.size + 1) 0 _ _ _ HV2.out
      · exact (HG4.out.setCell (p := ⟨w.heap.size + 1, 0, none⟩) (by simp) _).drew
    · have t1 : ¬ 0 < x.2 := hpos
      clear hat
      gi_wp2
      refine ⟨KeepsFrom.refl _ _, HKQ.out V HG5.out, ⟨HI.out.1.1, HI.out.1.2.1, fun i hi => ?_⟩, HG4.out, HG5.out⟩
      by_cases e : i = j
      · rw [e, HX.out, hok]; simpa using hpos
      · exact HG3.out i (by omega)
  case done =>
    rintro D W hD ⟨⟨h1, h2, h3⟩, h4, h5⟩ hK
    have hans : ans = none := by rw [HANS.out]; unfold ansI; rw [find_rev_none ok xs h3]
    have c3 : W.cell? ⟨w.heap.size + 1, 0, none⟩ = some (.pointer none) := (cell_of_row _ _ 0 _ _ _ h2).trans rfl
    have f3 : W.frozen? ⟨w.heap.size + 1, 0, none⟩ = false := frozen_of_row _ _ 0 _ _ h2
    have HK := Lib.hid hK
    have H2 := Lib.hid h2
    have H4 := Lib.hid h4
    clear h1 h2 h3 h4 h5 hK
    gi_wp2
    have hs2 : (W.setCell ⟨w.heap.size + 1, 0, none⟩ (.pointer none)).heap[w.heap.size + 1]? = some (rsO none) := heap_setCell_same W (w.heap.size + 1) 0 _ _ (.pointer none) H2.out
    have hK2 : (W.setCell ⟨w.heap.size + 1, 0, none⟩ (.pointer none)).heap[D]? = some (.deferred (some [])) := (KeepsOthers.setCell _ _ _).same D _ HK.out rfl
    have hD1 : w.heap.size + 1 < D := by omega
    have hc : ((W.setCell ⟨w.heap.size + 1, 0, none⟩ (.pointer none)).putObj D (.deferred none)).cell? ⟨w.heap.size + 1, 0, none⟩ = some (.pointer none) := (cell_of_row _ _ 0 _ _ _ ((World.putObj_heap_other (by omega)).trans hs2)).trans rfl
    refine ⟨by simp, .inl ⟨_, _, rfl, run_takeDeferred hK2, ?_⟩⟩
    refine ⟨.pointer none, by simp [results, Try.results53, go_sem, hc], by rw [hans], ?_⟩
    exact (H4.out.setCell (p := ⟨w.heap.size + 1, 0, none⟩) (by simp) _).trans (belowK_b (n₀ := w.heap.size) (w := w) (Nat.le_refl _) _ D _ _ (by omega) hK2 rfl rfl)
  case stop =>
    rintro D j c W hD hj ⟨⟨rfl, h2⟩, h4⟩ hK
    have HK := Lib.hid hK
    have H4 := Lib.hid h4
    have hc : (W.putObj D (.deferred none)).cell? ⟨w.heap.size + 1, 0, none⟩ = some (.pointer ans) := (cell_of_row _ _ 0 _ _ _ ((World.putObj_heap_other (by omega)).trans h2)).trans rfl
    clear hK h2 h4
    gi_wp2
    refine ⟨by simp, .inl ⟨_, _, rfl, run_takeDeferred HK.out, ?_⟩⟩
    refine ⟨.pointer ans, by simp [results, Try.results53, go_sem, hc], rfl, ?_⟩
    exact H4.out.trans (belowK_b (n₀ := w.heap.size) (w := w) (Nat.le_refl _) W D _ _ (by omega) HK.out rfl rfl)
set_option maxHeartbeats 4000000 in
theorem bbehind_core (T A : Nat) (ap : Option Addr) (cap base : Nat) (xs : List (Int × Int)) (t : Bx) (ok : Int × Int → Bool) (pt : Int × Int → Option Addr) (w : World) (HT : Hid (w.heap[T]? = some (bO A t)))
    (ho : w.ownsRow base 125 2 (.slice ap xs.length cap) xs.length (flat2 xs)) (hN : xs.length ≤ 1000000)
    (HAT : Hid (∀ x ∈ xs, ∃ g po sa n c, w.cell? ⟨g, po, none⟩ = some (.slice sa n c) ∧ (∀ W, Go.RowKit.Below w.heap.size w W → Calls Try.prog 50 #[aP A, .int .i64 x.1] W fun e w' => e = .returned (.pointer (some ⟨g, po, none⟩)) ∧ W = w') ∧ 0 ≤ x.2 ∧ n ≤ 1000000 ∧ ok x = decide (x.2 < n) ∧ (x.2 < n → ∃ sb, sa = some ⟨sb, 0, none⟩ ∧ pt x = some ⟨sb, x.2.toNat * 5, none⟩))) :
    Calls Try.prog 57 #[aP T, .slice ap xs.length cap] w fun e w' => e = .returned (.pointer (ansI ok pt xs.reverse)) ∧ Go.RowKit.Below w.heap.size w w' := by
  have mx := mixed
  obtain ⟨ans, hans0⟩ : ∃ ans, ans = ansI ok pt xs.reverse := ⟨_, rfl⟩
  rw [← hans0]
  have HANS := Lib.hid hans0
  clear hans0
  have hB0 : Go.RowKit.Below w.heap.size w ((w.alloc (tbO T)).alloc (rsO none)) := bt (below_new _ _) (below_new _ _)
  have hB1 : Go.RowKit.Below w.heap.size w (((w.alloc (tbO T)).alloc (rsO none)).alloc (.cells #[.slice ap xs.length cap] 95)) := bt hB0 (below_new _ _)
  have HB1 := Lib.hid hB1
  have HTB : Hid ((((w.alloc (tbO T)).alloc (rsO none)).alloc (.cells #[.slice ap xs.length cap] 95)).heap[w.heap.size]? = some (tbO T)) := box_on (box_on (heap_alloc_new _ _) (below_new _ _)) (below_new _ _)
  have HRS : Hid ((((w.alloc (tbO T)).alloc (rsO none)).alloc (.cells #[.slice ap xs.length cap] 95)).heap[w.heap.size + 1]? = some (rsO none)) := box_on (new_at' _ (by simp)) (below_new _ _)
  have HBX : Hid ((((w.alloc (tbO T)).alloc (rsO none)).alloc (.cells #[.slice ap xs.length cap] 95)).heap[w.heap.size + 2]? = some (.cells #[.slice ap xs.length cap] 95 (0, 0))) := new_at' _ (by simp)
  have HOW := Lib.hid (own_on ho hB1)
  have HOLT := Lib.hid (fun b hb => (ho.lt b hb).2)
  clear hB0 hB1 ho
  refine (callsIn_wide (n := 6)).1 ?_
  refine callsIn_of_wp_marks Try.func57 rfl trivial ?_ rfl
  simp only [Try.ntmps57, List.size_toArray, List.length_cons, List.length_nil, Nat.reduceAdd, Nat.reduceSub, Array.replicate_succ, Array.replicate_zero, List.push_toArray, List.append_toArray, List.nil_append, List.cons_append]
  gi_wp2_with (refine ⟨trivial, ?_⟩; gi_at_call 79; refine (callsIn_wide.2 (bback_any ap xs.length cap _)).mono ?_; rintro e w' ⟨rfl, rfl⟩)
  obtain ⟨Q, HQ⟩ : ∃ Q : Nat → Prop, Hid (Q = fun b => b = w.heap.size + 2 ∨ (Value.slice ap xs.length cap).ownBlock = some b) := ⟨_, rfl⟩
  generalize ((w.alloc (tbO T)).alloc (rsO none)).alloc (.cells #[.slice ap xs.length cap] 95) = W0 at *
  have hsz : w.heap.size + 2 < W0.heap.size := lt_of_block HBX.out
  have hQlt : ∀ b, Q b → b < W0.heap.size := fun b hb => by
    rw [HQ.out] at hb
    rcases hb with rfl | hb
    · exact hsz
    · have := HOLT.out b hb; omega
  have HQL := Lib.hid hQlt
  have hdd : ∀ m : Nat, (Fence.wide.depth.isSome = true → 1 ≤ m) := fun m h => by cases h
  refine wpIn_rangeN (gf := 98) (lb := #[.pointer (some ⟨w.heap.size + 2, 0, none⟩)]) rfl (enters_of Try.func98 (by kernel_rfl) rfl)
    (bback_seq (w.heap.size + 2) ap cap base xs Q W0 HBX.out HOW.out (by rw [HQ.out]; exact .inl rfl) (fun b hb => by rw [HQ.out]; exact .inr hb) hN) kpQ.trans (kpQ_b hQlt) (Go.RowKit.Below.refl _ _) (fun _ => rfl)
    (AhI w W0 Q T ok xs) (AhX w W0 ans) (ahI_own w W0 Q T ok xs _ (by omega) (Nat.le_refl _)) (fun c => ahX_own w W0 ans c _ (by omega))
    ⟨⟨HTB.out, HRS.out, fun i hi => absurd hi (Nat.not_lt_zero _)⟩, HB1.out, Go.RowKit.Below.refl _ _⟩ ?round ?done ?stop
  case round =>
    rintro l j W K hj ⟨⟨h1, h2, h3⟩, h4, h5⟩ hK
    have hx : ∃ x, xs.getD (xs.length - 1 - j) (0, 0) = x ∧ x ∈ xs := ⟨_, rfl, by
      rw [List.getD_eq_getElem?_getD, List.getElem?_eq_getElem (by omega)]; exact List.getElem_mem _⟩
    obtain ⟨x, ex, hxm⟩ := hx
    have HX := Lib.hid ex
    rw [ex]
    have HW := Lib.hid (⟨⟨h1, h2, h3⟩, h4, h5⟩ : AhI w W0 Q T ok xs j W)
    clear h1 h2 h3 h4 h5 ex
    gi_wp2
    have hb6 := below_new W (stO x)
    refine hK _ _ ((KeepsOthers.alloc _ _).from _) (fun b hb => hb6.block b (Nat.lt_of_lt_of_le (HQL.out b hb) HW.out.2.2.size)) ⟨fun i V => (AhI w W0 Q T ok xs i V ∧ V.heap[W.heap.size]? = some (stO x)) ∧ W.heap.size ≤ V.heap.size, ?_, ⟨⟨own_after (ahI_own w W0 Q T ok xs W0.heap.size (by omega) (Nat.le_refl _)) HW.out hb6, heap_alloc_new W (stO x)⟩, hb6.size⟩, ?_⟩
    · exact fun s X Y row hs hg hr => ⟨⟨ahI_own w W0 Q T ok xs W0.heap.size (by omega) (Nat.le_refl _) s X Y row hs.1.1 hg hr, own_from_box rfl hs.1.2 hg hr⟩, Nat.le_trans hs.2 hg.size⟩
    rintro V ⟨⟨hI, hS⟩, hWV⟩
    have hWV0 : w.heap.size + 2 < W.heap.size := by have := HW.out.2.2.size; omega
    generalize W.heap.size = BX at *
    have HI := Lib.hid hI
    obtain ⟨⟨g1, g2, g3⟩, g4, g5⟩ := hI
    have HG3 := Lib.hid g3
    have c1 : V.cell? ⟨w.heap.size, 0, none⟩ = some (aP T) := (cell_of_row _ _ 0 _ _ _ g1).trans rfl
    have c2 : V.cell? ⟨T, 1, none⟩ = some (aP A) := (cell_of_row _ _ 1 _ _ _ (box_on HT.out g4)).trans rfl
    have c3 : V.cell? ⟨w.heap.size + 1, 0, none⟩ = some (.pointer none) := (cell_of_row _ _ 0 _ _ _ g2).trans rfl
    have f3 : V.frozen? ⟨w.heap.size + 1, 0, none⟩ = false := frozen_of_row _ _ 0 _ _ g2
    have c4 : V.cell? ⟨BX, 0, none⟩ = some (.int .i64 x.1) := (cell_of_row _ _ 0 _ _ _ hS).trans rfl
    have c5 : V.cell? ⟨BX, 1, none⟩ = some (.int .i64 x.2) := (cell_of_row _ _ 1 _ _ _ hS).trans rfl
    have HKQ : Hid (∀ Y, Go.RowKit.Below W0.heap.size W0 Y → kpQ Q V Y) := fun Y hY b hb => (hY.block b (HQL.out b hb)).trans (g5.block b (HQL.out b hb)).symm
    have HG4 := Lib.hid g4
    have HG5 := Lib.hid g5
    have HV2 := Lib.hid g2
    clear g1 g2 g3 g4 g5 hS
    obtain ⟨g, po, sa, n, c, k1, k2, k3, k4, hok, k5⟩ := HAT.out x hxm
    have hk1 : V.cell? ⟨g, po, none⟩ = some (.slice sa n c) := (HG4.out.cell (p := ⟨g, po, none⟩) (World.block_lt_of_cell? w _ k1)).trans k1
    have hk2 : V.drew.cell? ⟨g, po, none⟩ = some (.slice sa n c) := hk1
    obtain ⟨m, hm⟩ : ∃ m : Nat, x.2 = (m : Int) := ⟨x.2.toNat, by omega⟩
    have HAC : Hid (∀ W, Go.RowKit.Below w.heap.size w W → Calls Try.prog 50 #[aP A, .int .i64 x.1] W fun e w' => e = .returned (.pointer (some ⟨g, po, none⟩)) ∧ W = w') := k2
    have HGD : Hid (Go.RowKit.Below w.heap.size w V.drew) := HG4.out.drew
    have HGD0 : Hid (Go.RowKit.Below W0.heap.size W0 V.drew) := HG5.out.drew
    by_cases hpos : x.2 < (n : Int)
    · obtain ⟨sb, rfl, hpt⟩ := k5 hpos
      have hans : ans = some ⟨sb, m * 5, none⟩ := by
        rw [HANS.out]; unfold ansI; rw [find_rev ok xs j hj HG3.out (by rw [HX.out, hok]; simpa using hpos), HX.out]
        show pt x = _
        rw [hpt, show x.2.toNat = m by omega]
      have HAN := Lib.hid hans
      rw [hm] at c5
      have t2 : (0 : Int) ≤ (m : Int) := by omega
      have t3 : (m : Int) < (n : Int) := by omega
      have p1 := cell_regrown c1
      have p2 := cell_regrown c2
      have p4 := cell_regrown c4
      have p5 := cell_regrown c5
      have p6 := cell_regrown hk1
      clear hok hpos k1 k2 k3 k4 k5 hm hans hpt c1 c2 c3 f3 c4 c5 hk1 hk2
      gi_wp2
      clear mx
      have mx := mixed
      refine wpIn_round_quiet_below (by assumption) (by kernel_rfl) (by kernel_rfl) ?_
      repeat (go_big_quiet_step (first | (go_at_call 50; exact Calls.regrown_of ((HAC.out _ (bt HG4.out (below_regrown _ _ _))).mono fun e w' h => ⟨h.1, h.2 ▸ Go.RowKit.Below.refl _ _⟩))))
      refine wpQuiet_nil ?_
      intro _ hw'
      obtain ⟨⟨nq, osq⟩, hw''⟩ := hw'
      subst hw''
      have hB := below_regrown V nq osq
      have z5 := p5 nq osq
      have z3 := box_on HV2.out hB
      generalize grow (redrawn V nq) osq = Y at *
      clear p1 p2 p4 p5 p6
      have y3 : Y.cell? ⟨w.heap.size + 1, 0, none⟩ = some (.pointer none) := (cell_of_row _ _ 0 _ _ _ z3).trans rfl
      have x3 : Y.frozen? ⟨w.heap.size + 1, 0, none⟩ = false := frozen_of_row _ _ 0 _ _ z3
      gi_wp2
      refine ⟨(KeepsOthers.trans (KeepsOthers.of_grownBy (row := none) ⟨hB.os, hB.tape, hB.output, hB.size, fun k hk _ => hB.block k hk⟩ (fun j o e => by cases e)) (KeepsOthers.setCell Y ⟨w.heap.size + 1, 0, none⟩ (.pointer (some ⟨sb, m * 5, none⟩)))).from _, ⟨rfl, ?_⟩, ?_⟩
      · rw [HAN.out]; exact heap_setCell_same _ (w.heap.size + 1) 0 _ _ _ (box_on HV2.out hB)
      · exact (bt HG4.out hB).setCell (p := ⟨w.heap.size + 1, 0, none⟩) (by simp) _
    · have HOK := Lib.hid hok
      have HPOS := Lib.hid hpos
      rw [hm] at c5
      have t3 : ¬ (m : Int) < (n : Int) := by omega
      have p1 := cell_regrown c1
      have p2 := cell_regrown c2
      have p4 := cell_regrown c4
      have p5 := cell_regrown c5
      have p6 := cell_regrown hk1
      clear hok hpos k1 k2 k3 k4 k5 hm c1 c2 c3 f3 c4 c5 hk1 hk2
      gi_wp2
      clear mx
      have mx := mixed
      refine wpIn_round_quiet_below (by assumption) (by kernel_rfl) (by kernel_rfl) ?_
      repeat (go_big_quiet_step (first | (go_at_call 50; exact Calls.regrown_of ((HAC.out _ (bt HG4.out (below_regrown _ _ _))).mono fun e w' h => ⟨h.1, h.2 ▸ Go.RowKit.Below.refl _ _⟩))))
      refine wpQuiet_nil ?_
      intro _ hw'
      obtain ⟨⟨nq, osq⟩, hw''⟩ := hw'
      subst hw''
      have hB := below_regrown V nq osq
      have z5 := p5 nq osq
      have z3 := box_on HV2.out hB
      generalize grow (redrawn V nq) osq = Y at *
      clear p1 p2 p4 p5 p6
      have y3 : Y.cell? ⟨w.heap.size + 1, 0, none⟩ = some (.pointer none) := (cell_of_row _ _ 0 _ _ _ z3).trans rfl
      have x3 : Y.frozen? ⟨w.heap.size + 1, 0, none⟩ = false := frozen_of_row _ _ 0 _ _ z3
      gi_wp2
      refine ⟨(KeepsOthers.of_grownBy (row := none) ⟨hB.os, hB.tape, hB.output, hB.size, fun k hk _ => hB.block k hk⟩ (fun j o e => by cases e)).from _, HKQ.out _ (bt HG5.out hB), ⟨box_on HI.out.1.1 hB, box_on HI.out.1.2.1 hB, fun i hi => ?_⟩, bt HG4.out hB, bt HG5.out hB⟩
      by_cases e : i = j
      · rw [e, HX.out, HOK.out]; simpa using HPOS.out
      · exact HG3.out i (by omega)
  case done =>
    rintro D W hD ⟨⟨h1, h2, h3⟩, h4, h5⟩ hK
    have hans : ans = none := by rw [HANS.out]; unfold ansI; rw [find_rev_none ok xs h3]
    have c3 : W.cell? ⟨w.heap.size + 1, 0, none⟩ = some (.pointer none) := (cell_of_row _ _ 0 _ _ _ h2).trans rfl
    have f3 : W.frozen? ⟨w.heap.size + 1, 0, none⟩ = false := frozen_of_row _ _ 0 _ _ h2
    have HK := Lib.hid hK
    have H2 := Lib.hid h2
    have H4 := Lib.hid h4
    clear h1 h2 h3 h4 h5 hK
    gi_wp2
    have hs2 : (W.setCell ⟨w.heap.size + 1, 0, none⟩ (.pointer none)).heap[w.heap.size + 1]? = some (rsO none) := heap_setCell_same W (w.heap.size + 1) 0 _ _ (.pointer none) H2.out
    have hK2 : (W.setCell ⟨w.heap.size + 1, 0, none⟩ (.pointer none)).heap[D]? = some (.deferred (some [])) := (KeepsOthers.setCell _ _ _).same D _ HK.out rfl
    have hD1 : w.heap.size + 1 < D := by omega
    have hc : ((W.setCell ⟨w.heap.size + 1, 0, none⟩ (.pointer none)).putObj D (.deferred none)).cell? ⟨w.heap.size + 1, 0, none⟩ = some (.pointer none) := (cell_of_row _ _ 0 _ _ _ ((World.putObj_heap_other (by omega)).trans hs2)).trans rfl
    refine ⟨by simp, .inl ⟨_, _, rfl, run_takeDeferred hK2, ?_⟩⟩
    refine ⟨.pointer none, by simp [results, Try.results57, go_sem, hc], by rw [hans], ?_⟩
    exact (H4.out.setCell (p := ⟨w.heap.size + 1, 0, none⟩) (by simp) _).trans (belowK_b (n₀ := w.heap.size) (w := w) (Nat.le_refl _) _ D _ _ (by omega) hK2 rfl rfl)
  case stop =>
    rintro D j c W hD hj ⟨⟨rfl, h2⟩, h4⟩ hK
    have HK := Lib.hid hK
    have H4 := Lib.hid h4
    have hc : (W.putObj D (.deferred none)).cell? ⟨w.heap.size + 1, 0, none⟩ = some (.pointer ans) := (cell_of_row _ _ 0 _ _ _ ((World.putObj_heap_other (by omega)).trans h2)).trans rfl
    clear hK h2 h4
    gi_wp2
    refine ⟨by simp, .inl ⟨_, _, rfl, run_takeDeferred HK.out, ?_⟩⟩
    refine ⟨.pointer ans, by simp [results, Try.results57, go_sem, hc], rfl, ?_⟩
    exact H4.out.trans (belowK_b (n₀ := w.heap.size) (w := w) (Nat.le_refl _) W D _ _ (by omega) HK.out rfl rfl)
end Go.Proofs.Ytjgcdmeojjnjlaa
/- What is told of the nearest segments: the walks. -/
namespace Go.Proofs.Ytjgcdmeojjnjlaa
open Go.RowKit Go.Sort Go.Proofs.Ytjgcdmeojjnjlaa.Bo Go.Proofs.Ytjgcdmeojjnjlaa.Bb
set_option linter.unusedVariables false
set_option maxRecDepth 100000
theorem bbelow_b (s a : Int) (W : World) : Calls Try.prog 56 #[.agg #[.int .i64 s, .int .i64 a]] W fun e w' => ∃ c, (e = .returned (.func (.func 84) #[] #[.pointer (some ⟨c, 0, none⟩)]) ∧ w'.heap[c]? = some (.cells #[.int .i64 s, .int .i64 a] 34)) ∧ Go.RowKit.Below W.heap.size W w' :=
  (bbelow_any s a W).mono fun e w' ⟨h1, h2⟩ => ⟨W.heap.size, ⟨h1, h2 ▸ heap_alloc_new _ _⟩, h2 ▸ below_new _ _⟩
theorem bnotAbove_b (s a : Int) (W : World) : Calls Try.prog 55 #[.agg #[.int .i64 s, .int .i64 a]] W fun e w' => ∃ c, (e = .returned (.func (.func 82) #[] #[.pointer (some ⟨c, 0, none⟩)]) ∧ w'.heap[c]? = some (.cells #[.int .i64 s, .int .i64 a] 34)) ∧ Go.RowKit.Below W.heap.size W w' :=
  (bnotAbove_any s a W).mono fun e w' ⟨h1, h2⟩ => ⟨W.heap.size, ⟨h1, h2 ▸ heap_alloc_new _ _⟩, h2 ▸ below_new _ _⟩
set_option maxHeartbeats 2000000 in
theorem bfound_no (T n cap : Nat) (ap : Option Addr) (x y : Int) (w : World) (HB : Hid (∀ W, Go.RowKit.Below w.heap.size w W → Calls Try.prog 57 #[aP T, .slice ap n cap] W fun e w' => e = .returned (.pointer none) ∧ Go.RowKit.Below W.heap.size W w')) :
    Calls Try.prog 59 #[aP T, .slice ap n cap, .agg #[.int .i64 x, .int .i64 y]] w fun e w' => e = .returned (.pointer none) ∧ Go.RowKit.Below w.heap.size w w' := by
  have mx := mixed
  have HB0 := Lib.hid (below_new w (.cells #[.int .i64 x, .int .i64 y] 34))
  have HK0 := Lib.hid (heap_alloc_new w (.cells #[.int .i64 x, .int .i64 y] 34))
  go_enter Try.func59, Try.ntmps59
  go_wp2_with fail
  refine (HB.out _ HB0.out).mono ?_
  rintro e y1 ⟨rfl, hb⟩
  have HB1 := Lib.hid (bt HB0.out hb)
  obtain ⟨d1, d2, _, _⟩ := two_cells (box_on HK0.out hb)
  have p1 := cell_regrown d1
  have p2 := cell_regrown d2
  clear hb d1 d2
  go_wp2_with fail
  refine wp_region_quiet_below (by assumption) (by kernel_rfl) ?_
  repeat (go_big_quiet_step (fail))
  refine wpQuiet_nil ?_
  intro _ hw'
  obtain ⟨⟨nq, osq⟩, hw''⟩ := hw'
  subst hw''
  have HB3 := Lib.hid (bt HB1.out (below_regrown y1 nq osq))
  clear p1 p2
  generalize grow (redrawn y1 nq) osq = y3 at *
  go_wp2_with fail
  go_ret
  exact ⟨rfl, HB3.out⟩
set_option maxHeartbeats 2000000 in
theorem bfound_yes (T n cap b o : Nat) (ap : Option Addr) (x y : Int) (g : G5) (w : World) (hy : I64 y) (hg : I64 g.la) (HB : Hid (∀ W, Go.RowKit.Below w.heap.size w W → Calls Try.prog 57 #[aP T, .slice ap n cap] W fun e w' => e = .returned (.pointer (some ⟨b, o, none⟩)) ∧ Go.RowKit.Below W.heap.size W w'))
    (HG : Hid (Cells5 w b o g)) : Calls Try.prog 59 #[aP T, .slice ap n cap, .agg #[.int .i64 x, .int .i64 y]] w fun e w' => e = .returned (.pointer (if g.key = key x y then some ⟨b, o, none⟩ else none)) ∧ Go.RowKit.Below w.heap.size w w' := by
  have mx := mixed
  have HC := Lib.hid (fun W => compare_any g.ls g.la x y W hg hy)
  obtain ⟨B, HBQ⟩ : ∃ B, Hid ((kcmp (key g.ls g.la) (key x y) != 0) = B ∧ (B = true → ¬ g.key = key x y) ∧ (B = false → g.key = key x y)) := by
    refine ⟨kcmp (key g.ls g.la) (key x y) != 0, Lib.hid ⟨rfl, fun h => ?_, fun h => ?_⟩⟩
    · have : kcmp (key g.ls g.la) (key x y) ≠ 0 := by simpa using h
      unfold G5.key; unfold kcmp at this; intro e; rw [e] at this; simp at this
    · have : kcmp (key g.ls g.la) (key x y) = 0 := by simpa using h
      unfold G5.key; unfold kcmp at this; split at this
      · cases this
      · split at this
        · cases this
        · omega
  generalize kcmp (key g.ls g.la) (key x y) = K at *
  obtain ⟨ans, hans⟩ : ∃ ans : Option Addr, ans = if g.key = key x y then some ⟨b, o, none⟩ else none := ⟨_, rfl⟩
  rw [← hans]
  have HAN := Lib.hid hans
  clear hans
  have HB0 := Lib.hid (below_new w (.cells #[.int .i64 x, .int .i64 y] 34))
  have HK0 := Lib.hid (heap_alloc_new w (.cells #[.int .i64 x, .int .i64 y] 34))
  go_enter Try.func59, Try.ntmps59
  go_wp2_with fail
  refine (HB.out _ HB0.out).mono ?_
  rintro e y1 ⟨rfl, hb⟩
  have HB1 := Lib.hid (bt HB0.out hb)
  obtain ⟨d1, d2, _, _⟩ := two_cells (box_on HK0.out hb)
  have p1 := cell_regrown d1
  have p2 := cell_regrown d2
  obtain ⟨p3, p4, _, _, _⟩ := (HG.out.below HB1.out).re
  clear hb d1 d2
  go_wp2_with fail
  refine wp_region_quiet_below (by assumption) (by kernel_rfl) ?_
  repeat (go_big_quiet_step (first
    | (go_at_call 83; exact Calls.regrown_of ((HC.out _).mono fun _ _ h => ⟨h.1, h.2.1⟩))))
  refine wpQuiet_nil ?_
  intro _ hw'
  obtain ⟨⟨nq, osq⟩, hw''⟩ := hw'
  subst hw''
  have HB3 := Lib.hid (bt HB1.out (below_regrown y1 nq osq))
  clear p1 p2 p3 p4
  generalize grow (redrawn y1 nq) osq = y3 at *
  obtain ⟨hQ, hQ1, hQ2⟩ := HBQ.out
  cases B with
  | true =>
    have e : ¬ K = 0 := by simpa using hQ
    have HNE := Lib.hid ((HAN.out).trans (if_neg (hQ1 rfl)))
    clear hQ1 hQ2
    go_wp2_with fail
    go_ret
    exact ⟨by rw [HNE.out]; rfl, HB3.out⟩
  | false =>
    have e : K = 0 := by simpa using hQ
    have HNE := Lib.hid ((HAN.out).trans (if_pos (hQ2 rfl)))
    clear hQ1 hQ2
    subst e
    go_wp2_with fail
    go_ret
    exact ⟨by rw [HNE.out]; rfl, HB3.out⟩
set_option maxHeartbeats 2000000 in
theorem bfloor_core (T : Nat) (x y : Int) (o : Option Addr) (g : G5) (b : Bool) (PW : Option Addr → Nat → Nat → World → Prop) (w : World)
    (HW : Hid (∀ W c, Go.RowKit.Below w.heap.size w W → W.heap[c]? = some (.cells #[.int .i64 x, .int .i64 y] 34) → Calls Try.prog 54 #[aP T, .func (.func 82) #[] #[.pointer (some ⟨c, 0, none⟩)]] W fun e w' => ∃ ap n cap, (e = .returned (.slice ap n cap) ∧ PW ap n cap w') ∧ Go.RowKit.Below W.heap.size W w'))
    (HA : Hid (∀ ap n cap W, PW ap n cap W → Go.RowKit.Below w.heap.size w W → Calls Try.prog 53 #[aP T, .slice ap n cap] W fun e w' => e = .returned (.pointer o) ∧ Go.RowKit.Below W.heap.size W w'))
    (HD : Hid (∀ W, Go.RowKit.Below w.heap.size w W → Calls Try.prog 52 #[.pointer o] W fun e w' => e = .returned (.tuple #[vG g, .bool b]) ∧ Go.RowKit.Below W.heap.size W w')) :
    Calls Try.prog 23 #[aP T, .agg #[.int .i64 x, .int .i64 y]] w fun e w' => e = .returned (.tuple #[vG g, .bool b]) ∧ Go.RowKit.Below w.heap.size w w' := by
  have mx := mixed
  have HR0 := Lib.hid (show ((w.alloc (.cells #[.int .i64 x, .int .i64 y] 34)).alloc zG).heap[w.heap.size + 1]? = some zG from new_at' _ (by simp))
  have HB0 := Lib.hid (bt (below_new w (.cells #[.int .i64 x, .int .i64 y] 34)) (below_new _ zG))
  have HK0 := Lib.hid (two_cells (show ((w.alloc (.cells #[.int .i64 x, .int .i64 y] 34)).alloc zG).heap[w.heap.size]? = some (.cells #[.int .i64 x, .int .i64 y] 34) from box_on (heap_alloc_new _ _) (below_new _ _)))
  go_enter Try.func23, Try.ntmps23
  go_upto_region 1 with fail
  generalize (w.alloc (.cells #[.int .i64 x, .int .i64 y] 34)).alloc zG = X at *
  obtain ⟨k1, k2, _, _⟩ := HK0.out
  go_wp2_with fail
  refine (bnotAbove_b x y _).mono ?_
  rintro e y1 ⟨c, ⟨rfl, hc⟩, hb⟩
  have HC1 := Lib.hid hc
  have HB1 := Lib.hid (bt HB0.out hb)
  replace HR0 := Lib.hid (box_on HR0.out hb)
  clear hb hc k1 k2
  go_wp2_with fail
  refine (HW.out _ c HB1.out HC1.out).mono ?_
  rintro e y2 ⟨ap, n, cap, ⟨rfl, hp⟩, hb⟩
  have HP2 := Lib.hid hp
  have HB2 := Lib.hid (bt HB1.out hb)
  replace HR0 := Lib.hid (box_on HR0.out hb)
  clear hb hp
  go_wp2_with fail
  refine (HA.out ap n cap _ HP2.out HB2.out).mono ?_
  rintro e y3 ⟨rfl, hb⟩
  have HB3 := Lib.hid (bt HB2.out hb)
  replace HR0 := Lib.hid (box_on HR0.out hb)
  clear hb
  go_wp2_with fail
  refine (HD.out _ HB3.out).mono ?_
  rintro e y4 ⟨rfl, hb⟩
  have hR := box_on HR0.out hb
  have hBY := bt HB3.out hb
  clear hb
  obtain ⟨d0, d1, d2, d3, d4⟩ := five_cells (g := g0) hR
  have z0 := five_frozen (g := g0) hR 0
  have z1 := five_frozen (g := g0) hR 1
  have z2 := five_frozen (g := g0) hR 2
  have z3 := five_frozen (g := g0) hR 3
  have z4 := five_frozen (g := g0) hR 4
  obtain ⟨q0, q1, q2, q3, q4⟩ := five_cells (five_put (g := g0) hR g)
  have HE := Lib.hid (seg5_below (b := w.heap.size + 1) hBY (by omega) g)
  simp only [Nat.zero_add] at d1 d2 d3 d4 q1 q2 q3 q4
  clear hR hBY
  go_wp2_with fail
  refine bodyPost_ret (v := .tuple #[vG g, .bool b]) (by simp [results, Try.results23, go_sem, q0, q1, q2, q3, q4]) rfl ?_
  exact ⟨rfl, HE.out⟩
set_option maxHeartbeats 2000000 in
theorem blower_core (T : Nat) (x y : Int) (o : Option Addr) (g : G5) (b : Bool) (PW : Option Addr → Nat → Nat → World → Prop) (w : World)
    (HW : Hid (∀ W c, Go.RowKit.Below w.heap.size w W → W.heap[c]? = some (.cells #[.int .i64 x, .int .i64 y] 34) → Calls Try.prog 54 #[aP T, .func (.func 84) #[] #[.pointer (some ⟨c, 0, none⟩)]] W fun e w' => ∃ ap n cap, (e = .returned (.slice ap n cap) ∧ PW ap n cap w') ∧ Go.RowKit.Below W.heap.size W w'))
    (HA : Hid (∀ ap n cap W, PW ap n cap W → Go.RowKit.Below w.heap.size w W → Calls Try.prog 53 #[aP T, .slice ap n cap] W fun e w' => e = .returned (.pointer o) ∧ Go.RowKit.Below W.heap.size W w'))
    (HD : Hid (∀ W, Go.RowKit.Below w.heap.size w W → Calls Try.prog 52 #[.pointer o] W fun e w' => e = .returned (.tuple #[vG g, .bool b]) ∧ Go.RowKit.Below W.heap.size W w')) :
    Calls Try.prog 24 #[aP T, .agg #[.int .i64 x, .int .i64 y]] w fun e w' => e = .returned (.tuple #[vG g, .bool b]) ∧ Go.RowKit.Below w.heap.size w w' := by
  have mx := mixed
  have HR0 := Lib.hid (show ((w.alloc (.cells #[.int .i64 x, .int .i64 y] 34)).alloc zG).heap[w.heap.size + 1]? = some zG from new_at' _ (by simp))
  have HB0 := Lib.hid (bt (below_new w (.cells #[.int .i64 x, .int .i64 y] 34)) (below_new _ zG))
  have HK0 := Lib.hid (two_cells (show ((w.alloc (.cells #[.int .i64 x, .int .i64 y] 34)).alloc zG).heap[w.heap.size]? = some (.cells #[.int .i64 x, .int .i64 y] 34) from box_on (heap_alloc_new _ _) (below_new _ _)))
  go_enter Try.func24, Try.ntmps24
  go_upto_region 1 with fail
  generalize (w.alloc (.cells #[.int .i64 x, .int .i64 y] 34)).alloc zG = X at *
  obtain ⟨k1, k2, _, _⟩ := HK0.out
  go_wp2_with fail
  refine (bbelow_b x y _).mono ?_
  rintro e y1 ⟨c, ⟨rfl, hc⟩, hb⟩
  have HC1 := Lib.hid hc
  have HB1 := Lib.hid (bt HB0.out hb)
  replace HR0 := Lib.hid (box_on HR0.out hb)
  clear hb hc k1 k2
  go_wp2_with fail
  refine (HW.out _ c HB1.out HC1.out).mono ?_
  rintro e y2 ⟨ap, n, cap, ⟨rfl, hp⟩, hb⟩
  have HP2 := Lib.hid hp
  have HB2 := Lib.hid (bt HB1.out hb)
  replace HR0 := Lib.hid (box_on HR0.out hb)
  clear hb hp
  go_wp2_with fail
  refine (HA.out ap n cap _ HP2.out HB2.out).mono ?_
  rintro e y3 ⟨rfl, hb⟩
  have HB3 := Lib.hid (bt HB2.out hb)
  replace HR0 := Lib.hid (box_on HR0.out hb)
  clear hb
  go_wp2_with fail
  refine (HD.out _ HB3.out).mono ?_
  rintro e y4 ⟨rfl, hb⟩
  have hR := box_on HR0.out hb
  have hBY := bt HB3.out hb
  clear hb
  obtain ⟨d0, d1, d2, d3, d4⟩ := five_cells (g := g0) hR
  have z0 := five_frozen (g := g0) hR 0
  have z1 := five_frozen (g := g0) hR 1
  have z2 := five_frozen (g := g0) hR 2
  have z3 := five_frozen (g := g0) hR 3
  have z4 := five_frozen (g := g0) hR 4
  obtain ⟨q0, q1, q2, q3, q4⟩ := five_cells (five_put (g := g0) hR g)
  have HE := Lib.hid (seg5_below (b := w.heap.size + 1) hBY (by omega) g)
  simp only [Nat.zero_add] at d1 d2 d3 d4 q1 q2 q3 q4
  clear hR hBY
  go_wp2_with fail
  refine bodyPost_ret (v := .tuple #[vG g, .bool b]) (by simp [results, Try.results24, go_sem, q0, q1, q2, q3, q4]) rfl ?_
  exact ⟨rfl, HE.out⟩
set_option maxHeartbeats 2000000 in
theorem bceil_core (T : Nat) (x y : Int) (o : Option Addr) (g : G5) (b : Bool) (PW : Option Addr → Nat → Nat → World → Prop) (w : World)
    (HW : Hid (∀ W c, Go.RowKit.Below w.heap.size w W → W.heap[c]? = some (.cells #[.int .i64 x, .int .i64 y] 34) → Calls Try.prog 54 #[aP T, .func (.func 84) #[] #[.pointer (some ⟨c, 0, none⟩)]] W fun e w' => ∃ ap n cap, (e = .returned (.slice ap n cap) ∧ PW ap n cap w') ∧ Go.RowKit.Below W.heap.size W w'))
    (HA : Hid (∀ ap n cap W, PW ap n cap W → Go.RowKit.Below w.heap.size w W → Calls Try.prog 57 #[aP T, .slice ap n cap] W fun e w' => e = .returned (.pointer o) ∧ Go.RowKit.Below W.heap.size W w'))
    (HD : Hid (∀ W, Go.RowKit.Below w.heap.size w W → Calls Try.prog 52 #[.pointer o] W fun e w' => e = .returned (.tuple #[vG g, .bool b]) ∧ Go.RowKit.Below W.heap.size W w')) :
    Calls Try.prog 25 #[aP T, .agg #[.int .i64 x, .int .i64 y]] w fun e w' => e = .returned (.tuple #[vG g, .bool b]) ∧ Go.RowKit.Below w.heap.size w w' := by
  have mx := mixed
  have HR0 := Lib.hid (show ((w.alloc (.cells #[.int .i64 x, .int .i64 y] 34)).alloc zG).heap[w.heap.size + 1]? = some zG from new_at' _ (by simp))
  have HB0 := Lib.hid (bt (below_new w (.cells #[.int .i64 x, .int .i64 y] 34)) (below_new _ zG))
  have HK0 := Lib.hid (two_cells (show ((w.alloc (.cells #[.int .i64 x, .int .i64 y] 34)).alloc zG).heap[w.heap.size]? = some (.cells #[.int .i64 x, .int .i64 y] 34) from box_on (heap_alloc_new _ _) (below_new _ _)))
  go_enter Try.func25, Try.ntmps25
  go_upto_region 1 with fail
  generalize (w.alloc (.cells #[.int .i64 x, .int .i64 y] 34)).alloc zG = X at *
  obtain ⟨k1, k2, _, _⟩ := HK0.out
  go_wp2_with fail
  refine (bbelow_b x y _).mono ?_
  rintro e y1 ⟨c, ⟨rfl, hc⟩, hb⟩
  have HC1 := Lib.hid hc
  have HB1 := Lib.hid (bt HB0.out hb)
  replace HR0 := Lib.hid (box_on HR0.out hb)
  clear hb hc k1 k2
  go_wp2_with fail
  refine (HW.out _ c HB1.out HC1.out).mono ?_
  rintro e y2 ⟨ap, n, cap, ⟨rfl, hp⟩, hb⟩
  have HP2 := Lib.hid hp
  have HB2 := Lib.hid (bt HB1.out hb)
  replace HR0 := Lib.hid (box_on HR0.out hb)
  clear hb hp
  go_wp2_with fail
  refine (HA.out ap n cap _ HP2.out HB2.out).mono ?_
  rintro e y3 ⟨rfl, hb⟩
  have HB3 := Lib.hid (bt HB2.out hb)
  replace HR0 := Lib.hid (box_on HR0.out hb)
  clear hb
  go_wp2_with fail
  refine (HD.out _ HB3.out).mono ?_
  rintro e y4 ⟨rfl, hb⟩
  have hR := box_on HR0.out hb
  have hBY := bt HB3.out hb
  clear hb
  obtain ⟨d0, d1, d2, d3, d4⟩ := five_cells (g := g0) hR
  have z0 := five_frozen (g := g0) hR 0
  have z1 := five_frozen (g := g0) hR 1
  have z2 := five_frozen (g := g0) hR 2
  have z3 := five_frozen (g := g0) hR 3
  have z4 := five_frozen (g := g0) hR 4
  obtain ⟨q0, q1, q2, q3, q4⟩ := five_cells (five_put (g := g0) hR g)
  have HE := Lib.hid (seg5_below (b := w.heap.size + 1) hBY (by omega) g)
  simp only [Nat.zero_add] at d1 d2 d3 d4 q1 q2 q3 q4
  clear hR hBY
  go_wp2_with fail
  refine bodyPost_ret (v := .tuple #[vG g, .bool b]) (by simp [results, Try.results25, go_sem, q0, q1, q2, q3, q4]) rfl ?_
  exact ⟨rfl, HE.out⟩
set_option maxHeartbeats 2000000 in
theorem bhigher_core (T : Nat) (x y : Int) (o : Option Addr) (g : G5) (b : Bool) (PW : Option Addr → Nat → Nat → World → Prop) (w : World)
    (HW : Hid (∀ W c, Go.RowKit.Below w.heap.size w W → W.heap[c]? = some (.cells #[.int .i64 x, .int .i64 y] 34) → Calls Try.prog 54 #[aP T, .func (.func 82) #[] #[.pointer (some ⟨c, 0, none⟩)]] W fun e w' => ∃ ap n cap, (e = .returned (.slice ap n cap) ∧ PW ap n cap w') ∧ Go.RowKit.Below W.heap.size W w'))
    (HA : Hid (∀ ap n cap W, PW ap n cap W → Go.RowKit.Below w.heap.size w W → Calls Try.prog 57 #[aP T, .slice ap n cap] W fun e w' => e = .returned (.pointer o) ∧ Go.RowKit.Below W.heap.size W w'))
    (HD : Hid (∀ W, Go.RowKit.Below w.heap.size w W → Calls Try.prog 52 #[.pointer o] W fun e w' => e = .returned (.tuple #[vG g, .bool b]) ∧ Go.RowKit.Below W.heap.size W w')) :
    Calls Try.prog 26 #[aP T, .agg #[.int .i64 x, .int .i64 y]] w fun e w' => e = .returned (.tuple #[vG g, .bool b]) ∧ Go.RowKit.Below w.heap.size w w' := by
  have mx := mixed
  have HR0 := Lib.hid (show ((w.alloc (.cells #[.int .i64 x, .int .i64 y] 34)).alloc zG).heap[w.heap.size + 1]? = some zG from new_at' _ (by simp))
  have HB0 := Lib.hid (bt (below_new w (.cells #[.int .i64 x, .int .i64 y] 34)) (below_new _ zG))
  have HK0 := Lib.hid (two_cells (show ((w.alloc (.cells #[.int .i64 x, .int .i64 y] 34)).alloc zG).heap[w.heap.size]? = some (.cells #[.int .i64 x, .int .i64 y] 34) from box_on (heap_alloc_new _ _) (below_new _ _)))
  go_enter Try.func26, Try.ntmps26
  go_upto_region 1 with fail
  generalize (w.alloc (.cells #[.int .i64 x, .int .i64 y] 34)).alloc zG = X at *
  obtain ⟨k1, k2, _, _⟩ := HK0.out
  go_wp2_with fail
  refine (bnotAbove_b x y _).mono ?_
  rintro e y1 ⟨c, ⟨rfl, hc⟩, hb⟩
  have HC1 := Lib.hid hc
  have HB1 := Lib.hid (bt HB0.out hb)
  replace HR0 := Lib.hid (box_on HR0.out hb)
  clear hb hc k1 k2
  go_wp2_with fail
  refine (HW.out _ c HB1.out HC1.out).mono ?_
  rintro e y2 ⟨ap, n, cap, ⟨rfl, hp⟩, hb⟩
  have HP2 := Lib.hid hp
  have HB2 := Lib.hid (bt HB1.out hb)
  replace HR0 := Lib.hid (box_on HR0.out hb)
  clear hb hp
  go_wp2_with fail
  refine (HA.out ap n cap _ HP2.out HB2.out).mono ?_
  rintro e y3 ⟨rfl, hb⟩
  have HB3 := Lib.hid (bt HB2.out hb)
  replace HR0 := Lib.hid (box_on HR0.out hb)
  clear hb
  go_wp2_with fail
  refine (HD.out _ HB3.out).mono ?_
  rintro e y4 ⟨rfl, hb⟩
  have hR := box_on HR0.out hb
  have hBY := bt HB3.out hb
  clear hb
  obtain ⟨d0, d1, d2, d3, d4⟩ := five_cells (g := g0) hR
  have z0 := five_frozen (g := g0) hR 0
  have z1 := five_frozen (g := g0) hR 1
  have z2 := five_frozen (g := g0) hR 2
  have z3 := five_frozen (g := g0) hR 3
  have z4 := five_frozen (g := g0) hR 4
  obtain ⟨q0, q1, q2, q3, q4⟩ := five_cells (five_put (g := g0) hR g)
  have HE := Lib.hid (seg5_below (b := w.heap.size + 1) hBY (by omega) g)
  simp only [Nat.zero_add] at d1 d2 d3 d4 q1 q2 q3 q4
  clear hR hBY
  go_wp2_with fail
  refine bodyPost_ret (v := .tuple #[vG g, .bool b]) (by simp [results, Try.results26, go_sem, q0, q1, q2, q3, q4]) rfl ?_
  exact ⟨rfl, HE.out⟩
set_option maxHeartbeats 2000000 in
theorem bfirst_core (T : Nat) (g : G5) (b : Bool) (w : World)
    (HN : Hid (∀ W, Calls Try.prog 48 #[] W fun e w' => e = .returned (.agg #[.int .i64 (-1), .int .i64 0]) ∧ Go.RowKit.Below W.heap.size W w'))
    (HD : Hid (∀ W, Go.RowKit.Below w.heap.size w W → Calls Try.prog 25 #[aP T, .agg #[.int .i64 (-1), .int .i64 0]] W fun e w' => e = .returned (.tuple #[vG g, .bool b]) ∧ Go.RowKit.Below W.heap.size W w')) :
    Calls Try.prog 30 #[aP T] w fun e w' => e = .returned (.tuple #[vG g, .bool b]) ∧ Go.RowKit.Below w.heap.size w w' := by
  have mx := mixed
  have HR0 := Lib.hid (heap_alloc_new w zG)
  have HB0 := Lib.hid (below_new w zG)
  go_enter Try.func30, Try.ntmps30
  go_wp2_with fail
  refine (HN.out _).mono ?_
  rintro e y1 ⟨rfl, hb⟩
  have HR1 := Lib.hid (box_on HR0.out hb)
  have HB1 := Lib.hid (bt HB0.out hb)
  clear hb
  go_wp2_with fail
  refine (HD.out _ HB1.out).mono ?_
  rintro e y2 ⟨rfl, hb⟩
  have hR := box_on HR1.out hb
  have hBY := bt HB1.out hb
  clear hb
  obtain ⟨d0, d1, d2, d3, d4⟩ := five_cells (g := g0) hR
  have z0 := five_frozen (g := g0) hR 0
  have z1 := five_frozen (g := g0) hR 1
  have z2 := five_frozen (g := g0) hR 2
  have z3 := five_frozen (g := g0) hR 3
  have z4 := five_frozen (g := g0) hR 4
  obtain ⟨q0, q1, q2, q3, q4⟩ := five_cells (five_put (g := g0) hR g)
  have HE := Lib.hid (seg5_below (b := w.heap.size) hBY (by omega) g)
  simp only [Nat.zero_add] at d1 d2 d3 d4 q1 q2 q3 q4
  clear hR hBY
  go_wp2_with fail
  refine bodyPost_ret (v := .tuple #[vG g, .bool b]) (by simp [results, Try.results30, go_sem, q0, q1, q2, q3, q4]) rfl ?_
  exact ⟨rfl, HE.out⟩
set_option maxHeartbeats 2000000 in
theorem blast_core (T : Nat) (g : G5) (b : Bool) (w : World)
    (HN : Hid (∀ W, Calls Try.prog 49 #[] W fun e w' => e = .returned (.agg #[.int .i64 1, .int .i64 0]) ∧ Go.RowKit.Below W.heap.size W w'))
    (HD : Hid (∀ W, Go.RowKit.Below w.heap.size w W → Calls Try.prog 23 #[aP T, .agg #[.int .i64 1, .int .i64 0]] W fun e w' => e = .returned (.tuple #[vG g, .bool b]) ∧ Go.RowKit.Below W.heap.size W w')) :
    Calls Try.prog 31 #[aP T] w fun e w' => e = .returned (.tuple #[vG g, .bool b]) ∧ Go.RowKit.Below w.heap.size w w' := by
  have mx := mixed
  have HR0 := Lib.hid (heap_alloc_new w zG)
  have HB0 := Lib.hid (below_new w zG)
  go_enter Try.func31, Try.ntmps31
  go_wp2_with fail
  refine (HN.out _).mono ?_
  rintro e y1 ⟨rfl, hb⟩
  have HR1 := Lib.hid (box_on HR0.out hb)
  have HB1 := Lib.hid (bt HB0.out hb)
  clear hb
  go_wp2_with fail
  refine (HD.out _ HB1.out).mono ?_
  rintro e y2 ⟨rfl, hb⟩
  have hR := box_on HR1.out hb
  have hBY := bt HB1.out hb
  clear hb
  obtain ⟨d0, d1, d2, d3, d4⟩ := five_cells (g := g0) hR
  have z0 := five_frozen (g := g0) hR 0
  have z1 := five_frozen (g := g0) hR 1
  have z2 := five_frozen (g := g0) hR 2
  have z3 := five_frozen (g := g0) hR 3
  have z4 := five_frozen (g := g0) hR 4
  obtain ⟨q0, q1, q2, q3, q4⟩ := five_cells (five_put (g := g0) hR g)
  have HE := Lib.hid (seg5_below (b := w.heap.size) hBY (by omega) g)
  simp only [Nat.zero_add] at d1 d2 d3 d4 q1 q2 q3 q4
  clear hR hBY
  go_wp2_with fail
  refine bodyPost_ret (v := .tuple #[vG g, .bool b]) (by simp [results, Try.results31, go_sem, q0, q1, q2, q3, q4]) rfl ?_
  exact ⟨rfl, HE.out⟩
end Go.Proofs.Ytjgcdmeojjnjlaa
/- A B-tree of a row: the ways down it, and what is told of a cut. -/
namespace Go.Proofs.Ytjgcdmeojjnjlaa.Bb
open Go.Proofs.Ytjgcdmeojjnjlaa.Bo
set_option linter.unusedVariables false
/-- Each node's segments stand in the row. -/
theorem rep_all {f : Int → Option Kn} : ∀ (h : Nat) (t : Bt), RepB f h t → ∀ k ∈ Bt.ids h t, ∃ n, f (k : Int) = some n ∧ n.segs.Sublist (Bt.ino h t) := by
  intro h
  induction h with
  | zero =>
    rintro t ⟨h1, h2⟩ k hk
    simp [Bt.ids] at hk
    subst hk
    exact ⟨_, h1, List.Sublist.refl _⟩
  | succ h ih =>
    intro t hr k hk
    simp only [Bt.ids, List.mem_cons, List.mem_flatMap] at hk
    rcases hk with rfl | ⟨c, hc, hk⟩
    · exact ⟨_, hr.1, ino_sub (h + 1) t hr⟩
    · obtain ⟨n, hn, hs⟩ := ih c (hr.2.2 c hc) k hk
      refine ⟨n, hn, hs.trans ?_⟩
      obtain ⟨i, hi, rfl⟩ := List.mem_iff_getElem.1 hc
      rw [kid_row h t hr i hi]
      exact (List.sublist_append_left _ _).trans (List.sublist_append_right _ _)
theorem TreeAt.node {d : Nat} {f : Int → Option Kn} {n : Nat} {root : Int} {L : List G5} (h : TreeAt d f n root L) (p : Int) (m : Kn) (hp : f p = some m) : m.segs.Sublist L := by
  rcases h with ⟨_, _, _, hf⟩ | ⟨H, x, z, hr, rfl⟩
  · rw [hf] at hp; cases hp
  · obtain ⟨k, hk, rfl⟩ := z.all p (by rw [hp]; simp)
    simp only [bcids, List.nil_append, List.flatMap_nil, List.append_nil] at hk
    obtain ⟨m', hm, hs⟩ := rep_all H x z.tree k hk
    rw [hp] at hm
    cases hm
    exact hs
end Go.Proofs.Ytjgcdmeojjnjlaa.Bb
namespace Go.Proofs.Ytjgcdmeojjnjlaa
open Go.RowKit Go.Sort Go.Proofs.Ytjgcdmeojjnjlaa.Bo Go.Proofs.Ytjgcdmeojjnjlaa.Bb
set_option linter.unusedVariables false
set_option maxRecDepth 100000
/-- What is told of a tree without its memory: it holds L. -/
structure BtOk (t : Bx) (d : Nat) (L : List G5) : Prop where
  dg : t.d = (d : Int)
  d2 : 2 ≤ d
  d64 : d ≤ 64
  tree : TreeAt d t.f t.n t.root L
  many : t.many = (L.length : Int)
  room : 0 ≤ t.room ∧ t.room ≤ 4096
  le : (L.length : Int) ≤ t.room
  row : RowOk L
  ok : ∀ g ∈ L, g.ok
theorem BtW.below {w w' : World} {base T A : Nat} {t : Bx} {a : Ag Rn} {S0 : Nat → Prop} (h : BtW w base T A t a S0) (hb : Go.RowKit.Below w.heap.size w w') : BtW w' base T A t a S0 :=
  h.kp (U := fun _ => False) (Kp.of_below _ hb) (fun _ _ => id)
section
variable {w : World} {base T A : Nat} {t : Bx} {a : Ag Rn} {S0 : Nat → Prop} {d : Nat} {L : List G5}
set_option maxHeartbeats 1000000 in
/-- A way in a tree without nodes. -/
theorem bway_nil (h : BtW w base T A t a S0) (hr : t.root = -1) (g : Fn) (cs ds : Array Value) :
    Calls Try.prog 54 #[aP T, .func g cs ds] w fun e w' => e = .returned (.slice none 0 0) ∧ Go.RowKit.Below w.heap.size w w' := by
  have mx := mixed
  have HH := Lib.hid h
  have HNO := Lib.hid h.noneg
  have HB0 := Lib.hid (below_new w (.cells #[.func g cs ds] 72))
  have hT := box_on h.top HB0.out
  have c1 : (w.alloc (.cells #[.func g cs ds] 72)).cell? ⟨T, 1, none⟩ = some (aP A) := (cell_of_row _ _ 1 _ _ _ hT).trans rfl
  have c2 : (w.alloc (.cells #[.func g cs ds] 72)).cell? ⟨T, 2, none⟩ = some (.int .i64 (-1)) := by rw [(cell_of_row _ _ 2 _ _ _ hT)]; simp [hr]
  clear hT h hr
  go_enter Try.func54, Try.ntmps54
  go_upto_region 2 with fail
  generalize w.alloc (.cells #[.func g cs ds] 72) = X at *
  go_wp2_with fail
  refine (bat_none (HH.out.below HB0.out) (-1) HNO.out).mono ?_
  rintro e w' ⟨rfl, rfl⟩
  have HN : Hid ((X.alloc (nbO (.pointer none))).heap[X.heap.size]? = some (nbO (.pointer none))) := heap_alloc_new _ _
  have HB1 := Lib.hid (bt HB0.out (below_new X (nbO (.pointer none))))
  clear c1 c2
  go_wp2_with fail
  go_loopw [5, 7] (fun wv bx wr => ∃ Bn, wv = .slice none 0 0 ∧ bx = .pointer (some ⟨Bn, 0, none⟩) ∧ wr.heap[Bn]? = some (nbO (.pointer none)) ∧ Go.RowKit.Below w.heap.size w wr) (fun _ _ _ => 0)
  case atStart => exact ⟨X.heap.size, rfl, rfl, HN.out, HB1.out⟩
  case round =>
    obtain ⟨Bn, rfl, rfl, hbn, hbr⟩ := hrel
    have c7 : wr.cell? ⟨Bn, 0, none⟩ = some (.pointer none) := (cell_of_row _ _ 0 _ _ _ hbn).trans rfl
    have HBR := Lib.hid hbr
    clear hbn hbr
    go_wp2_with fail
    go_ret
    exact ⟨rfl, HBR.out⟩
theorem key_mono_lt (L : List G5) (hR : RowOk L) (k : Int) : Mono (fun g => decide (g.key < k)) L := mono_of L hR (fun x => decide (x < k)) (fun a b h h1 => by simp at h1 ⊢; omega)
theorem key_mono_le (L : List G5) (hR : RowOk L) (k : Int) : Mono (fun g => decide (g.key ≤ k)) L := mono_of L hR (fun x => decide (x ≤ k)) (fun a b h h1 => by simp at h1 ⊢; omega)
/-- What is known of the steps that a question tells. -/
def WayOf (d : Nat) (t : Bx) (L : List G5) (fits : G5 → Bool) (xs : List (Int × Int)) : Prop :=
  (L = [] ∧ xs = [] ∧ ∀ p, t.f p = none) ∨ ∃ cx tl, Leaf d t.f t.n t.root L fits cx tl ∧ xs = wayRow fits (cx, tl)
theorem tree_high (ok : BtOk t d L) (H : Nat) (x : Bt) (z : Zo t.f t.n t.root H [] x []) (hr : DegR d H x) (hL : Bt.ino H x = L) : H ≤ 4096 := by
  have := degR_high d ok.d2 H x hr z.tree
  have := ok.le
  have := ok.room
  rw [hL] at *
  omega
theorem bway_any (h : BtW w base T A t a S0) (ok : BtOk t d L) (fits : G5 → Bool) (hm : Mono fits L) (fid : Nat) (s x : Int)
    (HW : ∀ (W : World) (c : Nat), Go.RowKit.Below w.heap.size w W → W.heap[c]? = some (.cells #[.int .i64 s, .int .i64 x] 34) → ∀ H (r : Bt), H ≤ 1000000 → RepB t.f H r → t.root = r.idx → Mono fits (Bt.ino H r) →
      Calls Try.prog 54 #[aP T, .func (.func fid) #[] #[.pointer (some ⟨c, 0, none⟩)]] W fun e w' => ∃ ap cap, (e = .returned (.slice ap (wayRow fits (dnB fits H r [])).length cap) ∧ w'.ownsRow W.heap.size 125 2 (.slice ap (wayRow fits (dnB fits H r [])).length cap) (wayRow fits (dnB fits H r [])).length (flat2 (wayRow fits (dnB fits H r [])))) ∧ Go.RowKit.Below W.heap.size W w') :
    ∃ xs, WayOf d t L fits xs ∧ xs.length ≤ 100000 ∧ ∀ (W : World) (c : Nat), Go.RowKit.Below w.heap.size w W → W.heap[c]? = some (.cells #[.int .i64 s, .int .i64 x] 34) →
      Calls Try.prog 54 #[aP T, .func (.func fid) #[] #[.pointer (some ⟨c, 0, none⟩)]] W fun e w' => ∃ ap n cap, (e = .returned (.slice ap n cap) ∧ n = xs.length ∧ w'.ownsRow W.heap.size 125 2 (.slice ap n cap) n (flat2 xs)) ∧ Go.RowKit.Below W.heap.size W w' := by
  rcases ok.tree with ⟨e1, e2, e3, e4⟩ | ⟨H, r, z, hr, hL⟩
  · refine ⟨[], .inl ⟨e1, rfl, e4⟩, Nat.zero_le _, fun W c hW hc => ?_⟩
    refine (bway_nil (h.below hW) e3 _ _ _).mono ?_
    rintro e w' ⟨rfl, hb⟩
    exact ⟨none, 0, 0, ⟨rfl, rfl, World.ownsRow_nil _ _ _ _⟩, hb⟩
  · have hH := tree_high ok H r z hr hL
    have hl := z.leaf hr fits (by rw [hL]; exact hm)
    rw [hL] at hl
    have hlen : (wayRow fits (dnB fits H r [])).length ≤ 100000 := by
      have w0 : WayB t.f fits H r (dnB fits H r []) := dnB_way fits H r H r [] rfl (by simp) trivial z.tree (by rw [hL]; exact hm) (fun g hg => by simp [bpre] at hg) (fun g hg => by simp [bpost] at hg) (fun y hy => by simp at hy)
      rw [wayRow_len, w0.len]; omega
    refine ⟨wayRow fits (dnB fits H r []), .inr ⟨_, _, hl, rfl⟩, hlen, fun W c hW hc => ?_⟩
    refine (HW W c hW hc H r (by omega) z.tree z.root (by rw [hL]; exact hm)).mono ?_
    rintro e w' ⟨ap, cap, ⟨rfl, ho⟩, hb⟩
    exact ⟨ap, _, cap, ⟨rfl, rfl, ho⟩, hb⟩
theorem tree_lens (ok : BtOk t d L) : (∀ p n, t.f p = some n → n.segs.length ≤ 100000) ∧ ∀ p n, t.f p = some n → ∀ y ∈ n.segs, I64 y.la := by
  refine ⟨fun p n hp => ?_, fun p n hp y hy => (ok.ok y ((ok.tree.node p n hp).subset hy)).1⟩
  have := (ok.tree.node p n hp).length_le
  have := ok.le
  have := ok.room
  omega
theorem bway_ltR (h : BtW w base T A t a S0) (ok : BtOk t d L) (s x : Int) (hx : I64 x) : ∃ xs, WayOf d t L (fun g => decide (g.key < key s x)) xs ∧ xs.length ≤ 100000 ∧ ∀ (W : World) (c : Nat), Go.RowKit.Below w.heap.size w W → W.heap[c]? = some (.cells #[.int .i64 s, .int .i64 x] 34) →
      Calls Try.prog 54 #[aP T, .func (.func 84) #[] #[.pointer (some ⟨c, 0, none⟩)]] W fun e w' => ∃ ap n cap, (e = .returned (.slice ap n cap) ∧ n = xs.length ∧ w'.ownsRow W.heap.size 125 2 (.slice ap n cap) n (flat2 xs)) ∧ Go.RowKit.Below W.heap.size W w' := by
  obtain ⟨l1, l2⟩ := tree_lens ok
  exact bway_any h ok _ (key_mono_lt L ok.row _) 84 s x (fun W c hW hc H r hH hr hroot hm => bway_lt (h.below hW) c s x hx hc H r hH hr hroot hm l1 l2)
theorem bway_leR (h : BtW w base T A t a S0) (ok : BtOk t d L) (s x : Int) (hx : I64 x) : ∃ xs, WayOf d t L (fun g => decide (g.key ≤ key s x)) xs ∧ xs.length ≤ 100000 ∧ ∀ (W : World) (c : Nat), Go.RowKit.Below w.heap.size w W → W.heap[c]? = some (.cells #[.int .i64 s, .int .i64 x] 34) →
      Calls Try.prog 54 #[aP T, .func (.func 82) #[] #[.pointer (some ⟨c, 0, none⟩)]] W fun e w' => ∃ ap n cap, (e = .returned (.slice ap n cap) ∧ n = xs.length ∧ w'.ownsRow W.heap.size 125 2 (.slice ap n cap) n (flat2 xs)) ∧ Go.RowKit.Below W.heap.size W w' := by
  obtain ⟨l1, l2⟩ := tree_lens ok
  exact bway_any h ok _ (key_mono_le L ok.row _) 82 s x (fun W c hW hc H r hH hr hroot hm => bway_le (h.below hW) c s x hx hc H r hH hr hroot hm l1 l2)
/-- Where a segment stands: the k-th of the node p. -/
def ptA (a : Ag Rn) (p : Int) (k : Nat) : Option Addr := (a.l.getD p.toNat bnZ).s.a.map fun ad => ⟨ad.block, k * 5, none⟩
theorem ptA_nat (a : Ag Rn) (p k sb : Nat) (h : (a.l.getD p bnZ).s.a = some ⟨sb, 0, none⟩) : ptA a (p : Int) k = some ⟨sb, k * 5, none⟩ := by
  unfold ptA
  rw [Int.toNat_natCast, h]
  rfl
def ptO (a : Ag Rn) : Option (Int × Nat) → Option Addr
  | none => none
  | some (p, k) => ptA a p k
theorem behI_find (f : Int → Option Kn) (l : List (Int × Int)) (h : ∀ x ∈ l, 0 ≤ x.2) : behI f l = (l.find? fun x => decide (x.2 < ((segsAt f x.1).length : Int))).map fun x => (x.1, x.2.toNat) := by
  induction l with
  | nil => rfl
  | cons x r ih =>
    have hx := h x (List.mem_cons_self ..)
    have ih := ih (fun y hy => h y (List.mem_cons_of_mem _ hy))
    unfold behI
    by_cases e : x.2 < ((segsAt f x.1).length : Int)
    · rw [if_pos (by omega), List.find?_cons_of_pos (by simpa using e)]; rfl
    · rw [if_neg (by omega), List.find?_cons_of_neg (by simpa using e)]; exact ih
theorem aheI_find (l : List (Int × Int)) : aheI l = (l.find? fun x => decide (0 < x.2)).map fun x => (x.1, x.2.toNat - 1) := by
  induction l with
  | nil => rfl
  | cons x r ih =>
    unfold aheI
    by_cases e : 0 < x.2
    · rw [if_pos e, List.find?_cons_of_pos (by simpa using e)]; rfl
    · rw [if_neg e, List.find?_cons_of_neg (by simpa using e)]; exact ih
/-- A step's node in memory. -/
theorem step_mem (h : BtW w base T A t a S0) (p : Nat) (m : Kn) (hp : t.f (p : Int) = some m) :
    ∃ g, w.cell? ⟨g, p * 3, none⟩ = some (.slice (a.l.getD p bnZ).s.a m.segs.length (a.l.getD p bnZ).s.c) ∧ (∀ W, Go.RowKit.Below w.heap.size w W → Calls Try.prog 50 #[aP A, .int .i64 (p : Int)] W fun e w' => e = .returned (.pointer (some ⟨g, p * 3, none⟩)) ∧ W = w') ∧
      ∀ k (hk : k < m.segs.length), ∃ sb, (a.l.getD p bnZ).s.a = some ⟨sb, 0, none⟩ ∧ Cells5 w sb (k * 5) m.segs[k] ∧ ∀ x, w.frozen? ⟨sb, x, none⟩ = false := by
  obtain ⟨g, _, h1, h2, h3, _⟩ := h.turnRow p m hp
  have hn := (h.node p m hp).nums.1
  have hs := (h.node p m hp).s
  refine ⟨g, by rw [h2, ← hn], h1, fun k hk => ?_⟩
  have hs' : w.ownsRow base 38 5 (.slice (a.l.getD p bnZ).s.a m.segs.length (a.l.getD p bnZ).s.c) m.segs.length (flatG m.segs) := by
    have e : (a.l.getD p bnZ).s.v = .slice (a.l.getD p bnZ).s.a m.segs.length (a.l.getD p bnZ).s.c := by rw [← hn]
    rw [← e]; exact hs
  obtain ⟨sb, e1, _, e3, e4⟩ := own_atG hs' rfl k hk
  exact ⟨sb, e1, e3, e4⟩
theorem bbehind_any {fits : G5 → Bool} (h : BtW w base T A t a S0) (ok : BtOk t d L) {xs : List (Int × Int)} (hw : WayOf d t L fits xs) (hN : xs.length ≤ 100000) (ap : Option Addr) (cap b2 : Nat)
    (ho : w.ownsRow b2 125 2 (.slice ap xs.length cap) xs.length (flat2 xs)) : Calls Try.prog 57 #[aP T, .slice ap xs.length cap] w fun e w' => e = .returned (.pointer (ptO a (behI t.f xs.reverse))) ∧ Go.RowKit.Below w.heap.size w w' := by
  have hst : ∀ x ∈ xs, ∃ (p i : Nat) (m : Kn), x = ((p : Int), (i : Int)) ∧ t.f (p : Int) = some m ∧ i ≤ m.segs.length := by
    rcases hw with ⟨_, rfl, _⟩ | ⟨cx, tl, hl, rfl⟩
    · intro x hx; simp at hx
    · intro x hx
      exact hl.steps x (by rw [wayRev_eq]; exact List.mem_reverse.2 hx)
  have hc := bbehind_core T A ap cap b2 xs t (fun x => decide (x.2 < ((segsAt t.f x.1).length : Int))) (fun x => ptA a x.1 x.2.toNat) w (Lib.hid h.top) ho (by omega) (Lib.hid fun x hx => by
    obtain ⟨p, i, m, rfl, hp, hi⟩ := hst x hx
    obtain ⟨g, h1, h2, h3⟩ := step_mem h p m hp
    have hlen := (tree_lens ok).1 _ _ hp
    have hsg : segsAt t.f (p : Int) = m.segs := by unfold segsAt; rw [hp]
    refine ⟨g, p * 3, _, m.segs.length, _, h1, h2, by simp, by omega, by rw [hsg], fun hlt => ?_⟩
    have hlt' : i < m.segs.length := by simpa using hlt
    obtain ⟨sb, e1, _⟩ := h3 i hlt'
    exact ⟨sb, e1, by show ptA a (p : Int) (i : Int).toNat = _; exact ptA_nat a p _ sb e1⟩)
  have e : ansI (fun x => decide (x.2 < ((segsAt t.f x.1).length : Int))) (fun x => ptA a x.1 x.2.toNat) xs.reverse = ptO a (behI t.f xs.reverse) := by
    unfold ansI
    rw [behI_find t.f xs.reverse (fun x hx => by obtain ⟨p, i, m, rfl, _⟩ := hst x (List.mem_reverse.1 hx); simp)]
    cases xs.reverse.find? (fun x => decide (x.2 < ((segsAt t.f x.1).length : Int))) <;> rfl
  rw [e] at hc
  exact hc
theorem bahead_any {fits : G5 → Bool} (h : BtW w base T A t a S0) (ok : BtOk t d L) {xs : List (Int × Int)} (hw : WayOf d t L fits xs) (hN : xs.length ≤ 100000) (ap : Option Addr) (cap b2 : Nat)
    (ho : w.ownsRow b2 125 2 (.slice ap xs.length cap) xs.length (flat2 xs)) : Calls Try.prog 53 #[aP T, .slice ap xs.length cap] w fun e w' => e = .returned (.pointer (ptO a (aheI xs.reverse))) ∧ Go.RowKit.Below w.heap.size w w' := by
  have hst : ∀ x ∈ xs, ∃ (p i : Nat) (m : Kn), x = ((p : Int), (i : Int)) ∧ t.f (p : Int) = some m ∧ i ≤ m.segs.length := by
    rcases hw with ⟨_, rfl, _⟩ | ⟨cx, tl, hl, rfl⟩
    · intro x hx; simp at hx
    · intro x hx
      exact hl.steps x (by rw [wayRev_eq]; exact List.mem_reverse.2 hx)
  have hc := bahead_core T A ap cap b2 xs t (fun x => decide (0 < x.2)) (fun x => ptA a x.1 (x.2.toNat - 1)) w (Lib.hid h.top) ho (by omega) (Lib.hid fun x hx => by
    obtain ⟨p, i, m, rfl, hp, hi⟩ := hst x hx
    obtain ⟨g, h1, h2, h3⟩ := step_mem h p m hp
    have hlen := (tree_lens ok).1 _ _ hp
    refine ⟨rfl, fun hlt => ?_⟩
    have hlt' : 0 < i := by simpa using hlt
    obtain ⟨sb, e1, _⟩ := h3 (i - 1) (by omega)
    exact ⟨g, p * 3, sb, m.segs.length, _, by rw [h1, e1], h2, by simpa using hi, by omega, by show ptA a (p : Int) ((i : Int).toNat - 1) = _; rw [Int.toNat_natCast]; exact ptA_nat a p _ sb e1⟩)
  have e : ansI (fun x => decide (0 < x.2)) (fun x => ptA a x.1 (x.2.toNat - 1)) xs.reverse = ptO a (aheI xs.reverse) := by
    unfold ansI
    rw [aheI_find]
    cases xs.reverse.find? (fun x => decide (0 < x.2)) <;> rfl
  rw [e] at hc
  exact hc
/-- What stands there. -/
def gAt (f : Int → Option Kn) : Option (Int × Nat) → Option G5
  | none => none
  | some (p, k) => (segsAt f p)[k]?
theorem gAt_some {f : Int → Option Kn} {p : Int} {k : Nat} {m : Kn} {g : G5} (h1 : f p = some m) (h2 : m.segs[k]? = some g) : gAt f (some (p, k)) = some g := by
  show (segsAt f p)[k]? = some g
  unfold segsAt
  rw [h1]; exact h2
theorem btold_any (h : BtW w base T A t a S0) (o : Option (Int × Nat)) (ho : o = none ∨ ∃ (p k : Nat) (m : Kn) (g : G5), o = some ((p : Int), k) ∧ t.f (p : Int) = some m ∧ m.segs[k]? = some g) :
    Calls Try.prog 52 #[.pointer (ptO a o)] w fun e w' => e = .returned (.tuple #[vG (opt (gAt t.f o)).1, .bool (opt (gAt t.f o)).2]) ∧ Go.RowKit.Below w.heap.size w w' := by
  rcases ho with rfl | ⟨p, k, m, g, rfl, hp, hg⟩
  · exact btold_no w
  · obtain ⟨gb, h1, h2, h3⟩ := step_mem h p m hp
    obtain ⟨hk, hgk⟩ := List.getElem?_eq_some_iff.1 hg
    obtain ⟨sb, e1, e2, _⟩ := h3 k hk
    have e3 : ptO a (some ((p : Int), k)) = some ⟨sb, k * 5, none⟩ := ptA_nat a p _ sb e1
    have e4 : gAt t.f (some ((p : Int), k)) = some g := gAt_some hp hg
    rw [e3, e4]
    rw [hgk] at e2
    exact btold_yes sb (k * 5) g w e2
theorem WayOf.behN {fits : G5 → Bool} {xs : List (Int × Int)} (hw : WayOf d t L fits xs) :
    (behI t.f xs.reverse = none ∨ ∃ (p k : Nat) (m : Kn) (g : G5), behI t.f xs.reverse = some ((p : Int), k) ∧ t.f (p : Int) = some m ∧ m.segs[k]? = some g) ∧ gAt t.f (behI t.f xs.reverse) = (L.filter fun g => !fits g).head? := by
  rcases hw with ⟨rfl, rfl, _⟩ | ⟨cx, tl, hl, rfl⟩
  · exact ⟨.inl rfl, rfl⟩
  · rw [← wayRev_eq]
    have hb := hl.behind
    rw [hl.filter.2]
    rcases hl.behT with ⟨k1, k2⟩ | ⟨p, k, m, g, k1, k2, k3, k4⟩
    · rw [k2] at hb
      rw [k1]
      exact ⟨.inl rfl, hb⟩
    · rw [k4] at hb
      rw [k1]
      exact ⟨.inr ⟨p, k, m, g, rfl, k2, k3⟩, by rw [← hb]; exact gAt_some k2 k3⟩
theorem WayOf.aheN {fits : G5 → Bool} {xs : List (Int × Int)} (hw : WayOf d t L fits xs) :
    (aheI xs.reverse = none ∨ ∃ (p k : Nat) (m : Kn) (g : G5), aheI xs.reverse = some ((p : Int), k) ∧ t.f (p : Int) = some m ∧ m.segs[k]? = some g) ∧ gAt t.f (aheI xs.reverse) = (L.filter fits).getLast? := by
  rcases hw with ⟨rfl, rfl, _⟩ | ⟨cx, tl, hl, rfl⟩
  · exact ⟨.inl rfl, rfl⟩
  · rw [← wayRev_eq]
    have hb := hl.ahead
    rw [hl.filter.1]
    rcases hl.ahe with ⟨k1, k2⟩ | ⟨p, k, m, g, k1, k2, k3, k4⟩
    · rw [k2] at hb
      rw [k1]
      exact ⟨.inl rfl, hb⟩
    · rw [k4] at hb
      rw [k1]
      exact ⟨.inr ⟨p, k, m, g, rfl, k2, k3⟩, by rw [← hb]; exact gAt_some k2 k3⟩
/-- The state of a call that only asks. -/
def WayRowAt (w : World) (xs : List (Int × Int)) (ap : Option Addr) (n cap : Nat) (W : World) : Prop := n = xs.length ∧ ∃ b, W.ownsRow b 125 2 (.slice ap n cap) n (flat2 xs)
theorem not_le_lt (k : Int) : (fun g : G5 => !decide (g.key ≤ k)) = fun g => decide (k < g.key) := by
  funext g; by_cases e : g.key ≤ k
  · simp [e]
  · simp [e, Int.not_le.1 e]
theorem not_lt_le (k : Int) : (fun g : G5 => !decide (g.key < k)) = fun g => decide (k ≤ g.key) := by
  funext g; by_cases e : g.key < k
  · simp [e]
  · simp [e, Int.not_lt.1 e]
theorem bfloor_any (h : BtW w base T A t a S0) (ok : BtOk t d L) (s x : Int) (hx : I64 x) : Calls Try.prog 23 #[aP T, .agg #[.int .i64 s, .int .i64 x]] w fun e w' => e = .returned (.tuple #[vG (nearG L (key s x) 0).1, .bool (nearG L (key s x) 0).2]) ∧ Go.RowKit.Below w.heap.size w w' := by
  obtain ⟨xs, hw, hN, HW⟩ := bway_leR h ok s x hx
  obtain ⟨n1, n2⟩ := hw.aheN
  rw [near0, ← n2]
  refine bfloor_core T s x (ptO a (aheI xs.reverse)) _ _ (WayRowAt w xs) w (Lib.hid fun W c hW hc => (HW W c hW hc).mono fun e w' ⟨ap, n, cap, ⟨h1, h2, h3⟩, h4⟩ => ⟨ap, n, cap, ⟨h1, h2, _, h3⟩, h4⟩) (Lib.hid ?_) (Lib.hid fun W hW => btold_any (h.below hW) _ n1)
  rintro ap n cap W ⟨rfl, b, ho⟩ hW
  exact bahead_any (h.below hW) ok hw hN ap cap b ho
theorem blower_any (h : BtW w base T A t a S0) (ok : BtOk t d L) (s x : Int) (hx : I64 x) : Calls Try.prog 24 #[aP T, .agg #[.int .i64 s, .int .i64 x]] w fun e w' => e = .returned (.tuple #[vG (nearG L (key s x) 1).1, .bool (nearG L (key s x) 1).2]) ∧ Go.RowKit.Below w.heap.size w w' := by
  obtain ⟨xs, hw, hN, HW⟩ := bway_ltR h ok s x hx
  obtain ⟨n1, n2⟩ := hw.aheN
  rw [near1, ← n2]
  refine blower_core T s x (ptO a (aheI xs.reverse)) _ _ (WayRowAt w xs) w (Lib.hid fun W c hW hc => (HW W c hW hc).mono fun e w' ⟨ap, n, cap, ⟨h1, h2, h3⟩, h4⟩ => ⟨ap, n, cap, ⟨h1, h2, _, h3⟩, h4⟩) (Lib.hid ?_) (Lib.hid fun W hW => btold_any (h.below hW) _ n1)
  rintro ap n cap W ⟨rfl, b, ho⟩ hW
  exact bahead_any (h.below hW) ok hw hN ap cap b ho
theorem bceil_any (h : BtW w base T A t a S0) (ok : BtOk t d L) (s x : Int) (hx : I64 x) : Calls Try.prog 25 #[aP T, .agg #[.int .i64 s, .int .i64 x]] w fun e w' => e = .returned (.tuple #[vG (nearG L (key s x) 2).1, .bool (nearG L (key s x) 2).2]) ∧ Go.RowKit.Below w.heap.size w w' := by
  obtain ⟨xs, hw, hN, HW⟩ := bway_ltR h ok s x hx
  obtain ⟨n1, n2⟩ := hw.behN
  rw [not_lt_le] at n2
  rw [near2, ← n2]
  refine bceil_core T s x (ptO a (behI t.f xs.reverse)) _ _ (WayRowAt w xs) w (Lib.hid fun W c hW hc => (HW W c hW hc).mono fun e w' ⟨ap, n, cap, ⟨h1, h2, h3⟩, h4⟩ => ⟨ap, n, cap, ⟨h1, h2, _, h3⟩, h4⟩) (Lib.hid ?_) (Lib.hid fun W hW => btold_any (h.below hW) _ n1)
  rintro ap n cap W ⟨rfl, b, ho⟩ hW
  exact bbehind_any (h.below hW) ok hw hN ap cap b ho
theorem bhigher_any (h : BtW w base T A t a S0) (ok : BtOk t d L) (s x : Int) (hx : I64 x) : Calls Try.prog 26 #[aP T, .agg #[.int .i64 s, .int .i64 x]] w fun e w' => e = .returned (.tuple #[vG (nearG L (key s x) 3).1, .bool (nearG L (key s x) 3).2]) ∧ Go.RowKit.Below w.heap.size w w' := by
  obtain ⟨xs, hw, hN, HW⟩ := bway_leR h ok s x hx
  obtain ⟨n1, n2⟩ := hw.behN
  rw [not_le_lt] at n2
  rw [near3, ← n2]
  refine bhigher_core T s x (ptO a (behI t.f xs.reverse)) _ _ (WayRowAt w xs) w (Lib.hid fun W c hW hc => (HW W c hW hc).mono fun e w' ⟨ap, n, cap, ⟨h1, h2, h3⟩, h4⟩ => ⟨ap, n, cap, ⟨h1, h2, _, h3⟩, h4⟩) (Lib.hid ?_) (Lib.hid fun W hW => btold_any (h.below hW) _ n1)
  rintro ap n cap W ⟨rfl, b, ho⟩ hW
  exact bbehind_any (h.below hW) ok hw hN ap cap b ho
/-- The place of the segment of a key. -/
def fndI (f : Int → Option Kn) (k : Int) (l : List (Int × Int)) : Option (Int × Nat) := match gAt f (behI f l) with
  | some g => if g.key = k then behI f l else none
  | none => none
theorem bfound_any {k : Int} (h : BtW w base T A t a S0) (ok : BtOk t d L) {xs : List (Int × Int)} (hw : WayOf d t L (fun g => decide (g.key < k)) xs) (hN : xs.length ≤ 100000) (ap : Option Addr) (cap b2 : Nat)
    (ho : w.ownsRow b2 125 2 (.slice ap xs.length cap) xs.length (flat2 xs)) (s x : Int) (hx : I64 x) (hk : k = key s x) : Calls Try.prog 59 #[aP T, .slice ap xs.length cap, .agg #[.int .i64 s, .int .i64 x]] w fun e w' => e = .returned (.pointer (ptO a (fndI t.f k xs.reverse))) ∧ Go.RowKit.Below w.heap.size w w' := by
  have hb : ∀ W, Go.RowKit.Below w.heap.size w W → Calls Try.prog 57 #[aP T, .slice ap xs.length cap] W fun e w' => e = .returned (.pointer (ptO a (behI t.f xs.reverse))) ∧ Go.RowKit.Below W.heap.size W w' := fun W hW => bbehind_any (h.below hW) ok hw hN ap cap b2 (own_on ho hW)
  unfold fndI
  rcases hw.behN.1 with e | ⟨p, i, m, g, e, hp, hg⟩
  · rw [e] at hb ⊢
    exact bfound_no T _ cap ap s x w (Lib.hid hb)
  · rw [e] at hb ⊢
    have e4 : gAt t.f (some ((p : Int), i)) = some g := gAt_some hp hg
    rw [e4]
    obtain ⟨gb, h1, h2, h3⟩ := step_mem h p m hp
    obtain ⟨hi, hgk⟩ := List.getElem?_eq_some_iff.1 hg
    obtain ⟨sb, e1, e2, _⟩ := h3 i hi
    have e3 : ptO a (some ((p : Int), i)) = some ⟨sb, i * 5, none⟩ := ptA_nat a p _ sb e1
    rw [e3] at hb
    rw [hgk] at e2
    have hgm : I64 g.la := (tree_lens ok).2 _ _ hp g (by rw [← hgk]; exact List.getElem_mem _)
    have := bfound_yes T xs.length cap sb (i * 5) ap s x g w hx hgm (Lib.hid hb) (Lib.hid e2)
    rw [hk]
    by_cases ek : g.key = key s x
    · rw [if_pos ek] at this
      dsimp only
      rw [if_pos ek, e3]; exact this
    · rw [if_neg ek] at this
      dsimp only
      rw [if_neg ek]; exact this
theorem fnd_cases {k : Int} {xs : List (Int × Int)} (hw : WayOf d t L (fun g => decide (g.key < k)) xs) :
    (fndI t.f k xs.reverse = none ∨ ∃ (p i : Nat) (m : Kn) (g : G5), fndI t.f k xs.reverse = some ((p : Int), i) ∧ t.f (p : Int) = some m ∧ m.segs[i]? = some g ∧ g.key = k) := by
  unfold fndI
  rcases hw.behN.1 with e | ⟨p, i, m, g, e, hp, hg⟩
  · rw [e]; exact .inl rfl
  · rw [e]
    have e4 : gAt t.f (some ((p : Int), i)) = some g := gAt_some hp hg
    rw [e4]
    dsimp only
    by_cases ek : g.key = k
    · rw [if_pos ek]; exact .inr ⟨p, i, m, g, rfl, hp, hg, ek⟩
    · rw [if_neg ek]; exact .inl rfl
/-- The same, told by the leaf. -/
theorem fnd_leaf {k : Int} {cx : List BF} {tl : Bt} (hl : Leaf d t.f t.n t.root L (fun g => decide (g.key < k)) cx tl) : gAt t.f (fndI t.f k (wayRev (fun g => decide (g.key < k)) (cx, tl))) = foundS k (stepsB (fun g => decide (g.key < k)) (cx, tl)) := by
  unfold fndI foundS
  rcases hl.behT with ⟨k1, k2⟩ | ⟨p, i, m, g, k1, k2, k3, k4⟩
  · rw [k1, k2]; rfl
  · rw [k1, k4]
    have e4 : gAt t.f (some ((p : Int), i)) = some g := gAt_some k2 k3
    rw [e4]
    dsimp only
    by_cases ek : g.key = k
    · rw [if_pos ek, if_pos ek, e4]
    · rw [if_neg ek, if_neg ek]; rfl
theorem bfirst_any (h : BtW w base T A t a S0) (ok : BtOk t d L) : Calls Try.prog 30 #[aP T] w fun e w' => e = .returned (.tuple #[vG (nearG L (key (-1) 0) 2).1, .bool (nearG L (key (-1) 0) 2).2]) ∧ Go.RowKit.Below w.heap.size w w' :=
  bfirst_core T _ _ w (Lib.hid fun W => (first_any W).mono fun e w' ⟨h1, h2⟩ => ⟨h1, h2.1⟩) (Lib.hid fun W hW => bceil_any (h.below hW) ok (-1) 0 (by unfold I64; omega))
theorem blast_any (h : BtW w base T A t a S0) (ok : BtOk t d L) : Calls Try.prog 31 #[aP T] w fun e w' => e = .returned (.tuple #[vG (nearG L (key 1 0) 0).1, .bool (nearG L (key 1 0) 0).2]) ∧ Go.RowKit.Below w.heap.size w w' :=
  blast_core T _ _ w (Lib.hid fun W => (last_any W).mono fun e w' ⟨h1, h2⟩ => ⟨h1, h2.1⟩) (Lib.hid fun W hW => bfloor_any (h.below hW) ok 1 0 (by unfold I64; omega))
end
end Go.Proofs.Ytjgcdmeojjnjlaa
/- A thing is put into an arena, whatever it is. No Go in sight. -/
namespace Go.Proofs.Ytjgcdmeojjnjlaa.Bo
set_option linter.unusedVariables false
variable {α : Type}
theorem bgetD_set_self (l : List α) (i : Nat) (v z : α) (h : i < l.length) : (l.set i v).getD i z = v := by
  rw [List.getD_eq_getElem?_getD, List.getElem?_set]; simp [h]
theorem bgetD_set_ne (l : List α) (i j : Nat) (v z : α) (h : i ≠ j) : (l.set i v).getD j z = l.getD j z := by
  rw [List.getD_eq_getElem?_getD, List.getD_eq_getElem?_getD, List.getElem?_set]; simp [h]
structure PutsA (z : α) (a : Ag α) (v : α) (i : Nat) (b : Ag α) : Prop where
  ok : b.ok
  was : a.is (i : Int) = false
  at_ : b.l.getD i z = v
  other : ∀ j : Nat, j ≠ i → a.is (j : Int) = true → b.l.getD j z = a.l.getD j z
  is : ∀ j : Int, b.is j = true ↔ j = (i : Int) ∨ a.is j = true
  room : b.room = a.room
  len : b.len = a.len + 1
theorem putsA_take (z : α) (a : Ag α) (fs : List Int) (f : Nat) (v : α) (h : a.ok) (hf : a.free = fs ++ [(f : Int)]) (hr : a.len < a.room) : PutsA z a v f (a.take fs f v) := by
  have hfi := h.free (f : Int) (by rw [hf]; simp)
  have hev := h.ever
  have hlt : f < a.l.length := by omega
  have hnd := h.once
  rw [hf, List.nodup_append] at hnd
  have hnot : (f : Int) ∉ fs := fun h => hnd.2.2 _ h _ (List.mem_singleton.2 rfl) rfl
  have his : ∀ j : Int, (a.take fs f v).is j = true ↔ j = (f : Int) ∨ a.is j = true := by
    intro j
    rw [Ag.is_iff, Ag.is_iff, hf]
    show j ∉ fs ∧ 0 ≤ j ∧ j < a.ever ↔ _
    rw [List.mem_append, List.mem_singleton]
    constructor
    · rintro ⟨h1, h2, h3⟩
      by_cases e : j = (f : Int)
      · exact .inl e
      · exact .inr ⟨fun k => k.elim h1 e, h2, h3⟩
    · rintro (rfl | ⟨h1, h2, h3⟩)
      · exact ⟨hnot, hfi.1, hfi.2⟩
      · exact ⟨fun k => h1 (.inl k), h2, h3⟩
  refine ⟨a.take_ok fs f v h hf hr, ?_, bgetD_set_self _ _ _ _ hlt, fun j hj _ => bgetD_set_ne _ _ _ _ _ (fun e => hj e.symm), his, rfl, ?_⟩
  · cases e : a.is (f : Int) with
    | false => rfl
    | true => exact absurd (by rw [hf]; simp) ((a.is_iff _).1 e).1
  · show a.ever - (fs.length : Int) = a.ever - (a.free.length : Int) + 1
    rw [hf]; simp; omega
theorem putsA_grow (z : α) (a : Ag α) (v : α) (h : a.ok) (hf : a.free = []) (hr : a.len < a.room) : PutsA z a v a.l.length (a.grow v) := by
  have hev := h.ever
  have his : ∀ j : Int, (a.grow v).is j = true ↔ j = (a.l.length : Int) ∨ a.is j = true := by
    intro j
    rw [Ag.is_iff, Ag.is_iff]
    show j ∉ a.free ∧ 0 ≤ j ∧ j < a.ever + 1 ↔ _
    rw [hf]
    simp only [List.not_mem_nil, not_false_eq_true, true_and]
    omega
  refine ⟨a.grow_ok v h hf hr, ?_, ?_, fun j hj k => ?_, his, rfl, ?_⟩
  · cases e : a.is (a.l.length : Int) with
    | false => rfl
    | true => have := ((a.is_iff _).1 e).2.2; omega
  · show (a.l ++ [v]).getD a.l.length z = v
    rw [List.getD_eq_getElem?_getD, List.getElem?_append_right (Nat.le_refl _)]; simp
  · have := ((a.is_iff _).1 k).2.2
    show (a.l ++ [v]).getD j z = _
    rw [List.getD_eq_getElem?_getD, List.getD_eq_getElem?_getD, List.getElem?_append_left (by omega)]
  · show a.ever + 1 - (a.free.length : Int) = a.ever - (a.free.length : Int) + 1
    omega
end Go.Proofs.Ytjgcdmeojjnjlaa.Bo
/- A node is put into the tree's arena. -/
namespace Go.Proofs.Ytjgcdmeojjnjlaa
open Go.RowKit Go.Sort Go.Proofs.Ytjgcdmeojjnjlaa.Bo Go.Proofs.Ytjgcdmeojjnjlaa.Bb
set_option linter.unusedVariables false
theorem BtW.hold_of {w w' : World} {base T A : Nat} {t : Bx} {a a' : Ag Rn} {S0 S' : Nat → Prop} {p : Nat} {r : Rn} {n : Kn} (h : BtW w base T A t a S0) (hn : NdAt w base r n) (hfar : ∀ b, rowB r b → ¬ btS T t a S0 b)
    (hp : PutsA bnZ a r p a') (hA : bnIs w' base A a' S') (hk : Kp S0 w w') (hs : ∀ b, S' b → S0 b ∨ w.heap.size ≤ b) :
    t.f (p : Int) = none ∧ BtW w' base T A { t with n := t.n + 1, f := updK t.f (p : Int) (some n) } a' S' ∧ Kp (btS T t a S0) w w' ∧ ∀ b, btS T { t with n := t.n + 1, f := updK t.f (p : Int) (some n) } a' S' b → btS T t a S0 b ∨ rowB r b ∨ w.heap.size ≤ b := by
  have hnone : t.f (p : Int) = none := by
    cases e : t.f (p : Int) with
    | none => rfl
    | some m => have := (h.is (p : Int)).2 (by rw [e]; simp); rw [hp.was] at this; cases this
  have hgd : ∀ q : Nat, q ≠ p → t.f (q : Int) ≠ none → a'.l.getD q bnZ = a.l.getD q bnZ := fun q hq hf => hp.other q hq ((h.is _).2 hf)
  have hff : ∀ q : Nat, q ≠ p → (updK t.f (p : Int) (some n) (q : Int) = t.f (q : Int)) := fun q hq => by unfold updK; rw [if_neg (by omega)]
  have hpp : updK t.f (p : Int) (some n) (p : Int) = some n := by unfold updK; rw [if_pos rfl]
  have hlt : ∀ q : Nat, t.f (q : Int) ≠ none → ∀ b, rowB (a.l.getD q bnZ) b → b < w.heap.size := fun q hq b hb => by
    obtain ⟨m, _, hm⟩ := h.isn q hq
    exact (hm.lt b hb).2
  refine ⟨hnone, { top := hk.at h.top h.notT, le := h.le, ar := hA, ok := hp.ok, room := hp.room.trans h.room, len := ?_, is := ?_, node := ?_, apart := ?_, far := ?_ }, hk.mono (fun b hb => .inr (.inl hb)), ?_⟩
  · rw [hp.len, h.len]; show _ = ((t.n + 1 : Nat) : Int); omega
  · intro i
    refine (hp.is i).trans ?_
    show _ ↔ updK t.f (p : Int) (some n) i ≠ none
    unfold updK
    by_cases e : i = p
    · rw [if_pos e]; simp [e]
    · rw [if_neg e]
      exact ⟨fun k => (h.is i).1 (k.resolve_left e), fun k => .inr ((h.is i).2 k)⟩
  · intro q n1 hq
    have hq : updK t.f (p : Int) (some n) (q : Int) = some n1 := hq
    by_cases e : q = p
    · subst e
      rw [hpp] at hq
      cases hq
      rw [hp.at_]
      exact hn.kp hk (fun b hb hb0 => hfar b hb (.inr (.inl hb0)))
    · rw [hff q e] at hq
      have hq' : t.f (q : Int) ≠ none := by rw [hq]; simp
      rw [hgd q e hq']
      exact (h.node q n1 hq).kp hk (h.far q hq')
  · intro q1 q2 g1 g2 hne b hb
    have k1 : updK t.f (p : Int) (some n) (q1 : Int) ≠ none := g1
    have k2 : updK t.f (p : Int) (some n) (q2 : Int) ≠ none := g2
    by_cases e1 : q1 = p
    · subst e1
      have e2 : q2 ≠ q1 := fun e => hne e.symm
      rw [hff q2 e2] at k2
      rw [hp.at_] at hb
      rw [hgd q2 e2 k2]
      exact fun k => hfar b hb (.inr (.inr ⟨q2, k2, k⟩))
    · rw [hff q1 e1] at k1
      rw [hgd q1 e1 k1] at hb
      by_cases e2 : q2 = p
      · subst e2
        rw [hp.at_]
        exact fun k => hfar b k (.inr (.inr ⟨q1, k1, hb⟩))
      · rw [hff q2 e2] at k2
        rw [hgd q2 e2 k2]
        exact h.apart q1 q2 k1 k2 hne b hb
  · intro q hq b hb hb'
    have hq : updK t.f (p : Int) (some n) (q : Int) ≠ none := hq
    by_cases e : q = p
    · subst e
      rw [hp.at_] at hb
      rcases hs b hb' with k | k
      · exact hfar b hb (.inr (.inl k))
      · have := (hn.lt b hb).2; omega
    · rw [hff q e] at hq
      rw [hgd q e hq] at hb
      rcases hs b hb' with k | k
      · exact h.far q hq b hb k
      · have := hlt q hq b hb; omega
  · rintro b (rfl | hb | ⟨q, hq, hb⟩)
    · exact .inl (.inl rfl)
    · rcases hs b hb with k | k
      · exact .inl (.inr (.inl k))
      · exact .inr (.inr k)
    · have hq : updK t.f (p : Int) (some n) (q : Int) ≠ none := hq
      by_cases e : q = p
      · subst e
        rw [hp.at_] at hb
        exact .inr (.inl hb)
      · rw [hff q e] at hq
        rw [hgd q e hq] at hb
        exact .inl (.inr (.inr ⟨q, hq, hb⟩))
/-- A node of its own rows takes a place. -/
theorem bput_any {w : World} {base T A : Nat} {t : Bx} {a : Ag Rn} {S0 : Nat → Prop} {r : Rn} {n : Kn} (h : BtW w base T A t a S0) (hn : NdAt w base r n) (hfar : ∀ b, rowB r b → ¬ btS T t a S0 b) (hroom : (t.n : Int) < t.room) :
    Calls Try.prog 108 #[aP A, .agg #[.slice r.s.a r.s.n r.s.c, .slice r.k.a r.k.n r.k.c]] w fun e w' => ∃ (p : Nat) (a' : Ag Rn) (S' : Nat → Prop), e = .returned (.tuple #[.int .i64 (p : Int), .int .i64 0]) ∧
      t.f (p : Int) = none ∧ BtW w' base T A { t with n := t.n + 1, f := updK t.f (p : Int) (some n) } a' S' ∧ Kp (btS T t a S0) w w' ∧ ∀ b, btS T { t with n := t.n + 1, f := updK t.f (p : Int) (some n) } a' S' b → btS T t a S0 b ∨ rowB r b ∨ w.heap.size ≤ b := by
  have hr : a.len < a.room := by rw [h.len, h.room]; exact hroom
  rcases List.eq_nil_or_concat a.free with hf | ⟨fs, f, hf⟩
  · refine (bnput_grow h.ar h.ok r hf hr).mono ?_
    rintro e w' ⟨S', ⟨rfl, hA⟩, hk, hs⟩
    refine ⟨a.l.length, a.grow r, S', by rw [h.ok.ever], h.hold_of hn hfar (putsA_grow bnZ a r h.ok hf hr) hA hk hs⟩
  · have hf' : a.free = fs ++ [f] := by rw [hf]; simp
    have hfi := h.ok.free f (by rw [hf']; simp)
    obtain ⟨m, rfl⟩ : ∃ m : Nat, f = (m : Int) := ⟨f.toNat, by omega⟩
    refine (bnput_take h.ar h.ok r fs m hf' hr).mono ?_
    rintro e w' ⟨S', ⟨rfl, hA⟩, hk, hs⟩
    exact ⟨m, a.take fs m r, S', rfl, h.hold_of hn hfar (putsA_take bnZ a fs m r h.ok hf' hr) hA hk hs⟩
end Go.Proofs.Ytjgcdmeojjnjlaa
/- A node's place is given back. -/
namespace Go.Proofs.Ytjgcdmeojjnjlaa
open Go.RowKit Go.Sort Go.Proofs.Ytjgcdmeojjnjlaa.Bo Go.Proofs.Ytjgcdmeojjnjlaa.Bb
set_option linter.unusedVariables false
theorem bfree_any {w : World} {base T A : Nat} {t : Bx} {a : Ag Rn} {S0 : Nat → Prop} (h : BtW w base T A t a S0) (p : Nat) (hp : t.f (p : Int) ≠ none) (m : Nat) (hm : t.n = m + 1) :
    Calls Try.prog 104 #[aP A, .int .i64 (p : Int)] w fun e w' => ∃ S', e = .returned (.bool true) ∧
      BtW w' base T A { t with n := m, f := updK t.f (p : Int) none } (a.drop (p : Int)) S' ∧ Kp (btS T t a S0) w w' ∧ ∀ b, btS T { t with n := m, f := updK t.f (p : Int) none } (a.drop (p : Int)) S' b → btS T t a S0 b ∨ w.heap.size ≤ b := by
  have hi := (h.is (p : Int)).2 hp
  refine (bnfree_yes h.ar h.ok p hi).mono ?_
  rintro e w' ⟨S', ⟨rfl, hA⟩, hk, hs⟩
  have hff : ∀ (q : Int) (n1 : Kn), updK t.f (p : Int) none q = some n1 → q ≠ (p : Int) ∧ t.f q = some n1 := fun q n1 hq => by
    unfold updK at hq
    by_cases e : q = (p : Int)
    · rw [if_pos e] at hq; cases hq
    · rw [if_neg e] at hq; exact ⟨e, hq⟩
  have hfn : ∀ q : Int, updK t.f (p : Int) none q ≠ none → t.f q ≠ none := fun q hq => by
    obtain ⟨n1, e⟩ := Option.ne_none_iff_exists'.1 hq
    rw [(hff q n1 e).2]; simp
  refine ⟨S', rfl, { top := hk.at h.top h.notT, le := h.le, ar := hA, ok := a.drop_ok (p : Int) h.ok hi, room := h.room, len := ?_, is := ?_, node := ?_, apart := ?_, far := ?_ }, hk.mono (fun b hb => .inr (.inl hb)), ?_⟩
  · have h1 := h.len
    rw [hm] at h1
    show a.ever - ((a.free ++ [(p : Int)]).length : Int) = (m : Int)
    have h2 : a.ever - (a.free.length : Int) = ((m + 1 : Nat) : Int) := h1
    rw [List.length_append]
    simp only [List.length_cons, List.length_nil]
    omega
  · intro i
    show (a.drop (p : Int)).is i = true ↔ updK t.f (p : Int) none i ≠ none
    rw [Ag.is_iff]
    show i ∉ a.free ++ [(p : Int)] ∧ 0 ≤ i ∧ i < a.ever ↔ _
    rw [List.mem_append, List.mem_singleton]
    unfold updK
    by_cases e : i = (p : Int)
    · rw [if_pos e]; simp [e]
    · rw [if_neg e, ← h.is i, Ag.is_iff]
      exact ⟨fun k => ⟨fun k1 => k.1 (.inl k1), k.2⟩, fun k => ⟨fun k1 => k1.elim k.1 e, k.2⟩⟩
  · intro q n1 hq
    obtain ⟨_, h2⟩ := hff q n1 hq
    exact (h.node q n1 h2).kp hk (h.far q (by rw [h2]; simp))
  · intro q1 q2 g1 g2 hne b hb
    exact h.apart q1 q2 (hfn _ g1) (hfn _ g2) hne b hb
  · intro q hq b hb hb'
    have hq := hfn _ hq
    obtain ⟨n1, _, hn1⟩ := h.isn q hq
    rcases hs b hb' with k | k
    · exact h.far q hq b hb k
    · have := (hn1.lt b hb).2; omega
  · rintro b (rfl | hb | ⟨q, hq, hb⟩)
    · exact .inl (.inl rfl)
    · rcases hs b hb with k | k
      · exact .inl (.inr (.inl k))
      · exact .inr k
    · exact .inl (.inr (.inr ⟨q, hfn _ hq, hb⟩))
end Go.Proofs.Ytjgcdmeojjnjlaa
