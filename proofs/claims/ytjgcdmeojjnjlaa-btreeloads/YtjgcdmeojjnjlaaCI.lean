/- A part of the proof: contracts of the functions that the statements reach. -/
import Derived.RangeFuncNested
import Derived.RangeFuncBound
import Derived.RangeFuncCalls
import Derived.RangeFuncLeaves
import Derived.Shelf.Abstract
import Derived.Shelf.RegionOpen
import Derived.WalkKit
import Derived.OwnWalkIn
import Derived.TacticsInMore
import Derived.LoopNIn
import Derived.LoopIn
import Derived.Shelf.SlSortCmp.WholeK
import Derived.WalkSpells
import Derived.WalkLawsBesides
import Derived.Lib.Hide
import Derived.Laws.StructEq
import Derived.Shelf.SlSortCmp.QuietGrown
import Derived.Laws.EntriesVeiled
import Derived.Deep.CutRange
import Derived.RegionTactic
import Derived.Lib.QuietBelow
import Derived.BigQuiet
import Derived.OpenShut
import Derived.Deep.RegionHeld3
import Derived.Deep.QuietTactic
import Derived.Maps.AppendAt
import Derived.Laws.IdiomCopy
import Derived.Deep.AppendLies
import Derived.Deep.LoopGhost
import Derived.Deep.Upon
import Derived.StillTailTactics
import Derived.Lib.SmallJoins
import Derived.Deep.SlicePairs
import Derived.Deep.Strs
import Derived.ChangeOld
import Derived.SizedLaws
import Derived.Lib.SliceRun
import Derived.Laws.CopyRow
import Derived.Below
import Derived.Laws.CopyOwn
import Derived.Deep.RegionLaw
import Derived.IntWalk
import Derived.Test.YtjgcdmeojjnjlaaCH

/- grow: a new root. -/
namespace Go.Proofs.Ytjgcdmeojjnjlaa
open Go.RowKit Go.Sort Go.Proofs.Ytjgcdmeojjnjlaa.Bo Go.Proofs.Ytjgcdmeojjnjlaa.Bb
set_option linter.unusedVariables false
set_option maxRecDepth 100000
theorem own_one5 (W : World) (s : G5) (base : Nat) (hb : base ≤ W.heap.size) : (W.alloc (oG s)).ownsRow base 38 5 (.slice (some ⟨W.heap.size, 0, none⟩) 1 1) 1 (flatG [s]) :=
  ⟨rfl, .inr ⟨W.heap.size, 1, _, rfl, hb, heap_alloc_new _ _, Nat.le_refl _, by decide, rfl, rfl⟩⟩
theorem own_two1 (W : World) (i j : Int) (base : Nat) (hb : base ≤ W.heap.size) : (W.alloc (.cells #[.int .i64 i, .int .i64 j] 3)).ownsRow base 3 1 (.slice (some ⟨W.heap.size, 0, none⟩) 2 2) 2 ([i, j].map nv) :=
  ⟨rfl, .inr ⟨W.heap.size, 2, _, rfl, hb, heap_alloc_new _ _, Nat.le_refl _, by decide, rfl, rfl⟩⟩
theorem BtH.base_le {w0 W : World} {S B : Nat → Prop} {base T A : Nat} {t : Bx} (h : BtH w0 S B base T A t W) : base ≤ W.heap.size := by obtain ⟨a, S0, h1, _⟩ := h; exact BtIs.base_le ⟨a, S0, rfl, h1⟩
set_option maxHeartbeats 4000000 in
theorem BtH.growL {w0 W : World} {S B : Nat → Prop} {base T A : Nat} {t : Bx} (h : BtH w0 S B base T A t W) (s : G5) (behind : Int) (hr : t.root = -1) (hroom : (t.n : Int) < t.room) :
    Calls Try.prog 92 #[aP T, vG s, .int .i64 behind] W fun e w' => e = .returned (.tuple #[]) ∧ ∃ q : Nat, t.f (q : Int) = none ∧ BtH w0 S B base T A { t with n := t.n + 1, f := updK t.f (q : Int) (some ⟨[s], []⟩), root := (q : Int) } w' ∧ ∀ b, B b → w'.heap[b]? = W.heap[b]? := by
  have mx := mixed
  have b80 : ∀ (W : World) (a : Option Addr) (m c : Nat), (Instr.build 80 #[(0, .slice a m c)]).run Try.prog W = .ok (.agg #[.slice a m c, .slice none 0 0]) W := fun W a m c => run_build W _ _ _ (by kernel_rfl)
  obtain ⟨X1, hX1⟩ : ∃ X, X = W.alloc (oG s) := ⟨_, rfl⟩
  obtain ⟨X2, hX2⟩ : ∃ X, X = X1.alloc (oG s) := ⟨_, rfl⟩
  obtain ⟨X3, hX3⟩ : ∃ X, X = X2.alloc (ndO ⟨⟨some ⟨W.heap.size + 1, 0, none⟩, 1, 1⟩, ⟨none, 0, 0⟩⟩) := ⟨_, rfl⟩
  have z1 : X1.heap.size = W.heap.size + 1 := by rw [hX1]; simp
  have z2 : X2.heap.size = W.heap.size + 1 + 1 := by rw [hX2]; simp [z1]
  have z3 : X3.heap.size = W.heap.size + 1 + 1 + 1 := by rw [hX3]; simp [z2]
  have B3 : Go.RowKit.Below W.heap.size W X3 := by rw [hX3, hX2, hX1]; exact bt (bt (below_new _ _) (below_new _ _)) (below_new _ _)
  have n3 : X3.heap[W.heap.size + 1 + 1]? = some (ndO ⟨⟨some ⟨W.heap.size + 1, 0, none⟩, 1, 1⟩, ⟨none, 0, 0⟩⟩) := by rw [← z2, hX3]; exact heap_alloc_new _ _
  have o3 : X3.ownsRow base 38 5 (.slice (some ⟨W.heap.size + 1, 0, none⟩) 1 1) 1 (flatG [s]) := by
    rw [← z1, hX3]
    refine own_on ?_ (below_new _ _)
    rw [hX2]
    exact own_one5 X1 s base (by have := h.base_le; omega)
  have HX3 := Lib.hid hX3
  have HX2 := Lib.hid hX2
  have HX1 := Lib.hid hX1
  have HN3 := Lib.hid n3
  have HO3 := Lib.hid o3
  have HZ3 := Lib.hid z3
  have HB3 := Lib.hid B3
  have H3 := Lib.hid (h.keep (C := fun b => B b ∨ (W.heap.size ≤ b ∧ b < X3.heap.size)) B3 (fun b hb => hb))
  have HKB3 : Hid (∀ b, B b → X3.heap[b]? = W.heap[b]?) := fun b hb => B3.block b (h.size b hb).2
  have HW := Lib.hid h
  have k0 := five_cells (show X1.heap[W.heap.size]? = some (oG s) by rw [hX1]; exact heap_alloc_new _ _)
  rw [hX1] at k0
  obtain ⟨k1, k2, k3, k4, k5⟩ := k0
  have ct : X3.cell? ⟨T, 2, none⟩ = some (.int .i64 t.root) := (cell_of_row _ _ 2 _ _ _ H3.out.top).trans rfl
  simp only [Nat.zero_add] at k1 k2 k3 k4 k5
  clear hX1 hX2 hX3 z1 z2 z3 n3 o3 B3 h
  go_enter Try.func92, Try.ntmps92
  go_upto_region 2 with fail
  rw [← HX1.out, ← HX2.out]
  first | rw [← HX3.out] | skip
  have tr : (t.root != -1) = false := by simp [hr]
  have tr2 : t.root = -1 := hr
  have HNA : Hid (NdAt X3 base ⟨⟨some ⟨W.heap.size + 1, 0, none⟩, 1, 1⟩, ⟨none, 0, 0⟩⟩ ⟨[s], []⟩) := ⟨HO3.out, World.ownsRow_nil _ _ _ _⟩
  have HRB : Hid (∀ b, rowB ⟨⟨some ⟨W.heap.size + 1, 0, none⟩, 1, 1⟩, ⟨none, 0, 0⟩⟩ b → b = W.heap.size + 1) := fun b hb => hb.elim (fun q => by injection q with q; exact q.symm) (fun q => by cases q)
  go_upto_region 4 with fail
  have HH := Lib.hid (H3.out.hold (C := fun b => B b ∨ b = W.heap.size + 1 + 1) ⟨⟨some ⟨W.heap.size + 1, 0, none⟩, 1, 1⟩, ⟨none, 0, 0⟩⟩ ⟨[s], []⟩ HNA.out (fun b hb => by
    have := HRB.out b hb
    have := HW.out.kp.size
    have := HZ3.out
    exact ⟨by omega, .inr ⟨by omega, by omega⟩⟩) hroom (fun b hb => ⟨hb.imp id (fun e => by have := HZ3.out; exact ⟨by omega, by omega⟩), fun hr => by
      have h1 := HRB.out b hr
      rcases hb with hb | hb
      · have := (HW.out.size b hb).2; omega
      · omega⟩))
  obtain ⟨c1, c2⟩ := nd_cells HN3.out
  clear ct
  go_wp2_with fail
  refine HH.out.mono ?_
  rintro e y ⟨q, rfl, hno, hst, hkb⟩
  have HNO := Lib.hid hno
  obtain ⟨hs1, hs2⟩ := hst.setRoot (q : Int)
  have HS1 := Lib.hid hs1
  have HS2 := Lib.hid hs2
  have HKY := Lib.hid hkb
  have tc : y.cell? ⟨T, 2, none⟩ = some (.int .i64 t.root) := (cell_of_row _ _ 2 _ _ _ hst.top).trans rfl
  have tf : y.frozen? ⟨T, 2, none⟩ = false := frozen_of_row _ _ 2 _ _ hst.top
  clear hno hst hkb hs1 hs2 HH
  go_wp2_with fail
  go_end0
  refine ⟨rfl, q, HNO.out, HS1.out.less (fun b hb => .inl hb), fun b hb => (HS2.out b (.inl hb)).trans ((HKY.out b (.inl hb)).trans (HKB3.out b hb))⟩
set_option maxHeartbeats 4000000 in
theorem BtH.growK {w0 W : World} {S B : Nat → Prop} {base T A : Nat} {t : Bx} (h : BtH w0 S B base T A t W) (s : G5) (behind : Int) (hr : t.root ≠ -1) (hroom : (t.n : Int) < t.room) :
    Calls Try.prog 92 #[aP T, vG s, .int .i64 behind] W fun e w' => e = .returned (.tuple #[]) ∧ ∃ q : Nat, t.f (q : Int) = none ∧ BtH w0 S B base T A { t with n := t.n + 1, f := updK t.f (q : Int) (some ⟨[s], [t.root, behind]⟩), root := (q : Int) } w' ∧ ∀ b, B b → w'.heap[b]? = W.heap[b]? := by
  have mx := mixed
  have b80 : ∀ (W : World) (a : Option Addr) (m c : Nat), (Instr.build 80 #[(0, .slice a m c)]).run Try.prog W = .ok (.agg #[.slice a m c, .slice none 0 0]) W := fun W a m c => run_build W _ _ _ (by kernel_rfl)
  obtain ⟨X1, hX1⟩ : ∃ X, X = W.alloc (oG s) := ⟨_, rfl⟩
  obtain ⟨X2, hX2⟩ : ∃ X, X = X1.alloc (oG s) := ⟨_, rfl⟩
  obtain ⟨X3, hX3⟩ : ∃ X, X = X2.alloc (ndO ⟨⟨some ⟨W.heap.size + 1, 0, none⟩, 1, 1⟩, ⟨none, 0, 0⟩⟩) := ⟨_, rfl⟩
  have z1 : X1.heap.size = W.heap.size + 1 := by rw [hX1]; simp
  have z2 : X2.heap.size = W.heap.size + 1 + 1 := by rw [hX2]; simp [z1]
  have z3 : X3.heap.size = W.heap.size + 1 + 1 + 1 := by rw [hX3]; simp [z2]
  have B3 : Go.RowKit.Below W.heap.size W X3 := by rw [hX3, hX2, hX1]; exact bt (bt (below_new _ _) (below_new _ _)) (below_new _ _)
  have n3 : X3.heap[W.heap.size + 1 + 1]? = some (ndO ⟨⟨some ⟨W.heap.size + 1, 0, none⟩, 1, 1⟩, ⟨none, 0, 0⟩⟩) := by rw [← z2, hX3]; exact heap_alloc_new _ _
  have o3 : X3.ownsRow base 38 5 (.slice (some ⟨W.heap.size + 1, 0, none⟩) 1 1) 1 (flatG [s]) := by
    rw [← z1, hX3]
    refine own_on ?_ (below_new _ _)
    rw [hX2]
    exact own_one5 X1 s base (by have := h.base_le; omega)
  have HX3 := Lib.hid hX3
  have HX2 := Lib.hid hX2
  have HX1 := Lib.hid hX1
  have HN3 := Lib.hid n3
  have HO3 := Lib.hid o3
  have HZ3 := Lib.hid z3
  have HB3 := Lib.hid B3
  have H3 := Lib.hid (h.keep (C := fun b => B b ∨ (W.heap.size ≤ b ∧ b < X3.heap.size)) B3 (fun b hb => hb))
  have HKB3 : Hid (∀ b, B b → X3.heap[b]? = W.heap[b]?) := fun b hb => B3.block b (h.size b hb).2
  have HW := Lib.hid h
  have k0 := five_cells (show X1.heap[W.heap.size]? = some (oG s) by rw [hX1]; exact heap_alloc_new _ _)
  rw [hX1] at k0
  obtain ⟨k1, k2, k3, k4, k5⟩ := k0
  have ct : X3.cell? ⟨T, 2, none⟩ = some (.int .i64 t.root) := (cell_of_row _ _ 2 _ _ _ H3.out.top).trans rfl
  simp only [Nat.zero_add] at k1 k2 k3 k4 k5
  clear hX1 hX2 hX3 z1 z2 z3 n3 o3 B3 h
  go_enter Try.func92, Try.ntmps92
  go_upto_region 2 with fail
  rw [← HX1.out, ← HX2.out]
  first | rw [← HX3.out] | skip
  have tr : (t.root != -1) = true := by simpa using hr
  have tr2 : ¬ t.root = -1 := hr
  have n4' := box_on HN3.out (below_new X3 (.cells #[.int .i64 t.root, .int .i64 behind] 3))
  have f3 := frozen_of_row _ _ 1 _ _ n4'
  obtain ⟨c1, c2⟩ := nd_cells n4'
  clear n4'
  obtain ⟨X4, hX4⟩ : ∃ X, X = X3.alloc (.cells #[.int .i64 t.root, .int .i64 behind] 3) := ⟨_, rfl⟩
  have B4 : Go.RowKit.Below X3.heap.size X3 X4 := by rw [hX4]; exact below_new _ _
  have n4 := box_on HN3.out B4
  obtain ⟨X5, hX5⟩ : ∃ X, X = X4.setCell ⟨W.heap.size + 1 + 1, 1, none⟩ (.slice (some ⟨W.heap.size + 1 + 1 + 1, 0, none⟩) 2 2) := ⟨_, rfl⟩
  have HN5 : Hid (X5.heap[W.heap.size + 1 + 1]? = some (ndO ⟨⟨some ⟨W.heap.size + 1, 0, none⟩, 1, 1⟩, ⟨some ⟨W.heap.size + 1 + 1 + 1, 0, none⟩, 2, 2⟩⟩)) := by
    show _ = _
    rw [hX5]; exact heap_setCell_same X4 (W.heap.size + 1 + 1) 1 _ _ _ n4
  have HNA : Hid (NdAt X5 base ⟨⟨some ⟨W.heap.size + 1, 0, none⟩, 1, 1⟩, ⟨some ⟨W.heap.size + 1 + 1 + 1, 0, none⟩, 2, 2⟩⟩ ⟨[s], [t.root, behind]⟩) := by
    refine ⟨?_, ?_⟩
    · show X5.ownsRow base 38 5 (.slice (some ⟨W.heap.size + 1, 0, none⟩) 1 1) 1 (flatG [s])
      rw [hX5]; exact own_far (own_on HO3.out B4) _ _ _ (fun k hk => by injection hk with hk; simp at hk; omega)
    · show X5.ownsRow base 3 1 (.slice (some ⟨W.heap.size + 1 + 1 + 1, 0, none⟩) 2 2) 2 ([t.root, behind].map nv)
      rw [hX5]
      refine own_far ?_ _ _ _ (fun k hk => by injection hk with hk; simp at hk; omega)
      rw [hX4, ← HZ3.out]
      exact own_two1 X3 t.root behind base H3.out.base_le
  have HZ4 : Hid (X4.heap.size = W.heap.size + 1 + 1 + 1 + 1) := by show _ = _; rw [hX4, World.size_alloc, HZ3.out]
  have H4 := H3.out.keep (C := fun b => B b ∨ (W.heap.size ≤ b ∧ b < X4.heap.size)) B4 (fun b hb => by
    rcases hb with hb | ⟨q1, q2⟩
    · exact .inl (.inl hb)
    · have := HZ3.out; have := HZ4.out
      by_cases e : b < X3.heap.size
      · exact .inl (.inr ⟨q1, e⟩)
      · exact .inr ⟨by omega, q2⟩)
  have H5 : Hid (BtH w0 S (fun b => B b ∨ (W.heap.size ≤ b ∧ b < X4.heap.size)) base T A t X5) := by
    show BtH _ _ _ _ _ _ _ _
    rw [hX5]; exact H4.box _ (.inr ⟨by omega, by have := HZ4.out; omega⟩) _ _
  have HKB5 : Hid (∀ b, B b → X5.heap[b]? = W.heap[b]?) := fun b hb => by
    have hlt := (HW.out.size b hb).2
    obtain ⟨o, ho⟩ : ∃ o, W.heap[b]? = some o := ⟨_, Array.getElem?_eq_getElem hlt⟩
    rw [ho, hX5]
    exact set_far (box_on ((HKB3.out b hb).trans ho) B4) (by omega)
  have HRB : Hid (∀ b, rowB ⟨⟨some ⟨W.heap.size + 1, 0, none⟩, 1, 1⟩, ⟨some ⟨W.heap.size + 1 + 1 + 1, 0, none⟩, 2, 2⟩⟩ b → b = W.heap.size + 1 ∨ b = W.heap.size + 1 + 1 + 1) := fun b hb => hb.imp (fun q => by injection q with q; exact q.symm) (fun q => by injection q with q; exact q.symm)
  have HX4 := Lib.hid hX4
  have HX5 := Lib.hid hX5
  clear hX4 hX5 B4 n4 H4
  go_upto_region 4 with fail
  rw [← HX4.out]
  simp only [show X3.heap.size = W.heap.size + 1 + 1 + 1 from HZ3.out]
  rw [← HX5.out]
  have HH := Lib.hid (H5.out.hold (C := fun b => B b ∨ b = W.heap.size + 1 + 1) ⟨⟨some ⟨W.heap.size + 1, 0, none⟩, 1, 1⟩, ⟨some ⟨W.heap.size + 1 + 1 + 1, 0, none⟩, 2, 2⟩⟩ ⟨[s], [t.root, behind]⟩ HNA.out (fun b hb => by
    have := HRB.out b hb
    have := HW.out.kp.size
    have := HZ4.out
    exact ⟨by omega, .inr ⟨by omega, by omega⟩⟩) hroom (fun b hb => ⟨hb.imp id (fun e => by have := HZ4.out; exact ⟨by omega, by omega⟩), fun hr => by
      have h1 := HRB.out b hr
      rcases hb with hb | hb
      · have := (HW.out.size b hb).2; omega
      · omega⟩))
  obtain ⟨c3, c4⟩ := nd_cells HN5.out
  clear ct c1 c2 f3
  go_wp2_with fail
  refine HH.out.mono ?_
  rintro e y ⟨q, rfl, hno, hst, hkb⟩
  have HNO := Lib.hid hno
  obtain ⟨hs1, hs2⟩ := hst.setRoot (q : Int)
  have HS1 := Lib.hid hs1
  have HS2 := Lib.hid hs2
  have HKY := Lib.hid hkb
  have tc : y.cell? ⟨T, 2, none⟩ = some (.int .i64 t.root) := (cell_of_row _ _ 2 _ _ _ hst.top).trans rfl
  have tf : y.frozen? ⟨T, 2, none⟩ = false := frozen_of_row _ _ 2 _ _ hst.top
  clear hno hst hkb hs1 hs2 HH
  go_wp2_with fail
  go_end0
  refine ⟨rfl, q, HNO.out, HS1.out.less (fun b hb => .inl hb), fun b hb => (HS2.out b (.inl hb)).trans ((HKY.out b (.inl hb)).trans (HKB5.out b hb))⟩
end Go.Proofs.Ytjgcdmeojjnjlaa
/- A B-tree's blocks hold cells: what a range over a function keeps of its own is none of them. -/
namespace Go.Proofs.Ytjgcdmeojjnjlaa
open Go.RowKit Go.Sort Go.Proofs.Ytjgcdmeojjnjlaa.Bo Go.Proofs.Ytjgcdmeojjnjlaa.Bb
set_option linter.unusedVariables false
section
variable {w0 W W' : World} {S B C : Nat → Prop} {base T A g : Nat} {t : Bx}
theorem BtW.cells {a : Ag Rn} {S0 : Nat → Prop} {w : World} (h : BtW w base T A t a S0) (b : Nat) (hb : btS T t a S0 b) (o : Obj) (ho : w.heap[b]? = some o) : o.isCells = true := by
  have fin : ∀ o' : Obj, w.heap[b]? = some o' → o'.isCells = true → o.isCells = true := fun o' h1 h2 => by
    rw [ho] at h1; cases h1; exact h2
  have row : ∀ {base : Nat} {e : TypeId} {size : Nat} {v : Value} {n : Nat} {xs : List Value}, w.ownsRow base e size v n xs → v.ownBlock = some b → o.isCells = true := fun h1 h2 => by
    obtain ⟨cur, h3⟩ := own_type h1 h2
    exact fin _ h3 rfl
  rcases hb with rfl | hb | ⟨p, hp, hb⟩
  · exact fin _ h.top rfl
  · obtain ⟨pv, fv, rfl, hg⟩ := h.ar
    rcases hb with rfl | hb | hb
    · exact fin _ hg.box rfl
    · exact row hg.prow hb
    · exact row hg.frow hb
  · obtain ⟨n, hn, hnd⟩ := h.isn p hp
    rcases hb with hb | hb
    · exact row hnd.s hb
    · exact row hnd.k hb
/-- A step of a range over a function: the heap grows, and what holds no cells may turn. -/
theorem BtH.grown (h : BtH w0 S B base T A t W) {row : Option Nat} (hg : W.grownBy W' row) (hr : ∀ r, row = some r → w0.heap.size ≤ r ∧ ∃ o : Obj, W.heap[r]? = some o ∧ o.isCells = false) : BtH w0 S B base T A t W' := by
  obtain ⟨a, S0, h1, h2, h3, h4⟩ := h
  have hk : Kp (fun b => row = some b) W W' := (Kp.refl _ W).grown hg (fun k hk => .inl hk)
  refine ⟨a, S0, h1.kp hk (fun b hb e => ?_), h2.grown hg (fun k hk => .inr (hr k hk).1), h3, fun b hb => ⟨(h4 b hb).1, Nat.lt_of_lt_of_le (h4 b hb).2.1 hg.size, (h4 b hb).2.2⟩⟩
  obtain ⟨_, o, k1, k2⟩ := hr b e
  rw [h1.cells b hb o k1] at k2; cases k2
/-- A range's step keeps the blocks of cells. -/
theorem grown_cells {X Y : World} {row : Option Nat} (hg : X.grownBy Y row) (hr : ∀ r, row = some r → ∃ o : Obj, X.heap[r]? = some o ∧ o.isCells = false) {b : Nat} {o : Obj} (ho : o.isCells = true) (h : X.heap[b]? = some o) : Y.heap[b]? = some o :=
  (hg.block b (lt_of_block h) (fun e => by
    obtain ⟨o', k1, k2⟩ := hr b e.symm
    rw [h] at k1; cases k1; rw [ho] at k2; cases k2)).trans h
/-- Seen from the world itself: nothing but the tree's own blocks turns. -/
theorem BtH.rebase (h : BtH w0 S B base T A t W) : ∃ S1, BtH W S1 (fun _ => False) base T A t W ∧ ∀ t' w', BtH W S1 (fun _ => False) base T A t' w' → BtH w0 S B base T A t' w' ∧ KeepsOthers W w' ∧ ∀ b, B b → w'.heap[b]? = W.heap[b]? := by
  obtain ⟨a, S0, h1, h2, h3, h4⟩ := h
  refine ⟨btS T t a S0, btH_of h1, fun t' w' h' => ?_⟩
  obtain ⟨a', S0', k1, k2, k3, _⟩ := h'
  have hB : ∀ b, B b → w'.heap[b]? = W.heap[b]? := fun b hb => k2.block b (h4 b hb).2.1 (h4 b hb).2.2
  refine ⟨⟨a', S0', k1, h2.trans k2 (fun b hb hS => (h3 b hS).resolve_right (by omega)), fun b hb => ?_, fun b hb => ⟨(h4 b hb).1, Nat.lt_of_lt_of_le (h4 b hb).2.1 k2.size, fun hS => ?_⟩⟩, ⟨k2.size, fun k o hk ho => ?_⟩, hB⟩
  · rcases k3 b hb with q | q
    · exact h3 b q
    · exact .inr (Nat.le_trans h2.size q)
  · rcases k3 b hS with q | q
    · exact (h4 b hb).2.2 q
    · have := (h4 b hb).2.1; omega
  · exact (k2.block k (lt_of_block hk) (fun hS => by rw [h1.cells k hS o hk] at ho; cases ho)).trans hk
end
end Go.Proofs.Ytjgcdmeojjnjlaa
/- split: a node with children. -/
namespace Go.Proofs.Ytjgcdmeojjnjlaa
open Go.RowKit Go.Sort Go.Proofs.Ytjgcdmeojjnjlaa.Bo Go.Proofs.Ytjgcdmeojjnjlaa.Bb
set_option linter.unusedVariables false
set_option maxRecDepth 100000
set_option maxHeartbeats 8000000 in
theorem BtH.splitK {w0 W : World} {S B : Nat → Prop} {base T A : Nat} {t : Bx} (h : BtH w0 S B base T A t W) (p : Nat) (n : Kn) (hp : t.f (p : Int) = some n) (d : Nat) (hd : t.d = (d : Int)) (hd1 : 1 ≤ d) (hd2 : d ≤ 64) (hl : n.segs.length = 2 * d) (hk : n.kids.length = 2 * d + 1) (hroom : (t.n : Int) < t.room) (mid : G5) (hmid : n.segs[d]? = some mid) :
    Calls Try.prog 91 #[aP T, .int .i64 (p : Int)] W fun e w' => ∃ q : Nat, e = .returned (.tuple #[vG mid, .int .i64 (q : Int)]) ∧ (t.f (q : Int) = none ∧ q ≠ p ∧ BtH w0 S B base T A { t with n := t.n + 1, f := updK (updK t.f (p : Int) (some ⟨n.segs.take d, n.kids.take (d + 1)⟩)) (q : Int) (some ⟨n.segs.drop (d + 1), n.kids.drop (d + 1)⟩) } w' ∧ ∀ b, B b → w'.heap[b]? = W.heap[b]?) := by
  have mx := mixed
  obtain ⟨g, hg⟩ := h.gOf p (by rw [hp]; simp)
  have HP := Lib.hid hp
  -- the result's box
  have HR0 : Hid ((W.alloc zG).heap[W.heap.size]? = some zG) := heap_alloc_new W zG
  have HB0 : Hid (Go.RowKit.Below W.heap.size W (W.alloc zG)) := below_new W zG
  have HSZ0 : Hid (W.heap.size < (W.alloc zG).heap.size) := lt_of_block HR0.out
  have H0 := Lib.hid (h.keep (C := fun b => B b ∨ b = W.heap.size) HB0.out (fun b hb => hb.imp id (fun e => by subst e; exact ⟨Nat.le_refl _, HSZ0.out⟩)))
  have HG0 := Lib.hid (hg.below HB0.out)
  have HKB0 : Hid (∀ b, B b → (W.alloc zG).heap[b]? = W.heap[b]?) := fun b hb => HB0.out.block b (h.size b hb).2
  obtain ⟨sa0, ka0, sc0, kc0, v0⟩ := H0.out.node HG0.out p n hp
  have HAT := Lib.hid v0.at_
  have p1 := cell_regrown ((cell_of_row _ _ 1 _ _ _ H0.out.top).trans rfl : (W.alloc zG).cell? ⟨T, 1, none⟩ = some (aP A))
  have p2 := cell_regrown ((cell_of_row _ _ 0 _ _ _ H0.out.top).trans rfl : (W.alloc zG).cell? ⟨T, 0, none⟩ = some (.int .i64 t.d))
  rw [hd] at p2
  have HW := Lib.hid h
  clear v0 hg h
  go_enter Try.func91, Try.ntmps91
  go_upto_region 1 with fail
  generalize W.alloc zG = X0 at *
  refine wp_region_quiet_below (by assumption) (by kernel_rfl) ?_
  repeat (go_big_quiet_step (first | (go_at_call 50; exact Calls.regrown_of ((HAT.out _ (below_regrown _ _ _)).mono fun e w' q => ⟨q.1, q.2 ▸ Go.RowKit.Below.refl _ _⟩))))
  refine wpQuiet_nil ?_
  intro _ hw'
  obtain ⟨⟨nq, osq⟩, hw''⟩ := hw'
  subst hw''
  have hbY := below_regrown X0 nq osq
  show Exit.then _ _ Exit.normal _ (grow (redrawn X0 nq) osq)
  generalize grow (redrawn X0 nq) osq = Y at *
  have H1 := Lib.hid (H0.out.below hbY)
  have HG1 := Lib.hid (HG0.out.below hbY)
  have HR1 := Lib.hid (box_on HR0.out hbY)
  have HKB1 : Hid (∀ b, B b → Y.heap[b]? = W.heap[b]?) := fun b hb => (hbY.block b (H0.out.size b (.inl hb)).2).trans (HKB0.out b hb)
  have HSZ1 : Hid (W.heap.size < Y.heap.size) := Nat.lt_of_lt_of_le HSZ0.out hbY.size
  obtain ⟨sa, ka, sc, kc, v1⟩ := H1.out.node HG1.out p n HP.out
  have V1 := Lib.hid v1
  have hos := v1.os
  rw [hl] at hos
  obtain ⟨gb, rfl, _, hx, _⟩ := own_atG hos hl.symm d (by omega)
  have e1 : n.segs[d]'(by omega) = mid := by
    rw [List.getElem?_eq_getElem (by omega)] at hmid; exact Option.some.inj hmid
  rw [e1] at hx
  obtain ⟨x1, x2, x3, x4, x5⟩ := hx
  have hcs := v1.cs
  rw [hl] at hcs
  have hcl : 2 * d ≤ sc := by
    rcases hos.2 with ⟨q, _⟩ | ⟨g', c', cur, q, _, _, q2, _⟩
    · cases q
    · injection q with _ _ q; omega
  have hcm : sc ≤ 1000000000 ∨ True := .inr trivial
  clear p1 p2 hbY v1 H0 HG0 HR0 HKB0 HB0 HSZ0 HAT
  have i0 : (0 : Int) ≤ (d : Int) := by omega
  have i1 : (d : Int) < ((2 * d : Nat) : Int) := by omega
  go_upto_region 3 with fail
  -- the middle one's box
  have HM2 : Hid ((Y.alloc (oG mid)).heap[Y.heap.size]? = some (oG mid)) := heap_alloc_new Y (oG mid)
  have HB2 : Hid (Go.RowKit.Below Y.heap.size Y (Y.alloc (oG mid))) := below_new Y (oG mid)
  have HSZ2 : Hid (Y.heap.size < (Y.alloc (oG mid)).heap.size) := lt_of_block HM2.out
  have H2 := Lib.hid (H1.out.keep (C := fun b => (B b ∨ b = W.heap.size) ∨ b = Y.heap.size) HB2.out (fun b hb => hb.imp id (fun e => by subst e; exact ⟨Nat.le_refl _, HSZ2.out⟩)))
  have HG2 := Lib.hid (HG1.out.below HB2.out)
  have HR2 := Lib.hid (box_on HR1.out HB2.out)
  have HKB2 : Hid (∀ b, B b → (Y.alloc (oG mid)).heap[b]? = W.heap[b]?) := fun b hb => (HB2.out.block b (H1.out.size b (.inl hb)).2).trans (HKB1.out b hb)
  have hcs2 : (Y.alloc (oG mid)).cell? ⟨g, p * 3, none⟩ = some (.slice (some ⟨gb, 0, none⟩) (2 * d) sc) := (HB2.out.cell (p := ⟨g, p * 3, none⟩) V1.out.gb).trans hcs
  have HOS2 := Lib.hid (own_on hos HB2.out)
  clear hcs x1 x2 x3 x4 x5 hos
  generalize Y.alloc (oG mid) = Y2 at *
  have HLY := Lib.hid ((Bs.Lies.of_own HOS2.out).drop (k := d + 1) (size := 5) (cap := sc) (by rw [flatG_len, hl]; omega))
  rw [flatG_drop] at HLY
  have hdl : (n.segs.drop (d + 1)).length = d - 1 := by rw [List.length_drop]; omega
  obtain ⟨dl, hdl2⟩ : ∃ dl, dl = 2 * d - (d + 1) := ⟨_, rfl⟩
  have HDL : Hid (dl = (n.segs.drop (d + 1)).length) := by show _ = _; rw [hdl2, List.length_drop]; omega
  have HCL : Hid (∀ ad k, ad = (if sc = d + 1 then some (⟨gb, 0, none⟩ : Addr) else some ⟨gb, 0 + (d + 1) * 5, none⟩) → Calls Try.prog 72 #[.slice ad (2 * d - (d + 1)) k] Y2 (ClPost Y2 38 5 (2 * d - (d + 1)) (flatG (n.segs.drop (d + 1))))) := by
    rintro ad k rfl
    exact scloneG_any HLY.out (by rw [← hdl2, HDL.out]) (by omega)
  have i2 : IntKind.i64.wrap ((d : Int) + 1) = (d : Int) + 1 := IntWalk.i64_in _ (by omega)
  have i3 : (0 : Int) ≤ (d : Int) + 1 := by omega
  have i4 : (d : Int) + 1 ≤ ((2 * d : Nat) : Int) := by omega
  have i5 : (d : Int) + 1 ≤ (sc : Int) := by omega
  go_cut [9] from 10 to 35 (fun s9 wx => ∃ b3 a2 c2, s9 = .pointer (some ⟨b3, 0, none⟩) ∧ wx.heap[b3]? = some (ndO ⟨⟨a2, dl, c2⟩, ⟨none, 0, 0⟩⟩) ∧ wx.ownsRow Y2.heap.size 38 5 (.slice a2 dl c2) dl (flatG (n.segs.drop (d + 1))) ∧ Go.RowKit.Below Y2.heap.size Y2 wx ∧ Y2.heap.size ≤ b3 ∧ ∀ b, (Value.slice a2 dl c2).ownBlock = some b → b ≠ b3)
  case first =>
    have b80 : ∀ (W : World) (a : Option Addr) (m c : Nat), (Instr.build 80 #[(0, .slice a m c)]).run Try.prog W = .ok (.agg #[.slice a m c, .slice none 0 0]) W := fun W a m c => run_build W _ _ _ (by kernel_rfl)
    have HL2 := Lib.hid hdl2
    clear H2 HG2 HR2 HKB2 HM2 H1 HG1 HR1 HKB1 HW V1 hdl hdl2
    go_wp2_with fail
    all_goals
      refine (HCL.out _ _ (by first | (rw [if_pos (by assumption)]; done) | (rw [if_neg (by assumption), Nat.zero_add]; done))).mono ?_
      rintro e y ⟨a2, c2, ⟨rfl, ho⟩, hb⟩
      have HO := Lib.hid ho
      have HB := Lib.hid hb
      clear ho hb
      go_wp2_with fail
      go_meet
      refine ⟨_, a2, c2, rfl, ?_, ?_, bt HB.out (below_new _ _), HB.out.size, fun b hb => ?_⟩
      · rw [HL2.out]; exact heap_alloc_new _ _
      · rw [HL2.out]; exact own_on HO.out (below_new _ _)
      · have := (HO.out.lt b (by rw [← hb]; exact ownBlk _ _ _ _ _)).2; omega
  case rest =>
    obtain ⟨b3, a2, c2, rfl, h1, h2, h3, h4, h5⟩ := hcut
    have hb3 := lt_of_block h1
    have hr2 := fun b hb => h2.lt b hb
    have HN3 := Lib.hid h1
    have HO3 := Lib.hid h2
    have HB3 := Lib.hid h3
    have HL3 := Lib.hid h4
    have HD3 := Lib.hid h5
    have H3 := Lib.hid (H2.out.keep (C := fun b => ((B b ∨ b = W.heap.size) ∨ b = Y.heap.size) ∨ (b = b3 ∨ (Value.slice a2 dl c2).ownBlock = some b)) h3 (fun b hb => hb.imp id (fun e => by
      rcases e with rfl | e
      · exact ⟨h4, hb3⟩
      · exact hr2 b e)))
    have HG3 := Lib.hid (HG2.out.below h3)
    have HR3 := Lib.hid (box_on HR2.out h3)
    have HM3 := Lib.hid (box_on HM2.out h3)
    have HKB3 : Hid (∀ b, B b → wc.heap[b]? = W.heap[b]?) := fun b hb => (h3.block b (H2.out.size b (.inl (.inl hb))).2).trans (HKB2.out b hb)
    clear h1 h2 h3 h4 h5 hb3 hr2 hcs2 HCL HLY i2 i3 i4 i5 hdl hdl2
    -- the head stays
    obtain ⟨sa3, ka3, sc3, kc3, v3⟩ := H3.out.node HG3.out p n HP.out
    have hset := v3.setS wc sa3 sc3 (n.segs.take d) (grown_refl _ _) (own_take5 v3.os rfl d (by omega)) (fun b hb => .inl (by rw [← hb]; exact ownBlk _ _ _ _ _))
    have htl : (n.segs.take d).length = d := by rw [List.length_take]; omega
    rw [htl] at hset
    have H4 := Lib.hid hset.1
    have HG4 := Lib.hid hset.2.1
    have HKC4 := Lib.hid hset.2.2
    have c1 := v3.cs
    rw [hl] at c1
    have f1 := v3.fz (p * 3)
    have hcl3 : d ≤ sc3 := by
      rcases v3.os.2 with ⟨q, q2⟩ | ⟨g', c', cur, q, _, _, q2, _⟩
      · omega
      · injection q with _ _ q; omega
    have i0' : (0 : Int) ≤ (d : Int) := by omega
    have i1' : (d : Int) ≤ (sc3 : Int) := by omega
    clear v3 hset
    generalize hW4 : wc.setCell ⟨g, p * 3, none⟩ (.slice sa3 d sc3) = Y4 at H4 HG4 HKC4
    have HW4 := Lib.hid hW4
    clear hW4
    go_upto_region 5 with fail
    rw [HW4.out]
    have HP4 : Hid (updK t.f (p : Int) (some ⟨n.segs.take d, n.kids⟩) (p : Int) = some ⟨n.segs.take d, n.kids⟩) := updK_self _ _ _
    obtain ⟨sa4, ka4, sc4, kc4, v4⟩ := H4.out.node HG4.out p _ HP4.out
    have ck4 := v4.ck
    rw [show (⟨n.segs.take d, n.kids⟩ : Kn).kids.length = 2 * d + 1 from hk] at ck4
    have HN4 := Lib.hid (kp_box HKC4.out (.inr (.inl rfl)) HN3.out)
    have HO4 := Lib.hid (own_kpQ HO3.out (fun b hb => HKC4.out b (.inr (.inr hb))))
    have HR4 := Lib.hid (kp_box HKC4.out (.inl (.inl (.inr rfl))) HR3.out)
    have HM4 := Lib.hid (kp_box HKC4.out (.inl (.inr rfl)) HM3.out)
    have HKB4 : Hid (∀ b, B b → Y4.heap[b]? = W.heap[b]?) := fun b hb => (HKC4.out b (.inl (.inl (.inl hb)))).trans (HKB3.out b hb)
    have hkc : 2 * d + 1 ≤ kc4 := by
      have := v4.ok
      rw [show (⟨n.segs.take d, n.kids⟩ : Kn).kids.length = 2 * d + 1 from hk] at this
      rcases this.2 with ⟨q, q2⟩ | ⟨g', c', cur, q, _, _, q2, _⟩
      · omega
      · injection q with _ _ q; omega
    obtain ⟨kb, rfl⟩ : ∃ kb, ka4 = some ⟨kb, 0, none⟩ := by
      have := v4.ok
      rcases this.2 with ⟨q, q2⟩ | ⟨g', c', cur, q, _⟩
      · have q2 : n.kids.length = 0 := q2
        omega
      · injection q with q; exact ⟨g', q⟩
    have HLI := Lib.hid ((Bs.Lies.of_own v4.ok).drop (k := d + 1) (size := 1) (cap := kc4) (by rw [List.length_map]; show n.kids.length ≤ kc4 * 1; omega))
    rw [if_neg (show ¬ kc4 = d + 1 by omega), map_drop_nv] at HLI
    obtain ⟨kl, hkl⟩ : ∃ kl, kl = 2 * d - d := ⟨_, rfl⟩
    have HKL : Hid (kl = (n.kids.drop (d + 1)).length) := by show _ = _; rw [hkl, List.length_drop]; omega
    have HCI : Hid (Calls Try.prog 73 #[.slice (some ⟨kb, (d + 1) * 1, none⟩) (2 * d - d) (kc4 - (d + 1))] Y4 (ClPost Y4 3 1 kl ((n.kids.drop (d + 1)).map nv))) := by
      have := HLI.out
      rw [Nat.zero_add] at this
      rw [hkl]
      exact scloneI_any this (by rw [← hkl, HKL.out]) (by omega)
    rw [Nat.mul_one] at HCI
    have j0 : ¬ kc4 = d + 1 := by omega
    have j1 : IntKind.i64.wrap ((d : Int) + 1) = (d : Int) + 1 := IntWalk.i64_in _ (by omega)
    have j2 : (0 : Int) ≤ (d : Int) + 1 := by omega
    have j3 : (d : Int) + 1 ≤ ((2 * d + 1 : Nat) : Int) := by omega
    have j4 : (d : Int) + 1 ≤ (kc4 : Int) := by omega
    have j5 : (0 : Int) < ((2 * d + 1 : Nat) : Int) := by omega
    have j6 : 0 < 2 * d + 1 := by omega
    have V4 := Lib.hid v4
    have H4SZ := Lib.hid (show wc.heap.size ≤ Y4.heap.size by rw [← HW4.out]; simp [World.setCell])
    have H3SZ := Lib.hid (lt_of_block HN4.out)
    clear v4 HLI hkl
    go_wp2_with fail
    refine HCI.out.mono ?_
    rintro e y5 ⟨a5, c5, ⟨rfl, ho5⟩, hb5⟩
    have HO5 := Lib.hid ho5
    have hn5 := box_on HN4.out hb5
    have HN5 := Lib.hid hn5
    have f5 := frozen_of_row _ _ 1 _ _ hn5
    have c5' := (nd_cells hn5).2
    have hb3lt := lt_of_block HN4.out
    have H5 := Lib.hid (H4.out.keep (C := fun b => (((B b ∨ b = W.heap.size) ∨ b = Y.heap.size) ∨ (b = b3 ∨ (Value.slice a2 dl c2).ownBlock = some b)) ∨ (Value.slice a5 kl c5).ownBlock = some b) hb5 (fun b hb => hb.imp id (fun e => ⟨(ho5.lt b e).1, (ho5.lt b e).2⟩)))
    have HG5 := Lib.hid (HG4.out.below hb5)
    have HBX5 := Lib.hid hb5
    have H6 := Lib.hid (H5.out.box b3 (.inl (.inr (.inl rfl))) 1 (.slice a5 kl c5))
    have HG6 := Lib.hid (H5.out.boxG HG5.out b3 (.inl (.inr (.inl rfl))) 1 (.slice a5 kl c5) p (fun q => by have q2 := HP4.out.symm.trans q; cases q2))
    have HN6 : Hid ((y5.setCell ⟨b3, 1, none⟩ (.slice a5 kl c5)).heap[b3]? = some (ndO ⟨⟨a2, dl, c2⟩, ⟨a5, kl, c5⟩⟩)) := heap_setCell_same y5 b3 1 _ _ _ hn5
    have H5R : Hid (∀ b, (Value.slice a5 kl c5).ownBlock = some b → Y4.heap.size ≤ b) := fun b hb => (ho5.lt b hb).1
    have far5 : ∀ b o, b ≠ b3 → Y4.heap[b]? = some o → (y5.setCell ⟨b3, 1, none⟩ (.slice a5 kl c5)).heap[b]? = some o := fun b o hne ho => set_far (box_on ho hb5) hne
    have HR6 := Lib.hid (far5 _ _ (by have := HL3.out; have := HSZ2.out; have := HSZ1.out; omega) HR4.out)
    have HM6 := Lib.hid (far5 _ _ (by have := HL3.out; have := HSZ2.out; omega) HM4.out)
    have HO6 := Lib.hid (own_far (own_on HO4.out hb5) b3 1 (.slice a5 kl c5) (fun k hk => HD3.out k hk))
    have HK6 := Lib.hid (own_far HO5.out b3 1 (.slice a5 kl c5) (fun k hk => by have := (HO5.out.lt k hk).1; omega))
    have HKB6 : Hid (∀ b, B b → (y5.setCell ⟨b3, 1, none⟩ (.slice a5 kl c5)).heap[b]? = W.heap[b]?) := fun b hb => by
      have hlt := (HW.out.size b hb).2
      obtain ⟨o, ho⟩ : ∃ o, W.heap[b]? = some o := ⟨_, Array.getElem?_eq_getElem hlt⟩
      rw [ho]
      exact far5 b o (by have := HL3.out; have := HSZ2.out; have := HSZ1.out; omega) ((HKB4.out b hb).trans ho)
    clear ho5 hb5 hn5 H4 HG4 HN4 HO4 HR4 HM4 HKB4 HKC4 far5 HCI ck4
    go_upto_region 7 with fail
    generalize y5.setCell ⟨b3, 1, none⟩ (.slice a5 kl c5) = Y6 at *
    obtain ⟨sa6, ka6, sc6, kc6, v6⟩ := H6.out.node HG6.out p _ HP4.out
    have hset := v6.setK Y6 ka6 kc6 (n.kids.take (d + 1)) (grown_refl _ _) (own_take1 v6.ok rfl (d + 1) (by show d + 1 ≤ n.kids.length; omega)) (fun b hb => .inl (by rw [← hb]; exact ownBlk _ _ _ _ _))
    have htl2 : (n.kids.take (d + 1)).length = d + 1 := by rw [List.length_take]; omega
    rw [htl2] at hset
    rw [show ({ ({ t with f := updK t.f (p : Int) (some ⟨n.segs.take d, n.kids⟩) } : Bx) with f := updK ({ t with f := updK t.f (p : Int) (some ⟨n.segs.take d, n.kids⟩) } : Bx).f (p : Int) (some ⟨(⟨n.segs.take d, n.kids⟩ : Kn).segs, n.kids.take (d + 1)⟩) } : Bx) = { t with f := updK t.f (p : Int) (some ⟨n.segs.take d, n.kids.take (d + 1)⟩) } by
      show ({ t with f := updK (updK t.f (p : Int) _) (p : Int) _ } : Bx) = _
      rw [updK_same]] at hset
    have H7 := Lib.hid hset.1
    have HG7 := Lib.hid hset.2.1
    have HKC7 := Lib.hid hset.2.2
    have c6 := v6.ck
    rw [show (⟨n.segs.take d, n.kids⟩ : Kn).kids.length = 2 * d + 1 from hk] at c6
    have f6 := v6.fz (p * 3 + 1)
    have hcl6 : d + 1 ≤ kc6 := by
      rcases v6.ok.2 with ⟨q, q2⟩ | ⟨g', c', cur, q, _, _, q2, _⟩
      · have q2 : n.kids.length = 0 := q2
        omega
      · have q2 : n.kids.length ≤ c' := q2
        injection q with _ _ q; omega
    have j7 : (d : Int) + 1 ≤ (kc6 : Int) := by omega
    have HN7 := Lib.hid (kp_box HKC7.out (.inl (.inr (.inl rfl))) HN6.out)
    have HR7 := Lib.hid (kp_box HKC7.out (.inl (.inl (.inl (.inr rfl)))) HR6.out)
    have HM7 := Lib.hid (kp_box HKC7.out (.inl (.inl (.inr rfl))) HM6.out)
    have HO7 := Lib.hid (own_kpQ HO6.out (fun b hb => HKC7.out b (.inl (.inr (.inr hb)))))
    have HK7 := Lib.hid (own_kpQ HK6.out (fun b hb => HKC7.out b (.inr hb)))
    have HKB7 : Hid (∀ b, B b → (Y6.setCell ⟨g, p * 3 + 1, none⟩ (.slice ka6 (d + 1) kc6)).heap[b]? = W.heap[b]?) := fun b hb => (HKC7.out b (.inl (.inl (.inl (.inl hb))))).trans (HKB6.out b hb)
    clear v6 hset
    have HNA : Hid (NdAt (Y6.setCell ⟨g, p * 3 + 1, none⟩ (.slice ka6 (d + 1) kc6)) base ⟨⟨a2, dl, c2⟩, ⟨a5, kl, c5⟩⟩ ⟨n.segs.drop (d + 1), n.kids.drop (d + 1)⟩) := by
      refine ⟨?_, ?_⟩
      · show World.ownsRow _ base 38 5 (.slice a2 dl c2) (n.segs.drop (d + 1)).length (flatG (n.segs.drop (d + 1)))
        exact HDL.out ▸ own_base HO7.out (by have := V1.out.le; have := HSZ2.out; omega)
      · show World.ownsRow _ base 3 1 (.slice a5 kl c5) (n.kids.drop (d + 1)).length ((n.kids.drop (d + 1)).map nv)
        rw [← HKL.out]
        exact own_base HK7.out V4.out.le
    have HRB : Hid (∀ b, rowB ⟨⟨a2, dl, c2⟩, ⟨a5, kl, c5⟩⟩ b → (Value.slice a2 dl c2).ownBlock = some b ∨ (Value.slice a5 kl c5).ownBlock = some b) := fun b hb => hb
    have HSZ4 : Hid (Y2.heap.size ≤ Y4.heap.size) := Nat.le_trans HB3.out.size H4SZ.out
    clear j0 j4 j5 j6
    generalize hW7 : Y6.setCell ⟨g, p * 3 + 1, none⟩ (.slice ka6 (d + 1) kc6) = Y7 at H7 HG7 HKC7 HN7 HR7 HM7 HO7 HK7 HKB7 HNA
    have HW7 := Lib.hid hW7
    clear hW7
    go_upto_region 8 with fail
    rw [HW7.out]
    have hRBlt : ∀ b, rowB ⟨⟨a2, dl, c2⟩, ⟨a5, kl, c5⟩⟩ b → Y2.heap.size ≤ b := fun b hb => (hb.elim (fun q => (HO3.out.lt b q).1) (fun q => Nat.le_trans HSZ4.out (H5R.out b q)))
    have HRL := Lib.hid hRBlt
    clear hRBlt
    have HDR : Hid (Go.RowKit.Below Y7.heap.size Y7 Y7.drew) := (Go.RowKit.Below.refl _ _).drew
    have HH := Lib.hid ((H7.out.below HDR.out).hold (C := fun b => ((B b ∨ b = W.heap.size) ∨ b = Y.heap.size) ∨ b = b3) ⟨⟨a2, dl, c2⟩, ⟨a5, kl, c5⟩⟩ ⟨n.segs.drop (d + 1), n.kids.drop (d + 1)⟩ (HNA.out.below HDR.out) (fun b hb => ⟨by have := HRL.out b hb; have := (H2.out.size Y.heap.size (.inr rfl)).1; have := HSZ2.out; omega, (HRB.out b hb).elim (fun q => .inl (.inr (.inr q))) .inr⟩) hroom (fun b hb => ⟨.inl (hb.imp id .inl), fun hr => by
      have h1 := HRL.out b hr
      rcases hb with ((hb | rfl) | rfl) | rfl
      · have := (H2.out.size b (.inl (.inl hb))).2; omega
      · have := HSZ1.out; have := HSZ2.out; omega
      · have := HSZ2.out; omega
      · exact (hr.elim (fun q => (HD3.out b q) rfl) (fun q => by have := H5R.out b q; have := H3SZ.out; omega))⟩))
    have HS1 : Hid (Cells5 Y7.drew Y.heap.size 0 mid ∧ Y7.drew.cell? ⟨b3, 0, none⟩ = some (.slice a2 dl c2) ∧ Y7.drew.cell? ⟨b3, 1, none⟩ = some (.slice a5 kl c5)) := ⟨five_cells HM7.out, (nd_cells HN7.out).1, (nd_cells HN7.out).2⟩
    have HKD : Hid (∀ b, B b → Y7.drew.heap[b]? = W.heap[b]?) := HKB7.out
    obtain ⟨q1, q2, q3, q4, q5⟩ := HS1.out.1
    simp only [Nat.zero_add] at q1 q2 q3 q4 q5
    have HSS : Hid (Y7.drew.cell? ⟨Y.heap.size, 0, none⟩ = some (.int .i64 mid.ls) ∧ Y7.drew.cell? ⟨Y.heap.size, 1, none⟩ = some (.int .i64 mid.la) ∧ Y7.drew.cell? ⟨Y.heap.size, 2, none⟩ = some (.int .i64 mid.hs) ∧ Y7.drew.cell? ⟨Y.heap.size, 3, none⟩ = some (.int .i64 mid.ha) ∧ Y7.drew.cell? ⟨Y.heap.size, 4, none⟩ = some (.int .i64 mid.v) ∧ Y7.drew.cell? ⟨b3, 0, none⟩ = some (.slice a2 dl c2) ∧ Y7.drew.cell? ⟨b3, 1, none⟩ = some (.slice a5 kl c5)) := ⟨q1, q2, q3, q4, q5, HS1.out.2⟩
    clear q1 q2 q3 q4 q5
    go_region_held3 (fun w' => w'.cell? ⟨Y.heap.size, 0, none⟩ = some (.int .i64 mid.ls) ∧ w'.cell? ⟨Y.heap.size, 1, none⟩ = some (.int .i64 mid.la) ∧ w'.cell? ⟨Y.heap.size, 2, none⟩ = some (.int .i64 mid.hs) ∧ w'.cell? ⟨Y.heap.size, 3, none⟩ = some (.int .i64 mid.ha) ∧ w'.cell? ⟨Y.heap.size, 4, none⟩ = some (.int .i64 mid.v) ∧ w'.cell? ⟨b3, 0, none⟩ = some (.slice a2 dl c2) ∧ w'.cell? ⟨b3, 1, none⟩ = some (.slice a5 kl c5))
      (with_reducible first | exact HSS.out | exact HS5.out | exact HS6.out)
      (first
        | (go_at_call 102; refine HH.out.mono ?_; rintro e y ⟨q, rfl, hno, hst, hkb⟩; have HNO := Lib.hid hno; have HST := Lib.hid hst; have HKY := Lib.hid hkb; have hMy := kp_box hkb (.inl (.inl (.inr rfl))) (show Y7.drew.heap[Y.heap.size]? = some (oG mid) from HM7.out); have hNy := kp_box hkb (.inl (.inr (.inl rfl))) (show Y7.drew.heap[b3]? = some (ndO ⟨⟨a2, dl, c2⟩, ⟨a5, kl, c5⟩⟩) from HN7.out); have hRy := kp_box hkb (.inl (.inl (.inl (.inr rfl)))) (show Y7.drew.heap[W.heap.size]? = some zG from HR7.out); have HRY := Lib.hid hRy
           have HS5 : Hid (y.cell? ⟨Y.heap.size, 0, none⟩ = some (.int .i64 mid.ls) ∧ y.cell? ⟨Y.heap.size, 1, none⟩ = some (.int .i64 mid.la) ∧ y.cell? ⟨Y.heap.size, 2, none⟩ = some (.int .i64 mid.hs) ∧ y.cell? ⟨Y.heap.size, 3, none⟩ = some (.int .i64 mid.ha) ∧ y.cell? ⟨Y.heap.size, 4, none⟩ = some (.int .i64 mid.v) ∧ y.cell? ⟨b3, 0, none⟩ = some (.slice a2 dl c2) ∧ y.cell? ⟨b3, 1, none⟩ = some (.slice a5 kl c5)) := (by obtain ⟨q1, q2, q3, q4, q5⟩ := five_cells hMy; simp only [Nat.zero_add] at q1 q2 q3 q4 q5; exact ⟨q1, q2, q3, q4, q5, nd_cells hNy⟩)
           have HS6 : Hid ((seg5 y W.heap.size mid).cell? ⟨Y.heap.size, 0, none⟩ = some (.int .i64 mid.ls) ∧ (seg5 y W.heap.size mid).cell? ⟨Y.heap.size, 1, none⟩ = some (.int .i64 mid.la) ∧ (seg5 y W.heap.size mid).cell? ⟨Y.heap.size, 2, none⟩ = some (.int .i64 mid.hs) ∧ (seg5 y W.heap.size mid).cell? ⟨Y.heap.size, 3, none⟩ = some (.int .i64 mid.ha) ∧ (seg5 y W.heap.size mid).cell? ⟨Y.heap.size, 4, none⟩ = some (.int .i64 mid.v) ∧ (seg5 y W.heap.size mid).cell? ⟨b3, 0, none⟩ = some (.slice a2 dl c2) ∧ (seg5 y W.heap.size mid).cell? ⟨b3, 1, none⟩ = some (.slice a5 kl c5)) := (by obtain ⟨q1, q2, q3, q4, q5⟩ := five_cells (five_far hMy (by have := HSZ1.out; omega : Y.heap.size ≠ W.heap.size) mid); simp only [Nat.zero_add] at q1 q2 q3 q4 q5; exact ⟨q1, q2, q3, q4, q5, nd_cells (five_far hNy (by have := HSZ1.out; have := HSZ2.out; have := HL3.out; omega : b3 ≠ W.heap.size) mid)⟩)
           obtain ⟨d0, d1, d2, d3, d4⟩ := five_cells (g := g0) hRy; have z0 := five_frozen (g := g0) hRy 0; have z1 := five_frozen (g := g0) hRy 1; have z2 := five_frozen (g := g0) hRy 2; have z3 := five_frozen (g := g0) hRy 3; have z4 := five_frozen (g := g0) hRy 4; simp only [Nat.zero_add] at d1 d2 d3 d4; clear hno hst hkb hMy hNy hRy))
    all_goals
      obtain ⟨q0, q1, q2, q3, q4⟩ := five_cells (five_put (g := g0) HRY.out mid)
      simp only [Nat.zero_add] at q1 q2 q3 q4
      go_wp2_with fail
      refine bodyPost_ret (v := .tuple #[vG mid, .int .i64 (q : Int)]) (by simp [results, Try.results91, go_sem, q0, q1, q2, q3, q4]) rfl ?_
      have hqp : q ≠ p := fun e => by
        have := HNO.out
        rw [e] at this
        rw [updK_self] at this; cases this
      have hqn : t.f (q : Int) = none := by
        have := HNO.out
        rw [updK_nat _ _ _ _ hqp] at this; exact this
      refine ⟨q, rfl, hqn, hqp, ?_, fun b hb => ?_⟩
      · exact (((((HST.out.box _ (.inl (.inl (.inr rfl))) 0 _).box _ (.inl (.inl (.inr rfl))) 1 _).box _ (.inl (.inl (.inr rfl))) 2 _).box _ (.inl (.inl (.inr rfl))) 3 _).box _ (.inl (.inl (.inr rfl))) 4 _).less (fun b hb => .inl (.inl (.inl hb)))
      · have hlt := (HW.out.size b hb).2
        obtain ⟨o, ho⟩ : ∃ o, W.heap[b]? = some o := ⟨_, Array.getElem?_eq_getElem hlt⟩
        rw [ho]
        exact five_far ((HKY.out b (.inl (.inl (.inl (.inl hb))))).trans ((HKD.out b hb).trans ho)) (by omega) mid
end Go.Proofs.Ytjgcdmeojjnjlaa
/- laid, walked: of segments. -/
namespace Go.Proofs.Ytjgcdmeojjnjlaa
open Go.RowKit Go.Sort Go.Proofs.Ytjgcdmeojjnjlaa.Bo
set_option linter.unusedVariables false
set_option maxRecDepth 100000 in
set_option maxHeartbeats 2000000 in
theorem laidG_any {base n cap i : Nat} {a : Option Addr} {l : List G5} {s : G5} {w : World} (ho : w.ownsRow base 38 5 (.slice a n cap) n (flatG l)) (hn : n = l.length) (hi : i ≤ n) (hl : n ≤ 100000) (hb : base ≤ w.heap.size) :
    Calls Try.prog 89 #[.slice a n cap, .int .i64 (i : Int), vG s] w (OPost w base 38 5 (.slice a n cap) (n + 1) (flatG (l.take i ++ s :: l.drop i))) := by
  obtain ⟨i0, hi0, hz0, hz1, hz2⟩ := info_parts Try.infoSeg
  have HB0 : Hid ((w.alloc (oG s)).heap[w.heap.size]? = some (oG s)) := heap_alloc_new _ _
  have hL := below_new w (oG s)
  have HO0 := Lib.hid (ho.alloc (oG s))
  have HN := Lib.hid hn
  have HOW := Lib.hid (fun k hk => ho.lt k hk)
  clear hn ho
  go_enter Try.func89, Try.ntmps89
  go_upto_region 1 with fail
  generalize w.alloc (oG s) = X at *
  obtain ⟨p1, p2, p3, p4, p5⟩ := five_cells HB0.out
  simp only [Nat.zero_add] at p1 p2 p3 p4 p5
  have HN1 : Hid ((X.alloc (oG s)).heap[X.heap.size]? = some (oG s)) := heap_alloc_new _ _
  have HG1 := Lib.hid (Bs.Lies.of_own (w := X.alloc (oG s)) (base := 0) (e := 38) (size := 5) (a := some ⟨X.heap.size, 0, none⟩) (n := 1) (cap := 1) (xs := flatG [s]) ⟨rfl, .inr ⟨X.heap.size, 1, _, rfl, Nat.zero_le _, HN1.out, Nat.le_refl _, by decide, rfl, rfl⟩⟩)
  have HO1 := Lib.hid (HO0.out.alloc (oG s))
  have HX : Hid (base ≤ (X.alloc (oG s)).heap.size) := Nat.le_trans hb (Nat.le_trans hL.size (below_new X (oG s)).size)
  go_upto_region 2 with (at_builtin; refine Bs.wpList_append_row _ rfl _ _ 32 rfl base 38 i0 _ 5 40 Try.underlying32 hi0 hz0 hz1 hz2 rfl (by omega) _ n (flatG l) (by rfl) HO1.out (some ⟨X.heap.size, 0, none⟩) 1 1 (flatG [s]) (by rfl) rfl HG1.out (flatG_one [s]) (by simp only [maxLen]; omega) (by omega) HX.out ?_; intro a1 cap1 w1 hown1 hgrow1 hat1)
  obtain ⟨g1, rfl⟩ : ∃ g1, a1 = some ⟨g1, 0, none⟩ := by
    cases a1 with
    | none => exact absurd (own_none hown1).1 (by omega)
    | some x => obtain ⟨g, rfl⟩ := own_some hown1; exact ⟨g, rfl⟩
  have hcap := own_cap hown1
  have HB1 : Hid (w1.heap[w.heap.size]? = some (oG s)) := by
    have h2 : (X.alloc (oG s)).heap[w.heap.size]? = some (oG s) := box_on HB0.out (below_new X (oG s))
    show _ = _
    rw [hgrow1.block w.heap.size (Array.getElem?_eq_some_iff.1 h2).1 (fun e => Nat.lt_irrefl _ (HOW.out _ e.symm).2)]
    exact h2
  have HG1' := Lib.hid hgrow1
  have HAT := Lib.hid hat1
  have HM := Lib.hid hown1
  have HSZ : Hid (w.heap.size ≤ w1.heap.size) := Nat.le_trans hL.size (Nat.le_trans (below_new X (oG s)).size hgrow1.size)
  have hne : w.heap.size ≠ g1 := by
    intro e
    rcases hat1 with h | h
    · exact Nat.lt_irrefl _ (HOW.out _ (h.symm.trans (by rw [e]; rfl))).2
    · have h3 : g1 = (X.alloc (oG s)).heap.size := by simpa [Value.ownBlock] using h
      have h4 := (Array.getElem?_eq_some_iff.1 (box_on HB0.out (below_new X (oG s)))).1
      omega
  clear hat1 hgrow1 hown1 p1 p2 p3 p4 p5
  have HONE : Hid (∀ u ∈ flatG l ++ flatG [s], u.oneCell' = true) := by
    intro u hu
    rcases List.mem_append.1 hu with h | h
    · exact flatG_one l u h
    · exact flatG_one [s] u h
  have i1 : (0 : Int) ≤ (i : Int) := by omega
  have i2 : (i : Int) ≤ ((n + 1 : Nat) : Int) := by omega
  have i3 : (0 : Int) ≤ (i : Int) + 1 := by omega
  have i4 : (i : Int) + 1 ≤ ((n + 1 : Nat) : Int) := by omega
  have i7 : (i : Int) ≤ (n : Int) + 1 := by omega
  have i8 : (i : Int) + 1 ≤ (n : Int) + 1 := by omega
  have i5 : ((i : Int) + 1).toNat = i + 1 := by omega
  have i6 : IntKind.i64.wrap ((i : Int) + 1) = (i : Int) + 1 := IntWalk.i64_in _ (by omega)
  go_region_law (refine Bs.step_copy_row _ rfl (.tmp 14) (.tmp 17) 32 rfl base 38 i0 5 Try.underlying32 hi0 hz1 g1 (n + 1) cap1 (flatG l ++ flatG [s]) HM.out HONE.out _ _ _ _ _ _ (by rfl) (by rfl) (i + 1) i (n - i) (by show n - i = min (n + 1 - i) (n - i); omega) (fun h => ⟨if_neg (by omega), if_neg (by omega), by omega, by omega⟩) ?_; intro w2 hown2 hgrow2)
  have HB2 : Hid (w2.heap[w.heap.size]? = some (oG s)) := by
    show _ = _
    rw [hgrow2.block w.heap.size (Array.getElem?_eq_some_iff.1 HB1.out).1 (fun e => hne (by cases e; rfl))]
    exact HB1.out
  have HG2 : Hid (w1.grownBy w2 (some g1)) := ⟨hgrow2.os, hgrow2.tape, hgrow2.output, hgrow2.size, hgrow2.block⟩
  have HS2 : Hid (w.heap.size ≤ w2.heap.size) := Nat.le_trans HSZ.out hgrow2.size
  obtain ⟨M, hM⟩ : ∃ M : List G5, M = (if n - i = 0 then l ++ [s] else (l ++ [s]).take (i + 1) ++ ((l ++ [s]).drop i).take (n - i) ++ (l ++ [s]).drop (i + 1 + (n - i))) := ⟨_, rfl⟩
  have hMl : M.length = n + 1 := by
    rw [hM, HN.out]
    split <;> simp only [List.length_append, List.length_take, List.length_drop, List.length_cons, List.length_nil] <;> omega
  have HO2 : Hid (w2.ownsRow base 38 5 (.slice (some ⟨g1, 0, none⟩) (n + 1) cap1) (n + 1) (flatG M)) := by
    have e1 : flatG M = (if n - i = 0 then flatG l ++ flatG [s] else (flatG l ++ flatG [s]).take ((i + 1) * 5) ++ ((flatG l ++ flatG [s]).drop (i * 5)).take ((n - i) * 5) ++ (flatG l ++ flatG [s]).drop ((i + 1 + (n - i)) * 5)) := by
      rw [hM]
      split
      · rw [flatG_append]
      · rw [← flatG_append, flatG_take, flatG_drop, flatG_take, flatG_drop, flatG_append, flatG_append]
    show World.ownsRow _ _ _ _ _ _ _
    rw [e1]
    exact hown2
  have HL : Hid (M.set i s = l.take i ++ s :: l.drop i) := by
    show _ = _
    rw [hM, HN.out]
    exact laid_list l s i (by rw [← HN.out]; exact hi)
  clear hown2 hgrow2 HM HB1 hM i3 i4 i5 i6 i8
  obtain ⟨p1, p2, p3, p4, p5⟩ := five_cells HB2.out
  simp only [Nat.zero_add] at p1 p2 p3 p4 p5
  obtain ⟨g', e', hbg, ⟨q1, q2, q3, q4, q5⟩, hfz⟩ := own_atG HO2.out hMl.symm i (by omega)
  cases e'
  have f1 := hfz (i * 5); have f2 := hfz (i * 5 + 1); have f3 := hfz (i * 5 + 2); have f4 := hfz (i * 5 + 3); have f5 := hfz (i * 5 + 4)
  have i9 : (i : Int) < (n : Int) + 1 := by omega
  have HMI : Hid (i < M.length) := by show _ < _; omega
  clear hfz
  generalize M[i] = gi at *
  clear hMl
  generalize (if cap1 = i + 1 then some (⟨g1, 0, none⟩ : Addr) else some ⟨g1, (i + 1) * 5, none⟩) = z1
  generalize (if cap1 = i then some (⟨g1, 0, none⟩ : Addr) else some ⟨g1, i * 5, none⟩) = z2
  go_wp2_with fail
  go_ret
  have h1 := own_setG HO2.out i HMI.out s
  rw [HL.out] at h1
  refine ⟨some ⟨g1, 0, none⟩, cap1, ⟨rfl, h1⟩, ?_, ?_⟩
  · refine Bs.grown_chain (bt hL (below_new X (oG s))) HG1'.out (g := g1) ?_ (Bs.grown_trans HG2.out ?_)
    · rcases HAT.out with h | h
      · exact .inl h.symm
      · right
        have h3 : g1 = (X.alloc (oG s)).heap.size := by simpa [Value.ownBlock] using h
        have := (bt hL (below_new X (oG s))).size
        omega
    · exact Bs.grown_trans (Bs.grown_cell _ _ _) (Bs.grown_trans (Bs.grown_cell _ _ _) (Bs.grown_trans (Bs.grown_cell _ _ _) (Bs.grown_trans (Bs.grown_cell _ _ _) (Bs.grown_cell _ _ _))))
  · intro b hb'
    cases hb'
    rcases HAT.out with h | h
    · exact .inl h.symm
    · right
      have h3 : g1 = (X.alloc (oG s)).heap.size := by simpa [Value.ownBlock] using h
      have := (bt hL (below_new X (oG s))).size
      show w.heap.size ≤ g1
      omega
end Go.Proofs.Ytjgcdmeojjnjlaa
/- laid, walked: of places. -/
namespace Go.Proofs.Ytjgcdmeojjnjlaa
open Go.RowKit Go.Sort Go.Proofs.Ytjgcdmeojjnjlaa.Bo
set_option linter.unusedVariables false
set_option maxRecDepth 100000 in
set_option maxHeartbeats 2000000 in
theorem laidI_any {base n cap i : Nat} {a : Option Addr} {l : List Int} {s : Int} {w : World} (ho : w.ownsRow base 3 1 (.slice a n cap) n (l.map nv)) (hn : n = l.length) (hi : i ≤ n) (hl : n ≤ 100000) (hb : base ≤ w.heap.size) :
    Calls Try.prog 90 #[.slice a n cap, .int .i64 (i : Int), .int .i64 s] w (OPost w base 3 1 (.slice a n cap) (n + 1) ((l.take i ++ s :: l.drop i).map nv)) := by
  obtain ⟨i0, hi0, hz0, hz1, hz2⟩ := info_parts Try.infoInt
  have hL := below_new w (.cells #[.int .i64 s] 3)
  have HN := Lib.hid hn
  have HOW := Lib.hid (fun k hk => ho.lt k hk)
  have HN1 : Hid ((w.alloc (.cells #[.int .i64 s] 3)).heap[w.heap.size]? = some (.cells #[.int .i64 s] 3)) := heap_alloc_new _ _
  have HG1 := Lib.hid (Bs.Lies.of_own (w := w.alloc (.cells #[.int .i64 s] 3)) (base := 0) (e := 3) (size := 1) (a := some ⟨w.heap.size, 0, none⟩) (n := 1) (cap := 1) (xs := [s].map nv) ⟨rfl, .inr ⟨w.heap.size, 1, _, rfl, Nat.zero_le _, HN1.out, Nat.le_refl _, by decide, rfl, rfl⟩⟩)
  have HO1 := Lib.hid (ho.alloc (.cells #[.int .i64 s] 3))
  have HX : Hid (base ≤ (w.alloc (.cells #[.int .i64 s] 3)).heap.size) := Nat.le_trans hb hL.size
  clear hn ho
  go_enter Try.func90, Try.ntmps90
  go_upto_region 2 with (at_builtin; refine Bs.wpList_append_row _ rfl _ _ 78 rfl base 3 i0 _ 1 8 Try.underlying78 hi0 hz0 hz1 hz2 rfl (by omega) _ n (l.map nv) (by rfl) HO1.out (some ⟨w.heap.size, 0, none⟩) 1 1 ([s].map nv) (by rfl) rfl HG1.out (nv_one [s]) (by simp only [maxLen]; omega) (by omega) HX.out ?_; intro a1 cap1 w1 hown1 hgrow1 hat1)
  obtain ⟨g1, rfl⟩ : ∃ g1, a1 = some ⟨g1, 0, none⟩ := by
    cases a1 with
    | none => exact absurd (own_none hown1).1 (by omega)
    | some x => obtain ⟨g, rfl⟩ := own_some hown1; exact ⟨g, rfl⟩
  have hcap := own_cap hown1
  have HG1' := Lib.hid hgrow1
  have HAT := Lib.hid hat1
  have HM := Lib.hid hown1
  clear hat1 hgrow1 hown1
  have HONE : Hid (∀ u ∈ l.map nv ++ [s].map nv, u.oneCell' = true) := by
    intro u hu
    rcases List.mem_append.1 hu with h | h
    · exact nv_one l u h
    · exact nv_one [s] u h
  have i1 : (0 : Int) ≤ (i : Int) := by omega
  have i2 : (i : Int) ≤ ((n + 1 : Nat) : Int) := by omega
  have i3 : (0 : Int) ≤ (i : Int) + 1 := by omega
  have i4 : (i : Int) + 1 ≤ ((n + 1 : Nat) : Int) := by omega
  have i7 : (i : Int) ≤ (n : Int) + 1 := by omega
  have i8 : (i : Int) + 1 ≤ (n : Int) + 1 := by omega
  have i5 : ((i : Int) + 1).toNat = i + 1 := by omega
  have i6 : IntKind.i64.wrap ((i : Int) + 1) = (i : Int) + 1 := IntWalk.i64_in _ (by omega)
  go_region_law (refine Bs.step_copy_row _ rfl (.tmp 14) (.tmp 17) 78 rfl base 3 i0 1 Try.underlying78 hi0 hz1 g1 (n + 1) cap1 (l.map nv ++ [s].map nv) HM.out HONE.out _ _ _ _ _ _ (by rfl) (by rfl) (i + 1) i (n - i) (by show n - i = min (n + 1 - i) (n - i); omega) (fun h => ⟨(if_neg (by omega)).trans (by rw [Nat.mul_one]), (if_neg (by omega)).trans (by rw [Nat.mul_one]), by omega, by omega⟩) ?_; intro w2 hown2 hgrow2)
  have HG2 : Hid (w1.grownBy w2 (some g1)) := ⟨hgrow2.os, hgrow2.tape, hgrow2.output, hgrow2.size, hgrow2.block⟩
  obtain ⟨M, hM⟩ : ∃ M : List Int, M = (if n - i = 0 then l ++ [s] else (l ++ [s]).take (i + 1) ++ ((l ++ [s]).drop i).take (n - i) ++ (l ++ [s]).drop (i + 1 + (n - i))) := ⟨_, rfl⟩
  have hMl : M.length = n + 1 := by
    rw [hM, HN.out]
    split <;> simp only [List.length_append, List.length_take, List.length_drop, List.length_cons, List.length_nil] <;> omega
  have HO2 : Hid (w2.ownsRow base 3 1 (.slice (some ⟨g1, 0, none⟩) (n + 1) cap1) (n + 1) (M.map nv)) := by
    have e1 : M.map nv = (if n - i = 0 then l.map nv ++ [s].map nv else (l.map nv ++ [s].map nv).take ((i + 1) * 1) ++ ((l.map nv ++ [s].map nv).drop (i * 1)).take ((n - i) * 1) ++ (l.map nv ++ [s].map nv).drop ((i + 1 + (n - i)) * 1)) := by
      rw [hM]
      split
      · rw [List.map_append]
      · simp only [Nat.mul_one, ← List.map_append, ← List.map_take, ← List.map_drop]
    show World.ownsRow _ _ _ _ _ _ _
    rw [e1]
    exact hown2
  have HL : Hid (M.set i s = l.take i ++ s :: l.drop i) := by
    show _ = _
    rw [hM, HN.out]
    exact laid_list l s i (by rw [← HN.out]; exact hi)
  clear hown2 hgrow2 HM hM i3 i4 i5 i6 i8
  have HMI : Hid (i < M.length) := by show _ < _; omega
  obtain ⟨g', e', hbg, q1, f1⟩ := own_at HO2.out hMl.symm i (by omega)
  cases e'
  have i9 : (i : Int) < (n : Int) + 1 := by omega
  generalize M[i] = gi at *
  clear hMl
  generalize (if cap1 = i + 1 then some (⟨g1, 0, none⟩ : Addr) else some ⟨g1, i + 1, none⟩) = z1
  generalize (if cap1 = i then some (⟨g1, 0, none⟩ : Addr) else some ⟨g1, i, none⟩) = z2
  go_wp2_with fail
  go_ret
  have h1 := own_set HO2.out i s
  rw [HL.out] at h1
  refine ⟨some ⟨g1, 0, none⟩, cap1, ⟨rfl, h1⟩, ?_, ?_⟩
  · refine Bs.grown_chain hL HG1'.out (g := g1) ?_ (Bs.grown_trans HG2.out ?_)
    · rcases HAT.out with h | h
      · exact .inl h.symm
      · right
        have h3 : g1 = (w.alloc (.cells #[.int .i64 s] 3)).heap.size := by simpa [Value.ownBlock] using h
        have := hL.size
        omega
    · exact Bs.grown_cell _ _ _
  · intro b hb'
    cases hb'
    rcases HAT.out with h | h
    · exact .inl h.symm
    · right
      have h3 : g1 = (w.alloc (.cells #[.int .i64 s] 3)).heap.size := by simpa [Value.ownBlock] using h
      have := hL.size
      show w.heap.size ≤ g1
      omega
end Go.Proofs.Ytjgcdmeojjnjlaa
/- A segment is laid in along its way: what holds between two rounds. No Go in sight. -/
namespace Go.Proofs.Ytjgcdmeojjnjlaa.Bb
open Go.Proofs.Ytjgcdmeojjnjlaa.Bo
set_option linter.unusedVariables false
/-- Behind j rounds: nothing is laid in yet, or a segment and a tree are still to be laid in. -/
def LaySt (d : Nat) (f : Int → Option Kn) (n : Nat) (root : Int) (cx : List BF) (s : G5) (L' : List G5) (j : Nat) (f' : Int → Option Kn) (n' : Nat) (s' : G5) (beh : Int) : Prop :=
  (j = 0 ∧ f' = f ∧ n' = n ∧ s' = s ∧ beh = -1) ∨ ∃ m tt u, j = m + 1 ∧ LayAt d f' n' root L' m (cx.drop m) s' tt u ∧ beh = u.idx
/-- The kids of the round's node behind it. -/
def kidsB (l : List Int) (a : Nat) (beh : Int) : List Int := if beh = -1 then l else insL l (a + 1) beh
/-- What a round leaves of the node p. -/
structure LayR (d : Nat) (f : Int → Option Kn) (n : Nat) (root : Int) (cx : List BF) (s : G5) (L' : List G5) (j : Nat) (f' : Int → Option Kn) (n' : Nat) (s' : G5) (beh : Int) (p a : Nat) (nd : Kn) : Prop where
  at_ : f' (p : Int) = some nd
  le : a ≤ nd.segs.length
  hi : nd.segs.length + 1 ≤ 2 * d
  kids : (beh = -1 ∧ nd.kids = []) ∨ (beh ≠ -1 ∧ a + 1 ≤ nd.kids.length ∧ nd.kids.length = nd.segs.length + 1)
  done : nd.segs.length + 1 < 2 * d → TreeAt d (updK f' (p : Int) (some ⟨insL nd.segs a s', kidsB nd.kids a beh⟩)) n' root L'
  over : nd.segs.length + 1 = 2 * d → n' + 2 * d ≤ L'.length + 1 ∧ ∃ mid, (insL nd.segs a s')[d]? = some mid ∧ ∀ q : Nat, updK f' (p : Int) (some ⟨insL nd.segs a s', kidsB nd.kids a beh⟩) (q : Int) = none →
    LaySt d f n root cx s L' (j + 1) (updK (updK (updK f' (p : Int) (some ⟨insL nd.segs a s', kidsB nd.kids a beh⟩)) (p : Int) (some ⟨(insL nd.segs a s').take d, (kidsB nd.kids a beh).take (d + 1)⟩)) (q : Int) (some ⟨(insL nd.segs a s').drop (d + 1), (kidsB nd.kids a beh).drop (d + 1)⟩)) (n' + 1) mid (q : Int)
section
variable {d : Nat} {f f' : Int → Option Kn} {n n' : Nat} {root : Int} {L L' : List G5} {fits : G5 → Bool} {cx : List BF} {t : Bt} {s s' : G5} {beh : Int} {j : Nat}
theorem wayRow_at (fits : G5 → Bool) (w : List BF × Bt) (j : Nat) (hj : j < (wayRow fits w).length) : (wayRow fits w).getD ((wayRow fits w).length - 1 - j) (0, 0) = (wayRev fits w).getD j (0, 0) := by
  rw [wayRev_eq, List.getD_eq_getElem?_getD, List.getD_eq_getElem?_getD, List.getElem?_reverse hj]
theorem Over.round (hd : 2 ≤ d) {tt : Bt} {h : Nat} {cx' : List BF} (o : Over d f' n' root L' h cx' tt) (hc : cx' = cx.drop h) (hlt : tt.s.length < 2 * d → TreeAt d f' n' root L') (hl : tt.s.length = 2 * d) :
    n' + 2 * d ≤ L'.length + 1 ∧ ∃ mid, tt.s[d]? = some mid ∧ ∀ q : Nat, f' (q : Int) = none →
    LaySt d f n root cx s L' (h + 1) (updK (updK f' (tt.i : Int) (some ⟨tt.s.take d, (tt.ks.map Bt.idx).take (d + 1)⟩)) (q : Int) (some ⟨tt.s.drop (d + 1), (tt.ks.map Bt.idx).drop (d + 1)⟩)) (n' + 1) mid (q : Int) := by
  have hle := o.le hd
  refine ⟨by omega, tt.s[d]'(by omega), List.getElem?_eq_getElem (by omega), fun q hq => ?_⟩
  have := o.split (by omega) hl _ (List.getElem?_eq_getElem (by omega)) q hq
  rw [List.map_take, List.map_drop] at this
  exact .inr ⟨h, _, _, rfl, by rw [← hc]; exact this, rfl⟩
theorem LaySt.round (l : Leaf d f n root L fits cx t) (hd : 2 ≤ d) (st : LaySt d f n root cx s (aheadR fits (cx, t) ++ s :: behindR fits (cx, t)) j f' n' s' beh) (hj : j < (wayRow fits (cx, t)).length) :
    ∃ (p a : Nat) (nd : Kn), (wayRow fits (cx, t)).getD ((wayRow fits (cx, t)).length - 1 - j) (0, 0) = ((p : Int), (a : Int)) ∧ LayR d f n root cx s (aheadR fits (cx, t) ++ s :: behindR fits (cx, t)) j f' n' s' beh p a nd := by
  rw [wayRow_at fits (cx, t) j hj]
  rcases st with ⟨rfl, rfl, rfl, rfl, rfl⟩ | ⟨m, tt, u, rfl, la, rfl⟩
  · have o := l.over s'
    obtain ⟨hi, _, hks⟩ := l.lens
    have hnode : f' (t.i : Int) = some ⟨t.s, []⟩ := by
      have := l.z.tree.node
      unfold nodeAt at this
      rw [this, hks]; rfl
    have hlen := insL_len t.s (fitN fits t.s) s' (fitN_le fits t.s)
    refine ⟨t.i, fitN fits t.s, ⟨t.s, []⟩, rfl, ⟨hnode, fitN_le fits t.s, hi, .inl ⟨rfl, rfl⟩, fun h => ?_, fun h => ?_⟩⟩
    · exact o.done (by show (insL t.s (fitN fits t.s) s').length < _; rw [hlen]; exact h)
    · obtain ⟨k1, mid, k2, k3⟩ := o.round (cx := cx) (f := f') (n := n') (s := s') hd rfl (fun h => o.done h) (by show (insL t.s (fitN fits t.s) s').length = _; rw [hlen]; exact h)
      exact ⟨k1, mid, k2, fun q hq => k3 q hq⟩
  · have hm : m < cx.length := by rw [wayRow_len] at hj; dsimp only at hj; omega
    have hdrop : cx.drop m = cx[m] :: cx.drop (m + 1) := List.drop_eq_getElem_cons hm
    rw [hdrop] at la
    generalize hy : cx[m] = y at *
    have o := la.over
    have hx := la.z.ctx
    obtain ⟨h1, h2, h3, h4⟩ := hx
    unfold BF.ok at h2
    obtain ⟨k1, k2, k3, k4⟩ := la.dx
    have hlen := insL_len y.s y.l.length s' (by omega)
    have hne : u.idx ≠ -1 := by show (u.i : Int) ≠ -1; omega
    have hkb : kidsB (y.l.map Bt.idx ++ tt.idx :: y.r.map Bt.idx) y.l.length u.idx = insL (y.l.map Bt.idx ++ tt.idx :: y.r.map Bt.idx) (y.l.length + 1) u.idx := by unfold kidsB; rw [if_neg hne]
    have hk : insL (y.l.map Bt.idx ++ tt.idx :: y.r.map Bt.idx) (y.l.length + 1) u.idx = (y.l ++ tt :: u :: y.r).map Bt.idx := by
      have := insL_at (y.l.map Bt.idx ++ [tt.idx]) (y.r.map Bt.idx) u.idx
      simp only [List.append_assoc, List.cons_append, List.nil_append, List.length_append, List.length_map, List.length_cons, List.length_nil, Nat.zero_add] at this
      rw [this]; simp
    refine ⟨y.i, y.l.length, ⟨y.s, y.l.map Bt.idx ++ tt.idx :: y.r.map Bt.idx⟩, ?_, ⟨h1, by show y.l.length ≤ y.s.length; omega, k2, .inr ⟨hne, by simp, by simp; omega⟩, fun h => ?_, fun h => ?_⟩⟩
    · unfold wayRev
      rw [List.getD_eq_getElem?_getD, List.getElem?_cons_succ, List.getElem?_map, List.getElem?_eq_getElem hm, hy]; rfl
    · rw [hkb]
      exact o.done (by show (insL y.s y.l.length s').length < _; rw [hlen]; exact h)
    · rw [hkb]
      obtain ⟨k1, mid, k2, k3⟩ := o.round (cx := cx) (f := f) (n := n) (s := s) hd rfl (fun h => o.done h) (by show (insL y.s y.l.length s').length = _; rw [hlen]; exact h)
      refine ⟨k1, mid, k2, fun q hq => ?_⟩
      have := k3 q hq
      rw [hk]
      rw [hk] at this
      exact this
/-- Behind the last round: a new root. -/
theorem LaySt.last (st : LaySt d f n root cx s L' (cx.length + 1) f' n' s' beh) (hd : 2 ≤ d) : root ≠ -1 ∧ n' + 1 ≤ L'.length ∧ ∀ q : Nat, f' (q : Int) = none → TreeAt d (updK f' (q : Int) (some ⟨[s'], [root, beh]⟩)) (n' + 1) (q : Int) L' := by
  rcases st with ⟨h, _⟩ | ⟨m, tt, u, h, la, rfl⟩
  · cases h
  · obtain rfl : m = cx.length := by omega
    rw [List.drop_length] at la
    have hr : root = tt.idx := la.z.root
    refine ⟨by rw [hr]; show (tt.i : Int) ≠ -1; omega, la.le hd, fun q hq => ?_⟩
    rw [hr]
    exact la.grow hd q hq
end
end Go.Proofs.Ytjgcdmeojjnjlaa.Bb
/- A region that draws its order, whose loads all feed one call: they are taken first; behind the call nothing of what they read need hold. -/
namespace Go.Proofs.Ytjgcdmeojjnjlaa.Rf
open Go.RowKit Go.Sort
set_option linter.unusedVariables false
variable {P : Program} {n l : Nat} {ops : Array Oper} {Q : Exit → Act → World → Prop} {md : Region.Mode} {S : World → Prop} {stop : Nat}
def wpAnyT (P : Program) (md : Region.Mode) (ops : Array Oper) (Q : Exit → Act → World → Prop) (S : World → Prop) (stop : Nat) : Nat → Array Bool → Act → World → Prop
  | 0, listed, a, w => Region.ready md ops listed = [] ∧ Q .normal a w
  | fuel + 1, listed, a, w => (Region.ready md ops listed = [] → Q .normal a w) ∧
    ∀ i ∈ Region.ready md ops listed, wpOp P ops Q i (fun a' w' => if i = stop then wpAny P md ops Q fuel (listed.setIfInBounds i true) a' w' else S w' ∧ wpAnyT P md ops Q S stop fuel (listed.setIfInBounds i true) a' w') a w
theorem wpAny_of_T : ∀ (fuel : Nat) (listed : Array Bool) (a : Act) (w : World), wpAnyT P md ops Q S stop fuel listed a w → wpAny P md ops Q fuel listed a w
  | 0, _, _, _, h => h
  | fuel + 1, _, _, _, h => ⟨h.1, fun i hi => wpOp_mono (fun a' w' h' => by
      by_cases e : i = stop
      · rw [if_pos e] at h'; exact h'
      · rw [if_neg e] at h'; exact wpAny_of_T fuel _ a' w' h'.2) (h.2 i hi)⟩
/-- None of U has come up, and each waits for i, or for one of U. -/
def waitsB (md : Region.Mode) (ops : Array Oper) (listed : Array Bool) (i : Nat) (U : List Nat) : Bool :=
  U.all fun u => !(listed.getD u true) && (match ops[u]? with | some o => o.after.any (fun e => Region.binds md e && (e.on == i || U.contains e.on)) | none => false)
theorem waits_ready {listed : Array Bool} {i : Nat} {U : List Nat} (h : waitsB md ops listed i U = true) (hi : listed.getD i true = false) (u : Nat) (hu : u ∈ U) : u ∉ Region.ready md ops listed := by
  have off : ∀ k : Nat, listed.getD k true = false → listed.getD k false = true → False := fun k h1 h2 => by
    by_cases hk : k < listed.size
    · simp [hk] at h1 h2; rw [h1] at h2; cases h2
    · simp [hk] at h1
  intro hr
  obtain ⟨_, o, ho, hall⟩ := mem_ready.1 hr
  have h1 := List.all_eq_true.1 h u hu
  simp only [ho, Bool.and_eq_true, Array.any_eq_true'] at h1
  obtain ⟨_, e, he, hb, hor⟩ := h1
  have h2 := hall e he hb
  rcases Bool.or_eq_true _ _ ▸ hor with q | q
  · rw [beq_iff_eq.1 q] at h2; exact off i hi h2
  · have hm : e.on ∈ U := by simpa using q
    have h3 := List.all_eq_true.1 h e.on hm
    simp only [Bool.and_eq_true, Bool.not_eq_true'] at h3
    exact off _ h3.1 h2
theorem waits_step {listed : Array Bool} {i j : Nat} {U : List Nat} (h : waitsB md ops listed i U = true) (hj : j ∉ U) : waitsB md ops (listed.setIfInBounds j true) i U = true := by
  unfold waitsB at *
  rw [List.all_eq_true] at *
  intro u hu
  have := h u hu
  rw [getD_set_ne true (fun e : j = u => hj (by rw [e]; exact hu))]
  exact this
theorem wpAnyT_first {i : Nat} {oi : Oper} {v : Value} {U : List Nat} (hs : stop ∈ U) (hi : ops[i]? = some oi) (hsel : ∀ (j : Nat) (o : Oper) cs b, ops[j]? = some o → o.op ≠ .select cs b)
    (hQ : ∀ c a w, Q (.panic c) (a.put oi.dst v) w → Q (.panic c) a w) :
    ∀ (fuel : Nat) (listed : Array Bool) (a : Act) (w : World), waitsB md ops listed i U = true → i ≠ stop →
      (∀ j oj, ops[j]? = some oj → j ≠ i → listed.getD j true = false → (∀ e ∈ oj.after, Region.binds md e = true → e.on ≠ i) → oi.apart ops oj = true) →
      i ∈ Region.ready md ops listed → YieldsIf P ops S oi v a → S w → wpAnyT P md ops Q S stop fuel (listed.setIfInBounds i true) (a.put oi.dst v) w → wpAnyT P md ops Q S stop (fuel + 1) listed a w := by
  intro fuel
  induction fuel with
  | zero =>
    intro listed a w _ his _ hr hy hS H
    refine ⟨fun h => (by rw [h] at hr; cases hr), fun j hj => ?_⟩
    by_cases hji : j = i
    · subst hji; exact hy.wpOp hi hS (by rw [if_neg his]; exact ⟨hS, H⟩)
    · have := ready_mono hj hji
      rw [H.1] at this
      cases this
  | succ fuel ih =>
    intro listed a w hU his hfree hr hy hS H
    refine ⟨fun h => (by rw [h] at hr; cases hr), fun j hj => ?_⟩
    by_cases hji : j = i
    · subst hji; exact hy.wpOp hi hS (by rw [if_neg his]; exact ⟨hS, H⟩)
    · have hiu := (mem_ready.1 hr).1
      have hjU : j ∉ U := fun hju => waits_ready hU hiu j hju hj
      have hjs : j ≠ stop := fun e => hjU (e ▸ hs)
      have h1 := H.2 j (ready_mono hj hji)
      simp only [if_neg hjs] at h1
      obtain ⟨hjun, oj, hoj, hall⟩ := mem_ready.1 hj
      have hnot : ∀ e ∈ oj.after, Region.binds md e = true → e.on ≠ i := fun e he hb heq => by
        have h1 := hall e he hb
        rw [heq] at h1
        by_cases hk : i < listed.size
        · simp [hk] at hiu h1; rw [hiu] at h1; cases h1
        · simp [hk] at h1
      have h2 := wpOp_putIf hoj (hfree j oj hoj hji hjun hnot) (fun cs b => hsel i oi cs b hi) (fun cs b => hsel j oj cs b hoj) hQ hy h1
      simp only [if_neg hjs]
      have hfree' : ∀ k ok, ops[k]? = some ok → k ≠ i → (listed.setIfInBounds j true).getD k true = false → (∀ e ∈ ok.after, Region.binds md e = true → e.on ≠ i) → oi.apart ops ok = true := fun k ok hk hki hun hno => by
        refine hfree k ok hk hki ?_ hno
        by_cases hjk : j = k
        · subst hjk; exact hjun
        · rw [getD_set_ne true hjk] at hun; exact hun
      refine wpOp_mono (fun a' w' h3 => ⟨h3.2.1, ih (listed.setIfInBounds j true) a' w' (waits_step hU hjU) his hfree' (ready_mono hr (Ne.symm hji)) h3.1 h3.2.1 ?_⟩) h2
      rw [Array.setIfInBounds_comm _ _ hji]
      exact h3.2.2
/-- i is taken first: it yields v in every world that meets S; the call waits for it by way of U. -/
theorem wpAnyT_take {i : Nat} {oi : Oper} {v : Value} {fuel : Nat} {listed : Array Bool} {a : Act} {w : World} (U : List Nat) (hs : U.contains stop = true) (hU : waitsB md ops listed i U = true) (his : (i == stop) = false) (hi : ops[i]? = some oi)
    (hn : Region.noSelect ops = true) (hf : Region.free md ops listed i = true) (hr : (Region.ready md ops listed).contains i = true)
    (hQ : ∀ c a w, Q (.panic c) (a.put oi.dst v) w → Q (.panic c) a w) (hy : YieldsIf P ops S oi v a) (hS : S w)
    (h : wpAnyT P md ops Q S stop fuel (listed.setIfInBounds i true) (a.put oi.dst v) w) : wpAnyT P md ops Q S stop (fuel + 1) listed a w :=
  wpAnyT_first (U := U) (by simpa using hs) hi (Region.noSelect_spec hn) hQ fuel listed a w hU (by simpa using his) (Region.free_spec hi hf) (by simpa using hr) hy hS h
theorem yields_of_if {o : Oper} {v : Value} {a : Act} (h : YieldsIf P ops (fun _ => True) o v a) : Yields P ops o v a := h.imp (fun ⟨hw, hv⟩ => ⟨hw, fun w => hv w trivial⟩) id
theorem wpAnyT_firstP {i : Nat} {oi : Oper} {v : Value} (hi : ops[i]? = some oi) (hsel : ∀ (j : Nat) (o : Oper) cs b, ops[j]? = some o → o.op ≠ .select cs b)
    (hQ : ∀ c a w, Q (.panic c) (a.put oi.dst v) w → Q (.panic c) a w) :
    ∀ (fuel : Nat) (listed : Array Bool) (a : Act) (w : World), i ≠ stop →
      (∀ j oj, ops[j]? = some oj → j ≠ i → listed.getD j true = false → (∀ e ∈ oj.after, Region.binds md e = true → e.on ≠ i) → oi.apart ops oj = true) →
      i ∈ Region.ready md ops listed → YieldsIf P ops (fun _ => True) oi v a → S w → wpAnyT P md ops Q S stop fuel (listed.setIfInBounds i true) (a.put oi.dst v) w → wpAnyT P md ops Q S stop (fuel + 1) listed a w := by
  intro fuel
  induction fuel with
  | zero =>
    intro listed a w his _ hr hy hS H
    refine ⟨fun h => (by rw [h] at hr; cases hr), fun j hj => ?_⟩
    by_cases hji : j = i
    · subst hji; exact hy.wpOp hi trivial (by rw [if_neg his]; exact ⟨hS, H⟩)
    · have := ready_mono hj hji
      rw [H.1] at this
      cases this
  | succ fuel ih =>
    intro listed a w his hfree hr hy hS H
    refine ⟨fun h => (by rw [h] at hr; cases hr), fun j hj => ?_⟩
    by_cases hji : j = i
    · subst hji; exact hy.wpOp hi trivial (by rw [if_neg his]; exact ⟨hS, H⟩)
    · have hiu := (mem_ready.1 hr).1
      have h1 := H.2 j (ready_mono hj hji)
      obtain ⟨hjun, oj, hoj, hall⟩ := mem_ready.1 hj
      have hnot : ∀ e ∈ oj.after, Region.binds md e = true → e.on ≠ i := fun e he hb heq => by
        have h1 := hall e he hb
        rw [heq] at h1
        by_cases hk : i < listed.size
        · simp [hk] at hiu h1; rw [hiu] at h1; cases h1
        · simp [hk] at h1
      have h2 := wpOp_putIf hoj (hfree j oj hoj hji hjun hnot) (fun cs b => hsel i oi cs b hi) (fun cs b => hsel j oj cs b hoj) hQ hy h1
      have hfree' : ∀ k ok, ops[k]? = some ok → k ≠ i → (listed.setIfInBounds j true).getD k true = false → (∀ e ∈ ok.after, Region.binds md e = true → e.on ≠ i) → oi.apart ops ok = true := fun k ok hk hki hun hno => by
        refine hfree k ok hk hki ?_ hno
        by_cases hjk : j = k
        · subst hjk; exact hjun
        · rw [getD_set_ne true hjk] at hun; exact hun
      refine wpOp_mono (fun a' w' h3 => ?_) h2
      by_cases hjs : j = stop
      · rw [if_pos hjs]
        have h4 := h3.2
        rw [if_pos hjs, Array.setIfInBounds_comm _ _ (Ne.symm hji)] at h4
        exact wpAny_first hi hsel hQ fuel _ a' w' hfree' (ready_mono hr (Ne.symm hji)) (yields_of_if h3.1) h4
      · rw [if_neg hjs]
        have h4 := h3.2
        rw [if_neg hjs, Array.setIfInBounds_comm _ _ (Ne.symm hji)] at h4
        exact ⟨h4.1, ih (listed.setIfInBounds j true) a' w' his hfree' (ready_mono hr (Ne.symm hji)) h3.1 h4.1 h4.2⟩
/-- What yields in whatever world is taken first. -/
theorem wpAnyT_pure {i : Nat} {oi : Oper} {v : Value} {fuel : Nat} {listed : Array Bool} {a : Act} {w : World} (his : (i == stop) = false) (hi : ops[i]? = some oi)
    (hn : Region.noSelect ops = true) (hf : Region.free md ops listed i = true) (hr : (Region.ready md ops listed).contains i = true)
    (hQ : ∀ c a w, Q (.panic c) (a.put oi.dst v) w → Q (.panic c) a w) (hy : Yields P ops oi v a) (hS : S w)
    (h : wpAnyT P md ops Q S stop fuel (listed.setIfInBounds i true) (a.put oi.dst v) w) : wpAnyT P md ops Q S stop (fuel + 1) listed a w :=
  wpAnyT_firstP hi (Region.noSelect_spec hn) hQ fuel listed a w (by simpa using his) (Region.free_spec hi hf) (by simpa using hr) hy.yieldsIf hS h
/-- The call comes up. -/
theorem wpAnyT_stop {o : Oper} {fuel : Nat} {listed : Array Bool} {a : Act} {w : World} (hr : Region.ready md ops listed = [stop]) (ho : ops[stop]? = some o)
    (h : ∀ K' : Act → World → Prop, Shut (∀ a w, wpAny P md ops Q fuel (listed.setIfInBounds stop true) a w → K' a w) → if Region.wanted o (yielded ops a.tmps) = true then Oper.wp P o a w K' Q else K' (a.put o.dst undef) w) :
    wpAnyT P md ops Q S stop (fuel + 1) listed a w := by
  refine ⟨fun e => (by rw [hr] at e; cases e), fun i hi => ?_⟩
  rw [hr] at hi
  obtain rfl : i = stop := by simpa using hi
  simp only [if_pos]
  exact wpOp_step ho (fun K' hK => h K' (fun a w hW => hK a w hW))
theorem wpAny_one {i : Nat} {o : Oper} {fuel : Nat} {listed : Array Bool} {a : Act} {w : World} (hr : Region.ready md ops listed = [i]) (ho : ops[i]? = some o)
    (h : ∀ K' : Act → World → Prop, Shut (∀ a w, wpAny P md ops Q fuel (listed.setIfInBounds i true) a w → K' a w) → if Region.wanted o (yielded ops a.tmps) = true then Oper.wp P o a w K' Q else K' (a.put o.dst undef) w) :
    wpAny P md ops Q (fuel + 1) listed a w := by
  refine ⟨fun e => (by rw [hr] at e; cases e), fun j hj => ?_⟩
  rw [hr] at hj
  obtain rfl : j = i := by simpa using hj
  exact wpOp_step ho (fun K' hK => h K' (fun a w hW => hK a w hW))
theorem wpAny_end {listed : Array Bool} {a : Act} {w : World} (hr : Region.ready md ops listed = []) (h : Q .normal a w) : ∀ fuel, wpAny P md ops Q fuel listed a w
  | 0 => ⟨hr, h⟩
  | _ + 1 => ⟨fun _ => h, by rw [hr]; simp⟩
theorem wpIn_round_T {id : Nat} (S : World → Prop) (stop : Nat) {K : Act → World → Prop} {Q : Exit → Act → World → Prop} {a : Act} {w : World} (hm : P.follows .mixedOrders = true) (hd : ops.toList.all noDefer = true) (hS : S w.drew)
    (hK : ∀ a' w', K a' w' → Q .normal a' w') (h : S w.drew → wpAnyT P .any ops (onlyN K) S stop ops.size (Array.replicate ops.size false) a w.drew) : (Code.region id ops true).wpIn (Fence.wide.inRound l) n P Q a w :=
  wpIn_round_any hm hd hK (wpAny_of_T _ _ _ _ (h hS))
theorem wp_plain_T {id : Nat} (S : World → Prop) (stop : Nat) {K : Act → World → Prop} {Q : Exit → Act → World → Prop} {a : Act} {w : World} (hm : P.follows .mixedOrders = true) (hS : S w.drew)
    (hK : ∀ a' w', K a' w' → Q .normal a' w') (h : S w.drew → wpAnyT P .any ops (onlyN K) S stop ops.size (Array.replicate ops.size false) a w.drew) : (Code.region id ops true).wp P Q a w := by
  refine Code.wp_mono ?_ (wp_region_any hm (wpAny_of_T _ _ _ _ (h hS)))
  intro e a' w' hq
  cases e <;> first | exact hK _ _ hq | exact hq.elim
end Go.Proofs.Ytjgcdmeojjnjlaa.Rf
