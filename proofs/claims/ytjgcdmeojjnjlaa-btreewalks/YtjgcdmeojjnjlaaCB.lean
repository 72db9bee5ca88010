/- A part of the proof: contracts of the functions that the statements reach. -/
import Derived.RangeFuncNested
import Derived.RangeFuncBound
import Derived.RangeFuncCalls
import Derived.RangeFuncLeaves
import Derived.Shelf.Abstract
import Derived.Shelf.RegionOpen
import Derived.WalkKit
import Derived.OwnWalkIn
import Derived.TacticsInMore
import Derived.LoopNIn
import Derived.LoopIn
import Derived.Shelf.SlSortCmp.WholeK
import Derived.WalkSpells
import Derived.WalkLawsBesides
import Derived.Lib.Hide
import Derived.Laws.StructEq
import Derived.Shelf.SlSortCmp.QuietGrown
import Derived.Laws.EntriesVeiled
import Derived.Deep.CutRange
import Derived.RegionTactic
import Derived.Lib.QuietBelow
import Derived.BigQuiet
import Derived.OpenShut
import Derived.Deep.RegionHeld3
import Derived.Deep.QuietTactic
import Derived.Maps.AppendAt
import Derived.Laws.IdiomCopy
import Derived.Deep.AppendLies
import Derived.Deep.LoopGhost
import Derived.Deep.Upon
import Derived.StillTailTactics
import Derived.Lib.SmallJoins
import Derived.Deep.SlicePairs
import Derived.Deep.Strs
import Derived.ChangeOld
import Derived.SizedLaws
import Derived.Lib.SliceRun
import Derived.Test.YtjgcdmeojjnjlaaCA

/- Contracts of the reference's spans: Of, Shift. -/
namespace Go.Proofs.Ytjgcdmeojjnjlaa
open Go.RowKit Go.Sort Go.Proofs.Ytjgcdmeojjnjlaa.Bo
set_option linter.unusedVariables false
abbrev OfTwo (w X : World) (s a t b : Int) (w' : World) : Prop := w'.cell? ⟨w.heap.size, 0, none⟩ = some (.int .i64 s) ∧ w'.cell? ⟨w.heap.size, 1, none⟩ = some (.int .i64 a) ∧ w'.cell? ⟨w.heap.size + 1, 0, none⟩ = some (.int .i64 t) ∧ w'.cell? ⟨w.heap.size + 1, 1, none⟩ = some (.int .i64 b) ∧ Go.RowKit.Below X.heap.size X w'
theorem OfTwo.call {w X : World} {s a t b : Int} {w' w'' : World} (h : OfTwo w X s a t b w') (hb : Go.RowKit.Below w'.heap.size w' w'') : OfTwo w X s a t b w'' :=
  ⟨(hb.cell (World.block_lt_of_cell? w' _ h.1)).trans h.1, (hb.cell (World.block_lt_of_cell? w' _ h.2.1)).trans h.2.1, (hb.cell (World.block_lt_of_cell? w' _ h.2.2.1)).trans h.2.2.1, (hb.cell (World.block_lt_of_cell? w' _ h.2.2.2.1)).trans h.2.2.2.1, bt h.2.2.2.2 hb⟩
theorem OfTwo.alloc {w X : World} {s a t b : Int} {w' : World} (h : OfTwo w X s a t b w') (o : Obj) : OfTwo w X s a t b (w'.alloc o) := h.call (below_new w' o)
theorem OfTwo.drew {w X : World} {s a t b : Int} {w' : World} (h : OfTwo w X s a t b w') : OfTwo w X s a t b w'.drew := h.call (Go.RowKit.Below.refl _ _).drew
theorem OfTwo.put {w X : World} {s a t b : Int} {w' : World} (h : OfTwo w X s a t b w') (hX : w.heap.size + 1 < X.heap.size) (N : Nat) (hN : X.heap.size ≤ N) (v1 v2 v3 v4 : Value) : OfTwo w X s a t b ((((w'.setCell ⟨N, 0, none⟩ v1).setCell ⟨N, 1, none⟩ v2).setCell ⟨N, 2, none⟩ v3).setCell ⟨N, 3, none⟩ v4) := by
  have far : ∀ B i, B < X.heap.size → ((((w'.setCell ⟨N, 0, none⟩ v1).setCell ⟨N, 1, none⟩ v2).setCell ⟨N, 2, none⟩ v3).setCell ⟨N, 3, none⟩ v4).cell? ⟨B, i, none⟩ = w'.cell? ⟨B, i, none⟩ := by
    intro B i hB
    have hne : N ≠ B := by omega
    rw [World.cell?_setCell_other _ _ _ _ (by simp <;> omega), World.cell?_setCell_other _ _ _ _ (by simp <;> omega), World.cell?_setCell_other _ _ _ _ (by simp <;> omega), World.cell?_setCell_other _ _ _ _ (by simp <;> omega)]
  exact ⟨(far _ _ (by omega)).trans h.1, (far _ _ (by omega)).trans h.2.1, (far _ _ (by omega)).trans h.2.2.1, (far _ _ (by omega)).trans h.2.2.2.1, (((h.2.2.2.2.setCell hN _).setCell hN _).setCell hN _).setCell hN _⟩
abbrev z4 : S4 := ⟨0, 0, 0, 0⟩
theorem Box4.new (w : World) : Box4 (w.alloc (.cells #[.int .i64 0, .int .i64 0, .int .i64 0, .int .i64 0] 36)) w.heap.size z4 := heap_alloc_new _ _
theorem Box4.drew {w : World} {b : Nat} {q : S4} (h : Box4 w b q) : Box4 w.drew b q := h
theorem Box4.zero {w : World} {b : Nat} (h : Box4 w b z4) : (w.cell? ⟨b, 0, none⟩ = some (.int .i64 0) ∧ w.cell? ⟨b, 1, none⟩ = some (.int .i64 0) ∧ w.cell? ⟨b, 2, none⟩ = some (.int .i64 0) ∧ w.cell? ⟨b, 3, none⟩ = some (.int .i64 0)) ∧ w.frozen? ⟨b, 0, none⟩ = false ∧ w.frozen? ⟨b, 1, none⟩ = false ∧ w.frozen? ⟨b, 2, none⟩ = false ∧ w.frozen? ⟨b, 3, none⟩ = false :=
  ⟨h.cells, h.free 0, h.free 1, h.free 2, h.free 3⟩
theorem box_put4 {w : World} {N : Nat} {q : S4} (h : Box4 w N q) (r : S4) : Box4 ((((w.setCell ⟨N, 0, none⟩ (.int .i64 r.ls)).setCell ⟨N, 1, none⟩ (.int .i64 r.la)).setCell ⟨N, 2, none⟩ (.int .i64 r.hs)).setCell ⟨N, 3, none⟩ (.int .i64 r.ha)) N r :=
  heap_setCell_same _ _ _ _ _ _ (heap_setCell_same _ _ _ _ _ _ (heap_setCell_same _ _ _ _ _ _ (heap_setCell_same _ _ _ _ _ _ h)))
theorem box_far4 {w : World} {N M : Nat} {q : S4} (h : Box4 w M q) (hne : M ≠ N) (v1 v2 v3 v4 : Value) : Box4 ((((w.setCell ⟨N, 0, none⟩ v1).setCell ⟨N, 1, none⟩ v2).setCell ⟨N, 2, none⟩ v3).setCell ⟨N, 3, none⟩ v4) M q := by
  unfold Box4
  rw [heap_setCell_other _ _ _ _ (by simpa using hne), heap_setCell_other _ _ _ _ (by simpa using hne), heap_setCell_other _ _ _ _ (by simpa using hne), heap_setCell_other _ _ _ _ (by simpa using hne)]
  exact h
/-- The span stands in its block, nothing yet in the result's. -/
structure CutAt (w : World) (x1 y1 x2 y2 : Int) (N : Nat) (wx : World) : Prop where
  far : w.heap.size + 2 < N
  box : Box4 wx N ⟨x1, y1, x2, y2⟩
  res : Box4 wx (w.heap.size + 1 + 1) z4
  below : Go.RowKit.Below w.heap.size w wx
theorem CutAt.put {w : World} {x1 y1 x2 y2 : Int} {N : Nat} {Y : World} (hN : w.heap.size + 2 < N) (hb : Box4 Y N z4) (hr : Box4 Y (w.heap.size + 1 + 1) z4) (hl : Go.RowKit.Below w.heap.size w Y) :
    CutAt w x1 y1 x2 y2 N ((((Y.setCell ⟨N, 0, none⟩ (.int .i64 x1)).setCell ⟨N, 1, none⟩ (.int .i64 y1)).setCell ⟨N, 2, none⟩ (.int .i64 x2)).setCell ⟨N, 3, none⟩ (.int .i64 y2)) :=
  have h1 : w.heap.size ≤ N := by omega
  ⟨hN, box_put4 hb ⟨x1, y1, x2, y2⟩, box_far4 hr (by omega) _ _ _ _, (((hl.setCell h1 _).setCell h1 _).setCell h1 _).setCell h1 _⟩
end Go.Proofs.Ytjgcdmeojjnjlaa
/- Rows of numbers; contracts of the reference's arena: New, Is, put, Do. -/
namespace Go.Proofs.Ytjgcdmeojjnjlaa
open Go.RowKit Go.Sort Go.Proofs.Ytjgcdmeojjnjlaa.Bo
set_option linter.unusedVariables false
def nv (z : Int) : Value := .int .i64 z
theorem nv_one (l : List Int) : ∀ u ∈ l.map nv, u.oneCell' = true := by
  intro u hu
  obtain ⟨d, _, rfl⟩ := List.mem_map.1 hu
  rfl
/-- A slice of numbers that holds zs, in a block of its elements' type. -/
def NRow (w : World) (t : TypeId) (a : Option Addr) (zs : List Int) : Prop := 0 < zs.length → ∃ b off, a = some ⟨b, off, none⟩ ∧ (∃ cur, w.heap[b]? = some (.cells cur t (0, 0))) ∧ ∀ (j : Nat) (h : j < zs.length), w.cell? ⟨b, off + j, none⟩ = some (.int .i64 zs[j])
theorem NRow.below {w w' : World} {t : TypeId} {a : Option Addr} {zs : List Int} (h : NRow w t a zs) (hb : Go.RowKit.Below w.heap.size w w') : NRow w' t a zs := by
  intro hp
  obtain ⟨b, off, e, ⟨cur, hh⟩, hc⟩ := h hp
  exact ⟨b, off, e, ⟨cur, box_on hh hb⟩, fun j hj => (hb.cell (p := ⟨b, off + j, none⟩) (World.block_lt_of_cell? w _ (hc j hj))).trans (hc j hj)⟩
theorem NRow.take {w : World} {t : TypeId} {a : Option Addr} {zs : List Int} (h : NRow w t a zs) (n : Nat) : NRow w t a (zs.take n) := by
  intro hp
  rw [List.length_take] at hp
  obtain ⟨b, off, e, hh, hc⟩ := h (by omega)
  refine ⟨b, off, e, hh, fun j hj => ?_⟩
  rw [List.length_take] at hj
  rw [hc j (by omega), List.getElem_take]
theorem own_cap {w : World} {base cap n size : Nat} {e : TypeId} {a : Option Addr} {xs : List Value} (h : w.ownsRow base e size (.slice a n cap) n xs) : n ≤ cap := by
  rcases h.2 with ⟨h1, h2⟩ | ⟨g, cap', cur, h1, hb, hh, hnc, hcm, hcs, htake⟩
  · omega
  · injection h1 with e1 e2 e3
    subst e3
    exact hnc
/-- A place of a row of one's own: what is there, and that it may be written. -/
theorem own_at {w : World} {base cap n : Nat} {e : TypeId} {a : Option Addr} {l : List Int} (h : w.ownsRow base e 1 (.slice a n cap) n (l.map nv)) (hn : n = l.length) (i : Nat) (hi : i < n) :
    ∃ g, a = some ⟨g, 0, none⟩ ∧ base ≤ g ∧ w.cell? ⟨g, i, none⟩ = some (.int .i64 (l[i]'(by omega))) ∧ w.frozen? ⟨g, i, none⟩ = false := by
  rcases h.2 with ⟨h1, h2⟩ | ⟨g, cap', cur, h1, hb, hh, hnc, hcm, hcs, htake⟩
  · omega
  · injection h1 with e1 e2 e3
    subst e1
    refine ⟨g, rfl, hb, ?_, frozen_of_row _ _ i _ _ hh⟩
    rw [cell_of_row _ _ i cur _ _ hh]
    have h2 : (cur.toList.take (n * 1))[i]? = some (nv (l[i]'(by omega))) := by rw [htake]; simp [show i < l.length by omega]
    rw [List.getElem?_take, if_pos (by omega)] at h2
    simpa [nv] using h2
theorem own_set {w : World} {base cap n g : Nat} {e : TypeId} {l : List Int} (h : w.ownsRow base e 1 (.slice (some ⟨g, 0, none⟩) n cap) n (l.map nv)) (i : Nat) (z : Int) : (w.setCell ⟨g, i, none⟩ (.int .i64 z)).ownsRow base e 1 (.slice (some ⟨g, 0, none⟩) n cap) n ((l.set i z).map nv) := by
  have := own_put h i (.int .i64 z)
  rw [List.map_set]
  exact this
theorem set_far {W : World} {b c i : Nat} {o : Obj} {v : Value} (h : W.heap[b]? = some o) (hne : b ≠ c) : (W.setCell ⟨c, i, none⟩ v).heap[b]? = some o := by
  rw [heap_setCell_other _ _ _ _ (by simpa using hne)]; exact h
structure ArAt (w : World) (a : Ar) (fa : Option Addr) (fc : Nat) (la : Option Addr) (lc : Nat) : Prop where
  fr : NRow w 3 fa a.free
  fn : a.free.length ≤ fc
  lr : NRow w 2 la a.l
  ln : a.l.length ≤ lc
theorem ArAt.below {w w' : World} {a : Ar} {fa : Option Addr} {fc : Nat} {la : Option Addr} {lc : Nat} (h : ArAt w a fa fc la lc) (hb : Go.RowKit.Below w.heap.size w w') : ArAt w' a fa fc la lc := ⟨h.fr.below hb, h.fn, h.lr.below hb, h.ln⟩
end Go.Proofs.Ytjgcdmeojjnjlaa
/- Contracts of the reference's arena: put, Do. -/
namespace Go.Proofs.Ytjgcdmeojjnjlaa
open Go.RowKit Go.Sort Go.Proofs.Ytjgcdmeojjnjlaa.Bo
set_option linter.unusedVariables false
theorem new_at' {W : World} {n : Nat} (o : Obj) (h : W.heap.size = n) : (W.alloc o).heap[n]? = some o := h ▸ heap_alloc_new W o
end Go.Proofs.Ytjgcdmeojjnjlaa
/- Contract of the reference's Do. -/
namespace Go.Proofs.Ytjgcdmeojjnjlaa
open Go.RowKit Go.Sort Go.Proofs.Ytjgcdmeojjnjlaa.Bo
set_option linter.unusedVariables false
theorem three_cells {W : World} {b : Nat} {x0 x1 x2 : Value} {t : TypeId} (h : W.heap[b]? = some (.cells #[x0, x1, x2] t (0, 0))) :
    W.cell? ⟨b, 0, none⟩ = some x0 ∧ W.cell? ⟨b, 1, none⟩ = some x1 ∧ W.cell? ⟨b, 2, none⟩ = some x2 :=
  ⟨(cell_of_row _ _ 0 _ _ _ h).trans rfl, (cell_of_row _ _ 1 _ _ _ h).trans rfl, (cell_of_row _ _ 2 _ _ _ h).trans rfl⟩
end Go.Proofs.Ytjgcdmeojjnjlaa
/- What follows for the document's arena, for the laws of layer 5. No Go in sight. -/
namespace Go.Proofs.Ytjgcdmeojjnjlaa.Bo
/-- How many things there are. -/
def Ar.len (a : Ar) : Int := a.ever - a.free.length
def Ar.new (room : Int) : Ar := ⟨room, 0, [], []⟩
theorem Ar.new_ok (room : Int) (h : 0 ≤ room ∧ room ≤ 65536) : (Ar.new room).ok :=
  ⟨h, rfl, fun i hi => by simp [Ar.new] at hi, List.nodup_nil, by simp [Ar.new]; omega, fun z hz => by simp [Ar.new] at hz⟩
/-- No more places were ever taken than there is room for. -/
theorem Ar.put_le (a : Ar) (v : Int) (h : a.ever ≤ a.room) : (a.put v).1.ever ≤ a.room ∧ (a.put v).1.room = a.room := by
  unfold Ar.put
  by_cases h1 : a.room ≤ a.ever - a.free.length
  · rw [if_pos h1]; exact ⟨h, rfl⟩
  · rw [if_neg h1]
    by_cases h2 : 0 < a.free.length
    · rw [if_pos h2]; exact ⟨h, rfl⟩
    · rw [if_neg h2]; exact ⟨by show a.ever + 1 ≤ _; omega, rfl⟩
theorem Ar.does_le (a : Ar) (k i v : Int) (hr : 0 ≤ a.room) (h : a.ever ≤ a.room) : (a.does k i v).1.ever ≤ a.room ∧ (a.does k i v).1.room = a.room := by
  unfold Ar.does
  by_cases h1 : k = 0
  · rw [if_pos h1]; exact a.put_le v h
  rw [if_neg h1]
  by_cases h2 : k = 4
  · rw [if_pos h2]; exact ⟨hr, rfl⟩
  rw [if_neg h2]
  by_cases h3 : k < 0 ∨ 4 < k ∨ a.is i = false
  · rw [if_pos h3]; exact ⟨h, rfl⟩
  rw [if_neg h3]
  by_cases h4 : k = 1
  · rw [if_pos h4]; exact ⟨h, rfl⟩
  rw [if_neg h4]
  by_cases h5 : k = 2
  · rw [if_pos h5]; exact ⟨h, rfl⟩
  · rw [if_neg h5]; exact ⟨h, rfl⟩
theorem getD_set_ne (l : List Int) (m n : Nat) (v d : Int) (h : m ≠ n) : (l.set m v).getD n d = l.getD n d := by
  rw [List.getD_eq_getElem?_getD, List.getD_eq_getElem?_getD, List.getElem?_set_ne h]
theorem Ar.is_iff (a : Ar) (i : Int) : a.is i = true ↔ i ∉ a.free ∧ 0 ≤ i ∧ i < a.ever := by
  unfold Ar.is; simp
end Go.Proofs.Ytjgcdmeojjnjlaa.Bo
/- The document's arena as rows of places. No Go in sight. -/
namespace Go.Proofs.Ytjgcdmeojjnjlaa.Bo
/-- What lies in a place: the thing, and whether it is taken. -/
def Ar.pl (a : Ar) (i : Nat) : Int × Bool := if a.is (i : Int) = true then (a.l.getD i 0, true) else (0, false)
def Ar.ps (a : Ar) : List (Int × Bool) := (List.range a.l.length).map a.pl
theorem Ar.ps_len (a : Ar) : a.ps.length = a.l.length := by simp [Ar.ps]
theorem Ar.ps_at (a : Ar) (i : Nat) (h : i < a.l.length) : a.ps[i]? = some (a.pl i) := by
  simp [Ar.ps, h]
theorem Ar.ps_none (a : Ar) (i : Nat) (h : ¬ i < a.l.length) : a.ps[i]? = none := by
  rw [List.getElem?_eq_none]; rw [a.ps_len]; omega
theorem ps_ext (ps : List (Int × Bool)) (a : Ar) (hl : ps.length = a.l.length) (h : ∀ i, i < a.l.length → ps[i]? = some (a.pl i)) : ps = a.ps := by
  apply List.ext_getElem?
  intro i
  by_cases hi : i < a.l.length
  · rw [h i hi, a.ps_at i hi]
  · rw [a.ps_none i hi, List.getElem?_eq_none (by omega)]
theorem Ar.pl_is (a : Ar) (i : Nat) (h : a.is (i : Int) = true) : a.pl i = (a.l.getD i 0, true) := by unfold Ar.pl; rw [if_pos h]
theorem Ar.pl_no (a : Ar) (i : Nat) (h : a.is (i : Int) = false) : a.pl i = (0, false) := by unfold Ar.pl; rw [if_neg (by rw [h]; simp)]
/-- One place is written: the others are as they were. -/
theorem ps_put (a b : Ar) (i : Nat) (p : Int × Bool) (hl : b.l.length = a.l.length) (hi : i < a.l.length) (hp : b.pl i = p) (ho : ∀ j, j < a.l.length → j ≠ i → b.pl j = a.pl j) : a.ps.set i p = b.ps := by
  apply ps_ext
  · rw [List.length_set, a.ps_len, hl]
  · intro j hj
    rw [hl] at hj
    by_cases e : j = i
    · subst e
      rw [List.getElem?_set_self (by rw [a.ps_len]; exact hj), hp]
    · rw [List.getElem?_set_ne (fun h => e h.symm), a.ps_at j hj, ho j hj e]
theorem pl_congr (a b : Ar) (j : Nat) (h1 : b.is (j : Int) = a.is (j : Int)) (h2 : b.l.getD j 0 = a.l.getD j 0) : b.pl j = a.pl j := by unfold Ar.pl; rw [h1, h2]
theorem is_congr (a b : Ar) (i : Int) (h1 : i ∈ b.free ↔ i ∈ a.free) (h2 : i < b.ever ↔ i < a.ever) : b.is i = a.is i := by
  rw [Bool.eq_iff_iff, Ar.is_iff, Ar.is_iff, h1, h2]
theorem getD_set_self (l : List Int) (n : Nat) (v d : Int) (h : n < l.length) : (l.set n v).getD n d = v := by
  rw [List.getD_eq_getElem?_getD, List.getElem?_set_self h]; rfl
/-- A thing is set. -/
theorem Ar.ps_set (a : Ar) (i : Nat) (v : Int) (hok : a.ok) (hi : a.is (i : Int) = true) : a.ps.set i (v, true) = ({ a with l := a.l.set i v } : Ar).ps := by
  obtain ⟨_, _, h3, _⟩ := a.is_in i hok hi
  rw [Int.toNat_natCast] at h3
  refine ps_put a _ i _ (by show (a.l.set i v).length = _; rw [List.length_set]) h3 ?_ ?_
  · refine (Ar.pl_is { a with l := a.l.set i v } i hi).trans ?_
    show ((a.l.set i v).getD i 0, true) = _
    rw [getD_set_self _ _ _ _ h3]
  · intro j hj hne
    exact pl_congr a _ j rfl (getD_set_ne _ _ _ _ _ (fun h => hne h.symm))
/-- The place that was freed last is taken. -/
theorem Ar.ps_take (a : Ar) (f : Nat) (fs : List Int) (v : Int) (hok : a.ok) (hf : a.free = fs ++ [(f : Int)]) : f < a.l.length ∧ a.ps.set f (v, true) = ({ a with free := fs, l := a.l.set f v } : Ar).ps := by
  have hfi := hok.free (f : Int) (by rw [hf]; simp)
  have hev := hok.ever
  have hlt : f < a.l.length := by omega
  have hnd := hok.once
  rw [hf, List.nodup_append] at hnd
  have hnot : (f : Int) ∉ fs := fun h => hnd.2.2 _ h _ (List.mem_singleton.2 rfl) rfl
  refine ⟨hlt, ps_put a _ f _ (by show (a.l.set f v).length = _; rw [List.length_set]) hlt ?_ ?_⟩
  · refine (Ar.pl_is { a with free := fs, l := a.l.set f v } f ((Ar.is_iff _ _).2 ⟨hnot, hfi.1, hfi.2⟩)).trans ?_
    show ((a.l.set f v).getD f 0, true) = _
    rw [getD_set_self _ _ _ _ hlt]
  · intro j hj hne
    refine pl_congr a _ j (is_congr a _ _ ?_ Iff.rfl) (getD_set_ne _ _ _ _ _ (fun h => hne h.symm))
    show (j : Int) ∈ fs ↔ _
    rw [hf, List.mem_append, List.mem_singleton]
    exact ⟨.inl, fun h => h.elim id (fun e => absurd e (by omega))⟩
end Go.Proofs.Ytjgcdmeojjnjlaa.Bo
/- The program's arena in memory: what a call may touch, and what stays. -/
namespace Go.Proofs.Ytjgcdmeojjnjlaa
open Go.RowKit Go.Sort Go.Proofs.Ytjgcdmeojjnjlaa.Bo
set_option linter.unusedVariables false
/-- All blocks but those of S are as they were. -/
structure Kp (S : Nat → Prop) (w w' : World) : Prop where
  os : w'.os = w.os
  tape : w'.tape = w.tape
  output : w'.output = w.output
  size : w.heap.size ≤ w'.heap.size
  block : ∀ k, k < w.heap.size → ¬ S k → w'.heap[k]? = w.heap[k]?
theorem Kp.refl (S : Nat → Prop) (w : World) : Kp S w w := ⟨rfl, rfl, rfl, Nat.le_refl _, fun _ _ _ => rfl⟩
theorem Kp.trans {S T : Nat → Prop} {a b c : World} (h : Kp S a b) (k : Kp T b c) (hs : ∀ n, n < a.heap.size → T n → S n) : Kp S a c :=
  ⟨k.os.trans h.os, k.tape.trans h.tape, k.output.trans h.output, Nat.le_trans h.size k.size, fun i hi hn => (k.block i (Nat.lt_of_lt_of_le hi h.size) (fun ht => hn (hs i hi ht))).trans (h.block i hi hn)⟩
theorem Kp.of_below (S : Nat → Prop) {w w' : World} (h : Go.RowKit.Below w.heap.size w w') : Kp S w w' := ⟨h.os, h.tape, h.output, h.size, fun k hk _ => h.block k hk⟩
theorem Kp.to_below {S : Nat → Prop} {w w' : World} (h : Kp S w w') (B : Nat) (hB : B ≤ w.heap.size) (hs : ∀ b, S b → B ≤ b) : Go.RowKit.Below B w w' :=
  ⟨h.os, h.tape, h.output, h.size, fun k hk => h.block k (Nat.lt_of_lt_of_le hk hB) (fun hS => by have := hs k hS; omega)⟩
theorem Kp.drew {S : Nat → Prop} {a w : World} (h : Kp S a w) : Kp S a w.drew := ⟨h.os, h.tape, h.output, h.size, h.block⟩
theorem Kp.alloc {S : Nat → Prop} {a w : World} (h : Kp S a w) (o : Obj) : Kp S a (w.alloc o) :=
  ⟨h.os, h.tape, h.output, by have := h.size; simp; omega, fun k hk hn => (Go.RowKit.Below.heap_alloc w o k (Nat.lt_of_lt_of_le hk h.size)).trans (h.block k hk hn)⟩
theorem Kp.setCell {S : Nat → Prop} {a w : World} (h : Kp S a w) (p : Addr) (hp : S p.block ∨ a.heap.size ≤ p.block) (u : Value) : Kp S a (w.setCell p u) :=
  ⟨h.os, h.tape, h.output, by have := h.size; simp [World.setCell]; omega, fun k hk hn => (Go.RowKit.Below.heap_setCell w p u k (fun e => by subst e; rcases hp with h1 | h1; exact hn h1; omega)).trans (h.block k hk hn)⟩
theorem Kp.grown {S : Nat → Prop} {a w w' : World} {row : Option Nat} (h : Kp S a w) (hg : w.grownBy w' row) (hr : ∀ k, row = some k → S k ∨ a.heap.size ≤ k) : Kp S a w' :=
  ⟨hg.os.trans h.os, hg.tape.trans h.tape, hg.output.trans h.output, Nat.le_trans h.size hg.size, fun k hk hn => (hg.block k (Nat.lt_of_lt_of_le hk h.size) (fun e => by rcases hr k e.symm with h1 | h1; exact hn h1; omega)).trans (h.block k hk hn)⟩
theorem Kp.mono {S T : Nat → Prop} {w w' : World} (h : Kp S w w') (hs : ∀ b, S b → T b) : Kp T w w' := ⟨h.os, h.tape, h.output, h.size, fun k hk hn => h.block k hk (fun hS => hn (hs k hS))⟩
/-- A block outside S is as it was. -/
theorem Kp.at {S : Nat → Prop} {w w' : World} (h : Kp S w w') {b : Nat} {o : Obj} (hb : w.heap[b]? = some o) (hn : ¬ S b) : w'.heap[b]? = some o := (h.block b (lt_of_block hb) hn).trans hb
theorem own_kp {S : Nat → Prop} {w w' : World} {base : Nat} {e : TypeId} {size : Nat} {v : Value} {n : Nat} {xs : List Value} (h : w.ownsRow base e size v n xs) (hk : Kp S w w') (hn : ∀ b, v.ownBlock = some b → ¬ S b) : w'.ownsRow base e size v n xs := by
  refine ⟨h.1, ?_⟩
  rcases h.2 with hz | ⟨g, cap, cur, rfl, hb, hgg, rest⟩
  · exact .inl hz
  · exact .inr ⟨g, cap, cur, rfl, hb, hk.at hgg (hn g rfl), rest⟩
/-- The type of an owned row's block. -/
theorem own_type {w : World} {base : Nat} {e : TypeId} {size : Nat} {v : Value} {n : Nat} {xs : List Value} (h : w.ownsRow base e size v n xs) {b : Nat} (hb : v.ownBlock = some b) : ∃ cur, w.heap[b]? = some (.cells cur e (0, 0)) := by
  rcases h.2 with ⟨rfl, _⟩ | ⟨g, cap, cur, rfl, _, hgg, _⟩
  · simp [Value.ownBlock] at hb
  · simp [Value.ownBlock] at hb; subst hb; exact ⟨cur, hgg⟩
theorem type_ne {w : World} {b c : Nat} {cs ds : Array Value} {t u : TypeId} (h : w.heap[b]? = some (.cells cs t (0, 0))) (k : w.heap[c]? = some (.cells ds u (0, 0))) (hne : t ≠ u) : b ≠ c := by
  rintro rfl
  rw [h] at k
  injection k with k
  injection k with _ k _
  exact hne k
/-- The blocks of an arena. -/
def FP (A : Nat) (pv fv : Value) : Nat → Prop := fun b => b = A ∨ pv.ownBlock = some b ∨ fv.ownBlock = some b
/-- The slices of an arena, as slices. -/
theorem own_slice {w : World} {base : Nat} {e : TypeId} {size : Nat} {v : Value} {n : Nat} {xs : List Value} (h : w.ownsRow base e size v n xs) : ∃ a cap, v = .slice a n cap ∧ n ≤ cap ∧ cap ≤ maxLen := by
  rcases h.2 with ⟨rfl, rfl⟩ | ⟨g, cap, cur, rfl, _, _, h1, h2, _⟩
  · exact ⟨none, 0, rfl, Nat.le_refl _, Nat.zero_le _⟩
  · exact ⟨_, cap, rfl, h1, h2⟩
theorem box3 {W : World} {b : Nat} {x0 x1 x2 : Value} {t : TypeId} (h : W.heap[b]? = some (.cells #[x0, x1, x2] t (0, 0))) :
    (W.cell? ⟨b, 0, none⟩ = some x0 ∧ W.cell? ⟨b, 1, none⟩ = some x1 ∧ W.cell? ⟨b, 2, none⟩ = some x2) ∧ W.frozen? ⟨b, 0, none⟩ = false ∧ W.frozen? ⟨b, 1, none⟩ = false ∧ W.frozen? ⟨b, 2, none⟩ = false :=
  ⟨three_cells h, frozen_of_row _ _ 0 _ _ h, frozen_of_row _ _ 1 _ _ h, frozen_of_row _ _ 2 _ _ h⟩
end Go.Proofs.Ytjgcdmeojjnjlaa
/- An arena of things of whatever make, as lists. No Go in sight. -/
namespace Go.Proofs.Ytjgcdmeojjnjlaa.Bo
/-- Room, how many places were ever taken, which are free (in the order in which they were freed), what is where. -/
structure Ag (α : Type) where
  room : Int
  ever : Int
  free : List Int
  l : List α
variable {α : Type}
def Ag.new (room : Int) : Ag α := ⟨room, 0, [], []⟩
def Ag.is (a : Ag α) (i : Int) : Bool := !(a.free.contains i) && (decide (0 ≤ i) && decide (i < a.ever))
def Ag.len (a : Ag α) : Int := a.ever - a.free.length
structure Ag.ok (a : Ag α) : Prop where
  room : 0 ≤ a.room ∧ a.room ≤ 65536
  ever : a.ever = a.l.length
  free : ∀ i ∈ a.free, 0 ≤ i ∧ i < a.ever
  once : a.free.Nodup
  fits : a.ever - a.free.length ≤ a.room
  le : a.ever ≤ a.room
theorem Ag.new_ok (room : Int) (h : 0 ≤ room ∧ room ≤ 65536) : (Ag.new room : Ag α).ok :=
  ⟨h, rfl, (fun i hi => by simp [Ag.new] at hi), List.nodup_nil, by simp [Ag.new]; omega, h.1⟩
theorem Ag.lens (a : Ag α) (h : a.ok) : a.l.length ≤ 65536 ∧ a.free.length ≤ a.l.length := by
  have h1 := h.ever
  have h2 := h.room
  have h3 := h.le
  have h5 := nodup_len a.l.length a.free h.once (fun i hi => by have := h.free i hi; omega)
  omega
theorem Ag.is_iff (a : Ag α) (i : Int) : a.is i = true ↔ i ∉ a.free ∧ 0 ≤ i ∧ i < a.ever := by
  unfold Ag.is; simp
theorem Ag.is_in (a : Ag α) (i : Int) (h : a.ok) (hi : a.is i = true) : 0 ≤ i ∧ i < a.ever ∧ i.toNat < a.l.length ∧ i ∉ a.free := by
  obtain ⟨h1, h2, h3⟩ := (a.is_iff i).1 hi
  have := h.ever
  exact ⟨h2, h3, by omega, h1⟩
/-- A thing is set. -/
def Ag.set (a : Ag α) (i : Nat) (v : α) : Ag α := { a with l := a.l.set i v }
/-- A place is freed. -/
def Ag.drop (a : Ag α) (i : Int) : Ag α := { a with free := a.free ++ [i] }
/-- A place that was freed last is taken. -/
def Ag.take (a : Ag α) (fs : List Int) (f : Nat) (v : α) : Ag α := { a with free := fs, l := a.l.set f v }
/-- A new place is taken. -/
def Ag.grow (a : Ag α) (v : α) : Ag α := { a with ever := a.ever + 1, l := a.l ++ [v] }
theorem Ag.set_ok (a : Ag α) (i : Nat) (v : α) (h : a.ok) : (a.set i v).ok := ⟨h.room, by show a.ever = ((a.l.set i v).length : Int); rw [List.length_set]; exact h.ever, h.free, h.once, h.fits, h.le⟩
theorem Ag.drop_ok (a : Ag α) (i : Int) (h : a.ok) (hi : a.is i = true) : (a.drop i).ok := by
  obtain ⟨g1, g2, g3, g4⟩ := a.is_in i h hi
  refine ⟨h.room, h.ever, ?_, ?_, ?_, h.le⟩
  · intro j hj
    rcases List.mem_append.1 hj with h6 | h6
    · exact h.free j h6
    · simp at h6; subst h6; exact ⟨g1, g2⟩
  · show (a.free ++ [i]).Nodup
    rw [List.nodup_append]
    exact ⟨h.once, by simp, fun x hx y hy => by simp at hy; subst hy; intro e; subst e; exact g4 hx⟩
  · show a.ever - ((a.free ++ [i]).length : Int) ≤ a.room
    have := h.fits
    rw [List.length_append]; simp; omega
theorem Ag.take_ok (a : Ag α) (fs : List Int) (f : Nat) (v : α) (h : a.ok) (hf : a.free = fs ++ [(f : Int)]) (hr : a.len < a.room) : (a.take fs f v).ok := by
  unfold Ag.len at hr
  have hl : a.free.length = fs.length + 1 := by rw [hf]; simp
  refine ⟨h.room, by show a.ever = ((a.l.set f v).length : Int); rw [List.length_set]; exact h.ever, fun i hi => h.free i (by rw [hf]; exact List.mem_append.2 (.inl hi)), ?_, ?_, h.le⟩
  · show fs.Nodup
    have := h.once
    rw [hf, List.nodup_append] at this
    exact this.1
  · show a.ever - (fs.length : Int) ≤ a.room
    omega
theorem Ag.grow_ok (a : Ag α) (v : α) (h : a.ok) (hf : a.free = []) (hr : a.len < a.room) : (a.grow v).ok := by
  unfold Ag.len at hr
  have he := h.ever
  rw [hf] at hr
  simp at hr
  refine ⟨h.room, by show a.ever + 1 = ((a.l ++ [v]).length : Int); rw [List.length_append]; simp; omega, fun i hi => ?_, h.once, ?_, by show a.ever + 1 ≤ a.room; omega⟩
  · have := h.free i hi
    show 0 ≤ i ∧ i < a.ever + 1
    omega
  · show a.ever + 1 - (a.free.length : Int) ≤ a.room
    rw [hf]; simp; omega
/-- What lies in a place: the thing, and whether it is taken. -/
def Ag.pl (d : α) (a : Ag α) (i : Nat) : α × Bool := if a.is (i : Int) = true then (a.l.getD i d, true) else (d, false)
def Ag.ps (d : α) (a : Ag α) : List (α × Bool) := (List.range a.l.length).map (a.pl d)
theorem Ag.ps_len (d : α) (a : Ag α) : (a.ps d).length = a.l.length := by simp [Ag.ps]
theorem Ag.ps_at (d : α) (a : Ag α) (i : Nat) (h : i < a.l.length) : (a.ps d)[i]? = some (a.pl d i) := by
  simp [Ag.ps, h]
theorem Ag.ps_none (d : α) (a : Ag α) (i : Nat) (h : ¬ i < a.l.length) : (a.ps d)[i]? = none := by
  rw [List.getElem?_eq_none]; rw [a.ps_len]; omega
theorem agps_ext (d : α) (ps : List (α × Bool)) (a : Ag α) (hl : ps.length = a.l.length) (h : ∀ i, i < a.l.length → ps[i]? = some (a.pl d i)) : ps = a.ps d := by
  apply List.ext_getElem?
  intro i
  by_cases hi : i < a.l.length
  · rw [h i hi, a.ps_at d i hi]
  · rw [a.ps_none d i hi, List.getElem?_eq_none (by omega)]
theorem Ag.pl_is (d : α) (a : Ag α) (i : Nat) (h : a.is (i : Int) = true) : a.pl d i = (a.l.getD i d, true) := by unfold Ag.pl; rw [if_pos h]
theorem Ag.pl_no (d : α) (a : Ag α) (i : Nat) (h : a.is (i : Int) = false) : a.pl d i = (d, false) := by unfold Ag.pl; rw [if_neg (by rw [h]; simp)]
theorem agps_put (d : α) (a b : Ag α) (i : Nat) (p : α × Bool) (hl : b.l.length = a.l.length) (hi : i < a.l.length) (hp : b.pl d i = p) (ho : ∀ j, j < a.l.length → j ≠ i → b.pl d j = a.pl d j) : (a.ps d).set i p = b.ps d := by
  apply agps_ext
  · rw [List.length_set, a.ps_len, hl]
  · intro j hj
    rw [hl] at hj
    by_cases e : j = i
    · subst e
      rw [List.getElem?_set_self (by rw [a.ps_len]; exact hj), hp]
    · rw [List.getElem?_set_ne (fun h => e h.symm), a.ps_at d j hj, ho j hj e]
theorem agpl_congr (d : α) (a b : Ag α) (j : Nat) (h1 : b.is (j : Int) = a.is (j : Int)) (h2 : b.l.getD j d = a.l.getD j d) : b.pl d j = a.pl d j := by unfold Ag.pl; rw [h1, h2]
theorem agis_congr (a b : Ag α) (i : Int) (h1 : i ∈ b.free ↔ i ∈ a.free) (h2 : i < b.ever ↔ i < a.ever) : b.is i = a.is i := by
  rw [Bool.eq_iff_iff, Ag.is_iff, Ag.is_iff, h1, h2]
theorem agetD_set_self (l : List α) (n : Nat) (v d : α) (h : n < l.length) : (l.set n v).getD n d = v := by
  rw [List.getD_eq_getElem?_getD, List.getElem?_set_self h]; rfl
theorem agetD_set_ne (l : List α) (m n : Nat) (v d : α) (h : m ≠ n) : (l.set m v).getD n d = l.getD n d := by
  rw [List.getD_eq_getElem?_getD, List.getD_eq_getElem?_getD, List.getElem?_set_ne h]
theorem Ag.ps_set (d : α) (a : Ag α) (i : Nat) (v : α) (hok : a.ok) (hi : a.is (i : Int) = true) : (a.ps d).set i (v, true) = (a.set i v).ps d := by
  obtain ⟨_, _, h3, _⟩ := a.is_in i hok hi
  rw [Int.toNat_natCast] at h3
  refine agps_put d a _ i _ (by show (a.l.set i v).length = _; rw [List.length_set]) h3 ?_ ?_
  · refine (Ag.pl_is d (a.set i v) i hi).trans ?_
    show ((a.l.set i v).getD i d, true) = _
    rw [agetD_set_self _ _ _ _ h3]
  · intro j hj hne
    exact agpl_congr d a _ j rfl (agetD_set_ne _ _ _ _ _ (fun h => hne h.symm))
theorem Ag.ps_drop (d : α) (a : Ag α) (i : Nat) (hok : a.ok) (hi : a.is (i : Int) = true) : (a.ps d).set i (d, false) = (a.drop (i : Int)).ps d := by
  obtain ⟨_, _, h3, _⟩ := a.is_in i hok hi
  rw [Int.toNat_natCast] at h3
  refine agps_put d a _ i _ rfl h3 ?_ ?_
  · refine Ag.pl_no d _ i ?_
    cases e : Ag.is (a.drop (i : Int)) (i : Int) with
    | false => rfl
    | true => exact absurd (List.mem_append.2 (.inr (List.mem_singleton.2 rfl))) ((Ag.is_iff _ _).1 e).1
  · intro j hj hne
    refine agpl_congr d a _ j (agis_congr a _ _ ?_ Iff.rfl) rfl
    show (j : Int) ∈ a.free ++ [(i : Int)] ↔ _
    rw [List.mem_append, List.mem_singleton]
    exact ⟨fun h => h.elim id (fun e => absurd e (by omega)), .inl⟩
theorem Ag.ps_take (d : α) (a : Ag α) (f : Nat) (fs : List Int) (v : α) (hok : a.ok) (hf : a.free = fs ++ [(f : Int)]) : f < a.l.length ∧ (a.ps d).set f (v, true) = (a.take fs f v).ps d := by
  have hfi := hok.free (f : Int) (by rw [hf]; simp)
  have hev := hok.ever
  have hlt : f < a.l.length := by omega
  have hnd := hok.once
  rw [hf, List.nodup_append] at hnd
  have hnot : (f : Int) ∉ fs := fun h => hnd.2.2 _ h _ (List.mem_singleton.2 rfl) rfl
  refine ⟨hlt, agps_put d a _ f _ (by show (a.l.set f v).length = _; rw [List.length_set]) hlt ?_ ?_⟩
  · refine (Ag.pl_is d (a.take fs f v) f ((Ag.is_iff _ _).2 ⟨hnot, hfi.1, hfi.2⟩)).trans ?_
    show ((a.l.set f v).getD f d, true) = _
    rw [agetD_set_self _ _ _ _ hlt]
  · intro j hj hne
    refine agpl_congr d a _ j (agis_congr a _ _ ?_ Iff.rfl) (agetD_set_ne _ _ _ _ _ (fun h => hne h.symm))
    show (j : Int) ∈ fs ↔ _
    rw [hf, List.mem_append, List.mem_singleton]
    exact ⟨.inl, fun h => h.elim id (fun e => absurd e (by omega))⟩
theorem Ag.ps_grow (d : α) (a : Ag α) (v : α) (hok : a.ok) (hf : a.free = []) : ((a.ps d) ++ [(d, false)]).set a.l.length (v, true) = (a.grow v).ps d := by
  have hev := hok.ever
  apply agps_ext
  · show _ = (a.l ++ [v]).length
    rw [List.length_set, List.length_append, List.length_append, a.ps_len]; rfl
  · intro j hj
    have hj' : j < a.l.length + 1 := by
      have : (a.l ++ [v]).length = a.l.length + 1 := by rw [List.length_append]; rfl
      rw [← this]; exact hj
    have hnf : ∀ z : Int, z ∉ a.free := by rw [hf]; simp
    have his : Ag.is (a.grow v) (j : Int) = true := (Ag.is_iff _ _).2 ⟨hnf _, by omega, by show (j : Int) < a.ever + 1; omega⟩
    rw [Ag.pl_is d _ j his]
    by_cases e : j = a.l.length
    · subst e
      rw [List.getElem?_set_self (by rw [List.length_append, a.ps_len]; simp)]
      show _ = some ((a.l ++ [v]).getD a.l.length d, true)
      rw [List.getD_eq_getElem?_getD, List.getElem?_append_right (Nat.le_refl _)]; simp
    · rw [List.getElem?_set_ne (fun h => e h.symm), List.getElem?_append_left (by rw [a.ps_len]; omega), a.ps_at d j (by omega)]
      have his2 : a.is (j : Int) = true := (Ag.is_iff _ _).2 ⟨hnf _, by omega, by omega⟩
      rw [Ag.pl_is d _ j his2]
      show _ = some ((a.l ++ [v]).getD j d, true)
      rw [List.getD_eq_getElem?_getD, List.getD_eq_getElem?_getD, List.getElem?_append_left (by omega)]
theorem ag_ps_no (d : α) (a : Ag α) (i : Int) (h : a.is i = false) : ∀ (n : Nat) (hn : n < (a.ps d).length), i = (n : Int) → (a.ps d)[n].2 = false := by
  rintro n hn rfl
  have := a.ps_at d n (by rw [← a.ps_len d]; exact hn)
  rw [List.getElem?_eq_getElem hn] at this
  injection this with this
  rw [this, Ag.pl_no d a n h]
theorem ag_ps_yes (d : α) (a : Ag α) (n : Nat) (hn : n < (a.ps d).length) (h : a.is (n : Int) = true) : (a.ps d)[n] = (a.l.getD n d, true) := by
  have := a.ps_at d n (by rw [← a.ps_len d]; exact hn)
  rw [List.getElem?_eq_getElem hn] at this
  injection this with this
  rw [this, Ag.pl_is d a n h]
end Go.Proofs.Ytjgcdmeojjnjlaa.Bo
/- An arena of things of whatever make in memory. -/
namespace Go.Proofs.Ytjgcdmeojjnjlaa
open Go.RowKit Go.Sort Go.Proofs.Ytjgcdmeojjnjlaa.Bo
set_option linter.unusedVariables false
/-- How a thing lies in memory: m cells. -/
structure Enc (α : Type) (m : Nat) where
  e : α → List Value
  len : ∀ x, (e x).length = m
  one : ∀ x, ∀ u ∈ e x, u.oneCell' = true
variable {α : Type} {m : Nat}
def flatQ (E : Enc α m) : List (α × Bool) → List Value
  | [] => []
  | p :: t => (E.e p.1 ++ [.bool p.2]) ++ flatQ E t
theorem enc1_len (E : Enc α m) (p : α × Bool) : (E.e p.1 ++ [Value.bool p.2]).length = m + 1 := by rw [List.length_append, E.len]; rfl
theorem flatQ_append (E : Enc α m) (l k : List (α × Bool)) : flatQ E (l ++ k) = flatQ E l ++ flatQ E k := by
  induction l with
  | nil => rfl
  | cons p t ih => simp only [List.cons_append, flatQ, ih, List.append_assoc]
theorem flatQ_at (E : Enc α m) (l : List (α × Bool)) : ∀ (i : Nat) (h : i < l.length) (j : Nat), j < m + 1 → (flatQ E l)[i * (m + 1) + j]? = (E.e l[i].1 ++ [.bool l[i].2])[j]? := by
  induction l with
  | nil => intro i h; simp at h
  | cons p t ih =>
    intro i h j hj
    cases i with
    | zero =>
      simp only [flatQ, Nat.zero_mul, Nat.zero_add, List.getElem_cons_zero]
      rw [List.getElem?_append_left (by rw [enc1_len]; exact hj)]
    | succ i =>
      simp only [flatQ, List.getElem_cons_succ]
      rw [List.getElem?_append_right (by rw [enc1_len, Nat.add_mul]; omega), enc1_len, show (i + 1) * (m + 1) + j - (m + 1) = i * (m + 1) + j by rw [Nat.add_mul]; omega]
      exact ih i (by simpa using h) j hj
/-- One cell of a row is another one. -/
theorem flatQ_cell (E : Enc α m) (l : List (α × Bool)) : ∀ (i : Nat) (h : i < l.length) (j : Nat) (u : Value) (p : α × Bool), j < m + 1 → (E.e l[i].1 ++ [Value.bool l[i].2]).set j u = E.e p.1 ++ [Value.bool p.2] → (flatQ E l).set (i * (m + 1) + j) u = flatQ E (l.set i p) := by
  induction l with
  | nil => intro i h; simp at h
  | cons q t ih =>
    intro i h j u p hj hp
    cases i with
    | zero =>
      simp only [flatQ, Nat.zero_mul, Nat.zero_add, List.getElem_cons_zero, List.set_cons_zero] at hp ⊢
      rw [List.set_append_left _ _ (by rw [enc1_len]; exact hj), hp]
    | succ i =>
      simp only [flatQ, List.getElem_cons_succ, List.set_cons_succ] at hp ⊢
      rw [List.set_append_right _ _ (by rw [enc1_len, Nat.add_mul]; omega), enc1_len, show (i + 1) * (m + 1) + j - (m + 1) = i * (m + 1) + j by rw [Nat.add_mul]; omega, ih i (by simpa using h) j u p hj hp]
/-- Cells one behind the other. -/
def setL (xs : List Value) (o : Nat) : List Value → List Value
  | [] => xs
  | v :: vs => setL (xs.set o v) (o + 1) vs
theorem setL_append_left (xs ys : List Value) : ∀ (vs : List Value) (o : Nat), o + vs.length ≤ xs.length → setL (xs ++ ys) o vs = setL xs o vs ++ ys := by
  intro vs
  induction vs generalizing xs with
  | nil => intro o _; rfl
  | cons v vs ih =>
    intro o h
    simp only [List.length_cons] at h
    show setL ((xs ++ ys).set o v) (o + 1) vs = _
    rw [List.set_append_left _ _ (by omega), ih (xs.set o v) (o + 1) (by rw [List.length_set]; omega)]
    rfl
theorem setL_append_right (xs ys : List Value) : ∀ (vs : List Value) (o : Nat), setL (xs ++ ys) (xs.length + o) vs = xs ++ setL ys o vs := by
  intro vs
  induction vs generalizing ys with
  | nil => intro o; rfl
  | cons v vs ih =>
    intro o
    show setL ((xs ++ ys).set (xs.length + o) v) (xs.length + o + 1) vs = _
    rw [List.set_append_right _ _ (by omega), show xs.length + o - xs.length = o by omega, Nat.add_assoc, ih (ys.set o v) (o + 1)]
    rfl
theorem setL_all : ∀ (vs xs : List Value), xs.length = vs.length → setL xs 0 vs = vs := by
  intro vs
  induction vs with
  | nil => intro xs h; exact List.length_eq_zero_iff.1 h
  | cons v vs ih =>
    intro xs h
    cases xs with
    | nil => simp at h
    | cons x xs =>
      show setL (v :: xs) (0 + 1) vs = _
      have := setL_append_right [v] xs vs 0
      simp only [List.length_singleton, Nat.add_zero, List.singleton_append] at this
      rw [Nat.zero_add, this, ih xs (by simpa using h)]
/-- A place is written. -/
theorem flatQ_put (E : Enc α m) (l : List (α × Bool)) : ∀ (i : Nat) (h : i < l.length) (p : α × Bool), setL (flatQ E l) (i * (m + 1)) (E.e p.1 ++ [.bool p.2]) = flatQ E (l.set i p) := by
  induction l with
  | nil => intro i h; simp at h
  | cons q t ih =>
    intro i h p
    cases i with
    | zero =>
      simp only [flatQ, Nat.zero_mul, List.set_cons_zero]
      rw [setL_append_left _ _ _ _ (by rw [enc1_len, enc1_len]; omega), setL_all _ _ (by rw [enc1_len, enc1_len])]
    | succ i =>
      simp only [flatQ, List.set_cons_succ]
      rw [show (i + 1) * (m + 1) = (E.e q.1 ++ [Value.bool q.2]).length + i * (m + 1) by rw [enc1_len, Nat.add_mul]; omega, setL_append_right, ih i (by simpa using h) p]
/-- A thing is written; whether it is taken stays. -/
theorem flatQ_put1 (E : Enc α m) (l : List (α × Bool)) : ∀ (i : Nat) (h : i < l.length) (v : α) (b : Bool), l[i].2 = b → setL (flatQ E l) (i * (m + 1)) (E.e v) = flatQ E (l.set i (v, b)) := by
  induction l with
  | nil => intro i h; simp at h
  | cons q t ih =>
    intro i h v b hb
    cases i with
    | zero =>
      simp only [List.getElem_cons_zero] at hb
      subst hb
      simp only [flatQ, Nat.zero_mul, List.set_cons_zero]
      rw [setL_append_left _ _ _ _ (by rw [enc1_len, E.len]; omega), setL_append_left _ _ _ _ (by rw [E.len, E.len]; omega), setL_all _ _ (by rw [E.len, E.len])]
    | succ i =>
      simp only [flatQ, List.set_cons_succ]
      rw [show (i + 1) * (m + 1) = (E.e q.1 ++ [Value.bool q.2]).length + i * (m + 1) by rw [enc1_len, Nat.add_mul]; omega, setL_append_right, ih i (by simpa using h) v b (by simpa using hb)]
/-- Cells of a block, one behind the other. -/
def putQ (W : World) (g o : Nat) : List Value → World
  | [] => W
  | v :: vs => putQ (W.setCell ⟨g, o, none⟩ v) g (o + 1) vs
theorem own_putQ {base g cap n size : Nat} {e : TypeId} : ∀ (vs : List Value) {W : World} {xs : List Value} (o : Nat), W.ownsRow base e size (.slice (some ⟨g, 0, none⟩) n cap) n xs → (putQ W g o vs).ownsRow base e size (.slice (some ⟨g, 0, none⟩) n cap) n (setL xs o vs) := by
  intro vs
  induction vs with
  | nil => intro W xs o h; exact h
  | cons v vs ih => intro W xs o h; exact ih (o + 1) (own_put h o v)
theorem putQ_far {g b : Nat} {ob : Obj} (hne : b ≠ g) : ∀ (vs : List Value) {W : World} (o : Nat), W.heap[b]? = some ob → (putQ W g o vs).heap[b]? = some ob := by
  intro vs
  induction vs with
  | nil => intro W o h; exact h
  | cons v vs ih => intro W o h; exact ih (o + 1) (set_far h hne)
theorem putQ_kp {S : Nat → Prop} {w : World} {g : Nat} (hg : S g) : ∀ (vs : List Value) {W : World} (o : Nat), Kp S w W → Kp S w (putQ W g o vs) := by
  intro vs
  induction vs with
  | nil => intro W o h; exact h
  | cons v vs ih => intro W o h; exact ih (o + 1) (h.setCell ⟨g, o, none⟩ (.inl hg) v)
theorem putQ_next (g : Nat) : ∀ (vs : List Value) (W : World) (o j : Nat), vs.length ≤ j → (putQ W g o vs).cell? ⟨g, o + j, none⟩ = W.cell? ⟨g, o + j, none⟩ := by
  intro vs
  induction vs with
  | nil => intro W o j _; rfl
  | cons v vs ih =>
    intro W o j h
    simp only [List.length_cons] at h
    have h1 := ih (W.setCell ⟨g, o, none⟩ v) (o + 1) (j - 1) (by omega)
    rw [show o + 1 + (j - 1) = o + j by omega] at h1
    exact h1.trans (World.cell?_setCell_other _ _ _ _ (by simp <;> omega))
theorem putQ_frozen (g : Nat) (a : Addr) : ∀ (vs : List Value) (W : World) (o : Nat), (putQ W g o vs).frozen? a = W.frozen? a := by
  intro vs
  induction vs with
  | nil => intro W o; rfl
  | cons v vs ih => intro W o; exact (ih (W.setCell ⟨g, o, none⟩ v) (o + 1)).trans (World.frozen?_setCell ..)
/-- The arena: its struct, its row of places, its row of free ones. tA, tP: the types of the struct and of a place. -/
structure GAt (E : Enc α m) (tA tP : TypeId) (w : World) (base A : Nat) (room : Int) (pv fv : Value) (ps : List (α × Bool)) (fs : List Int) : Prop where
  box : w.heap[A]? = some (.cells #[.int .i64 room, pv, fv] tA (0, 0))
  prow : w.ownsRow base tP (m + 1) pv ps.length (flatQ E ps)
  frow : w.ownsRow base 3 1 fv fs.length (fs.map nv)
  le : base ≤ A
  ty : tA ≠ tP ∧ tA ≠ 3 ∧ tP ≠ 3
variable {E : Enc α m} {tA tP : TypeId} {w w' : World} {base A : Nat} {room : Int} {pv fv : Value} {ps : List (α × Bool)} {fs : List Int}
theorem GAt.lt (h : GAt E tA tP w base A room pv fv ps fs) : ∀ b, FP A pv fv b → base ≤ b ∧ b < w.heap.size := by
  rintro b (rfl | hb | hb)
  · exact ⟨h.le, lt_of_block h.box⟩
  · exact h.prow.lt b hb
  · exact h.frow.lt b hb
theorem GAt.kp {S : Nat → Prop} (h : GAt E tA tP w base A room pv fv ps fs) (hk : Kp S w w') (hn : ∀ b, FP A pv fv b → ¬ S b) : GAt E tA tP w' base A room pv fv ps fs :=
  ⟨hk.at h.box (hn A (.inl rfl)), own_kp h.prow hk (fun b hb => hn b (.inr (.inl hb))), own_kp h.frow hk (fun b hb => hn b (.inr (.inr hb))), h.le, h.ty⟩
theorem GAt.below (h : GAt E tA tP w base A room pv fv ps fs) (hb : Go.RowKit.Below w.heap.size w w') : GAt E tA tP w' base A room pv fv ps fs :=
  h.kp (S := fun _ => False) (Kp.of_below _ hb) (fun _ _ => id)
theorem GAt.alloc (h : GAt E tA tP w base A room pv fv ps fs) (o : Obj) : GAt E tA tP (w.alloc o) base A room pv fv ps fs := h.below (below_new w o)
theorem GAt.base_le (h : GAt E tA tP w base A room pv fv ps fs) : base ≤ w.heap.size := Nat.le_of_lt (Nat.lt_of_le_of_lt h.le (lt_of_block h.box))
theorem GAt.apart (h : GAt E tA tP w base A room pv fv ps fs) : (∀ b, pv.ownBlock = some b → b ≠ A) ∧ (∀ b, fv.ownBlock = some b → b ≠ A) ∧ ∀ b c, pv.ownBlock = some b → fv.ownBlock = some c → b ≠ c := by
  refine ⟨fun b hb => ?_, fun b hb => ?_, fun b c hb hc => ?_⟩
  · obtain ⟨cur, h1⟩ := own_type h.prow hb
    exact type_ne h1 h.box (fun e => h.ty.1 e.symm)
  · obtain ⟨cur, h1⟩ := own_type h.frow hb
    exact type_ne h1 h.box (fun e => h.ty.2.1 e.symm)
  · obtain ⟨cur, h1⟩ := own_type h.prow hb
    obtain ⟨cur', h2⟩ := own_type h.frow hc
    exact type_ne h1 h2 h.ty.2.2
/-- The place row's block, what is in a place, and that it may be written. -/
theorem GAt.at (h : GAt E tA tP w base A room pv fv ps fs) (i : Nat) (hi : i < ps.length) :
    ∃ g cap, pv = .slice (some ⟨g, 0, none⟩) ps.length cap ∧ g ≠ A ∧ (∀ j u, (E.e ps[i].1 ++ [.bool ps[i].2])[j]? = some u → w.cell? ⟨g, i * (m + 1) + j, none⟩ = some u) ∧ ∀ j, w.frozen? ⟨g, j, none⟩ = false := by
  rcases h.prow.2 with ⟨h1, h2⟩ | ⟨g, cap, cur, h1, hb, hh, hnc, hcm, hcs, htake⟩
  · omega
  · refine ⟨g, cap, h1, fun e => type_ne hh (e ▸ h.box) (fun e => h.ty.1 e.symm) rfl, fun j u hu => ?_, fun j => frozen_of_row _ _ _ _ _ hh⟩
    have hj : j < m + 1 := by
      have := (List.getElem?_eq_some_iff.1 hu).1
      rw [enc1_len] at this
      exact this
    have hf := flatQ_at E ps i hi j hj
    rw [hu, ← htake, List.getElem?_take] at hf
    split at hf
    · rw [cell_of_row _ _ _ cur _ _ hh]; simpa using hf
    · cases hf
theorem own_len {w : World} {base : Nat} {e : TypeId} {size : Nat} {v : Value} {n n' : Nat} {xs xs' : List Value} (h : w.ownsRow base e size v n xs) (hn : n' = n) (hx : xs' = xs) : w.ownsRow base e size v n' xs' := by subst hn; subst hx; exact h
/-- A place is written. -/
theorem GAt.put {g cap : Nat} (h : GAt E tA tP w base A room (.slice (some ⟨g, 0, none⟩) ps.length cap) fv ps fs) (n : Nat) (hn : n < ps.length) (p : α × Bool) :
    GAt E tA tP (putQ w g (n * (m + 1)) (E.e p.1 ++ [.bool p.2])) base A room (.slice (some ⟨g, 0, none⟩) ps.length cap) fv (ps.set n p) fs ∧
    Kp (FP A (.slice (some ⟨g, 0, none⟩) ps.length cap) fv) w (putQ w g (n * (m + 1)) (E.e p.1 ++ [.bool p.2])) := by
  obtain ⟨a1, a2, a3⟩ := h.apart
  have hgA := a1 g rfl
  have hk : Kp (FP A (.slice (some ⟨g, 0, none⟩) ps.length cap) fv) w (putQ w g (n * (m + 1)) (E.e p.1 ++ [.bool p.2])) := putQ_kp (.inr (.inl rfl)) _ _ (Kp.refl _ w)
  have hk2 : Kp (fun b => b = g) w (putQ w g (n * (m + 1)) (E.e p.1 ++ [.bool p.2])) := putQ_kp (S := fun b => b = g) rfl _ _ (Kp.refl _ w)
  refine ⟨⟨putQ_far (fun e => hgA e.symm) _ _ h.box, ?_, own_kp h.frow hk2 (fun b hb e => a3 g b rfl hb e.symm), h.le, h.ty⟩, hk⟩
  exact own_len (own_putQ _ _ h.prow) (by rw [List.length_set]) (flatQ_put E ps n hn p).symm
/-- A thing is written where it stands. -/
theorem GAt.put1 {g cap : Nat} (h : GAt E tA tP w base A room (.slice (some ⟨g, 0, none⟩) ps.length cap) fv ps fs) (n : Nat) (v : α) (hn : n < ps.length) (ht : ps[n].2 = true) :
    GAt E tA tP (putQ w g (n * (m + 1)) (E.e v)) base A room (.slice (some ⟨g, 0, none⟩) ps.length cap) fv (ps.set n (v, true)) fs ∧
    Kp (FP A (.slice (some ⟨g, 0, none⟩) ps.length cap) fv) w (putQ w g (n * (m + 1)) (E.e v)) := by
  obtain ⟨a1, a2, a3⟩ := h.apart
  have hgA := a1 g rfl
  have hk : Kp (FP A (.slice (some ⟨g, 0, none⟩) ps.length cap) fv) w (putQ w g (n * (m + 1)) (E.e v)) := putQ_kp (.inr (.inl rfl)) _ _ (Kp.refl _ w)
  have hk2 : Kp (fun b => b = g) w (putQ w g (n * (m + 1)) (E.e v)) := putQ_kp (S := fun b => b = g) rfl _ _ (Kp.refl _ w)
  refine ⟨⟨putQ_far (fun e => hgA e.symm) _ _ h.box, ?_, own_kp h.frow hk2 (fun b hb e => a3 g b rfl hb e.symm), h.le, h.ty⟩, hk⟩
  exact own_len (own_putQ _ _ h.prow) (by rw [List.length_set]) (flatQ_put1 E ps n hn v true ht).symm
/-- One cell of a thing is written where it stands. -/
theorem GAt.put2 {g cap : Nat} (h : GAt E tA tP w base A room (.slice (some ⟨g, 0, none⟩) ps.length cap) fv ps fs) (n j : Nat) (u : Value) (v : α) (hn : n < ps.length) (ht : ps[n].2 = true) (hj : j < m) (hv : (E.e ps[n].1).set j u = E.e v) :
    GAt E tA tP (w.setCell ⟨g, n * (m + 1) + j, none⟩ u) base A room (.slice (some ⟨g, 0, none⟩) ps.length cap) fv (ps.set n (v, true)) fs ∧
    Kp (FP A (.slice (some ⟨g, 0, none⟩) ps.length cap) fv) w (w.setCell ⟨g, n * (m + 1) + j, none⟩ u) := by
  obtain ⟨a1, a2, a3⟩ := h.apart
  have hgA := a1 g rfl
  refine ⟨⟨set_far h.box (fun e => hgA e.symm), ?_, own_far h.frow g _ _ (fun k hk => fun e => a3 g k rfl hk e.symm), h.le, h.ty⟩, (Kp.refl _ w).setCell ⟨g, n * (m + 1) + j, none⟩ (.inl (.inr (.inl rfl))) _⟩
  refine own_len (own_put h.prow (n * (m + 1) + j) u) (by rw [List.length_set]) (flatQ_cell E ps n hn j u (v, true) (by omega) ?_).symm
  rw [List.set_append_left _ _ (by rw [E.len]; exact hj), hv, ht]
theorem GAt.setF {w1 : World} {fv' : Value} {fs' : List Int} (h : GAt E tA tP w base A room pv fv ps fs) (hg : w.grownBy w1 fv.ownBlock) (hown : w1.ownsRow base 3 1 fv' fs'.length (fs'.map nv)) :
    GAt E tA tP (w1.setCell ⟨A, 2, none⟩ fv') base A room pv fv' ps fs' ∧ Kp (FP A pv fv) w (w1.setCell ⟨A, 2, none⟩ fv') := by
  obtain ⟨a1, a2, a3⟩ := h.apart
  have hA1 : w1.heap[A]? = some (.cells #[.int .i64 room, pv, fv] tA (0, 0)) := (hg.block A (lt_of_block h.box) (fun e => a2 A e.symm rfl)).trans h.box
  have hp1 : w1.ownsRow base tP (m + 1) pv ps.length (flatQ E ps) := h.prow.kept hg (by
    rcases hpo : pv.ownBlock with _ | b
    · exact .inl rfl
    · exact .inr (fun e => a3 b b hpo e.symm rfl))
  refine ⟨⟨heap_setCell_same _ _ _ _ _ _ hA1, own_far hp1 A _ _ a1, own_far hown A _ _ (fun k hk => ?_), h.le, h.ty⟩, ?_⟩
  · obtain ⟨cur, h1⟩ := own_type hown hk
    exact type_ne h1 hA1 (fun e => h.ty.2.1 e.symm)
  · exact ((Kp.refl _ w).grown hg (fun k hk => .inl (.inr (.inr hk)))).setCell ⟨A, 2, none⟩ (.inl (.inl rfl)) _
theorem GAt.setP {w1 : World} {pv' : Value} {ps' : List (α × Bool)} (h : GAt E tA tP w base A room pv fv ps fs) (hg : w.grownBy w1 pv.ownBlock) (hown : w1.ownsRow base tP (m + 1) pv' ps'.length (flatQ E ps')) :
    GAt E tA tP (w1.setCell ⟨A, 1, none⟩ pv') base A room pv' fv ps' fs ∧ Kp (FP A pv fv) w (w1.setCell ⟨A, 1, none⟩ pv') := by
  obtain ⟨a1, a2, a3⟩ := h.apart
  have hA1 : w1.heap[A]? = some (.cells #[.int .i64 room, pv, fv] tA (0, 0)) := (hg.block A (lt_of_block h.box) (fun e => a1 A e.symm rfl)).trans h.box
  have hf1 : w1.ownsRow base 3 1 fv fs.length (fs.map nv) := h.frow.kept hg (by
    rcases hfo : fv.ownBlock with _ | b
    · exact .inl rfl
    · exact .inr (fun e => a3 b b e.symm hfo rfl))
  refine ⟨⟨heap_setCell_same _ _ _ _ _ _ hA1, own_far hown A _ _ (fun k hk => ?_), own_far hf1 A _ _ a2, h.le, h.ty⟩, ?_⟩
  · obtain ⟨cur, h1⟩ := own_type hown hk
    exact type_ne h1 hA1 (fun e => h.ty.1 e.symm)
  · exact ((Kp.refl _ w).grown hg (fun k hk => .inl (.inr (.inl hk)))).setCell ⟨A, 1, none⟩ (.inl (.inl rfl)) _
/-- What a call that may turn the arena leaves. -/
def GPost (E : Enc α m) (tA tP : TypeId) (w : World) (base A : Nat) (room : Int) (pv fv : Value) (ps' : List (α × Bool)) (fs' : List Int) (ans : Value) (e : Ending) (w' : World) : Prop :=
  ∃ pv' fv', (e = .returned ans ∧ GAt E tA tP w' base A room pv' fv' ps' fs') ∧ Kp (FP A pv fv) w w' ∧ ∀ b, FP A pv' fv' b → FP A pv fv b ∨ w.heap.size ≤ b
/-- The block A is an arena as a says, in the blocks S. -/
def GIs (E : Enc α m) (d : α) (tA tP : TypeId) (w : World) (base A : Nat) (a : Ag α) (S : Nat → Prop) : Prop := ∃ pv fv, S = FP A pv fv ∧ GAt E tA tP w base A a.room pv fv (a.ps d) a.free
variable {d : α} {S : Nat → Prop} {a : Ag α}
theorem GIs.kp {T : Nat → Prop} (h : GIs E d tA tP w base A a S) (hk : Kp T w w') (hn : ∀ b, S b → ¬ T b) : GIs E d tA tP w' base A a S := by
  obtain ⟨pv, fv, rfl, h1⟩ := h
  exact ⟨pv, fv, rfl, h1.kp hk hn⟩
theorem GIs.below (h : GIs E d tA tP w base A a S) (hb : Go.RowKit.Below w.heap.size w w') : GIs E d tA tP w' base A a S := by
  obtain ⟨pv, fv, rfl, h1⟩ := h
  exact ⟨pv, fv, rfl, h1.below hb⟩
theorem GIs.lt (h : GIs E d tA tP w base A a S) : ∀ b, S b → base ≤ b ∧ b < w.heap.size := by
  obtain ⟨pv, fv, rfl, h1⟩ := h
  exact h1.lt
theorem GIs.base_le (h : GIs E d tA tP w base A a S) : base ≤ w.heap.size := by
  obtain ⟨pv, fv, rfl, h1⟩ := h
  exact h1.base_le
theorem GIs.type (h : GIs E d tA tP w base A a S) (b : Nat) (hb : S b) {cs : Array Value} {t : TypeId} (ho : w.heap[b]? = some (.cells cs t (0, 0))) : t = tA ∨ t = tP ∨ t = 3 := by
  obtain ⟨pv, fv, rfl, h1⟩ := h
  have key : ∀ {ds : Array Value} {u : TypeId}, w.heap[b]? = some (.cells ds u (0, 0)) → t = u := fun k => by
    rw [ho] at k; injection k with k; injection k with _ k _
  rcases hb with rfl | hb | hb
  · exact .inl (key h1.box)
  · obtain ⟨cur, k⟩ := own_type h1.prow hb; exact .inr (.inl (key k))
  · obtain ⟨cur, k⟩ := own_type h1.frow hb; exact .inr (.inr (key k))
def GMPost (E : Enc α m) (d : α) (tA tP : TypeId) (w : World) (base A : Nat) (S : Nat → Prop) (a' : Ag α) (ans : Value) (e : Ending) (w' : World) : Prop :=
  ∃ S', (e = .returned ans ∧ GIs E d tA tP w' base A a' S') ∧ Kp S w w' ∧ ∀ b, S' b → S b ∨ w.heap.size ≤ b
theorem gmpost_of {a' : Ag α} {ps' : List (α × Bool)} {fs' : List Int} {ans : Value} {e : Ending} (h : GPost E tA tP w base A room pv fv ps' fs' ans e w') (h1 : a'.room = room) (h2 : ps' = a'.ps d) (h3 : fs' = a'.free) : GMPost E d tA tP w base A (FP A pv fv) a' ans e w' := by
  obtain ⟨pv', fv', ⟨he, hA⟩, hk, hs⟩ := h
  subst h1; subst h2; subst h3
  exact ⟨FP A pv' fv', ⟨he, pv', fv', rfl, hA⟩, hk, hs⟩
theorem gmpost_same {ans : Value} {e : Ending} (h : GIs E d tA tP w base A a S) (he : e = .returned ans) (hb : Go.RowKit.Below w.heap.size w w') : GMPost E d tA tP w base A S a ans e w' :=
  ⟨S, ⟨he, h.below hb⟩, Kp.of_below _ hb, fun b hb => .inl hb⟩
end Go.Proofs.Ytjgcdmeojjnjlaa
/- Contracts of the program's arena: New, Room, Len, At, Get, Set, Reset. -/
namespace Go.Proofs.Ytjgcdmeojjnjlaa
open Go.RowKit Go.Sort Go.Proofs.Ytjgcdmeojjnjlaa.Bo
set_option linter.unusedVariables false
abbrev aP (A : Nat) : Value := .pointer (some ⟨A, 0, none⟩)
end Go.Proofs.Ytjgcdmeojjnjlaa
/- Contracts of the program's arena: take, Put. -/
namespace Go.Proofs.Ytjgcdmeojjnjlaa
open Go.RowKit Go.Sort Go.Proofs.Ytjgcdmeojjnjlaa.Bo
set_option linter.unusedVariables false
theorem own_shrink {w : World} {base g fn fc : Nat} {e : TypeId} {fs : List Int} {f : Int} (h : w.ownsRow base e 1 (.slice (some ⟨g, 0, none⟩) fn fc) fn ((fs ++ [f]).map nv)) : w.ownsRow base e 1 (.slice (some ⟨g, 0, none⟩) (fn - 1) fc) fs.length (fs.map nv) ∧ fn = fs.length + 1 := by
  have hlen := h.1
  simp at hlen
  rcases h.2 with ⟨h1, h2⟩ | ⟨g', cap, cur, h1, hb, hh, hnc, hcm, hcs, htake⟩
  · cases h1
  · injection h1 with e1 e2 e3
    injection e1 with e1
    injection e1 with e1
    subst e1; subst e3
    refine ⟨⟨by simp, .inr ⟨g, fc, cur, by rw [← hlen]; rfl, hb, hh, by omega, hcm, hcs, ?_⟩⟩, by omega⟩
    have : (cur.toList.take (fn * 1)).take fs.length = fs.map nv := by
      rw [htake, List.map_append, List.take_left' (by simp)]
    rw [List.take_take] at this
    rw [Nat.mul_one, ← this]
    congr 1
    omega
end Go.Proofs.Ytjgcdmeojjnjlaa
/- A node as it lies in its place of the arena: two slices, each in its cell. -/
namespace Go.Proofs.Ytjgcdmeojjnjlaa
open Go.RowKit Go.Sort Go.Proofs.Ytjgcdmeojjnjlaa.Bo
set_option linter.unusedVariables false
structure SV where
  a : Option Addr
  n : Nat
  c : Nat
structure Rn where
  s : SV
  k : SV
end Go.Proofs.Ytjgcdmeojjnjlaa
/- The arena of bocage/btree.node: New, Room, Len, At, Get, Set, Reset. -/
namespace Go.Proofs.Ytjgcdmeojjnjlaa
open Go.RowKit Go.Sort Go.Proofs.Ytjgcdmeojjnjlaa.Bo
set_option linter.unusedVariables false
def bnZ : Rn := ⟨⟨none, 0, 0⟩, ⟨none, 0, 0⟩⟩
def bnE : Enc Rn 2 := ⟨fun x => [.slice x.s.a x.s.n x.s.c, .slice x.k.a x.k.n x.k.c], fun _ => rfl, fun x u hu => by
  simp only [List.mem_cons, List.not_mem_nil, or_false] at hu
  rcases hu with rfl | rfl <;> rfl⟩
abbrev bnO (room : Int) (pv fv : Value) : Obj := .cells #[.int .i64 room, pv, fv] 115 (0, 0)
abbrev bnAt (w : World) (base A : Nat) (room : Int) (pv fv : Value) (ps : List (Rn × Bool)) (fs : List Int) : Prop := GAt bnE 115 120 w base A room pv fv ps fs
abbrev bnIs (w : World) (base A : Nat) (a : Ag Rn) (S : Nat → Prop) : Prop := GIs bnE bnZ 115 120 w base A a S
abbrev bnPost (w : World) (base A : Nat) (S : Nat → Prop) (a' : Ag Rn) (ans : Value) (e : Ending) (w' : World) : Prop := GMPost bnE bnZ 115 120 w base A S a' ans e w'
set_option maxRecDepth 100000 in
theorem bnnew_ok (room : Int) (w : World) (h : 0 ≤ room ∧ room ≤ 65536) :
    Calls Try.prog 43 #[.int .i64 room] w fun e w' => e = .returned (.tuple #[aP w.heap.size, .int .i64 0]) ∧ w.alloc (bnO room (.slice none 0 0) (.slice none 0 0)) = w' := by
  have t1 : decide (room < 0) = false := decide_eq_false (by omega)
  have t2 : decide (65536 < room) = false := decide_eq_false (by omega)
  clear h
  go_enter Try.func43, Try.ntmps43
  go_wp2_with fail
  go_ret2
  exact ⟨rfl, rfl⟩
set_option maxRecDepth 100000 in
theorem bnroom_core (A : Nat) (room : Int) (pv fv : Value) (w : World) (H : Hid (w.heap[A]? = some (bnO room pv fv))) :
    Calls Try.prog 44 #[aP A] w fun e w' => e = .returned (.int .i64 room) ∧ w = w' := by
  obtain ⟨⟨c1, c2, c3⟩, _⟩ := box3 H.out
  go_enter Try.func44, Try.ntmps44
  go_wp2_with fail
  go_ret
  exact ⟨rfl, rfl⟩
set_option maxRecDepth 100000 in
set_option maxHeartbeats 1000000 in
theorem bnlen_core (A pn pc fn fc : Nat) (pa fa : Option Addr) (room : Int) (w : World) (H : Hid (w.heap[A]? = some (bnO room (.slice pa pn pc) (.slice fa fn fc)))) (hp : pn ≤ 1000000) (hf : fn ≤ 1000000) :
    Calls Try.prog 46 #[aP A] w fun e w' => e = .returned (.int .i64 ((pn : Int) - (fn : Int))) ∧ Go.RowKit.Below w.heap.size w w' := by
  have mx := mixed
  obtain ⟨⟨c1, c2, c3⟩, _⟩ := box3 H.out
  have p2 := cell_regrown c2
  have p3 := cell_regrown c3
  have q : IntKind.i64.wrap ((pn : Int) - (fn : Int)) = (pn : Int) - (fn : Int) := IntWalk.i64_in _ (by omega)
  clear c1 c2 c3
  go_enter Try.func46, Try.ntmps46
  go_wp2_with fail
  refine wp_region_quiet_below (by assumption) (by kernel_rfl) ?_
  repeat (go_big_quiet_step (fail))
  refine wpQuiet_nil ?_
  intro _ hw'
  obtain ⟨⟨nq, osq⟩, hw''⟩ := hw'
  subst hw''
  have hB := below_regrown w nq osq
  show Exit.then _ _ Exit.normal _ (grow (redrawn w nq) osq)
  generalize grow (redrawn w nq) osq = Y at *
  clear p2 p3
  go_wp2_with fail
  go_ret
  exact ⟨rfl, hB⟩
set_option maxRecDepth 100000 in
set_option maxHeartbeats 1000000 in
theorem bnat_yes_core (A g pn pc n : Nat) (fv : Value) (room : Int) (w : World) (H : Hid (w.heap[A]? = some (bnO room (.slice (some ⟨g, 0, none⟩) pn pc) fv))) (hp : pn ≤ 1000000) (hn : n < pn) (HC : Hid (w.cell? ⟨g, n * 3 + 2, none⟩ = some (.bool true))) :
    Calls Try.prog 50 #[aP A, .int .i64 (n : Int)] w fun e w' => e = .returned (.pointer (some ⟨g, n * 3, none⟩)) ∧ w = w' := by
  obtain ⟨⟨c1, c2, c3⟩, _⟩ := box3 H.out
  have hc := HC.out
  have t1 : decide ((n : Int) < 0) = false := decide_eq_false (by omega)
  have t2 : decide ((pn : Int) ≤ (n : Int)) = false := decide_eq_false (by omega)
  have t3 : decide (pn ≤ n) = false := decide_eq_false (by omega)
  have i1 : (0 : Int) ≤ (n : Int) := by omega
  have i2 : (n : Int) < (pn : Int) := by omega
  go_enter Try.func50, Try.ntmps50
  go_wp2_with fail
  go_ret
  exact ⟨rfl, rfl⟩
set_option maxRecDepth 100000 in
set_option maxHeartbeats 1000000 in
theorem bnat_free_core (A g pn pc n : Nat) (fv : Value) (room : Int) (w : World) (H : Hid (w.heap[A]? = some (bnO room (.slice (some ⟨g, 0, none⟩) pn pc) fv))) (hp : pn ≤ 1000000) (hn : n < pn) (HC : Hid (w.cell? ⟨g, n * 3 + 2, none⟩ = some (.bool false))) :
    Calls Try.prog 50 #[aP A, .int .i64 (n : Int)] w fun e w' => e = .returned (.pointer none) ∧ w = w' := by
  obtain ⟨⟨c1, c2, c3⟩, _⟩ := box3 H.out
  have hc := HC.out
  have t1 : decide ((n : Int) < 0) = false := decide_eq_false (by omega)
  have t2 : decide ((pn : Int) ≤ (n : Int)) = false := decide_eq_false (by omega)
  have t3 : decide (pn ≤ n) = false := decide_eq_false (by omega)
  have i1 : (0 : Int) ≤ (n : Int) := by omega
  have i2 : (n : Int) < (pn : Int) := by omega
  go_enter Try.func50, Try.ntmps50
  go_wp2_with fail
  go_ret
  exact ⟨rfl, rfl⟩
set_option maxRecDepth 100000 in
set_option maxHeartbeats 1000000 in
theorem bnat_lo_core (A : Nat) (pv fv : Value) (i room : Int) (w : World) (H : Hid (w.heap[A]? = some (bnO room pv fv))) (hi : i < 0) :
    Calls Try.prog 50 #[aP A, .int .i64 i] w fun e w' => e = .returned (.pointer none) ∧ w = w' := by
  obtain ⟨⟨c1, c2, c3⟩, _⟩ := box3 H.out
  have t1 : decide (i < 0) = true := decide_eq_true hi
  clear hi
  go_enter Try.func50, Try.ntmps50
  go_wp2_with fail
  go_ret
  exact ⟨rfl, rfl⟩
set_option maxRecDepth 100000 in
set_option maxHeartbeats 1000000 in
theorem bnat_hi_core (A pn pc : Nat) (pa : Option Addr) (fv : Value) (i room : Int) (w : World) (H : Hid (w.heap[A]? = some (bnO room (.slice pa pn pc) fv))) (hi : (pn : Int) ≤ i) :
    Calls Try.prog 50 #[aP A, .int .i64 i] w fun e w' => e = .returned (.pointer none) ∧ w = w' := by
  obtain ⟨⟨c1, c2, c3⟩, _⟩ := box3 H.out
  have t1 : decide (i < 0) = false := decide_eq_false (by omega)
  have t2 : decide ((pn : Int) ≤ i) = true := decide_eq_true hi
  clear hi
  go_enter Try.func50, Try.ntmps50
  go_wp2_with fail
  go_ret
  exact ⟨rfl, rfl⟩
theorem bnat_yes {w : World} {base A : Nat} {room : Int} {pv fv : Value} {ps : List (Rn × Bool)} {fs : List Int} (h : bnAt w base A room pv fv ps fs) (hl : ps.length ≤ 1000000) (n g cap : Nat) (hn : n < ps.length) (ht : ps[n].2 = true) (hpv : pv = .slice (some ⟨g, 0, none⟩) ps.length cap) :
    Calls Try.prog 50 #[aP A, .int .i64 (n : Int)] w fun e w' => e = .returned (.pointer (some ⟨g, n * 3, none⟩)) ∧ w = w' := by
  obtain ⟨g', cap', e1, _, hc, _⟩ := h.at n hn
  have hb := h.box
  subst hpv
  injection e1 with e1 _ e3
  injection e1 with e1
  injection e1 with e1
  subst e1
  have hc1 := hc 2 (.bool ps[n].2) rfl
  rw [ht] at hc1
  exact bnat_yes_core A g ps.length cap n fv room w hb hl hn hc1
theorem bnat_no {w : World} {base A : Nat} {room : Int} {pv fv : Value} {ps : List (Rn × Bool)} {fs : List Int} (h : bnAt w base A room pv fv ps fs) (hl : ps.length ≤ 1000000) (i : Int) (hno : ∀ (n : Nat) (hn : n < ps.length), i = (n : Int) → ps[n].2 = false) :
    Calls Try.prog 50 #[aP A, .int .i64 i] w fun e w' => e = .returned (.pointer none) ∧ w = w' := by
  by_cases h0 : i < 0
  · exact bnat_lo_core A pv fv i room w h.box h0
  · by_cases h1 : i < (ps.length : Int)
    · obtain ⟨n, rfl⟩ : ∃ n : Nat, i = (n : Int) := ⟨i.toNat, by omega⟩
      obtain ⟨g, cap, e1, _, hc, _⟩ := h.at n (by omega)
      have hb := h.box
      have hc1 := hc 2 (.bool (ps[n]'(by omega)).2) rfl
      rw [hno n (by omega) rfl] at hc1
      rw [e1] at hb
      exact bnat_free_core A g ps.length cap n fv room w hb hl (by omega) hc1
    · obtain ⟨a, cap, e1, _⟩ := own_slice h.prow
      have hb := h.box
      rw [e1] at hb
      exact bnat_hi_core A ps.length cap a fv i room w hb (by omega)
set_option maxRecDepth 100000 in
set_option maxHeartbeats 1000000 in
theorem bnget_yes_core (A g n : Nat) (x : Rn) (w : World) (HA : Hid (∀ W, Go.RowKit.Below w.heap.size w W → Calls Try.prog 50 #[aP A, .int .i64 (n : Int)] W fun e w' => e = .returned (.pointer (some ⟨g, n * 3, none⟩)) ∧ W = w')) (h0 : Hid (w.cell? ⟨g, n * 3, none⟩ = some (.slice x.s.a x.s.n x.s.c))) (h1 : Hid (w.cell? ⟨g, n * 3 + 1, none⟩ = some (.slice x.k.a x.k.n x.k.c))) :
    Calls Try.prog 86 #[aP A, .int .i64 (n : Int)] w fun e w' => e = .returned (.tuple #[.agg #[.slice x.s.a x.s.n x.s.c, .slice x.k.a x.k.n x.k.c], .bool true]) ∧ Go.RowKit.Below w.heap.size w w' := by
  have hb := below_new w (.cells #[.slice none 0 0, .slice none 0 0] 80)
  have hg : g < w.heap.size := World.block_lt_of_cell? w _ h0.out
  have c0 := (hb.cell (p := ⟨g, n * 3, none⟩) hg).trans h0.out
  have c1 := (hb.cell (p := ⟨g, n * 3 + 1, none⟩) hg).trans h1.out
  have HB := Lib.hid hb
  go_enter Try.func86, Try.ntmps86
  go_wp2_with fail
  refine (HA.out _ HB.out).mono ?_
  rintro e w' ⟨rfl, rfl⟩
  go_wp2_with fail
  refine bodyPost_ret (v := .tuple #[.agg #[.slice x.s.a x.s.n x.s.c, .slice x.k.a x.k.n x.k.c], .bool true]) (by simp [results, Try.results86, go_sem]) rfl ?_
  exact ⟨rfl, below_new _ _⟩
set_option maxRecDepth 100000 in
set_option maxHeartbeats 1000000 in
theorem bnget_no_core (A : Nat) (i : Int) (w : World) (HA : Hid (∀ W, Go.RowKit.Below w.heap.size w W → Calls Try.prog 50 #[aP A, .int .i64 i] W fun e w' => e = .returned (.pointer none) ∧ W = w')) :
    Calls Try.prog 86 #[aP A, .int .i64 i] w fun e w' => e = .returned (.tuple #[.agg #[.slice none 0 0, .slice none 0 0], .bool false]) ∧ Go.RowKit.Below w.heap.size w w' := by
  have HB := Lib.hid (below_new w (.cells #[.slice none 0 0, .slice none 0 0] 80))
  go_enter Try.func86, Try.ntmps86
  go_wp2_with fail
  refine (HA.out _ HB.out).mono ?_
  rintro e w' ⟨rfl, rfl⟩
  go_wp2_with fail
  refine bodyPost_ret (v := .tuple #[.agg #[.slice none 0 0, .slice none 0 0], .bool false]) (by simp [results, Try.results86, go_sem]) rfl ?_
  exact ⟨rfl, bt (below_new _ _) (below_new _ _)⟩
end Go.Proofs.Ytjgcdmeojjnjlaa
/- The arena of bocage/btree.node: Set, Free, take, Put, Reset. -/
namespace Go.Proofs.Ytjgcdmeojjnjlaa
open Go.RowKit Go.Sort Go.Proofs.Ytjgcdmeojjnjlaa.Bo
set_option linter.unusedVariables false
theorem Try.infoRn : (Try.prog.info? 120).map (fun i => (i.zero, i.size, i.bytes)) = some (some (.agg #[.slice none 0 0, .slice none 0 0, .bool false]), 3, 56) := by kernel_rfl
set_option maxRecDepth 100000 in
theorem bnreset_core (A : Nat) (pv fv : Value) (room : Int) (w : World) (H : Hid (w.heap[A]? = some (bnO room pv fv))) :
    Calls Try.prog 75 #[aP A] w fun e w' => e = .returned (.tuple #[]) ∧ (w.setCell ⟨A, 1, none⟩ (.slice none 0 0)).setCell ⟨A, 2, none⟩ (.slice none 0 0) = w' := by
  obtain ⟨⟨c1, c2, c3⟩, e1, e2, e3⟩ := box3 H.out
  obtain ⟨⟨_, _, d3⟩, _, _, d4⟩ := box3 (heap_setCell_same w A 1 _ _ (.slice none 0 0) H.out)
  go_enter Try.func75, Try.ntmps75
  go_wp2_with fail
  go_end0
  exact ⟨rfl, rfl⟩
set_option maxRecDepth 100000 in
set_option maxHeartbeats 4000000 in
theorem bnfree_yes_core (A g cap fn fc n base : Nat) (fa : Option Addr) (room : Int) (ps : List (Rn × Bool)) (fs : List Int) (w : World) (hfn : fn = fs.length) (hn : n < ps.length) (hl : ps.length ≤ 1000000) (hl2 : fs.length ≤ 1000000)
    (HS : Hid (bnAt w base A room (.slice (some ⟨g, 0, none⟩) ps.length cap) (.slice fa fn fc) ps fs)) (HA : Hid (Calls Try.prog 50 #[aP A, .int .i64 (n : Int)] w fun e w' => e = .returned (.pointer (some ⟨g, n * 3, none⟩)) ∧ w = w')) :
    Calls Try.prog 104 #[aP A, .int .i64 (n : Int)] w (GPost bnE 115 120 w base A room (.slice (some ⟨g, 0, none⟩) ps.length cap) (.slice fa fn fc) (ps.set n (bnZ, false)) (fs ++ [(n : Int)]) (.bool true)) := by
  obtain ⟨i0, hi, hz0, hz1, hz2⟩ := info_parts Try.infoInt
  obtain ⟨⟨b1, b2, b3⟩, _⟩ := box3 HS.out.box
  obtain ⟨g', cap', e0, hgA, hat, hfz⟩ := HS.out.at n hn
  injection e0 with e0 _ _
  injection e0 with e0
  injection e0 with e0
  subst e0
  have HS1 : Hid (bnAt (((w.setCell ⟨g, n * 3, none⟩ (.slice none 0 0)).setCell ⟨g, n * 3 + 1, none⟩ (.slice none 0 0)).setCell ⟨g, n * 3 + 2, none⟩ (.bool false)) base A room (.slice (some ⟨g, 0, none⟩) ps.length cap) (.slice fa fn fc) (ps.set n (bnZ, false)) fs ∧ Kp (FP A (.slice (some ⟨g, 0, none⟩) ps.length cap) (.slice fa fn fc)) w (((w.setCell ⟨g, n * 3, none⟩ (.slice none 0 0)).setCell ⟨g, n * 3 + 1, none⟩ (.slice none 0 0)).setCell ⟨g, n * 3 + 2, none⟩ (.bool false))) := HS.out.put n hn (bnZ, false)
  have i1 : (0 : Int) ≤ (n : Int) := by omega
  have i2 : (n : Int) < (ps.length : Int) := by omega
  have HFN := Lib.hid hfn
  obtain ⟨P0, hP0⟩ : ∃ P0, ps[n] = P0 := ⟨_, rfl⟩
  rw [hP0] at hat
  have c0 : w.cell? ⟨g, n * 3, none⟩ = some (.slice P0.1.s.a P0.1.s.n P0.1.s.c) := hat 0 _ rfl
  have c1 : w.cell? ⟨g, n * 3 + 1, none⟩ = some (.slice P0.1.k.a P0.1.k.n P0.1.k.c) := hat 1 _ rfl
  have c2 : w.cell? ⟨g, n * 3 + 2, none⟩ = some (.bool P0.2) := hat 2 _ rfl
  have u0 := c0
  have v0 := hfz (n * 3)
  have u1 : (w.setCell ⟨g, n * 3, none⟩ (.slice none 0 0)).cell? ⟨g, n * 3 + 1, none⟩ = _ := (putQ_next g [.slice none 0 0] w (n * 3) 1 (Nat.le_of_eq rfl)).trans c1
  have v1 : (w.setCell ⟨g, n * 3, none⟩ (.slice none 0 0)).frozen? ⟨g, n * 3 + 1, none⟩ = false := (putQ_frozen g _ [.slice none 0 0] w (n * 3)).trans (hfz (n * 3 + 1))
  have u2 : ((w.setCell ⟨g, n * 3, none⟩ (.slice none 0 0)).setCell ⟨g, n * 3 + 1, none⟩ (.slice none 0 0)).cell? ⟨g, n * 3 + 2, none⟩ = _ := (putQ_next g [.slice none 0 0, .slice none 0 0] w (n * 3) 2 (Nat.le_of_eq rfl)).trans c2
  have v2 : ((w.setCell ⟨g, n * 3, none⟩ (.slice none 0 0)).setCell ⟨g, n * 3 + 1, none⟩ (.slice none 0 0)).frozen? ⟨g, n * 3 + 2, none⟩ = false := (putQ_frozen g _ [.slice none 0 0, .slice none 0 0] w (n * 3)).trans (hfz (n * 3 + 2))
  clear hP0 hfn hat hfz c0 c1 c2
  go_enter Try.func104, Try.ntmps104
  go_wp2_with fail
  refine HA.out.mono ?_
  rintro e w' ⟨rfl, rfl⟩
  go_upto_region 4 with fail
  obtain ⟨hA1, hK1⟩ := HS1.out
  clear HS1 b1 b2 b3 HA u0 v0 u1 v1 u2 v2
  generalize (((w.setCell ⟨g, n * 3, none⟩ (.slice none 0 0)).setCell ⟨g, n * 3 + 1, none⟩ (.slice none 0 0)).setCell ⟨g, n * 3 + 2, none⟩ (.bool false)) = X at *
  have HA1 := Lib.hid hA1
  have HK1 := Lib.hid hK1
  clear hA1 hK1
  have HA2 := Lib.hid (HA1.out.alloc (.cells #[.int .i64 (n : Int)] 3))
  obtain ⟨⟨c1, c2, c3⟩, _⟩ := box3 HA1.out.box
  have HOW : Hid ((X.alloc (.cells #[.int .i64 (n : Int)] 3)).ownsRow base 3 1 (.slice fa fn fc) fn (fs.map nv)) := by
    have := HA2.out.frow
    rw [← HFN.out] at this
    exact this
  have hbl := HA2.out.base_le
  have hfb : fn ≤ 1000000 := by have := HFN.out; omega
  go_upto_region 5 with (at_builtin; refine wpList_append_lies _ rfl _ _ 78 rfl base 3 i0 _ 1 8 Try.underlying78 hi hz0 hz1 hz2 rfl (by omega) _ fn (fs.map nv) (by rfl) HOW.out ⟨X.heap.size, 0, none⟩ 1 1 [.int .i64 (n : Int)] (by rfl) rfl (World.news_of_block (heap_alloc_new X _)) (by simp [Value.oneCell']) (by omega) (by unfold maxLen; omega) (by omega) hbl _ rfl ?_; intro g2 cap2 w1 hown1 hgrow1 hat1 hlt1; have HO1 := Lib.hid hown1; have HG1 := Lib.hid hgrow1; have HT1 := Lib.hid hat1; have hA1b := (HG1.out.block A (lt_of_block HA2.out.box) (fun e => HA2.out.apart.2.1 A e.symm rfl)).trans HA2.out.box; obtain ⟨⟨d1, d2, d3⟩, _, _, d4⟩ := box3 hA1b; clear hown1 hgrow1 hat1 hA1b)
  have HO2 : Hid (w1.ownsRow base 3 1 (.slice (some ⟨g2, 0, none⟩) (fn + 1) cap2) (fs ++ [(n : Int)]).length ((fs ++ [(n : Int)]).map nv)) := by
    have h := HO1.out
    rw [List.map_append, List.length_append]
    rw [HFN.out] at h ⊢
    exact h
  have HZ := Lib.hid (HA2.out.setF HG1.out HO2.out)
  clear d1 d2 d3 d4 c1 c2 c3
  go_wp2_with fail
  go_ret
  obtain ⟨z1, z2⟩ := HZ.out
  refine ⟨.slice (some ⟨g, 0, none⟩) ps.length cap, .slice (some ⟨g2, 0, none⟩) (fn + 1) cap2, ⟨rfl, z1⟩, ?_, ?_⟩
  · exact (HK1.out.alloc _).trans z2 (fun _ _ h => h)
  · rintro b (rfl | hb | hb)
    · exact .inl (.inl rfl)
    · exact .inl (.inr (.inl hb))
    · have e : g2 = b := by simpa [Value.ownBlock] using hb
      subst e
      rcases HT1.out with h | h
      · exact .inl (.inr (.inr h))
      · right; rw [h]; have := HK1.out.size; simp; omega
set_option maxRecDepth 100000 in
set_option maxHeartbeats 2000000 in
theorem bntake_new_core (A pn pc fc base : Nat) (pa fa : Option Addr) (room : Int) (ps : List (Rn × Bool)) (w : World) (hpn : pn = ps.length) (hl : ps.length ≤ 1000000)
    (HS : Hid (bnAt w base A room (.slice pa pn pc) (.slice fa 0 fc) ps [])) :
    Calls Try.prog 113 #[aP A] w (GPost bnE 115 120 w base A room (.slice pa pn pc) (.slice fa 0 fc) (ps ++ [(bnZ, false)]) [] (.int .i64 (pn : Int))) := by
  obtain ⟨i0, hi, hz0, hz1, hz2⟩ := info_parts Try.infoRn
  obtain ⟨⟨c1, c2, c3⟩, _⟩ := box3 HS.out.box
  have HPN := Lib.hid hpn
  have hpb : pn ≤ 1000000 := by omega
  clear hpn
  have HA2 := Lib.hid (HS.out.alloc (.cells #[.slice none 0 0, .slice none 0 0, .bool false] 120))
  have HOW : Hid ((w.alloc (.cells #[.slice none 0 0, .slice none 0 0, .bool false] 120)).ownsRow base 120 3 (.slice pa pn pc) pn (flatQ bnE ps)) := by
    have := HA2.out.prow
    rw [← HPN.out] at this
    exact this
  have hbl := HA2.out.base_le
  go_enter Try.func113, Try.ntmps113
  go_upto_region 4 with (at_builtin; refine wpList_append_lies _ rfl _ _ 113 rfl base 120 i0 _ 3 56 Try.underlying113 hi hz0 hz1 hz2 rfl (by omega) _ pn (flatQ bnE ps) (by rfl) HOW.out ⟨w.heap.size, 0, none⟩ 1 1 [.slice none 0 0, .slice none 0 0, .bool false] (by rfl) rfl (World.news_of_block (heap_alloc_new w _)) (by simp [Value.oneCell']) (by omega) (by unfold maxLen; omega) (by omega) hbl _ rfl ?_; intro g2 cap2 w1 hown1 hgrow1 hat1 hlt1; have HO1 := Lib.hid hown1; have HG1 := Lib.hid hgrow1; have HT1 := Lib.hid hat1; have hA1b := (HG1.out.block A (lt_of_block HA2.out.box) (fun e => HA2.out.apart.1 A e.symm rfl)).trans HA2.out.box; obtain ⟨⟨d1, d2, d3⟩, _, d4, _⟩ := box3 hA1b; clear hown1 hgrow1 hat1 hA1b)
  have HO2 : Hid (w1.ownsRow base 120 (2 + 1) (.slice (some ⟨g2, 0, none⟩) (pn + 1) cap2) (ps ++ [(bnZ, false)]).length (flatQ bnE (ps ++ [(bnZ, false)]))) := by
    have h := HO1.out
    rw [flatQ_append, List.length_append]
    rw [HPN.out] at h ⊢
    exact h
  have HZ := Lib.hid (HA2.out.setP HG1.out HO2.out)
  clear d1 d2 d3 d4 c1 c2 c3
  obtain ⟨⟨d1, d2, d3⟩, _⟩ := box3 HZ.out.1.box
  go_wp2_with fail
  go_ret
  obtain ⟨z1, z2⟩ := HZ.out
  refine ⟨.slice (some ⟨g2, 0, none⟩) (pn + 1) cap2, .slice fa 0 fc, ⟨by first | rfl | (congr 2; omega), z1⟩, ?_, ?_⟩
  · exact ((Kp.refl _ w).alloc _).trans z2 (fun _ _ h => h)
  · rintro b (rfl | hb | hb)
    · exact .inl (.inl rfl)
    · have e : g2 = b := by simpa [Value.ownBlock] using hb
      subst e
      rcases HT1.out with h | h
      · exact .inl (.inr (.inl h))
      · right; rw [h]; simp
    · exact .inl (.inr (.inr hb))
set_option maxRecDepth 100000 in
set_option maxHeartbeats 2000000 in
theorem bntake_free_core (A gf fn fc base : Nat) (pv : Value) (room f : Int) (ps : List (Rn × Bool)) (fs : List Int) (w : World) (hfn : fn = fs.length + 1) (hl2 : fn ≤ 1000000)
    (HS : Hid (bnAt w base A room pv (.slice (some ⟨gf, 0, none⟩) fn fc) ps (fs ++ [f]))) :
    Calls Try.prog 113 #[aP A] w (GPost bnE 115 120 w base A room pv (.slice (some ⟨gf, 0, none⟩) fn fc) ps fs (.int .i64 f)) := by
  obtain ⟨⟨c1, c2, c3⟩, _, _, c4⟩ := box3 HS.out.box
  have HFR : Hid (w.ownsRow base 3 1 (.slice (some ⟨gf, 0, none⟩) fn fc) fn ((fs ++ [f]).map nv)) := by
    have := HS.out.frow
    rw [List.length_append] at this
    rw [hfn]
    rw [hfn] at this
    exact this
  have hcf : w.cell? ⟨gf, fn - 1, none⟩ = some (.int .i64 f) := by
    obtain ⟨g', e1, _, hc, _⟩ := own_at HFR.out (by simp; omega) (fn - 1) (by omega)
    injection e1 with e1
    injection e1 with e1
    subst e1
    rw [hc]
    congr 2
    rw [List.getElem_append_right (by omega)]
    simp
  have hcap : fn ≤ fc := own_cap HFR.out
  have HSH := Lib.hid (own_shrink HFR.out)
  have HZ := Lib.hid (HS.out.setF (World.grownBy.refl w _) HSH.out.1)
  have hpos : 0 < fn := by omega
  have t1 : decide ((fn : Int) - 1 < 0) = false := decide_eq_false (by omega)
  have t2 : decide ((fn : Int) < 1) = false := decide_eq_false (by omega)
  have i1 : (0 : Int) ≤ (fn : Int) - 1 := by omega
  have i2 : (fn : Int) - 1 < (fn : Int) := by omega
  have i3 : ((fn : Int) - 1).toNat = fn - 1 := by omega
  have i4 : (fn : Int) - 1 ≤ (fc : Int) := by omega
  clear hfn
  go_enter Try.func113, Try.ntmps113
  go_wp2_with fail
  go_ret
  obtain ⟨z1, z2⟩ := HZ.out
  refine ⟨pv, .slice (some ⟨gf, 0, none⟩) (fn - 1) fc, ⟨rfl, z1⟩, z2, ?_⟩
  rintro b (rfl | hb | hb)
  · exact .inl (.inl rfl)
  · exact .inl (.inr (.inl hb))
  · exact .inl (.inr (.inr hb))
end Go.Proofs.Ytjgcdmeojjnjlaa
/- The arena of bocage/btree.node: Put; all calls told by the arena of lists. -/
namespace Go.Proofs.Ytjgcdmeojjnjlaa
open Go.RowKit Go.Sort Go.Proofs.Ytjgcdmeojjnjlaa.Bo
set_option linter.unusedVariables false
theorem bnkeep {W : World} {A B : Nat} {y0 y1 y2 z0 z1 : Value} {t u : TypeId} (h1 : W.heap[A]? = some (.cells #[y0, y1, y2] t (0, 0))) (h2 : W.heap[B]? = some (.cells #[z0, z1] u (0, 0))) :
    W.cell? ⟨A, 1, none⟩ = some y1 ∧ W.cell? ⟨B, 0, none⟩ = some (z0) ∧ W.cell? ⟨B, 1, none⟩ = some (z1) :=
  ⟨(box3 h1).1.2.1, (cell_of_row _ _ 0 _ _ _ h2).trans rfl, (cell_of_row _ _ 1 _ _ _ h2).trans rfl⟩
theorem heap_drew {W : World} {b : Nat} {o : Obj} (h : W.heap[b]? = some o) : W.drew.heap[b]? = some o := h
set_option maxRecDepth 100000 in
set_option maxHeartbeats 2000000 in
theorem bnput_full_core (A pn fn : Nat) (pv fv : Value) (room : Int) (x0 : SV) (x1 : SV) (w : World) (hp : pn ≤ 1000000) (hf : fn ≤ 1000000) (H : Hid (w.heap[A]? = some (bnO room pv fv)))
    (HL : Hid (∀ W, Go.RowKit.Below w.heap.size w W → Calls Try.prog 46 #[aP A] W fun e w' => e = .returned (.int .i64 ((pn : Int) - (fn : Int))) ∧ Go.RowKit.Below W.heap.size W w')) (hfull : room ≤ (pn : Int) - (fn : Int)) :
    Calls Try.prog 108 #[aP A, .agg #[.slice x0.a x0.n x0.c, .slice x1.a x1.n x1.c]] w fun e w' => e = .returned (.tuple #[.int .i64 0, .int .i64 50]) ∧ Go.RowKit.Below w.heap.size w w' := by
  have mx := mixed
  have HB := Lib.hid (below_new w (.cells #[.slice x0.a x0.n x0.c, .slice x1.a x1.n x1.c] 80))
  have HX := Lib.hid (box_on H.out HB.out)
  have t1 : decide (room ≤ (pn : Int) - (fn : Int)) = true := decide_eq_true hfull
  clear hfull
  go_enter Try.func108, Try.ntmps108
  go_upto_region 1 with fail
  generalize w.alloc (.cells #[.slice x0.a x0.n x0.c, .slice x1.a x1.n x1.c] 80) = W1 at *
  have q1 := cell_regrown (box3 HX.out).1.1
  refine wp_region_quiet_below (by assumption) (by kernel_rfl) ?_
  repeat (go_big_quiet_step (first | (go_at_call 46; exact Calls.regrown_of (HL.out _ (bt HB.out (below_regrown _ _ _))))))
  refine wpQuiet_nil ?_
  intro _ hw'
  obtain ⟨⟨nq, osq⟩, hw''⟩ := hw'
  subst hw''
  have HY := Lib.hid (bt HB.out (below_regrown W1 nq osq))
  show Exit.then _ _ Exit.normal _ (grow (redrawn W1 nq) osq)
  generalize grow (redrawn W1 nq) osq = Y at *
  clear q1 HL
  go_wp2_with fail
  go_ret2
  exact ⟨rfl, HY.out⟩
set_option maxRecDepth 100000 in
set_option maxHeartbeats 4000000 in
theorem bnput_core (A pn fn n base : Nat) (pv fv : Value) (room : Int) (x0 : SV) (x1 : SV) (ps' : List (Rn × Bool)) (fs' : List Int) (w : World) (hp : pn ≤ 1000000) (hf : fn ≤ 1000000) (H : Hid (w.heap[A]? = some (bnO room pv fv))) (HFP : Hid (∀ b, FP A pv fv b → b < w.heap.size))
    (HL : Hid (∀ W, Go.RowKit.Below w.heap.size w W → Calls Try.prog 46 #[aP A] W fun e w' => e = .returned (.int .i64 ((pn : Int) - (fn : Int))) ∧ Go.RowKit.Below W.heap.size W w')) (hno : (pn : Int) - (fn : Int) < room) (hn : n < ps'.length)
    (HT : Hid (∀ W, Go.RowKit.Below w.heap.size w W → Calls Try.prog 113 #[aP A] W (GPost bnE 115 120 W base A room pv fv ps' fs' (.int .i64 (n : Int))))) :
    Calls Try.prog 108 #[aP A, .agg #[.slice x0.a x0.n x0.c, .slice x1.a x1.n x1.c]] w (GPost bnE 115 120 w base A room pv fv (ps'.set n (⟨x0, x1⟩, true)) fs' (.tuple #[.int .i64 (n : Int), .int .i64 0])) := by
  have mx := mixed
  have HB := Lib.hid (below_new w (.cells #[.slice x0.a x0.n x0.c, .slice x1.a x1.n x1.c] 80))
  have HV := Lib.hid (heap_alloc_new w (.cells #[.slice x0.a x0.n x0.c, .slice x1.a x1.n x1.c] 80))
  have HX := Lib.hid (box_on H.out HB.out)
  have t1 : decide (room ≤ (pn : Int) - (fn : Int)) = false := decide_eq_false (by omega)
  clear hno
  go_enter Try.func108, Try.ntmps108
  go_upto_region 1 with fail
  generalize w.alloc (.cells #[.slice x0.a x0.n x0.c, .slice x1.a x1.n x1.c] 80) = W1 at *
  have q1 := cell_regrown (box3 HX.out).1.1
  refine wp_region_quiet_below (by assumption) (by kernel_rfl) ?_
  repeat (go_big_quiet_step (first | (go_at_call 46; exact Calls.regrown_of (HL.out _ (bt HB.out (below_regrown _ _ _))))))
  refine wpQuiet_nil ?_
  intro _ hw'
  obtain ⟨⟨nq, osq⟩, hw''⟩ := hw'
  subst hw''
  have HY := Lib.hid (bt HB.out (below_regrown W1 nq osq))
  have HVY := Lib.hid (box_on HV.out (below_regrown W1 nq osq))
  show Exit.then _ _ Exit.normal _ (grow (redrawn W1 nq) osq)
  generalize grow (redrawn W1 nq) osq = Y at *
  clear q1 HL
  go_wp2_with fail
  refine (HT.out Y HY.out).mono ?_
  rintro e w1 ⟨pv1, fv1, ⟨rfl, hA⟩, hK, hsub⟩
  have HA := Lib.hid hA
  have HK := Lib.hid hK
  have HSUB := Lib.hid hsub
  have HV1 := Lib.hid (hK.at HVY.out (fun hb => by have := HFP.out _ hb; omega))
  clear hA hK hsub HT
  obtain ⟨g, cap, rfl, hgA, hat, hfz⟩ := HA.out.at n hn
  obtain ⟨B, hB⟩ : ∃ B, w.heap.size = B := ⟨_, rfl⟩
  have hBg : B ≠ g := by
    intro e
    have hb : FP A (.slice (some ⟨g, 0, none⟩) ps'.length cap) fv1 g := .inr (.inl rfl)
    rcases HSUB.out g hb with h | h
    · have := HFP.out g h; omega
    · have := lt_of_block HVY.out; omega
  have HA2 := Lib.hid (HA.out.below ((Go.RowKit.Below.refl _ w1).drew))
  have HV2 := Lib.hid (heap_drew HV1.out)
  have HK2 := Lib.hid HK.out.drew
  have i1 : (0 : Int) ≤ (n : Int) := by omega
  have i2 : (n : Int) < (ps'.length : Int) := by omega
  have HBG := Lib.hid hBg
  clear hBg hB hat hfz
  go_wp2_with fail
  obtain ⟨q1, z0, z1⟩ := bnkeep (W := w1.drew) HA2.out.box HV2.out
  obtain ⟨r1, y0, y1⟩ := bnkeep (W := w1) HA.out.box HV1.out
  go_still_tail 8, (by kernel_rfl)
  change wpList _ _ _ _ _ w1.drew
  generalize w1.drew = X at *
  clear q1 z0 z1 r1 y0 y1
  obtain ⟨g', cap', e0, _, hat, hfz⟩ := HA2.out.at n hn
  injection e0 with e0 _ _
  injection e0 with e0
  injection e0 with e0
  subst e0
  have HZ : Hid (bnAt (((X.setCell ⟨g, n * 3, none⟩ (.slice x0.a x0.n x0.c)).setCell ⟨g, n * 3 + 1, none⟩ (.slice x1.a x1.n x1.c)).setCell ⟨g, n * 3 + 2, none⟩ (.bool true)) base A room (.slice (some ⟨g, 0, none⟩) ps'.length cap) fv1 (ps'.set n (⟨x0, x1⟩, true)) fs' ∧ Kp (FP A (.slice (some ⟨g, 0, none⟩) ps'.length cap) fv1) X (((X.setCell ⟨g, n * 3, none⟩ (.slice x0.a x0.n x0.c)).setCell ⟨g, n * 3 + 1, none⟩ (.slice x1.a x1.n x1.c)).setCell ⟨g, n * 3 + 2, none⟩ (.bool true))) := HA2.out.put n hn (⟨x0, x1⟩, true)
  obtain ⟨P0, hP0⟩ : ∃ P0, ps'[n] = P0 := ⟨_, rfl⟩
  rw [hP0] at hat
  have c0 : X.cell? ⟨g, n * 3, none⟩ = some (.slice P0.1.s.a P0.1.s.n P0.1.s.c) := hat 0 _ rfl
  have c1 : X.cell? ⟨g, n * 3 + 1, none⟩ = some (.slice P0.1.k.a P0.1.k.n P0.1.k.c) := hat 1 _ rfl
  have c2 : X.cell? ⟨g, n * 3 + 2, none⟩ = some (.bool P0.2) := hat 2 _ rfl
  have u0 := c0
  have v0 := hfz (n * 3)
  have u1 : (X.setCell ⟨g, n * 3, none⟩ (.slice x0.a x0.n x0.c)).cell? ⟨g, n * 3 + 1, none⟩ = _ := (putQ_next g [.slice x0.a x0.n x0.c] X (n * 3) 1 (Nat.le_of_eq rfl)).trans c1
  have v1 : (X.setCell ⟨g, n * 3, none⟩ (.slice x0.a x0.n x0.c)).frozen? ⟨g, n * 3 + 1, none⟩ = false := (putQ_frozen g _ [.slice x0.a x0.n x0.c] X (n * 3)).trans (hfz (n * 3 + 1))
  have u2 : ((X.setCell ⟨g, n * 3, none⟩ (.slice x0.a x0.n x0.c)).setCell ⟨g, n * 3 + 1, none⟩ (.slice x1.a x1.n x1.c)).cell? ⟨g, n * 3 + 2, none⟩ = _ := (putQ_next g [.slice x0.a x0.n x0.c, .slice x1.a x1.n x1.c] X (n * 3) 2 (Nat.le_of_eq rfl)).trans c2
  have v2 : ((X.setCell ⟨g, n * 3, none⟩ (.slice x0.a x0.n x0.c)).setCell ⟨g, n * 3 + 1, none⟩ (.slice x1.a x1.n x1.c)).frozen? ⟨g, n * 3 + 2, none⟩ = false := (putQ_frozen g _ [.slice x0.a x0.n x0.c, .slice x1.a x1.n x1.c] X (n * 3)).trans (hfz (n * 3 + 2))
  clear hP0 hat hfz c0 c1 c2
  go_wp2_with fail
  go_ret2
  obtain ⟨z1, z2⟩ := HZ.out
  refine ⟨_, fv1, ⟨rfl, z1⟩, ?_, ?_⟩
  · refine ((Kp.of_below _ HY.out).trans HK2.out (fun _ _ h => h)).trans z2 (fun b hb h => ?_)
    rcases HSUB.out b h with h1 | h1
    · exact h1
    · have := HY.out.size; omega
  · intro b hb
    rcases HSUB.out b hb with h1 | h1
    · exact .inl h1
    · exact .inr (Nat.le_trans HY.out.size h1)
end Go.Proofs.Ytjgcdmeojjnjlaa
/- The arena of bocage/btree.node: all calls told by the arena of lists. -/
namespace Go.Proofs.Ytjgcdmeojjnjlaa
open Go.RowKit Go.Sort Go.Proofs.Ytjgcdmeojjnjlaa.Bo
set_option linter.unusedVariables false
theorem bnroom_any {S : Nat → Prop} {w : World} {base A : Nat} {a : Ag Rn} (h : bnIs w base A a S) : Calls Try.prog 44 #[aP A] w fun e w' => e = .returned (.int .i64 a.room) ∧ w = w' := by
  obtain ⟨pv, fv, rfl, h1⟩ := h
  exact bnroom_core A a.room pv fv w h1.box
theorem bnlen_at {w : World} {base A : Nat} {room : Int} {pv fv : Value} {ps : List (Rn × Bool)} {fs : List Int} (h : bnAt w base A room pv fv ps fs) (hl : ps.length ≤ 1000000) (hl2 : fs.length ≤ 1000000) : Calls Try.prog 46 #[aP A] w fun e w' => e = .returned (.int .i64 ((ps.length : Int) - (fs.length : Int))) ∧ Go.RowKit.Below w.heap.size w w' := by
  obtain ⟨pa, pc, rfl, _⟩ := own_slice h.prow
  obtain ⟨fa, fc, rfl, _⟩ := own_slice h.frow
  exact bnlen_core A ps.length pc fs.length fc pa fa room w h.box hl hl2
theorem bnlen_any {S : Nat → Prop} {w : World} {base A : Nat} {a : Ag Rn} (h : bnIs w base A a S) (hok : a.ok) : Calls Try.prog 46 #[aP A] w fun e w' => e = .returned (.int .i64 a.len) ∧ Go.RowKit.Below w.heap.size w w' := by
  obtain ⟨pv, fv, rfl, h1⟩ := h
  have hl := a.lens hok
  have := bnlen_at h1 (by rw [a.ps_len]; omega) (by omega)
  rw [a.ps_len] at this
  unfold Ag.len
  rw [hok.ever]
  exact this
theorem bnat_nil {S : Nat → Prop} {w : World} {base A : Nat} {a : Ag Rn} (h : bnIs w base A a S) (hok : a.ok) (i : Int) (hi : a.is i = false) : Calls Try.prog 50 #[aP A, .int .i64 i] w fun e w' => e = .returned (.pointer none) ∧ w = w' := by
  obtain ⟨pv, fv, rfl, h1⟩ := h
  have hl := a.lens hok
  exact bnat_no h1 (by rw [a.ps_len]; omega) i (ag_ps_no bnZ a i hi)
/-- Where a thing stands: it is read and written there. -/
theorem bnat_is {S : Nat → Prop} {w : World} {base A : Nat} {a : Ag Rn} (h : bnIs w base A a S) (hok : a.ok) (n : Nat) (hi : a.is (n : Int) = true) :
    ∃ g, (Calls Try.prog 50 #[aP A, .int .i64 (n : Int)] w fun e w' => e = .returned (.pointer (some ⟨g, n * 3, none⟩)) ∧ w = w') ∧ S g ∧ (∀ j u, (bnE.e (a.l.getD n bnZ))[j]? = some u → w.cell? ⟨g, n * 3 + j, none⟩ = some u) ∧ (∀ j, w.frozen? ⟨g, j, none⟩ = false) ∧
      (∀ v : Rn, bnIs (putQ w g (n * 3) (bnE.e v)) base A (a.set n v) S ∧ Kp S w (putQ w g (n * 3) (bnE.e v))) ∧
      (∀ (j : Nat) (u : Value) (v : Rn), j < 2 → (bnE.e (a.l.getD n bnZ)).set j u = bnE.e v → bnIs (w.setCell ⟨g, n * 3 + j, none⟩ u) base A (a.set n v) S ∧ Kp S w (w.setCell ⟨g, n * 3 + j, none⟩ u)) := by
  obtain ⟨pv, fv, rfl, h1⟩ := h
  have hl := a.lens hok
  obtain ⟨_, _, h3, _⟩ := a.is_in n hok hi
  rw [Int.toNat_natCast] at h3
  have hn : n < (a.ps bnZ).length := by rw [a.ps_len]; exact h3
  have hy := ag_ps_yes bnZ a n hn hi
  obtain ⟨g, cap, e1, hgA, hat, hfz⟩ := h1.at n hn
  rw [hy] at hat
  refine ⟨g, bnat_yes h1 (by rw [a.ps_len]; omega) n g cap hn (by rw [hy]) e1, .inr (.inl (by rw [e1]; rfl)), fun j u hu => hat j u ?_, hfz, fun v => ?_, fun j u v hj hv => ?_⟩
  · rw [List.getElem?_append_left (by have := (List.getElem?_eq_some_iff.1 hu).1; exact this)]; exact hu
  · subst e1
    obtain ⟨z1, z2⟩ := h1.put1 n v hn (by rw [hy])
    rw [a.ps_set bnZ n v hok hi] at z1
    exact ⟨⟨_, fv, rfl, z1⟩, z2⟩
  · subst e1
    obtain ⟨z1, z2⟩ := h1.put2 n j u v hn (by rw [hy]) hj (by rw [hy]; exact hv)
    rw [a.ps_set bnZ n v hok hi] at z1
    exact ⟨⟨_, fv, rfl, z1⟩, z2⟩
theorem bnget_yes {S : Nat → Prop} {w : World} {base A : Nat} {a : Ag Rn} (h : bnIs w base A a S) (hok : a.ok) (n : Nat) (hi : a.is (n : Int) = true) (x : Rn) (hx : a.l.getD n bnZ = x) : Calls Try.prog 86 #[aP A, .int .i64 (n : Int)] w fun e w' => e = .returned (.tuple #[.agg #[.slice x.s.a x.s.n x.s.c, .slice x.k.a x.k.n x.k.c], .bool true]) ∧ Go.RowKit.Below w.heap.size w w' := by
  obtain ⟨pv, fv, rfl, h1⟩ := h
  have hl := a.lens hok
  obtain ⟨_, _, h3, _⟩ := a.is_in n hok hi
  rw [Int.toNat_natCast] at h3
  have hn : n < (a.ps bnZ).length := by rw [a.ps_len]; exact h3
  have hy := ag_ps_yes bnZ a n hn hi
  obtain ⟨g, cap, e1, hgA, hat, hfz⟩ := h1.at n hn
  rw [hy, hx] at hat
  exact bnget_yes_core A g n x w (fun W hb => bnat_yes (h1.below hb) (by rw [a.ps_len]; omega) n g cap hn (by rw [hy]) e1) (hat 0 _ rfl) (hat 1 _ rfl)
theorem bnget_no {S : Nat → Prop} {w : World} {base A : Nat} {a : Ag Rn} (h : bnIs w base A a S) (hok : a.ok) (i : Int) (hi : a.is i = false) : Calls Try.prog 86 #[aP A, .int .i64 i] w fun e w' => e = .returned (.tuple #[.agg #[.slice none 0 0, .slice none 0 0], .bool false]) ∧ Go.RowKit.Below w.heap.size w w' :=
  bnget_no_core A i w (fun W hb => bnat_nil (h.below hb) hok i hi)
theorem bnfree_yes {S : Nat → Prop} {w : World} {base A : Nat} {a : Ag Rn} (h : bnIs w base A a S) (hok : a.ok) (n : Nat) (hi : a.is (n : Int) = true) : Calls Try.prog 104 #[aP A, .int .i64 (n : Int)] w (bnPost w base A S (a.drop (n : Int)) (.bool true)) := by
  have hl := a.lens hok
  obtain ⟨_, _, h3, _⟩ := a.is_in n hok hi
  rw [Int.toNat_natCast] at h3
  have hn : n < (a.ps bnZ).length := by rw [a.ps_len]; exact h3
  have hy := ag_ps_yes bnZ a n hn hi
  obtain ⟨pv, fv, rfl, hA⟩ := h
  obtain ⟨g, cap, rfl, _⟩ := hA.at n hn
  obtain ⟨fa, fc, rfl, _⟩ := own_slice hA.frow
  refine (bnfree_yes_core A g cap a.free.length fc n base fa a.room (a.ps bnZ) a.free w rfl hn (by rw [a.ps_len]; omega) (by omega) hA (bnat_yes hA (by rw [a.ps_len]; omega) n g cap hn (by rw [hy]) rfl)).mono ?_
  intro e w' hp
  exact gmpost_of hp rfl (a.ps_drop bnZ n hok hi) rfl
theorem bnreset_any {S : Nat → Prop} {w : World} {base A : Nat} {a : Ag Rn} (h : bnIs w base A a S) : Calls Try.prog 75 #[aP A] w (bnPost w base A S (Ag.new a.room) (.tuple #[])) := by
  obtain ⟨pv, fv, rfl, hA⟩ := h
  refine (bnreset_core A pv fv a.room w hA.box).mono ?_
  rintro e w' ⟨rfl, rfl⟩
  refine ⟨FP A (.slice none 0 0) (.slice none 0 0), ⟨rfl, _, _, rfl, ⟨heap_setCell_same _ _ _ _ _ _ (heap_setCell_same _ _ _ _ _ _ hA.box), World.ownsRow_nil _ _ _ _, World.ownsRow_nil _ _ _ _, hA.le, hA.ty⟩⟩, ?_, ?_⟩
  · exact ((Kp.refl _ w).setCell ⟨A, 1, none⟩ (.inl (.inl rfl)) _).setCell ⟨A, 2, none⟩ (.inl (.inl rfl)) _
  · rintro b (rfl | hb | hb)
    · exact .inl (.inl rfl)
    · cases hb
    · cases hb
theorem bnput_full {S : Nat → Prop} {w : World} {base A : Nat} {a : Ag Rn} (h : bnIs w base A a S) (hok : a.ok) (x : Rn) (hr : a.room ≤ a.len) : Calls Try.prog 108 #[aP A, .agg #[.slice x.s.a x.s.n x.s.c, .slice x.k.a x.k.n x.k.c]] w (bnPost w base A S a (.tuple #[.int .i64 0, .int .i64 50])) := by
  have hS := h
  have hl := a.lens hok
  obtain ⟨pv, fv, rfl, hA⟩ := h
  have hev := hok.ever
  have hpl := a.ps_len bnZ
  unfold Ag.len at hr
  refine (bnput_full_core A (a.ps bnZ).length a.free.length pv fv a.room x.s x.k w (by omega) (by omega) hA.box (fun W hb => bnlen_at (hA.below hb) (by omega) (by omega)) (by omega)).mono ?_
  rintro e w' ⟨he, hb⟩
  exact gmpost_same hS he hb
theorem bnput_take {S : Nat → Prop} {w : World} {base A : Nat} {a : Ag Rn} (h : bnIs w base A a S) (hok : a.ok) (x : Rn) (fs : List Int) (f : Nat) (hf : a.free = fs ++ [(f : Int)]) (hr : a.len < a.room) : Calls Try.prog 108 #[aP A, .agg #[.slice x.s.a x.s.n x.s.c, .slice x.k.a x.k.n x.k.c]] w (bnPost w base A S (a.take fs f x) (.tuple #[.int .i64 (f : Int), .int .i64 0])) := by
  have hl := a.lens hok
  obtain ⟨pv, fv, rfl, hA⟩ := h
  have hev := hok.ever
  have hpl := a.ps_len bnZ
  unfold Ag.len at hr
  obtain ⟨hlt, hps⟩ := a.ps_take bnZ f fs x hok hf
  have hlen : a.free.length = fs.length + 1 := by rw [hf]; simp
  refine (bnput_core A (a.ps bnZ).length a.free.length f base pv fv a.room x.s x.k (a.ps bnZ) fs w (by omega) (by omega) hA.box (fun b hb => (hA.lt b hb).2) (fun W hb => bnlen_at (hA.below hb) (by omega) (by omega)) (by omega) (by omega) (fun W hb => ?_)).mono (fun e w' hp => gmpost_of hp rfl hps rfl)
  have hA' := hA.below hb
  rw [hf] at hA'
  obtain ⟨gf, fc, e1, _⟩ := hA'.frow.form (by simp)
  rw [show (fs ++ [(f : Int)]).length = fs.length + 1 by simp] at e1
  subst e1
  exact bntake_free_core A gf (fs.length + 1) fc base pv a.room f (a.ps bnZ) fs W rfl (by omega) hA'
theorem bnput_grow {S : Nat → Prop} {w : World} {base A : Nat} {a : Ag Rn} (h : bnIs w base A a S) (hok : a.ok) (x : Rn) (hf : a.free = []) (hr : a.len < a.room) : Calls Try.prog 108 #[aP A, .agg #[.slice x.s.a x.s.n x.s.c, .slice x.k.a x.k.n x.k.c]] w (bnPost w base A S (a.grow x) (.tuple #[.int .i64 a.ever, .int .i64 0])) := by
  have hl := a.lens hok
  obtain ⟨pv, fv, rfl, hA⟩ := h
  have hev := hok.ever
  have hpl := a.ps_len bnZ
  unfold Ag.len at hr
  have hps := a.ps_grow bnZ x hok hf
  rw [← hpl] at hps
  have hev2 : a.ever = ((a.ps bnZ).length : Int) := by omega
  rw [hev2]
  have hrm := hok.room
  refine (bnput_core A (a.ps bnZ).length a.free.length (a.ps bnZ).length base pv fv a.room x.s x.k ((a.ps bnZ) ++ [(bnZ, false)]) [] w (by omega) (by omega) hA.box (fun b hb => (hA.lt b hb).2) (fun W hb => bnlen_at (hA.below hb) (by omega) (by omega)) (by omega) (by simp) (fun W hb => ?_)).mono (fun e w' hp => gmpost_of hp rfl hps hf.symm)
  have hA' := hA.below hb
  rw [hf] at hA'
  obtain ⟨pa, pc, e1, _⟩ := own_slice hA'.prow
  obtain ⟨fa, fc, e2, _⟩ := own_slice hA'.frow
  subst e1; subst e2
  exact bntake_new_core A (a.ps bnZ).length pc fc base pa fa a.room (a.ps bnZ) W rfl (by omega) hA'
end Go.Proofs.Ytjgcdmeojjnjlaa
/- Calls of the document's arena as arguments: one by value, a slice of them. -/
namespace Go.Proofs.Ytjgcdmeojjnjlaa
open Go.ChangeShapes Go.WideShapes Go.ChangeAt Go.RowKit Go.Sort Go.Joins Go.Proofs.Ytjgcdmeojjnjlaa.Bo
set_option linter.unusedVariables false
/-- A call: its kind, a place, a number. -/
structure O3 where
  k : Int
  i : Int
  v : Int
def O3.ok (o : O3) : Prop := I64 o.k ∧ I64 o.i ∧ I64 o.v
def Cells3 (w : World) (b x : Nat) (o : O3) : Prop := w.cell? ⟨b, x, none⟩ = some (.int .i64 o.k) ∧ w.cell? ⟨b, x + 1, none⟩ = some (.int .i64 o.i) ∧ w.cell? ⟨b, x + 2, none⟩ = some (.int .i64 o.v)
theorem Cells3.below {w w' : World} {b x : Nat} {o : O3} (h : Cells3 w b x o) (hb : Go.RowKit.Below w.heap.size w w') : Cells3 w' b x o :=
  ⟨(hb.cell (World.block_lt_of_cell? w _ h.1)).trans h.1, (hb.cell (World.block_lt_of_cell? w _ h.2.1)).trans h.2.1, (hb.cell (World.block_lt_of_cell? w _ h.2.2)).trans h.2.2⟩
/-- A slice of calls that holds l. -/
def ORow (w : World) (a : Option Addr) (l : List O3) : Prop := 0 < l.length → ∃ b off, a = some ⟨b, off, none⟩ ∧ ∀ (j : Nat) (h : j < l.length), Cells3 w b (off + j * 3) l[j]
theorem ORow.below {w w' : World} {a : Option Addr} {l : List O3} (h : ORow w a l) (hb : Go.RowKit.Below w.heap.size w w') : ORow w' a l := by
  intro hp
  obtain ⟨b, off, e, hc⟩ := h hp
  exact ⟨b, off, e, fun j hj => (hc j hj).below hb⟩
end Go.Proofs.Ytjgcdmeojjnjlaa
/- Scripts of calls on the document's arena; what holds of an arena behind any script. -/
namespace Go.Proofs.Ytjgcdmeojjnjlaa
open Go.RowKit Go.Sort Go.Proofs.Ytjgcdmeojjnjlaa.Bo
set_option linter.unusedVariables false
structure AG (a : Ar) (room : Int) : Prop where
  ok : a.ok
  rm : a.room = room
  le : a.ever ≤ room
theorem AG.new (room : Int) (h : 0 ≤ room ∧ room ≤ 65536) : AG (Ar.new room) room := ⟨Ar.new_ok room h, rfl, h.1⟩
theorem AG.does {a : Ar} {room : Int} (h : AG a room) (k i v : Int) (hv : I64 v) : AG (a.does k i v).1 room := by
  have hr := h.ok.room
  have h2 := a.does_le k i v hr.1 (by rw [h.rm]; exact h.le)
  exact ⟨a.does_ok k i v h.ok hv, h2.2.trans h.rm, by rw [← h.rm]; exact h2.1⟩
theorem AG.put {a : Ar} {room : Int} (h : AG a room) (v : Int) (hv : I64 v) : AG (a.put v).1 room := by
  have h2 := a.put_le v (by rw [h.rm]; exact h.le)
  exact ⟨a.put_ok v h.ok hv, h2.2.trans h.rm, by rw [← h.rm]; exact h2.1⟩
theorem AG.len {a : Ar} {room : Int} (h : AG a room) : a.l.length ≤ 65536 ∧ a.free.length ≤ 65536 := by
  have h1 := h.ok.ever
  have h2 := h.ok.room
  have h3 := h.le
  have h4 := h.rm
  have h5 := nodup_len a.l.length a.free h.ok.once (fun i hi => by have := h.ok.free i hi; omega)
  omega
end Go.Proofs.Ytjgcdmeojjnjlaa
