/- A part of the proof: contracts of the functions that the statements reach. -/
import Derived.RangeFuncNested
import Derived.RangeFuncBound
import Derived.RangeFuncCalls
import Derived.RangeFuncLeaves
import Derived.Shelf.Abstract
import Derived.Shelf.RegionOpen
import Derived.WalkKit
import Derived.OwnWalkIn
import Derived.TacticsInMore
import Derived.LoopNIn
import Derived.LoopIn
import Derived.Shelf.SlSortCmp.WholeK
import Derived.WalkSpells
import Derived.WalkLawsBesides
import Derived.Lib.Hide
import Derived.Laws.StructEq
import Derived.Shelf.SlSortCmp.QuietGrown
import Derived.Laws.EntriesVeiled
import Derived.Deep.CutRange
import Derived.RegionTactic
import Derived.Lib.QuietBelow
import Derived.BigQuiet
import Derived.OpenShut
import Derived.Deep.RegionHeld3
import Derived.Deep.QuietTactic
import Derived.Maps.AppendAt
import Derived.Laws.IdiomCopy
import Derived.Deep.AppendLies
import Derived.Deep.LoopGhost
import Derived.Deep.Upon
import Derived.StillTailTactics
import Derived.Lib.SmallJoins
import Derived.Deep.SlicePairs
import Derived.Deep.Strs
import Derived.ChangeOld
import Derived.SizedLaws
import Derived.Lib.SliceRun
import Derived.Laws.CopyRow
import Derived.Below
import Derived.Laws.CopyOwn
import Derived.Deep.RegionLaw
import Derived.IntWalk
import Derived.Test.YtjgcdmeojjnjlaaCG

/- The tree's own cells, and a row written within. -/
namespace Go.Proofs.Ytjgcdmeojjnjlaa
open Go.RowKit Go.Sort Go.Proofs.Ytjgcdmeojjnjlaa.Bo Go.Proofs.Ytjgcdmeojjnjlaa.Bb
set_option linter.unusedVariables false
section
variable {w w1 : World} {base T A : Nat} {t : Bx} {a : Ag Rn} {S0 : Nat → Prop}
/-- What is written within a node's rows. -/
theorem BtW.inRow (h : BtW w base T A t a S0) (p : Nat) (n n' : Kn) (hp : t.f (p : Int) = some n) (hk : Kp (rowB (a.l.getD p bnZ)) w w1) (hnd : NdAt w1 base (a.l.getD p bnZ) n') :
    BtW w1 base T A { t with f := updK t.f (p : Int) (some n') } a S0 ∧ Kp (btS T t a S0) w w1 := by
  have hne : t.f (p : Int) ≠ none := by rw [hp]; simp
  have hff : ∀ q : Nat, updK t.f (p : Int) (some n') (q : Int) ≠ none ↔ t.f (q : Int) ≠ none := by
    intro q
    unfold updK
    by_cases hq : (q : Int) = p
    · rw [if_pos hq, hq]; simp [hne]
    · rw [if_neg hq]
  refine ⟨{ top := hk.at h.top (h.rowT p hne), le := h.le, ar := h.ar.kp hk (fun b hb hr => h.far p hne b hr hb), ok := h.ok, room := h.room, len := h.len, is := ?_, node := ?_, apart := ?_, far := ?_ }, hk.mono (fun b hb => .inr (.inr ⟨p, hne, hb⟩))⟩
  · intro i
    refine (h.is i).trans ?_
    show t.f i ≠ none ↔ updK t.f (p : Int) (some n') i ≠ none
    unfold updK
    by_cases hq : i = p
    · rw [if_pos hq, hq]; simp [hne]
    · rw [if_neg hq]
  · intro q n1 hq
    have hq : updK t.f (p : Int) (some n') (q : Int) = some n1 := hq
    unfold updK at hq
    by_cases hqp : q = p
    · subst hqp
      rw [if_pos rfl] at hq
      cases hq
      exact hnd
    · rw [if_neg (by omega)] at hq
      exact (h.node q n1 hq).kp hk (h.apart q p (by rw [hq]; simp) hne hqp)
  · intro q1 q2 g1 g2 hne' b hb
    exact h.apart q1 q2 ((hff q1).1 g1) ((hff q2).1 g2) hne' b hb
  · intro q hq b hb
    exact h.far q ((hff q).1 hq) b hb
theorem BtW.setTop (h : BtW w base T A t a S0) (j : Nat) (u : Value) (t' : Bx) (hu : w.heap[T]? = some (bO A t) → (w.setCell ⟨T, j, none⟩ u).heap[T]? = some (bO A t')) (h1 : t'.f = t.f) (h2 : t'.room = t.room) (h3 : t'.n = t.n) :
    BtW (w.setCell ⟨T, j, none⟩ u) base T A t' a S0 ∧ Kp (btS T t a S0) w (w.setCell ⟨T, j, none⟩ u) := by
  have hk : Kp (fun b => b = T) w (w.setCell ⟨T, j, none⟩ u) := Kp.setCell (S := fun b => b = T) (Kp.refl _ w) ⟨T, j, none⟩ (.inl rfl) u
  refine ⟨{ top := hu h.top, le := h.le, ar := h.ar.kp hk (fun b hb e => h.notT (e ▸ hb)), ok := h.ok, room := h.room.trans h2.symm, len := by rw [h.len, h3], is := fun i => by rw [h1]; exact h.is i, node := fun p n hp => ?_, apart := fun p q hp hq => h.apart p q (by rwa [h1] at hp) (by rwa [h1] at hq), far := fun p hp => h.far p (by rwa [h1] at hp) }, hk.mono (fun b hb => .inl hb)⟩
  rw [h1] at hp
  exact (h.node p n hp).kp hk (fun b hb e => h.rowT p (by rw [hp]; simp) (e ▸ hb))
theorem BtW.setRoot (h : BtW w base T A t a S0) (i : Int) : BtW (w.setCell ⟨T, 2, none⟩ (.int .i64 i)) base T A { t with root := i } a S0 ∧ Kp (btS T t a S0) w (w.setCell ⟨T, 2, none⟩ (.int .i64 i)) :=
  h.setTop 2 _ _ (fun k => heap_setCell_same w T 2 _ _ (.int .i64 i) k) rfl rfl rfl
theorem BtW.setMany (h : BtW w base T A t a S0) (i : Int) : BtW (w.setCell ⟨T, 3, none⟩ (.int .i64 i)) base T A { t with many := i } a S0 ∧ Kp (btS T t a S0) w (w.setCell ⟨T, 3, none⟩ (.int .i64 i)) :=
  h.setTop 3 _ _ (fun k => heap_setCell_same w T 3 _ _ (.int .i64 i) k) rfl rfl rfl
end
end Go.Proofs.Ytjgcdmeojjnjlaa
/- The state of calls that turn a B-tree: the tree, what it may touch, and the call's own boxes, which stay. -/
namespace Go.Proofs.Ytjgcdmeojjnjlaa
open Go.RowKit Go.Sort Go.Proofs.Ytjgcdmeojjnjlaa.Bo Go.Proofs.Ytjgcdmeojjnjlaa.Bb
set_option linter.unusedVariables false
/-- From w0 on: the tree is t now; of what lay in w0 only S has turned; the blocks B, which came since, are none of the tree's. -/
def BtH (w0 : World) (S B : Nat → Prop) (base T A : Nat) (t : Bx) (W : World) : Prop :=
  ∃ a S0, BtW W base T A t a S0 ∧ Kp S w0 W ∧ (∀ b, btS T t a S0 b → S b ∨ w0.heap.size ≤ b) ∧ ∀ b, B b → w0.heap.size ≤ b ∧ b < W.heap.size ∧ ¬ btS T t a S0 b
section
variable {w0 W W' : World} {S B C : Nat → Prop} {base T A g : Nat} {t : Bx}
theorem btH_of {a : Ag Rn} {S0 : Nat → Prop} {w : World} (h : BtW w base T A t a S0) : BtH w (btS T t a S0) (fun _ => False) base T A t w := ⟨a, S0, h, Kp.refl _ _, fun b hb => .inl hb, fun b hb => hb.elim⟩
theorem BtH.below (h : BtH w0 S B base T A t W) (hb : Go.RowKit.Below W.heap.size W W') : BtH w0 S B base T A t W' := by
  obtain ⟨a, S0, h1, h2, h3, h4⟩ := h
  exact ⟨a, S0, h1.below hb, h2.trans (Kp.of_below S hb) (fun _ _ h => h), h3, fun b hB => ⟨(h4 b hB).1, Nat.lt_of_lt_of_le (h4 b hB).2.1 hb.size, (h4 b hB).2.2⟩⟩
theorem BtW.blt {a : Ag Rn} {S0 : Nat → Prop} {w : World} (h : BtW w base T A t a S0) : ∀ b, btS T t a S0 b → b < w.heap.size := fun b hb => (BtIs.lt ⟨a, S0, rfl, h⟩ b hb).2
/-- More blocks are kept, such as came since. -/
theorem BtH.keep (h : BtH w0 S B base T A t W) (hb : Go.RowKit.Below W.heap.size W W') (hC : ∀ b, C b → B b ∨ (W.heap.size ≤ b ∧ b < W'.heap.size)) : BtH w0 S C base T A t W' := by
  obtain ⟨a, S0, h1, h2, h3, h4⟩ := h
  refine ⟨a, S0, h1.below hb, h2.trans (Kp.of_below S hb) (fun _ _ h => h), h3, fun b hB => ?_⟩
  rcases hC b hB with k | ⟨k1, k2⟩
  · exact ⟨(h4 b k).1, Nat.lt_of_lt_of_le (h4 b k).2.1 hb.size, (h4 b k).2.2⟩
  · exact ⟨Nat.le_trans h2.size k1, k2, fun hS => by have := h1.blt b hS; omega⟩
theorem BtH.less (h : BtH w0 S B base T A t W) (hC : ∀ b, C b → B b) : BtH w0 S C base T A t W := by
  obtain ⟨a, S0, h1, h2, h3, h4⟩ := h
  exact ⟨a, S0, h1, h2, h3, fun b hB => h4 b (hC b hB)⟩
theorem BtH.kp (h : BtH w0 S B base T A t W) : Kp S w0 W := by obtain ⟨a, S0, h1, h2, h3, h4⟩ := h; exact h2
theorem BtH.size (h : BtH w0 S B base T A t W) (b : Nat) (hb : B b) : w0.heap.size ≤ b ∧ b < W.heap.size := by obtain ⟨a, S0, h1, h2, h3, h4⟩ := h; exact ⟨(h4 b hb).1, (h4 b hb).2.1⟩
theorem BtH.top (h : BtH w0 S B base T A t W) : W.heap[T]? = some (bO A t) := by obtain ⟨a, S0, h1, _⟩ := h; exact h1.top
/-- Own boxes are written. -/
theorem BtH.box (h : BtH w0 S B base T A t W) (b : Nat) (hb : B b) (j : Nat) (u : Value) : BtH w0 S B base T A t (W.setCell ⟨b, j, none⟩ u) := by
  obtain ⟨a, S0, h1, h2, h3, h4⟩ := h
  have hk : Kp (fun x => x = b) W (W.setCell ⟨b, j, none⟩ u) := Kp.setCell (S := fun x => x = b) (Kp.refl _ W) ⟨b, j, none⟩ (.inl rfl) u
  refine ⟨a, S0, h1.kp hk (fun x hx e => (h4 b hb).2.2 (e ▸ hx)), h2.setCell ⟨b, j, none⟩ (.inr (h4 b hb).1) u, h3, fun x hx => ⟨(h4 x hx).1, Nat.lt_of_lt_of_le (h4 x hx).2.1 hk.size, (h4 x hx).2.2⟩⟩
theorem PlG.below (h : PlG W A g) (hb : Go.RowKit.Below W.heap.size W W') : PlG W' A g := by
  obtain ⟨n, c, h⟩ := h
  exact ⟨n, c, (hb.cell (p := ⟨A, 1, none⟩) (World.block_lt_of_cell? W _ h)).trans h⟩
theorem BtH.boxG (h : BtH w0 S B base T A t W) (hg : PlG W A g) (b : Nat) (hb : B b) (j : Nat) (u : Value) (p : Int) (hp : t.f p ≠ none) : PlG (W.setCell ⟨b, j, none⟩ u) A g := by
  obtain ⟨a, S0, h1, h2, h3, h4⟩ := h
  obtain ⟨n, c, k⟩ := hg
  refine ⟨n, c, (World.cell?_setCell_far _ _ _ _ (fun e => ?_)).trans k⟩
  have hi := (h1.is p).2 hp
  obtain ⟨q, rfl⟩ : ∃ q : Nat, p = (q : Int) := ⟨p.toNat, by have := (a.is_in p h1.ok hi).1; omega⟩
  obtain ⟨m, hm, _⟩ := h1.isn q hp
  obtain ⟨g', _, _, _, _, _, _, _, _, hSA, _⟩ := h1.turnRow q m hm
  exact (h4 b hb).2.2 (.inr (.inl ((show b = A from e) ▸ hSA)))
theorem BtH.gOf (h : BtH w0 S B base T A t W) (p : Nat) (hp : t.f (p : Int) ≠ none) : ∃ g, PlG W A g := by
  obtain ⟨a, S0, h1, h2, h3, h4⟩ := h
  obtain ⟨m, hm, _⟩ := h1.isn p hp
  obtain ⟨g', _, _, _, _, _, _, hpl, _⟩ := h1.turnRow p m hm
  exact ⟨g', hpl⟩
/-- How a node lies, and how its rows are turned. -/
structure NdV (w0 : World) (S B : Nat → Prop) (base T A g : Nat) (t : Bx) (W : World) (p : Nat) (n : Kn) (sa ka : Option Addr) (sc kc : Nat) : Prop where
  cs : W.cell? ⟨g, p * 3, none⟩ = some (.slice sa n.segs.length sc)
  ck : W.cell? ⟨g, p * 3 + 1, none⟩ = some (.slice ka n.kids.length kc)
  fz : ∀ j, W.frozen? ⟨g, j, none⟩ = false
  os : W.ownsRow base 38 5 (.slice sa n.segs.length sc) n.segs.length (flatG n.segs)
  ok : W.ownsRow base 3 1 (.slice ka n.kids.length kc) n.kids.length (n.kids.map nv)
  le : base ≤ W.heap.size
  gb : g < W.heap.size
  gB : ∀ b, B b → g ≠ b
  gs : ∀ b, (Value.slice sa n.segs.length sc).ownBlock = some b → g ≠ b
  gk : ∀ b, (Value.slice ka n.kids.length kc).ownBlock = some b → g ≠ b
  sB : ∀ b, (Value.slice sa n.segs.length sc).ownBlock = some b → ¬ B b
  kB : ∀ b, (Value.slice ka n.kids.length kc).ownBlock = some b → ¬ B b
  at_ : ∀ X, Go.RowKit.Below W.heap.size W X → Calls Try.prog 50 #[aP A, .int .i64 (p : Int)] X fun e w' => e = .returned (.pointer (some ⟨g, p * 3, none⟩)) ∧ X = w'
  setS : ∀ (w1 : World) (a' : Option Addr) (c' : Nat) (m : List G5), W.grownBy w1 (Value.slice sa n.segs.length sc).ownBlock → w1.ownsRow base 38 5 (.slice a' m.length c') m.length (flatG m) →
    (∀ b, (Value.slice a' m.length c').ownBlock = some b → (Value.slice sa n.segs.length sc).ownBlock = some b ∨ (W.heap.size ≤ b ∧ b < w1.heap.size ∧ ¬ B b)) →
    BtH w0 S B base T A { t with f := updK t.f (p : Int) (some ⟨m, n.kids⟩) } (w1.setCell ⟨g, p * 3, none⟩ (.slice a' m.length c')) ∧ PlG (w1.setCell ⟨g, p * 3, none⟩ (.slice a' m.length c')) A g ∧ ∀ b, B b → (w1.setCell ⟨g, p * 3, none⟩ (.slice a' m.length c')).heap[b]? = W.heap[b]?
  setK : ∀ (w1 : World) (a' : Option Addr) (c' : Nat) (m : List Int), W.grownBy w1 (Value.slice ka n.kids.length kc).ownBlock → w1.ownsRow base 3 1 (.slice a' m.length c') m.length (m.map nv) →
    (∀ b, (Value.slice a' m.length c').ownBlock = some b → (Value.slice ka n.kids.length kc).ownBlock = some b ∨ (W.heap.size ≤ b ∧ b < w1.heap.size ∧ ¬ B b)) →
    BtH w0 S B base T A { t with f := updK t.f (p : Int) (some ⟨n.segs, m⟩) } (w1.setCell ⟨g, p * 3 + 1, none⟩ (.slice a' m.length c')) ∧ PlG (w1.setCell ⟨g, p * 3 + 1, none⟩ (.slice a' m.length c')) A g ∧ ∀ b, B b → (w1.setCell ⟨g, p * 3 + 1, none⟩ (.slice a' m.length c')).heap[b]? = W.heap[b]?
theorem BtH.node (h : BtH w0 S B base T A t W) (hg : PlG W A g) (p : Nat) (n : Kn) (hp : t.f (p : Int) = some n) : ∃ sa ka sc kc, NdV w0 S B base T A g t W p n sa ka sc kc := by
  obtain ⟨a, S0, h1, h2, h3, h4⟩ := h
  obtain ⟨g', hSg, hat, hcs, hck, hfz, hturn, hpl, hgA, hSA, cur, hgt⟩ := h1.turnRow p n hp
  obtain rfl := hg.uniq hpl
  have hnd := h1.node p n hp
  have hne : t.f (p : Int) ≠ none := by rw [hp]; simp
  obtain ⟨en, ek⟩ := hnd.nums
  have es : (a.l.getD p bnZ).s.v = .slice (a.l.getD p bnZ).s.a n.segs.length (a.l.getD p bnZ).s.c := by rw [← en]
  have ek' : (a.l.getD p bnZ).k.v = .slice (a.l.getD p bnZ).k.a n.kids.length (a.l.getD p bnZ).k.c := by rw [← ek]
  have hs := hnd.s
  have hk := hnd.k
  rw [es] at hs hcs
  rw [ek'] at hk hck
  have sin : ∀ b, (Value.slice (a.l.getD p bnZ).s.a n.segs.length (a.l.getD p bnZ).s.c).ownBlock = some b → rowB (a.l.getD p bnZ) b := fun b hb => .inl (by rw [es]; exact hb)
  have kin : ∀ b, (Value.slice (a.l.getD p bnZ).k.a n.kids.length (a.l.getD p bnZ).k.c).ownBlock = some b → rowB (a.l.getD p bnZ) b := fun b hb => .inr (by rw [ek']; exact hb)
  have rT : ∀ b, rowB (a.l.getD p bnZ) b → btS T t a S0 b := fun b hb => .inr (.inr ⟨p, hne, hb⟩)
  have gT : ∀ b, B b → g ≠ b := fun b hb e => (h4 b hb).2.2 (e ▸ .inr (.inl hSg))
  have sk : ∀ b c, (Value.slice (a.l.getD p bnZ).s.a n.segs.length (a.l.getD p bnZ).s.c).ownBlock = some b → (Value.slice (a.l.getD p bnZ).k.a n.kids.length (a.l.getD p bnZ).k.c).ownBlock = some c → b ≠ c := fun b c hb hc => by
    obtain ⟨c1, q1⟩ := own_type hs hb
    obtain ⟨c2, q2⟩ := own_type hk hc
    exact type_ne q1 q2 (by decide)
  have gs : ∀ b, (Value.slice (a.l.getD p bnZ).s.a n.segs.length (a.l.getD p bnZ).s.c).ownBlock = some b → g ≠ b := fun b hb => by
    obtain ⟨c1, q1⟩ := own_type hs hb
    exact type_ne hgt q1 (by decide)
  have gk : ∀ b, (Value.slice (a.l.getD p bnZ).k.a n.kids.length (a.l.getD p bnZ).k.c).ownBlock = some b → g ≠ b := fun b hb => by
    obtain ⟨c1, q1⟩ := own_type hk hb
    exact type_ne hgt q1 (by decide)
  -- what a turned row leaves
  have fin : ∀ (w1 : World) (j : Nat) (u : Value) (r' : Rn) (n' : Kn), j < 2 → (bnE.e (a.l.getD p bnZ)).set j u = bnE.e r' → Kp (rowB (a.l.getD p bnZ)) W w1 → NdAt w1 base r' n' → (∀ b, rowB r' b → rowB (a.l.getD p bnZ) b ∨ (W.heap.size ≤ b ∧ b < w1.heap.size ∧ ¬ B b)) →
      BtH w0 S B base T A { t with f := updK t.f (p : Int) (some n') } (w1.setCell ⟨g, p * 3 + j, none⟩ u) ∧ PlG (w1.setCell ⟨g, p * 3 + j, none⟩ u) A g ∧ ∀ b, B b → (w1.setCell ⟨g, p * 3 + j, none⟩ u).heap[b]? = W.heap[b]? := by
    intro w1 j u r' n' hj hu hkp hnd' hnew
    obtain ⟨k1, k2, k3⟩ := hturn w1 j u r' n' hj hu hkp hnd' (fun b hb => (hnew b hb).imp id (fun q => q.1))
    have hBk : ∀ b, B b → (w1.setCell ⟨g, p * 3 + j, none⟩ u).heap[b]? = W.heap[b]? := fun b hb => k2.block b (h4 b hb).2.1 (h4 b hb).2.2
    refine ⟨⟨a.set p r', S0, k1, h2.trans k2 (fun b hb hS => (h3 b hS).resolve_right (by omega)), fun b hb => ?_, fun b hb => ⟨(h4 b hb).1, Nat.lt_of_lt_of_le (h4 b hb).2.1 k2.size, fun hS => ?_⟩⟩, ?_, hBk⟩
    · rcases k3 b hb with q | q
      · exact h3 b q
      · exact .inr (Nat.le_trans h2.size q)
    · rcases k3 b hS with q | q
      · exact (h4 b hb).2.2 q
      · have := (h4 b hb).2.1; omega
    · obtain ⟨nn, cc, hpc⟩ := hg
      have hA : A < W.heap.size := World.block_lt_of_cell? W _ hpc
      refine ⟨nn, cc, (World.cell?_setCell_far _ _ _ _ (fun e => hgA e)).trans ?_⟩
      have hAr : ¬ rowB (a.l.getD p bnZ) A := fun hr => h1.far p hne A hr hSA
      exact (World.cell?_of_block (hkp.block A hA hAr)).trans hpc
  refine ⟨(a.l.getD p bnZ).s.a, (a.l.getD p bnZ).k.a, (a.l.getD p bnZ).s.c, (a.l.getD p bnZ).k.c, ⟨hcs, hck, hfz, hs, hk, (BtIs.base_le ⟨a, S0, rfl, h1⟩), lt_of_block hgt, gT, gs, gk, fun b hb hB => (h4 b hB).2.2 (rT b (sin b hb)), fun b hb hB => (h4 b hB).2.2 (rT b (kin b hb)), hat, ?_, ?_⟩⟩
  · intro w1 a' c' m hgr hown hnew
    have hkp : Kp (rowB (a.l.getD p bnZ)) W w1 := (Kp.refl _ W).grown hgr (fun k hk' => .inl (sin k hk'))
    have hko : w1.ownsRow base 3 1 (.slice (a.l.getD p bnZ).k.a n.kids.length (a.l.getD p bnZ).k.c) n.kids.length (n.kids.map nv) := hk.kept hgr (by
      rcases hko : (Value.slice (a.l.getD p bnZ).k.a n.kids.length (a.l.getD p bnZ).k.c).ownBlock with _ | b
      · exact .inl rfl
      · exact .inr (fun e => sk b b e.symm hko rfl))
    have := fin w1 0 (.slice a' m.length c') ⟨⟨a', m.length, c'⟩, ⟨(a.l.getD p bnZ).k.a, n.kids.length, (a.l.getD p bnZ).k.c⟩⟩ ⟨m, n.kids⟩ (by omega) (by show [_, _].set 0 _ = [_, _]; rw [← ek]; rfl) hkp ⟨hown, hko⟩ (fun b hb => ?_)
    · exact this
    · rcases hb with hb | hb
      · exact (hnew b hb).imp (sin b) id
      · exact .inl (kin b hb)
  · intro w1 a' c' m hgr hown hnew
    have hkp : Kp (rowB (a.l.getD p bnZ)) W w1 := (Kp.refl _ W).grown hgr (fun k hk' => .inl (kin k hk'))
    have hso : w1.ownsRow base 38 5 (.slice (a.l.getD p bnZ).s.a n.segs.length (a.l.getD p bnZ).s.c) n.segs.length (flatG n.segs) := hs.kept hgr (by
      rcases hso : (Value.slice (a.l.getD p bnZ).s.a n.segs.length (a.l.getD p bnZ).s.c).ownBlock with _ | b
      · exact .inl rfl
      · exact .inr (fun e => sk b b hso e.symm rfl))
    have := fin w1 1 (.slice a' m.length c') ⟨⟨(a.l.getD p bnZ).s.a, n.segs.length, (a.l.getD p bnZ).s.c⟩, ⟨a', m.length, c'⟩⟩ ⟨n.segs, m⟩ (by omega) (by show [_, _].set 1 _ = [_, _]; rw [← en]; rfl) hkp ⟨hso, hown⟩ (fun b hb => ?_)
    · exact this
    · rcases hb with hb | hb
      · exact .inl (sin b hb)
      · exact (hnew b hb).imp (kin b) id
/-- The root, the number. -/
theorem BtH.setTop (h : BtH w0 S B base T A t W) (j : Nat) (u : Value) (t' : Bx) (hj : (∀ X : World, X.heap[T]? = some (bO A t) → (X.setCell ⟨T, j, none⟩ u).heap[T]? = some (bO A t'))) (h1 : t'.f = t.f) (h2 : t'.room = t.room) (h3 : t'.n = t.n) :
    BtH w0 S B base T A t' (W.setCell ⟨T, j, none⟩ u) ∧ ∀ b, B b → (W.setCell ⟨T, j, none⟩ u).heap[b]? = W.heap[b]? := by
  obtain ⟨a, S0, g1, g2, g3, g4⟩ := h
  obtain ⟨k1, k2⟩ := g1.setTop j u t' (hj W) h1 h2 h3
  have hS : ∀ b, btS T t' a S0 b → btS T t a S0 b := fun b hb => by
    rcases hb with hb | hb | ⟨p, hp, hb⟩
    · exact .inl hb
    · exact .inr (.inl hb)
    · exact .inr (.inr ⟨p, by rwa [h1] at hp, hb⟩)
  exact ⟨⟨a, S0, k1, g2.trans k2 (fun b hb hs => (g3 b hs).resolve_right (by omega)), fun b hb => g3 b (hS b hb), fun b hb => ⟨(g4 b hb).1, Nat.lt_of_lt_of_le (g4 b hb).2.1 k2.size, fun q => (g4 b hb).2.2 (hS b q)⟩⟩, fun b hb => k2.block b (g4 b hb).2.1 (g4 b hb).2.2⟩
theorem BtH.setRoot (h : BtH w0 S B base T A t W) (i : Int) : BtH w0 S B base T A { t with root := i } (W.setCell ⟨T, 2, none⟩ (.int .i64 i)) ∧ ∀ b, B b → (W.setCell ⟨T, 2, none⟩ (.int .i64 i)).heap[b]? = W.heap[b]? :=
  h.setTop 2 _ _ (fun X k => heap_setCell_same X T 2 _ _ (.int .i64 i) k) rfl rfl rfl
theorem BtH.setMany (h : BtH w0 S B base T A t W) (i : Int) : BtH w0 S B base T A { t with many := i } (W.setCell ⟨T, 3, none⟩ (.int .i64 i)) ∧ ∀ b, B b → (W.setCell ⟨T, 3, none⟩ (.int .i64 i)).heap[b]? = W.heap[b]? :=
  h.setTop 3 _ _ (fun X k => heap_setCell_same X T 3 _ _ (.int .i64 i) k) rfl rfl rfl
/-- A node of rows that came since takes a place. -/
theorem BtH.put (h : BtH w0 S B base T A t W) (r : Rn) (n : Kn) (hn : NdAt W base r n) (hnew : ∀ b, rowB r b → w0.heap.size ≤ b ∧ B b) (hroom : (t.n : Int) < t.room) (hC : ∀ b, C b → B b ∧ ¬ rowB r b) :
    Calls Try.prog 108 #[aP A, .agg #[.slice r.s.a r.s.n r.s.c, .slice r.k.a r.k.n r.k.c]] W fun e w' => ∃ (p : Nat), e = .returned (.tuple #[.int .i64 (p : Int), .int .i64 0]) ∧
      t.f (p : Int) = none ∧ BtH w0 S C base T A { t with n := t.n + 1, f := updK t.f (p : Int) (some n) } w' ∧ ∀ b, B b → w'.heap[b]? = W.heap[b]? := by
  obtain ⟨a, S0, h1, h2, h3, h4⟩ := h
  refine (bput_any h1 hn (fun b hb => (h4 b (hnew b hb).2).2.2) hroom).mono ?_
  rintro e w' ⟨p, a', S', rfl, hno, k1, k2, k3⟩
  refine ⟨p, rfl, hno, ⟨a', S', k1, h2.trans k2 (fun b hb hS => (h3 b hS).resolve_right (by omega)), fun b hb => ?_, fun b hb => ⟨(h4 b (hC b hb).1).1, Nat.lt_of_lt_of_le (h4 b (hC b hb).1).2.1 k2.size, fun hS => ?_⟩⟩, fun b hb => k2.block b (h4 b hb).2.1 (h4 b hb).2.2⟩
  · rcases k3 b hb with q | q | q
    · exact h3 b q
    · exact .inr (hnew b q).1
    · exact .inr (Nat.le_trans h2.size q)
  · rcases k3 b hS with q | q | q
    · exact (h4 b (hC b hb).1).2.2 q
    · exact (hC b hb).2 q
    · have := (h4 b (hC b hb).1).2.1; omega
theorem BtH.free (h : BtH w0 S B base T A t W) (p : Nat) (hp : t.f (p : Int) ≠ none) (m : Nat) (hm : t.n = m + 1) :
    Calls Try.prog 104 #[aP A, .int .i64 (p : Int)] W fun e w' => e = .returned (.bool true) ∧ BtH w0 S B base T A { t with n := m, f := updK t.f (p : Int) none } w' ∧ ∀ b, B b → w'.heap[b]? = W.heap[b]? := by
  obtain ⟨a, S0, h1, h2, h3, h4⟩ := h
  refine (bfree_any h1 p hp m hm).mono ?_
  rintro e w' ⟨S', rfl, k1, k2, k3⟩
  refine ⟨rfl, ⟨_, S', k1, h2.trans k2 (fun b hb hS => (h3 b hS).resolve_right (by omega)), fun b hb => ?_, fun b hb => ⟨(h4 b hb).1, Nat.lt_of_lt_of_le (h4 b hb).2.1 k2.size, fun hS => ?_⟩⟩, fun b hb => k2.block b (h4 b hb).2.1 (h4 b hb).2.2⟩
  · rcases k3 b hb with q | q
    · exact h3 b q
    · exact .inr (Nat.le_trans h2.size q)
  · rcases k3 b hS with q | q
    · exact (h4 b hb).2.2 q
    · have := (h4 b hb).2.1; omega
end
end Go.Proofs.Ytjgcdmeojjnjlaa
/- hold, grow: a node takes a place; a new root. -/
namespace Go.Proofs.Ytjgcdmeojjnjlaa
open Go.RowKit Go.Sort Go.Proofs.Ytjgcdmeojjnjlaa.Bo Go.Proofs.Ytjgcdmeojjnjlaa.Bb
set_option linter.unusedVariables false
set_option maxRecDepth 100000
abbrev ndO (r : Rn) : Obj := .cells #[.slice r.s.a r.s.n r.s.c, .slice r.k.a r.k.n r.k.c] 80 (0, 0)
abbrev vNd (r : Rn) : Value := .agg #[.slice r.s.a r.s.n r.s.c, .slice r.k.a r.k.n r.k.c]
theorem nd_cells {W : World} {b : Nat} {r : Rn} (h : W.heap[b]? = some (ndO r)) : W.cell? ⟨b, 0, none⟩ = some (.slice r.s.a r.s.n r.s.c) ∧ W.cell? ⟨b, 1, none⟩ = some (.slice r.k.a r.k.n r.k.c) := ⟨(cell_of_row _ _ 0 _ _ _ h).trans rfl, (cell_of_row _ _ 1 _ _ _ h).trans rfl⟩
theorem kp_box {B : Nat → Prop} {W W' : World} (h : ∀ b, B b → W'.heap[b]? = W.heap[b]?) {b : Nat} (hb : B b) {o : Obj} (ho : W.heap[b]? = some o) : W'.heap[b]? = some o := (h b hb).trans ho
set_option maxHeartbeats 2000000 in
theorem bhold_core (T A : Nat) (r : Rn) (t : Bx) (PF : Nat → World → Prop) (W : World) (HT : Hid (W.heap[T]? = some (bO A t)))
    (HP : Hid (∀ X, Go.RowKit.Below W.heap.size W X → X.heap[W.heap.size]? = some (ndO r) → Calls Try.prog 108 #[aP A, vNd r] X fun e w' => ∃ p : Nat, (e = .returned (.tuple #[.int .i64 (p : Int), .int .i64 0]) ∧ PF p w') ∧ w'.cell? ⟨T, 1, none⟩ = some (aP A) ∧ w'.heap[W.heap.size]? = some (ndO r))) :
    Calls Try.prog 102 #[aP T, vNd r] W fun e w' => ∃ p : Nat, e = .returned (.int .i64 (p : Int)) ∧ PF p w' := by
  have mx := mixed
  have HN0 := Lib.hid (heap_alloc_new W (ndO r))
  have HB0 := Lib.hid (below_new W (ndO r))
  have HT0 := Lib.hid (box_on HT.out HB0.out)
  go_enter Try.func102, Try.ntmps102
  go_upto_region 1 with fail
  generalize W.alloc (ndO r) = X at *
  have HS1 : Hid (X.drew.cell? ⟨T, 1, none⟩ = some (aP A) ∧ X.drew.cell? ⟨W.heap.size, 0, none⟩ = some (.slice r.s.a r.s.n r.s.c) ∧ X.drew.cell? ⟨W.heap.size, 1, none⟩ = some (.slice r.k.a r.k.n r.k.c)) := ⟨(cell_of_row _ _ 1 _ _ _ HT0.out).trans rfl, (nd_cells HN0.out).1, (nd_cells HN0.out).2⟩
  have HBD : Hid (Go.RowKit.Below W.heap.size W X.drew) := HB0.out.drew
  have HND : Hid (X.drew.heap[W.heap.size]? = some (ndO r)) := HN0.out
  go_region_held3 (fun w' => w'.cell? ⟨T, 1, none⟩ = some (aP A) ∧ w'.cell? ⟨W.heap.size, 0, none⟩ = some (.slice r.s.a r.s.n r.s.c) ∧ w'.cell? ⟨W.heap.size, 1, none⟩ = some (.slice r.k.a r.k.n r.k.c))
    (with_reducible first | exact HS1.out | exact HS2.out)
    (first
      | (go_at_call 108; refine (HP.out _ HBD.out HND.out).mono ?_; rintro e y ⟨p, ⟨rfl, hp⟩, h1, h2⟩; have HPF := Lib.hid hp; have HS2 := Lib.hid (And.intro h1 (nd_cells h2)); clear hp h1 h2))
  all_goals
    go_wp2_with fail
    go_ret
    exact ⟨p, rfl, HPF.out⟩
theorem BtH.hold {w0 W : World} {S B C : Nat → Prop} {base T A : Nat} {t : Bx} (h : BtH w0 S B base T A t W) (r : Rn) (n : Kn) (hn : NdAt W base r n) (hnew : ∀ b, rowB r b → w0.heap.size ≤ b ∧ B b) (hroom : (t.n : Int) < t.room) (hC : ∀ b, C b → B b ∧ ¬ rowB r b) :
    Calls Try.prog 102 #[aP T, vNd r] W fun e w' => ∃ p : Nat, e = .returned (.int .i64 (p : Int)) ∧ (t.f (p : Int) = none ∧ BtH w0 S C base T A { t with n := t.n + 1, f := updK t.f (p : Int) (some n) } w' ∧ ∀ b, B b → w'.heap[b]? = W.heap[b]?) := by
  have hrn : ∀ b, rowB r b → b < W.heap.size := fun b hb => (hn.lt b hb).2
  refine bhold_core T A r t (fun p w' => t.f (p : Int) = none ∧ BtH w0 S C base T A { t with n := t.n + 1, f := updK t.f (p : Int) (some n) } w' ∧ ∀ b, B b → w'.heap[b]? = W.heap[b]?) W (Lib.hid h.top) (Lib.hid fun X hX hbx => ?_)
  have hlt := lt_of_block hbx
  have h2 := h.keep (C := fun b => B b ∨ b = W.heap.size) hX (fun b hb => hb.imp id (fun e => by subst e; exact ⟨Nat.le_refl _, hlt⟩))
  refine (h2.put (C := fun b => C b ∨ b = W.heap.size) r n (hn.below hX) (fun b hb => ⟨(hnew b hb).1, .inl (hnew b hb).2⟩) hroom (fun b hb => ?_)).mono ?_
  · rcases hb with hb | rfl
    · exact ⟨.inl (hC b hb).1, (hC b hb).2⟩
    · exact ⟨.inr rfl, fun hr => by have := hrn _ hr; omega⟩
  · rintro e w' ⟨p, rfl, k1, k2, k3⟩
    refine ⟨p, ⟨rfl, k1, k2.less (fun b hb => .inl hb), fun b hb => (k3 b (.inl hb)).trans (hX.block b (h.size b hb).2)⟩, (cell_of_row _ _ 1 _ _ _ k2.top).trans rfl, kp_box k3 (.inr rfl) hbx⟩
end Go.Proofs.Ytjgcdmeojjnjlaa
/- slices.Delete of one, and slices.Clone, of the rows of a node: segments. -/
namespace Go.Proofs.Ytjgcdmeojjnjlaa
open Go.RowKit Go.Sort Go.Proofs.Ytjgcdmeojjnjlaa.Bo
set_option linter.unusedVariables false
set_option maxRecDepth 100000 in
set_option maxHeartbeats 2000000 in
theorem sdelG_any {base n cap i : Nat} {a : Option Addr} {l : List G5} {w : World} (ho : w.ownsRow base 38 5 (.slice a n cap) n (flatG l)) (hn : n = l.length) (hi : i < n) (hl : n ≤ 100000) (hb : base ≤ w.heap.size) :
    Calls Try.prog 95 #[.slice a n cap, .int .i64 (i : Int), .int .i64 ((i : Int) + 1)] w (OPost w base 38 5 (.slice a n cap) (n - 1) (flatG (l.take i ++ l.drop (i + 1)))) := by
  obtain ⟨i0, hi0, hz0, hz1, hz2⟩ := info_parts Try.infoSeg
  obtain ⟨g, rfl⟩ : ∃ g, a = some ⟨g, 0, none⟩ := by
    cases a with
    | none => exact absurd (own_none ho).1 (by omega)
    | some x => obtain ⟨g, rfl⟩ := own_some ho; exact ⟨g, rfl⟩
  have hcap := own_cap ho
  have HO := Lib.hid ho
  have HN := Lib.hid hn
  have HPRE := Lib.hid (Bs.own_pre ho i (by omega))
  have HLI : Hid (Bs.Lies w (some (if cap = i + 1 then ⟨g, 0, none⟩ else ⟨g, (i + 1) * 5, none⟩)) ((flatG l).drop ((i + 1) * 5))) := by
    have h := Bs.Lies.drop (k := i + 1) (cap := cap) (size := 5) (Bs.Lies.of_own ho) (by rw [flatG_len, ← hn]; omega)
    rw [Nat.zero_add] at h
    show Bs.Lies _ _ _
    by_cases hc : cap = i + 1
    · rw [if_pos hc] at h ⊢; exact h
    · rw [if_neg hc] at h ⊢; exact h
  have HD1 : Hid (∀ u ∈ (flatG l).drop ((i + 1) * 5), u.oneCell' = true) := fun u hu => flatG_one l u (List.mem_of_mem_drop hu)
  have HNL : Hid (((flatG l).drop ((i + 1) * 5)).length = (n - (i + 1)) * 5) := by show _ = _; rw [List.length_drop, flatG_len, ← hn]; omega
  have i1 : (0 : Int) ≤ (i : Int) := by omega
  have i2 : (i : Int) ≤ (i : Int) + 1 := by omega
  have i3 : (0 : Int) ≤ (i : Int) + 1 := by omega
  have i4 : (i : Int) + 1 ≤ (n : Int) := by omega
  have i5 : ((i : Int) + 1).toNat = i + 1 := by omega
  have i7 : (i : Int) ≤ (cap : Int) := by omega
  have i8 : (n : Int) ≤ (cap : Int) := by omega
  have i9 : ((i : Int) == (i : Int) + 1) = false := by simp; omega
  have i10 : ¬ ((i : Int) = (i : Int) + 1) := by omega
  clear ho hn
  go_enter Try.func95, Try.ntmps95
  go_upto_region 5 with fail
  go_region_law (refine Bs.step_append_fits _ rfl (.tmp 22) (.tmp 25) 32 rfl base 38 i0 5 Try.underlying32 hi0 hz1 g i cap ((flatG l).take (i * 5)) (by rfl) HPRE.out _ (if cap = i + 1 then ⟨g, 0, none⟩ else ⟨g, (i + 1) * 5, none⟩) (n - (i + 1)) _ ((flatG l).drop ((i + 1) * 5)) (by rfl) (by split <;> rfl) HNL.out HLI.out HD1.out (by omega) ?_; intro w2 hown2 hgrow2)
  obtain ⟨k, hk⟩ : ∃ k, i + (n - (i + 1)) = k := ⟨_, rfl⟩
  rw [hk] at hown2 ⊢
  have HK := Lib.hid hk
  have k1 : (k : Int) ≤ (n : Int) := by omega
  have k2 : (0 : Int) ≤ (k : Int) := by omega
  have k3 : ¬ cap = k := by omega
  have HO2 := Lib.hid hown2
  have HG2 : Hid (w.grownBy w2 (some g)) := ⟨hgrow2.os, hgrow2.tape, hgrow2.output, hgrow2.size, hgrow2.block⟩
  have hm : k + (n - k) ≤ cap := by omega
  have HZ1 : Hid (∀ u ∈ (Value.agg #[.int .i64 0, .int .i64 0, .int .i64 0, .int .i64 0, .int .i64 0]).cells, u.oneCell' = true) := fun u hu => by
    simp [Value.cells] at hu
    subst hu
    rfl
  clear hk hown2 hgrow2 i2 i3 i4 i5 i9 i10 HLI HPRE HO HNL
  generalize (if cap = i + 1 then some (⟨g, 0, none⟩ : Addr) else some ⟨g, (i + 1) * 5, none⟩) = z1
  obtain ⟨w3, hrun3, hown3, hgrow3⟩ := Bs.run_clear_own (P := Try.prog) (w := w2) (size := 5) 32 0 i0 _ Try.underlying32 hi0 hz0 rfl HZ1.out HO2.out (n - k) (cap - k) hm
  have HO3 := Lib.hid hown3
  have HG3 := Lib.hid hgrow3
  clear hown3 hgrow3
  go_wp2_with fail
  go_ret
  have e1 : n - 1 = k := by have := HK.out; omega
  refine ⟨some ⟨g, 0, none⟩, cap, ⟨?_, ?_⟩, Bs.grown_trans HG2.out HG3.out, fun b hb' => .inl hb'⟩
  · rw [e1]; rfl
  · rw [e1, flatG_append, ← flatG_take, ← flatG_drop]; exact HO3.out
set_option maxRecDepth 100000 in
set_option maxHeartbeats 1000000 in
theorem scloneG_any {w : World} {n cap : Nat} {a : Option Addr} {l : List G5} (h : Bs.Lies w a (flatG l)) (hn : n = l.length) (hl : n ≤ 100000) :
    Calls Try.prog 72 #[.slice a n cap] w (ClPost w 38 5 n (flatG l)) := by
  obtain ⟨i0, hi, hz0, hz1, hz2⟩ := info_parts Try.infoSeg
  have q22 : ∀ (w : World) (a : Option Addr) (n c n' c' : Nat), (binOp .eql 32 (.slice a n c) (.slice none n' c')).run Try.prog w = .ok (.bool a.isNone) w := fun w a n c n' c' => Lib.run_eql_slice_nil w _ _ a n c n' c' Try.underlying32
  cases a with
  | none =>
    obtain rfl : l = [] := by
      cases l with
      | nil => rfl
      | cons g t =>
        obtain ⟨b, off, e, _⟩ := h (by rw [flatG_len]; simp)
        cases e
    obtain rfl : n = 0 := hn
    clear h
    go_enter Try.func72, Try.ntmps72
    go_wp2_with fail
    go_ret
    exact ⟨none, 0, ⟨rfl, World.ownsRow_nil _ _ _ _⟩, Go.RowKit.Below.refl _ _⟩
  | some x =>
    have HO := Lib.hid (h.below (below_new w (.cells #[] 38)))
    have HE := Lib.hid (own_empty' w 38 5)
    have HB := Lib.hid (below_new w (.cells #[] 38))
    have HL := Lib.hid (show (flatG l).length = n * 5 by rw [flatG_len, hn])
    clear h hn
    go_enter Try.func72, Try.ntmps72
    go_wp2_with (at_builtin; refine Bs.wpList_append_row _ rfl _ _ 32 rfl w.heap.size 38 i0 _ 5 40 Try.underlying32 hi hz0 hz1 hz2 rfl (by omega) _ 0 [] (by rfl) HE.out _ n _ (flatG l) (by rfl) HL.out HO.out (flatG_one l) (by simp only [maxLen]; omega) (by omega) (by simp) ?_; intro a1 cap1 w1 hown1 hgrow1 hat1; rw [Nat.zero_add, List.nil_append] at hown1; have HO1 := Lib.hid hown1; have HB1 : Hid (Go.RowKit.Below w.heap.size w w1) := HB.out.grown hgrow1 (by simp) (fun k hk => (HE.out.lt k hk).1); clear hown1 hgrow1 hat1)
    go_ret
    refine ⟨a1, cap1, ⟨?_, HO1.out⟩, HB1.out⟩
    first | rfl | rw [Nat.zero_add]
end Go.Proofs.Ytjgcdmeojjnjlaa
/- slices.Delete of one, and slices.Clone, of the rows of a node: places. -/
namespace Go.Proofs.Ytjgcdmeojjnjlaa
open Go.RowKit Go.Sort Go.Proofs.Ytjgcdmeojjnjlaa.Bo
set_option linter.unusedVariables false
set_option maxRecDepth 100000 in
set_option maxHeartbeats 2000000 in
theorem sdelI_any {base n cap i : Nat} {a : Option Addr} {l : List Int} {w : World} (ho : w.ownsRow base 3 1 (.slice a n cap) n (l.map nv)) (hn : n = l.length) (hi : i < n) (hl : n ≤ 100000) (hb : base ≤ w.heap.size) :
    Calls Try.prog 114 #[.slice a n cap, .int .i64 (i : Int), .int .i64 ((i : Int) + 1)] w (OPost w base 3 1 (.slice a n cap) (n - 1) ((l.take i ++ l.drop (i + 1)).map nv)) := by
  obtain ⟨i0, hi0, hz0, hz1, hz2⟩ := info_parts Try.infoInt
  obtain ⟨g, rfl⟩ : ∃ g, a = some ⟨g, 0, none⟩ := by
    cases a with
    | none => exact absurd (own_none ho).1 (by omega)
    | some x => obtain ⟨g, rfl⟩ := own_some ho; exact ⟨g, rfl⟩
  have hcap := own_cap ho
  have HO := Lib.hid ho
  have HN := Lib.hid hn
  have HPRE := Lib.hid (Bs.own_pre ho i (by omega))
  have HLI : Hid (Bs.Lies w (some (if cap = i + 1 then ⟨g, 0, none⟩ else ⟨g, i + 1, none⟩)) ((l.map nv).drop ((i + 1) * 1))) := by
    have h := Bs.Lies.drop (k := i + 1) (cap := cap) (size := 1) (Bs.Lies.of_own ho) (by rw [List.length_map, ← hn]; omega)
    rw [Nat.zero_add] at h
    simp only [Nat.mul_one] at h ⊢
    show Bs.Lies _ _ _
    by_cases hc : cap = i + 1
    · rw [if_pos hc] at h ⊢; exact h
    · rw [if_neg hc] at h ⊢; exact h
  have HD1 : Hid (∀ u ∈ (l.map nv).drop ((i + 1) * 1), u.oneCell' = true) := fun u hu => nv_one l u (List.mem_of_mem_drop hu)
  have HNL : Hid (((l.map nv).drop ((i + 1) * 1)).length = (n - (i + 1)) * 1) := by show _ = _; rw [List.length_drop, List.length_map, ← hn]; omega
  have i1 : (0 : Int) ≤ (i : Int) := by omega
  have i2 : (i : Int) ≤ (i : Int) + 1 := by omega
  have i3 : (0 : Int) ≤ (i : Int) + 1 := by omega
  have i4 : (i : Int) + 1 ≤ (n : Int) := by omega
  have i5 : ((i : Int) + 1).toNat = i + 1 := by omega
  have i7 : (i : Int) ≤ (cap : Int) := by omega
  have i8 : (n : Int) ≤ (cap : Int) := by omega
  have i9 : ((i : Int) == (i : Int) + 1) = false := by simp; omega
  have i10 : ¬ ((i : Int) = (i : Int) + 1) := by omega
  clear ho hn
  go_enter Try.func114, Try.ntmps114
  go_upto_region 5 with fail
  go_region_law (refine Bs.step_append_fits _ rfl (.tmp 22) (.tmp 25) 78 rfl base 3 i0 1 Try.underlying78 hi0 hz1 g i cap ((l.map nv).take (i * 1)) (by rfl) HPRE.out _ (if cap = i + 1 then ⟨g, 0, none⟩ else ⟨g, i + 1, none⟩) (n - (i + 1)) _ ((l.map nv).drop ((i + 1) * 1)) (by rfl) (by split <;> rfl) HNL.out HLI.out HD1.out (by omega) ?_; intro w2 hown2 hgrow2)
  obtain ⟨k, hk⟩ : ∃ k, i + (n - (i + 1)) = k := ⟨_, rfl⟩
  rw [hk] at hown2 ⊢
  have HK := Lib.hid hk
  have k1 : (k : Int) ≤ (n : Int) := by omega
  have k2 : (0 : Int) ≤ (k : Int) := by omega
  have k3 : ¬ cap = k := by omega
  have HO2 := Lib.hid hown2
  have HG2 : Hid (w.grownBy w2 (some g)) := ⟨hgrow2.os, hgrow2.tape, hgrow2.output, hgrow2.size, hgrow2.block⟩
  have hm : k + (n - k) ≤ cap := by omega
  have HZ1 : Hid (∀ u ∈ (Value.int .i64 0).cells, u.oneCell' = true) := fun u hu => by
    simp [Value.cells] at hu
    subst hu
    rfl
  clear hk hown2 hgrow2 i2 i3 i4 i5 i9 i10 HLI HPRE HO HNL
  generalize (if cap = i + 1 then some (⟨g, 0, none⟩ : Addr) else some ⟨g, i + 1, none⟩) = z1
  obtain ⟨w3, hrun3, hown3, hgrow3⟩ := Bs.run_clear_own (P := Try.prog) (w := w2) (size := 1) 78 0 i0 _ Try.underlying78 hi0 hz0 rfl HZ1.out HO2.out (n - k) (cap - k) hm
  rw [Nat.mul_one] at hrun3
  have HO3 := Lib.hid hown3
  have HG3 := Lib.hid hgrow3
  clear hown3 hgrow3
  go_wp2_with fail
  go_ret
  have e1 : n - 1 = k := by have := HK.out; omega
  refine ⟨some ⟨g, 0, none⟩, cap, ⟨?_, ?_⟩, Bs.grown_trans HG2.out HG3.out, fun b hb' => .inl hb'⟩
  · rw [e1]; rfl
  · have h4 := HO3.out; simp only [Nat.mul_one, ← List.map_take, ← List.map_drop, ← List.map_append] at h4; rw [e1]; exact h4
set_option maxRecDepth 100000 in
set_option maxHeartbeats 1000000 in
theorem scloneI_any {w : World} {n cap : Nat} {a : Option Addr} {l : List Int} (h : Bs.Lies w a (l.map nv)) (hn : n = l.length) (hl : n ≤ 100000) :
    Calls Try.prog 73 #[.slice a n cap] w (ClPost w 3 1 n (l.map nv)) := by
  obtain ⟨i0, hi, hz0, hz1, hz2⟩ := info_parts Try.infoInt
  have q22 : ∀ (w : World) (a : Option Addr) (n c n' c' : Nat), (binOp .eql 78 (.slice a n c) (.slice none n' c')).run Try.prog w = .ok (.bool a.isNone) w := fun w a n c n' c' => Lib.run_eql_slice_nil w _ _ a n c n' c' Try.underlying78
  cases a with
  | none =>
    obtain rfl : l = [] := by
      cases l with
      | nil => rfl
      | cons g t =>
        obtain ⟨b, off, e, _⟩ := h (by simp)
        cases e
    obtain rfl : n = 0 := hn
    clear h
    go_enter Try.func73, Try.ntmps73
    go_wp2_with fail
    go_ret
    exact ⟨none, 0, ⟨rfl, World.ownsRow_nil _ _ _ _⟩, Go.RowKit.Below.refl _ _⟩
  | some x =>
    have HO := Lib.hid (h.below (below_new w (.cells #[] 3)))
    have HE := Lib.hid (own_empty' w 3 1)
    have HB := Lib.hid (below_new w (.cells #[] 3))
    have HL := Lib.hid (show (l.map nv).length = n * 1 by rw [List.length_map, hn, Nat.mul_one])
    clear h hn
    go_enter Try.func73, Try.ntmps73
    go_wp2_with (at_builtin; refine Bs.wpList_append_row _ rfl _ _ 78 rfl w.heap.size 3 i0 _ 1 8 Try.underlying78 hi hz0 hz1 hz2 rfl (by omega) _ 0 [] (by rfl) HE.out _ n _ (l.map nv) (by rfl) HL.out HO.out (nv_one l) (by simp only [maxLen]; omega) (by omega) (by simp) ?_; intro a1 cap1 w1 hown1 hgrow1 hat1; rw [Nat.zero_add, List.nil_append] at hown1; have HO1 := Lib.hid hown1; have HB1 : Hid (Go.RowKit.Below w.heap.size w w1) := HB.out.grown hgrow1 (by simp) (fun k hk => (HE.out.lt k hk).1); clear hown1 hgrow1 hat1)
    go_ret
    refine ⟨a1, cap1, ⟨?_, HO1.out⟩, HB1.out⟩
    first | rfl | rw [Nat.zero_add]
end Go.Proofs.Ytjgcdmeojjnjlaa
/- split: a node's middle segment is taken out, those behind it go to a new node. -/
namespace Go.Proofs.Ytjgcdmeojjnjlaa
open Go.RowKit Go.Sort Go.Proofs.Ytjgcdmeojjnjlaa.Bo Go.Proofs.Ytjgcdmeojjnjlaa.Bb
set_option linter.unusedVariables false
set_option maxRecDepth 100000
theorem updK_same {f : Int → Option Kn} {i : Int} {v w : Option Kn} : updK (updK f i v) i w = updK f i w := by
  funext j
  unfold updK
  split <;> rfl
theorem grown_refl (W : World) (row : Option Nat) : W.grownBy W row := ⟨rfl, rfl, rfl, Nat.le_refl _, fun _ _ _ => rfl⟩
theorem map_take_nv (l : List Int) (k : Nat) : (l.map nv).take (k * 1) = (l.take k).map nv := by rw [Nat.mul_one, List.map_take]
theorem map_drop_nv (l : List Int) (k : Nat) : (l.map nv).drop (k * 1) = (l.drop k).map nv := by rw [Nat.mul_one, List.map_drop]
/-- A row's head, as it lies. -/
theorem own_take5 {W : World} {base : Nat} {a : Option Addr} {n c : Nat} {l : List G5} (h : W.ownsRow base 38 5 (.slice a n c) n (flatG l)) (hn : n = l.length) (k : Nat) (hk : k ≤ n) : W.ownsRow base 38 5 (.slice a (l.take k).length c) (l.take k).length (flatG (l.take k)) := by
  have := Bs.own_pre h k hk
  rw [flatG_take] at this
  rw [show (l.take k).length = k by rw [List.length_take]; omega]
  exact this
theorem own_take1 {W : World} {base : Nat} {a : Option Addr} {n c : Nat} {l : List Int} (h : W.ownsRow base 3 1 (.slice a n c) n (l.map nv)) (hn : n = l.length) (k : Nat) (hk : k ≤ n) : W.ownsRow base 3 1 (.slice a (l.take k).length c) (l.take k).length ((l.take k).map nv) := by
  have := Bs.own_pre h k hk
  rw [map_take_nv] at this
  rw [show (l.take k).length = k by rw [List.length_take]; omega]
  exact this
theorem ownBlk (a : Option Addr) (n n' c c' : Nat) : (Value.slice a n c).ownBlock = (Value.slice a n' c').ownBlock := by cases a <;> rfl
set_option maxHeartbeats 8000000 in
theorem BtH.splitL {w0 W : World} {S B : Nat → Prop} {base T A : Nat} {t : Bx} (h : BtH w0 S B base T A t W) (p : Nat) (n : Kn) (hp : t.f (p : Int) = some n) (d : Nat) (hd : t.d = (d : Int)) (hd1 : 1 ≤ d) (hd2 : d ≤ 64) (hl : n.segs.length = 2 * d) (hk : n.kids = []) (hroom : (t.n : Int) < t.room) (mid : G5) (hmid : n.segs[d]? = some mid) :
    Calls Try.prog 91 #[aP T, .int .i64 (p : Int)] W fun e w' => ∃ q : Nat, e = .returned (.tuple #[vG mid, .int .i64 (q : Int)]) ∧ (t.f (q : Int) = none ∧ q ≠ p ∧ BtH w0 S B base T A { t with n := t.n + 1, f := updK (updK t.f (p : Int) (some ⟨n.segs.take d, n.kids⟩)) (q : Int) (some ⟨n.segs.drop (d + 1), []⟩) } w' ∧ ∀ b, B b → w'.heap[b]? = W.heap[b]?) := by
  have mx := mixed
  obtain ⟨g, hg⟩ := h.gOf p (by rw [hp]; simp)
  have HP := Lib.hid hp
  -- the result's box
  have HR0 : Hid ((W.alloc zG).heap[W.heap.size]? = some zG) := heap_alloc_new W zG
  have HB0 : Hid (Go.RowKit.Below W.heap.size W (W.alloc zG)) := below_new W zG
  have HSZ0 : Hid (W.heap.size < (W.alloc zG).heap.size) := lt_of_block HR0.out
  have H0 := Lib.hid (h.keep (C := fun b => B b ∨ b = W.heap.size) HB0.out (fun b hb => hb.imp id (fun e => by subst e; exact ⟨Nat.le_refl _, HSZ0.out⟩)))
  have HG0 := Lib.hid (hg.below HB0.out)
  have HKB0 : Hid (∀ b, B b → (W.alloc zG).heap[b]? = W.heap[b]?) := fun b hb => HB0.out.block b (h.size b hb).2
  obtain ⟨sa0, ka0, sc0, kc0, v0⟩ := H0.out.node HG0.out p n hp
  have HAT := Lib.hid v0.at_
  have p1 := cell_regrown ((cell_of_row _ _ 1 _ _ _ H0.out.top).trans rfl : (W.alloc zG).cell? ⟨T, 1, none⟩ = some (aP A))
  have p2 := cell_regrown ((cell_of_row _ _ 0 _ _ _ H0.out.top).trans rfl : (W.alloc zG).cell? ⟨T, 0, none⟩ = some (.int .i64 t.d))
  rw [hd] at p2
  have HW := Lib.hid h
  clear v0 hg h
  go_enter Try.func91, Try.ntmps91
  go_upto_region 1 with fail
  generalize W.alloc zG = X0 at *
  refine wp_region_quiet_below (by assumption) (by kernel_rfl) ?_
  repeat (go_big_quiet_step (first | (go_at_call 50; exact Calls.regrown_of ((HAT.out _ (below_regrown _ _ _)).mono fun e w' q => ⟨q.1, q.2 ▸ Go.RowKit.Below.refl _ _⟩))))
  refine wpQuiet_nil ?_
  intro _ hw'
  obtain ⟨⟨nq, osq⟩, hw''⟩ := hw'
  subst hw''
  have hbY := below_regrown X0 nq osq
  show Exit.then _ _ Exit.normal _ (grow (redrawn X0 nq) osq)
  generalize grow (redrawn X0 nq) osq = Y at *
  have H1 := Lib.hid (H0.out.below hbY)
  have HG1 := Lib.hid (HG0.out.below hbY)
  have HR1 := Lib.hid (box_on HR0.out hbY)
  have HKB1 : Hid (∀ b, B b → Y.heap[b]? = W.heap[b]?) := fun b hb => (hbY.block b (H0.out.size b (.inl hb)).2).trans (HKB0.out b hb)
  have HSZ1 : Hid (W.heap.size < Y.heap.size) := Nat.lt_of_lt_of_le HSZ0.out hbY.size
  obtain ⟨sa, ka, sc, kc, v1⟩ := H1.out.node HG1.out p n HP.out
  have V1 := Lib.hid v1
  have hos := v1.os
  rw [hl] at hos
  obtain ⟨gb, rfl, _, hx, _⟩ := own_atG hos hl.symm d (by omega)
  have e1 : n.segs[d]'(by omega) = mid := by
    rw [List.getElem?_eq_getElem (by omega)] at hmid; exact Option.some.inj hmid
  rw [e1] at hx
  obtain ⟨x1, x2, x3, x4, x5⟩ := hx
  have hcs := v1.cs
  rw [hl] at hcs
  have hcl : 2 * d ≤ sc := by
    rcases hos.2 with ⟨q, _⟩ | ⟨g', c', cur, q, _, _, q2, _⟩
    · cases q
    · injection q with _ _ q; omega
  have hcm : sc ≤ 1000000000 ∨ True := .inr trivial
  clear p1 p2 hbY v1 H0 HG0 HR0 HKB0 HB0 HSZ0 HAT
  have i0 : (0 : Int) ≤ (d : Int) := by omega
  have i1 : (d : Int) < ((2 * d : Nat) : Int) := by omega
  go_upto_region 3 with fail
  -- the middle one's box
  have HM2 : Hid ((Y.alloc (oG mid)).heap[Y.heap.size]? = some (oG mid)) := heap_alloc_new Y (oG mid)
  have HB2 : Hid (Go.RowKit.Below Y.heap.size Y (Y.alloc (oG mid))) := below_new Y (oG mid)
  have HSZ2 : Hid (Y.heap.size < (Y.alloc (oG mid)).heap.size) := lt_of_block HM2.out
  have H2 := Lib.hid (H1.out.keep (C := fun b => (B b ∨ b = W.heap.size) ∨ b = Y.heap.size) HB2.out (fun b hb => hb.imp id (fun e => by subst e; exact ⟨Nat.le_refl _, HSZ2.out⟩)))
  have HG2 := Lib.hid (HG1.out.below HB2.out)
  have HR2 := Lib.hid (box_on HR1.out HB2.out)
  have HKB2 : Hid (∀ b, B b → (Y.alloc (oG mid)).heap[b]? = W.heap[b]?) := fun b hb => (HB2.out.block b (H1.out.size b (.inl hb)).2).trans (HKB1.out b hb)
  have hcs2 : (Y.alloc (oG mid)).cell? ⟨g, p * 3, none⟩ = some (.slice (some ⟨gb, 0, none⟩) (2 * d) sc) := (HB2.out.cell (p := ⟨g, p * 3, none⟩) V1.out.gb).trans hcs
  have HOS2 := Lib.hid (own_on hos HB2.out)
  clear hcs x1 x2 x3 x4 x5 hos
  generalize Y.alloc (oG mid) = Y2 at *
  have HLY := Lib.hid ((Bs.Lies.of_own HOS2.out).drop (k := d + 1) (size := 5) (cap := sc) (by rw [flatG_len, hl]; omega))
  rw [flatG_drop] at HLY
  have hdl : (n.segs.drop (d + 1)).length = d - 1 := by rw [List.length_drop]; omega
  obtain ⟨dl, hdl2⟩ : ∃ dl, dl = 2 * d - (d + 1) := ⟨_, rfl⟩
  have HDL : Hid (dl = (n.segs.drop (d + 1)).length) := by show _ = _; rw [hdl2, List.length_drop]; omega
  have HCL : Hid (∀ ad k, ad = (if sc = d + 1 then some (⟨gb, 0, none⟩ : Addr) else some ⟨gb, 0 + (d + 1) * 5, none⟩) → Calls Try.prog 72 #[.slice ad (2 * d - (d + 1)) k] Y2 (ClPost Y2 38 5 (2 * d - (d + 1)) (flatG (n.segs.drop (d + 1))))) := by
    rintro ad k rfl
    exact scloneG_any HLY.out (by rw [← hdl2, HDL.out]) (by omega)
  have i2 : IntKind.i64.wrap ((d : Int) + 1) = (d : Int) + 1 := IntWalk.i64_in _ (by omega)
  have i3 : (0 : Int) ≤ (d : Int) + 1 := by omega
  have i4 : (d : Int) + 1 ≤ ((2 * d : Nat) : Int) := by omega
  have i5 : (d : Int) + 1 ≤ (sc : Int) := by omega
  go_cut [9] from 10 to 35 (fun s9 wx => ∃ b3 a2 c2, s9 = .pointer (some ⟨b3, 0, none⟩) ∧ wx.heap[b3]? = some (ndO ⟨⟨a2, dl, c2⟩, ⟨none, 0, 0⟩⟩) ∧ wx.ownsRow Y2.heap.size 38 5 (.slice a2 dl c2) dl (flatG (n.segs.drop (d + 1))) ∧ Go.RowKit.Below Y2.heap.size Y2 wx ∧ Y2.heap.size ≤ b3 ∧ ∀ b, (Value.slice a2 dl c2).ownBlock = some b → b ≠ b3)
  case first =>
    have b80 : ∀ (W : World) (a : Option Addr) (m c : Nat), (Instr.build 80 #[(0, .slice a m c)]).run Try.prog W = .ok (.agg #[.slice a m c, .slice none 0 0]) W := fun W a m c => run_build W _ _ _ (by kernel_rfl)
    have HL2 := Lib.hid hdl2
    clear H2 HG2 HR2 HKB2 HM2 H1 HG1 HR1 HKB1 HW V1 hdl hdl2
    go_wp2_with fail
    all_goals
      refine (HCL.out _ _ (by first | (rw [if_pos (by assumption)]; done) | (rw [if_neg (by assumption), Nat.zero_add]; done))).mono ?_
      rintro e y ⟨a2, c2, ⟨rfl, ho⟩, hb⟩
      have HO := Lib.hid ho
      have HB := Lib.hid hb
      clear ho hb
      go_wp2_with fail
      go_meet
      refine ⟨_, a2, c2, rfl, ?_, ?_, bt HB.out (below_new _ _), HB.out.size, fun b hb => ?_⟩
      · rw [HL2.out]; exact heap_alloc_new _ _
      · rw [HL2.out]; exact own_on HO.out (below_new _ _)
      · have := (HO.out.lt b (by rw [← hb]; exact ownBlk _ _ _ _ _)).2; omega
  case rest =>
    obtain ⟨b3, a2, c2, rfl, h1, h2, h3, h4, h5⟩ := hcut
    have hb3 := lt_of_block h1
    have hr2 := fun b hb => h2.lt b hb
    have HN3 := Lib.hid h1
    have HO3 := Lib.hid h2
    have HB3 := Lib.hid h3
    have HL3 := Lib.hid h4
    have HD3 := Lib.hid h5
    have H3 := Lib.hid (H2.out.keep (C := fun b => ((B b ∨ b = W.heap.size) ∨ b = Y.heap.size) ∨ (b = b3 ∨ (Value.slice a2 dl c2).ownBlock = some b)) h3 (fun b hb => hb.imp id (fun e => by
      rcases e with rfl | e
      · exact ⟨h4, hb3⟩
      · exact hr2 b e)))
    have HG3 := Lib.hid (HG2.out.below h3)
    have HR3 := Lib.hid (box_on HR2.out h3)
    have HM3 := Lib.hid (box_on HM2.out h3)
    have HKB3 : Hid (∀ b, B b → wc.heap[b]? = W.heap[b]?) := fun b hb => (h3.block b (H2.out.size b (.inl (.inl hb))).2).trans (HKB2.out b hb)
    clear h1 h2 h3 h4 h5 hb3 hr2 hcs2 HCL HLY i2 i3 i4 i5 hdl hdl2
    -- the head stays
    obtain ⟨sa3, ka3, sc3, kc3, v3⟩ := H3.out.node HG3.out p n HP.out
    have hset := v3.setS wc sa3 sc3 (n.segs.take d) (grown_refl _ _) (own_take5 v3.os rfl d (by omega)) (fun b hb => .inl (by rw [← hb]; exact ownBlk _ _ _ _ _))
    have htl : (n.segs.take d).length = d := by rw [List.length_take]; omega
    rw [htl] at hset
    have H4 := Lib.hid hset.1
    have HG4 := Lib.hid hset.2.1
    have HKC4 := Lib.hid hset.2.2
    have c1 := v3.cs
    rw [hl] at c1
    have f1 := v3.fz (p * 3)
    have hcl3 : d ≤ sc3 := by
      rcases v3.os.2 with ⟨q, q2⟩ | ⟨g', c', cur, q, _, _, q2, _⟩
      · omega
      · injection q with _ _ q; omega
    have i0' : (0 : Int) ≤ (d : Int) := by omega
    have i1' : (d : Int) ≤ (sc3 : Int) := by omega
    clear v3 hset
    generalize hW4 : wc.setCell ⟨g, p * 3, none⟩ (.slice sa3 d sc3) = Y4 at H4 HG4 HKC4
    have HW4 := Lib.hid hW4
    clear hW4
    go_upto_region 5 with fail
    rw [HW4.out]
    have HP4 : Hid (updK t.f (p : Int) (some ⟨n.segs.take d, n.kids⟩) (p : Int) = some ⟨n.segs.take d, n.kids⟩) := updK_self _ _ _
    obtain ⟨sa4, ka4, sc4, kc4, v4⟩ := H4.out.node HG4.out p _ HP4.out
    have ck4 := v4.ck
    rw [show (⟨n.segs.take d, n.kids⟩ : Kn).kids.length = 0 by show n.kids.length = 0; rw [hk]; rfl] at ck4
    have HN4 := Lib.hid (kp_box HKC4.out (.inr (.inl rfl)) HN3.out)
    have HO4 := Lib.hid (own_kpQ HO3.out (fun b hb => HKC4.out b (.inr (.inr hb))))
    have HR4 := Lib.hid (kp_box HKC4.out (.inl (.inl (.inr rfl))) HR3.out)
    have HM4 := Lib.hid (kp_box HKC4.out (.inl (.inr rfl)) HM3.out)
    have HKB4 : Hid (∀ b, B b → Y4.heap[b]? = W.heap[b]?) := fun b hb => (HKC4.out b (.inl (.inl (.inl hb)))).trans (HKB3.out b hb)
    have HNA : Hid (NdAt Y4 base ⟨⟨a2, dl, c2⟩, ⟨none, 0, 0⟩⟩ ⟨n.segs.drop (d + 1), []⟩) := ⟨(show Y4.ownsRow base 38 5 (.slice a2 dl c2) (n.segs.drop (d + 1)).length (flatG (n.segs.drop (d + 1))) from HDL.out ▸ own_base HO4.out (by have := V1.out.le; have := HSZ2.out; omega)), World.ownsRow_nil _ _ _ _⟩
    have HRB : Hid (∀ b, rowB ⟨⟨a2, dl, c2⟩, ⟨none, 0, 0⟩⟩ b → (Value.slice a2 dl c2).ownBlock = some b) := fun b hb => hb.elim id (fun q => by cases q)
    clear v4
    go_upto_region 8 with fail
    have hRBlt : ∀ b, rowB ⟨⟨a2, dl, c2⟩, ⟨none, 0, 0⟩⟩ b → Y2.heap.size ≤ b := fun b hb => (HO3.out.lt b (HRB.out b hb)).1
    have HRL := Lib.hid hRBlt
    clear hRBlt
    have HDR : Hid (Go.RowKit.Below Y4.heap.size Y4 Y4.drew) := (Go.RowKit.Below.refl _ _).drew
    have HH := Lib.hid ((H4.out.below HDR.out).hold (C := fun b => ((B b ∨ b = W.heap.size) ∨ b = Y.heap.size) ∨ b = b3) ⟨⟨a2, dl, c2⟩, ⟨none, 0, 0⟩⟩ ⟨n.segs.drop (d + 1), []⟩ (HNA.out.below HDR.out) (fun b hb => ⟨by have := HRL.out b hb; have := (H2.out.size Y.heap.size (.inr rfl)).1; have := HSZ2.out; omega, .inr (.inr (HRB.out b hb))⟩) hroom (fun b hb => ⟨hb.imp id .inl, fun hr => by
      have h1 := HRL.out b hr
      rcases hb with ((hb | rfl) | rfl) | rfl
      · have := (H2.out.size b (.inl (.inl hb))).2; omega
      · have := HSZ1.out; have := HSZ2.out; omega
      · have := HSZ2.out; omega
      · exact (HD3.out b (HRB.out b hr)) rfl⟩))
    have HS1 : Hid (Cells5 Y4.drew Y.heap.size 0 mid ∧ Y4.drew.cell? ⟨b3, 0, none⟩ = some (.slice a2 dl c2) ∧ Y4.drew.cell? ⟨b3, 1, none⟩ = some (.slice none 0 0)) := ⟨five_cells HM4.out, (nd_cells HN4.out).1, (nd_cells HN4.out).2⟩
    have HKD : Hid (∀ b, B b → Y4.drew.heap[b]? = W.heap[b]?) := HKB4.out
    obtain ⟨q1, q2, q3, q4, q5⟩ := HS1.out.1
    simp only [Nat.zero_add] at q1 q2 q3 q4 q5
    have HSS : Hid (Y4.drew.cell? ⟨Y.heap.size, 0, none⟩ = some (.int .i64 mid.ls) ∧ Y4.drew.cell? ⟨Y.heap.size, 1, none⟩ = some (.int .i64 mid.la) ∧ Y4.drew.cell? ⟨Y.heap.size, 2, none⟩ = some (.int .i64 mid.hs) ∧ Y4.drew.cell? ⟨Y.heap.size, 3, none⟩ = some (.int .i64 mid.ha) ∧ Y4.drew.cell? ⟨Y.heap.size, 4, none⟩ = some (.int .i64 mid.v) ∧ Y4.drew.cell? ⟨b3, 0, none⟩ = some (.slice a2 dl c2) ∧ Y4.drew.cell? ⟨b3, 1, none⟩ = some (.slice none 0 0)) := ⟨q1, q2, q3, q4, q5, HS1.out.2⟩
    clear q1 q2 q3 q4 q5
    go_region_held3 (fun w' => w'.cell? ⟨Y.heap.size, 0, none⟩ = some (.int .i64 mid.ls) ∧ w'.cell? ⟨Y.heap.size, 1, none⟩ = some (.int .i64 mid.la) ∧ w'.cell? ⟨Y.heap.size, 2, none⟩ = some (.int .i64 mid.hs) ∧ w'.cell? ⟨Y.heap.size, 3, none⟩ = some (.int .i64 mid.ha) ∧ w'.cell? ⟨Y.heap.size, 4, none⟩ = some (.int .i64 mid.v) ∧ w'.cell? ⟨b3, 0, none⟩ = some (.slice a2 dl c2) ∧ w'.cell? ⟨b3, 1, none⟩ = some (.slice none 0 0))
      (with_reducible first | exact HSS.out | exact HS5.out | exact HS6.out)
      (first
        | (go_at_call 102; refine HH.out.mono ?_; rintro e y ⟨q, rfl, hno, hst, hkb⟩; have HNO := Lib.hid hno; have HST := Lib.hid hst; have HKY := Lib.hid hkb; have hMy := kp_box hkb (.inl (.inr rfl)) (show Y4.drew.heap[Y.heap.size]? = some (oG mid) from HM4.out); have hNy := kp_box hkb (.inr (.inl rfl)) (show Y4.drew.heap[b3]? = some (ndO ⟨⟨a2, dl, c2⟩, ⟨none, 0, 0⟩⟩) from HN4.out); have hRy := kp_box hkb (.inl (.inl (.inr rfl))) (show Y4.drew.heap[W.heap.size]? = some zG from HR4.out); have HRY := Lib.hid hRy
           have HS5 : Hid (y.cell? ⟨Y.heap.size, 0, none⟩ = some (.int .i64 mid.ls) ∧ y.cell? ⟨Y.heap.size, 1, none⟩ = some (.int .i64 mid.la) ∧ y.cell? ⟨Y.heap.size, 2, none⟩ = some (.int .i64 mid.hs) ∧ y.cell? ⟨Y.heap.size, 3, none⟩ = some (.int .i64 mid.ha) ∧ y.cell? ⟨Y.heap.size, 4, none⟩ = some (.int .i64 mid.v) ∧ y.cell? ⟨b3, 0, none⟩ = some (.slice a2 dl c2) ∧ y.cell? ⟨b3, 1, none⟩ = some (.slice none 0 0)) := (by obtain ⟨q1, q2, q3, q4, q5⟩ := five_cells hMy; simp only [Nat.zero_add] at q1 q2 q3 q4 q5; exact ⟨q1, q2, q3, q4, q5, nd_cells hNy⟩)
           have HS6 : Hid ((seg5 y W.heap.size mid).cell? ⟨Y.heap.size, 0, none⟩ = some (.int .i64 mid.ls) ∧ (seg5 y W.heap.size mid).cell? ⟨Y.heap.size, 1, none⟩ = some (.int .i64 mid.la) ∧ (seg5 y W.heap.size mid).cell? ⟨Y.heap.size, 2, none⟩ = some (.int .i64 mid.hs) ∧ (seg5 y W.heap.size mid).cell? ⟨Y.heap.size, 3, none⟩ = some (.int .i64 mid.ha) ∧ (seg5 y W.heap.size mid).cell? ⟨Y.heap.size, 4, none⟩ = some (.int .i64 mid.v) ∧ (seg5 y W.heap.size mid).cell? ⟨b3, 0, none⟩ = some (.slice a2 dl c2) ∧ (seg5 y W.heap.size mid).cell? ⟨b3, 1, none⟩ = some (.slice none 0 0)) := (by obtain ⟨q1, q2, q3, q4, q5⟩ := five_cells (five_far hMy (by have := HSZ1.out; omega : Y.heap.size ≠ W.heap.size) mid); simp only [Nat.zero_add] at q1 q2 q3 q4 q5; exact ⟨q1, q2, q3, q4, q5, nd_cells (five_far hNy (by have := HSZ1.out; have := HSZ2.out; have := HL3.out; omega : b3 ≠ W.heap.size) mid)⟩)
           obtain ⟨d0, d1, d2, d3, d4⟩ := five_cells (g := g0) hRy; have z0 := five_frozen (g := g0) hRy 0; have z1 := five_frozen (g := g0) hRy 1; have z2 := five_frozen (g := g0) hRy 2; have z3 := five_frozen (g := g0) hRy 3; have z4 := five_frozen (g := g0) hRy 4; simp only [Nat.zero_add] at d1 d2 d3 d4; clear hno hst hkb hMy hNy hRy))
    all_goals
      obtain ⟨q0, q1, q2, q3, q4⟩ := five_cells (five_put (g := g0) HRY.out mid)
      simp only [Nat.zero_add] at q1 q2 q3 q4
      go_wp2_with fail
      refine bodyPost_ret (v := .tuple #[vG mid, .int .i64 (q : Int)]) (by simp [results, Try.results91, go_sem, q0, q1, q2, q3, q4]) rfl ?_
      have hqp : q ≠ p := fun e => by
        have := HNO.out
        rw [e] at this
        rw [updK_self] at this; cases this
      have hqn : t.f (q : Int) = none := by
        have := HNO.out
        rw [updK_nat _ _ _ _ hqp] at this; exact this
      refine ⟨q, rfl, hqn, hqp, ?_, fun b hb => ?_⟩
      · exact (((((HST.out.box _ (.inl (.inl (.inr rfl))) 0 _).box _ (.inl (.inl (.inr rfl))) 1 _).box _ (.inl (.inl (.inr rfl))) 2 _).box _ (.inl (.inl (.inr rfl))) 3 _).box _ (.inl (.inl (.inr rfl))) 4 _).less (fun b hb => .inl (.inl (.inl hb)))
      · have hlt := (HW.out.size b hb).2
        obtain ⟨o, ho⟩ : ∃ o, W.heap[b]? = some o := ⟨_, Array.getElem?_eq_getElem hlt⟩
        rw [ho]
        exact five_far ((HKY.out b (.inl (.inl (.inl hb)))).trans ((HKD.out b hb).trans ho)) (by omega) mid
end Go.Proofs.Ytjgcdmeojjnjlaa
/- grow: a new root. -/
namespace Go.Proofs.Ytjgcdmeojjnjlaa
open Go.RowKit Go.Sort Go.Proofs.Ytjgcdmeojjnjlaa.Bo Go.Proofs.Ytjgcdmeojjnjlaa.Bb
set_option linter.unusedVariables false
set_option maxRecDepth 100000
theorem own_one5 (W : World) (s : G5) (base : Nat) (hb : base ≤ W.heap.size) : (W.alloc (oG s)).ownsRow base 38 5 (.slice (some ⟨W.heap.size, 0, none⟩) 1 1) 1 (flatG [s]) :=
  ⟨rfl, .inr ⟨W.heap.size, 1, _, rfl, hb, heap_alloc_new _ _, Nat.le_refl _, by decide, rfl, rfl⟩⟩
theorem own_two1 (W : World) (i j : Int) (base : Nat) (hb : base ≤ W.heap.size) : (W.alloc (.cells #[.int .i64 i, .int .i64 j] 3)).ownsRow base 3 1 (.slice (some ⟨W.heap.size, 0, none⟩) 2 2) 2 ([i, j].map nv) :=
  ⟨rfl, .inr ⟨W.heap.size, 2, _, rfl, hb, heap_alloc_new _ _, Nat.le_refl _, by decide, rfl, rfl⟩⟩
theorem BtH.base_le {w0 W : World} {S B : Nat → Prop} {base T A : Nat} {t : Bx} (h : BtH w0 S B base T A t W) : base ≤ W.heap.size := by obtain ⟨a, S0, h1, _⟩ := h; exact BtIs.base_le ⟨a, S0, rfl, h1⟩
set_option maxHeartbeats 4000000 in
theorem BtH.growL {w0 W : World} {S B : Nat → Prop} {base T A : Nat} {t : Bx} (h : BtH w0 S B base T A t W) (s : G5) (behind : Int) (hr : t.root = -1) (hroom : (t.n : Int) < t.room) :
    Calls Try.prog 92 #[aP T, vG s, .int .i64 behind] W fun e w' => e = .returned (.tuple #[]) ∧ ∃ q : Nat, t.f (q : Int) = none ∧ BtH w0 S B base T A { t with n := t.n + 1, f := updK t.f (q : Int) (some ⟨[s], []⟩), root := (q : Int) } w' ∧ ∀ b, B b → w'.heap[b]? = W.heap[b]? := by
  have mx := mixed
  have b80 : ∀ (W : World) (a : Option Addr) (m c : Nat), (Instr.build 80 #[(0, .slice a m c)]).run Try.prog W = .ok (.agg #[.slice a m c, .slice none 0 0]) W := fun W a m c => run_build W _ _ _ (by kernel_rfl)
  obtain ⟨X1, hX1⟩ : ∃ X, X = W.alloc (oG s) := ⟨_, rfl⟩
  obtain ⟨X2, hX2⟩ : ∃ X, X = X1.alloc (oG s) := ⟨_, rfl⟩
  obtain ⟨X3, hX3⟩ : ∃ X, X = X2.alloc (ndO ⟨⟨some ⟨W.heap.size + 1, 0, none⟩, 1, 1⟩, ⟨none, 0, 0⟩⟩) := ⟨_, rfl⟩
  have z1 : X1.heap.size = W.heap.size + 1 := by rw [hX1]; simp
  have z2 : X2.heap.size = W.heap.size + 1 + 1 := by rw [hX2]; simp [z1]
  have z3 : X3.heap.size = W.heap.size + 1 + 1 + 1 := by rw [hX3]; simp [z2]
  have B3 : Go.RowKit.Below W.heap.size W X3 := by rw [hX3, hX2, hX1]; exact bt (bt (below_new _ _) (below_new _ _)) (below_new _ _)
  have n3 : X3.heap[W.heap.size + 1 + 1]? = some (ndO ⟨⟨some ⟨W.heap.size + 1, 0, none⟩, 1, 1⟩, ⟨none, 0, 0⟩⟩) := by rw [← z2, hX3]; exact heap_alloc_new _ _
  have o3 : X3.ownsRow base 38 5 (.slice (some ⟨W.heap.size + 1, 0, none⟩) 1 1) 1 (flatG [s]) := by
    rw [← z1, hX3]
    refine own_on ?_ (below_new _ _)
    rw [hX2]
    exact own_one5 X1 s base (by have := h.base_le; omega)
  have HX3 := Lib.hid hX3
  have HX2 := Lib.hid hX2
  have HX1 := Lib.hid hX1
  have HN3 := Lib.hid n3
  have HO3 := Lib.hid o3
  have HZ3 := Lib.hid z3
  have HB3 := Lib.hid B3
  have H3 := Lib.hid (h.keep (C := fun b => B b ∨ (W.heap.size ≤ b ∧ b < X3.heap.size)) B3 (fun b hb => hb))
  have HKB3 : Hid (∀ b, B b → X3.heap[b]? = W.heap[b]?) := fun b hb => B3.block b (h.size b hb).2
  have HW := Lib.hid h
  have k0 := five_cells (show X1.heap[W.heap.size]? = some (oG s) by rw [hX1]; exact heap_alloc_new _ _)
  rw [hX1] at k0
  obtain ⟨k1, k2, k3, k4, k5⟩ := k0
  have ct : X3.cell? ⟨T, 2, none⟩ = some (.int .i64 t.root) := (cell_of_row _ _ 2 _ _ _ H3.out.top).trans rfl
  simp only [Nat.zero_add] at k1 k2 k3 k4 k5
  clear hX1 hX2 hX3 z1 z2 z3 n3 o3 B3 h
  go_enter Try.func92, Try.ntmps92
  go_upto_region 2 with fail
  rw [← HX1.out, ← HX2.out]
  first | rw [← HX3.out] | skip
  have tr : (t.root != -1) = false := by simp [hr]
  have tr2 : t.root = -1 := hr
  have HNA : Hid (NdAt X3 base ⟨⟨some ⟨W.heap.size + 1, 0, none⟩, 1, 1⟩, ⟨none, 0, 0⟩⟩ ⟨[s], []⟩) := ⟨HO3.out, World.ownsRow_nil _ _ _ _⟩
  have HRB : Hid (∀ b, rowB ⟨⟨some ⟨W.heap.size + 1, 0, none⟩, 1, 1⟩, ⟨none, 0, 0⟩⟩ b → b = W.heap.size + 1) := fun b hb => hb.elim (fun q => by injection q with q; exact q.symm) (fun q => by cases q)
  go_upto_region 4 with fail
  have HH := Lib.hid (H3.out.hold (C := fun b => B b ∨ b = W.heap.size + 1 + 1) ⟨⟨some ⟨W.heap.size + 1, 0, none⟩, 1, 1⟩, ⟨none, 0, 0⟩⟩ ⟨[s], []⟩ HNA.out (fun b hb => by
    have := HRB.out b hb
    have := HW.out.kp.size
    have := HZ3.out
    exact ⟨by omega, .inr ⟨by omega, by omega⟩⟩) hroom (fun b hb => ⟨hb.imp id (fun e => by have := HZ3.out; exact ⟨by omega, by omega⟩), fun hr => by
      have h1 := HRB.out b hr
      rcases hb with hb | hb
      · have := (HW.out.size b hb).2; omega
      · omega⟩))
  obtain ⟨c1, c2⟩ := nd_cells HN3.out
  clear ct
  go_wp2_with fail
  refine HH.out.mono ?_
  rintro e y ⟨q, rfl, hno, hst, hkb⟩
  have HNO := Lib.hid hno
  obtain ⟨hs1, hs2⟩ := hst.setRoot (q : Int)
  have HS1 := Lib.hid hs1
  have HS2 := Lib.hid hs2
  have HKY := Lib.hid hkb
  have tc : y.cell? ⟨T, 2, none⟩ = some (.int .i64 t.root) := (cell_of_row _ _ 2 _ _ _ hst.top).trans rfl
  have tf : y.frozen? ⟨T, 2, none⟩ = false := frozen_of_row _ _ 2 _ _ hst.top
  clear hno hst hkb hs1 hs2 HH
  go_wp2_with fail
  go_end0
  refine ⟨rfl, q, HNO.out, HS1.out.less (fun b hb => .inl hb), fun b hb => (HS2.out b (.inl hb)).trans ((HKY.out b (.inl hb)).trans (HKB3.out b hb))⟩
set_option maxHeartbeats 4000000 in
theorem BtH.growK {w0 W : World} {S B : Nat → Prop} {base T A : Nat} {t : Bx} (h : BtH w0 S B base T A t W) (s : G5) (behind : Int) (hr : t.root ≠ -1) (hroom : (t.n : Int) < t.room) :
    Calls Try.prog 92 #[aP T, vG s, .int .i64 behind] W fun e w' => e = .returned (.tuple #[]) ∧ ∃ q : Nat, t.f (q : Int) = none ∧ BtH w0 S B base T A { t with n := t.n + 1, f := updK t.f (q : Int) (some ⟨[s], [t.root, behind]⟩), root := (q : Int) } w' ∧ ∀ b, B b → w'.heap[b]? = W.heap[b]? := by
  have mx := mixed
  have b80 : ∀ (W : World) (a : Option Addr) (m c : Nat), (Instr.build 80 #[(0, .slice a m c)]).run Try.prog W = .ok (.agg #[.slice a m c, .slice none 0 0]) W := fun W a m c => run_build W _ _ _ (by kernel_rfl)
  obtain ⟨X1, hX1⟩ : ∃ X, X = W.alloc (oG s) := ⟨_, rfl⟩
  obtain ⟨X2, hX2⟩ : ∃ X, X = X1.alloc (oG s) := ⟨_, rfl⟩
  obtain ⟨X3, hX3⟩ : ∃ X, X = X2.alloc (ndO ⟨⟨some ⟨W.heap.size + 1, 0, none⟩, 1, 1⟩, ⟨none, 0, 0⟩⟩) := ⟨_, rfl⟩
  have z1 : X1.heap.size = W.heap.size + 1 := by rw [hX1]; simp
  have z2 : X2.heap.size = W.heap.size + 1 + 1 := by rw [hX2]; simp [z1]
  have z3 : X3.heap.size = W.heap.size + 1 + 1 + 1 := by rw [hX3]; simp [z2]
  have B3 : Go.RowKit.Below W.heap.size W X3 := by rw [hX3, hX2, hX1]; exact bt (bt (below_new _ _) (below_new _ _)) (below_new _ _)
  have n3 : X3.heap[W.heap.size + 1 + 1]? = some (ndO ⟨⟨some ⟨W.heap.size + 1, 0, none⟩, 1, 1⟩, ⟨none, 0, 0⟩⟩) := by rw [← z2, hX3]; exact heap_alloc_new _ _
  have o3 : X3.ownsRow base 38 5 (.slice (some ⟨W.heap.size + 1, 0, none⟩) 1 1) 1 (flatG [s]) := by
    rw [← z1, hX3]
    refine own_on ?_ (below_new _ _)
    rw [hX2]
    exact own_one5 X1 s base (by have := h.base_le; omega)
  have HX3 := Lib.hid hX3
  have HX2 := Lib.hid hX2
  have HX1 := Lib.hid hX1
  have HN3 := Lib.hid n3
  have HO3 := Lib.hid o3
  have HZ3 := Lib.hid z3
  have HB3 := Lib.hid B3
  have H3 := Lib.hid (h.keep (C := fun b => B b ∨ (W.heap.size ≤ b ∧ b < X3.heap.size)) B3 (fun b hb => hb))
  have HKB3 : Hid (∀ b, B b → X3.heap[b]? = W.heap[b]?) := fun b hb => B3.block b (h.size b hb).2
  have HW := Lib.hid h
  have k0 := five_cells (show X1.heap[W.heap.size]? = some (oG s) by rw [hX1]; exact heap_alloc_new _ _)
  rw [hX1] at k0
  obtain ⟨k1, k2, k3, k4, k5⟩ := k0
  have ct : X3.cell? ⟨T, 2, none⟩ = some (.int .i64 t.root) := (cell_of_row _ _ 2 _ _ _ H3.out.top).trans rfl
  simp only [Nat.zero_add] at k1 k2 k3 k4 k5
  clear hX1 hX2 hX3 z1 z2 z3 n3 o3 B3 h
  go_enter Try.func92, Try.ntmps92
  go_upto_region 2 with fail
  rw [← HX1.out, ← HX2.out]
  first | rw [← HX3.out] | skip
  have tr : (t.root != -1) = true := by simpa using hr
  have tr2 : ¬ t.root = -1 := hr
  have n4' := box_on HN3.out (below_new X3 (.cells #[.int .i64 t.root, .int .i64 behind] 3))
  have f3 := frozen_of_row _ _ 1 _ _ n4'
  obtain ⟨c1, c2⟩ := nd_cells n4'
  clear n4'
  obtain ⟨X4, hX4⟩ : ∃ X, X = X3.alloc (.cells #[.int .i64 t.root, .int .i64 behind] 3) := ⟨_, rfl⟩
  have B4 : Go.RowKit.Below X3.heap.size X3 X4 := by rw [hX4]; exact below_new _ _
  have n4 := box_on HN3.out B4
  obtain ⟨X5, hX5⟩ : ∃ X, X = X4.setCell ⟨W.heap.size + 1 + 1, 1, none⟩ (.slice (some ⟨W.heap.size + 1 + 1 + 1, 0, none⟩) 2 2) := ⟨_, rfl⟩
  have HN5 : Hid (X5.heap[W.heap.size + 1 + 1]? = some (ndO ⟨⟨some ⟨W.heap.size + 1, 0, none⟩, 1, 1⟩, ⟨some ⟨W.heap.size + 1 + 1 + 1, 0, none⟩, 2, 2⟩⟩)) := by
    show _ = _
    rw [hX5]; exact heap_setCell_same X4 (W.heap.size + 1 + 1) 1 _ _ _ n4
  have HNA : Hid (NdAt X5 base ⟨⟨some ⟨W.heap.size + 1, 0, none⟩, 1, 1⟩, ⟨some ⟨W.heap.size + 1 + 1 + 1, 0, none⟩, 2, 2⟩⟩ ⟨[s], [t.root, behind]⟩) := by
    refine ⟨?_, ?_⟩
    · show X5.ownsRow base 38 5 (.slice (some ⟨W.heap.size + 1, 0, none⟩) 1 1) 1 (flatG [s])
      rw [hX5]; exact own_far (own_on HO3.out B4) _ _ _ (fun k hk => by injection hk with hk; simp at hk; omega)
    · show X5.ownsRow base 3 1 (.slice (some ⟨W.heap.size + 1 + 1 + 1, 0, none⟩) 2 2) 2 ([t.root, behind].map nv)
      rw [hX5]
      refine own_far ?_ _ _ _ (fun k hk => by injection hk with hk; simp at hk; omega)
      rw [hX4, ← HZ3.out]
      exact own_two1 X3 t.root behind base H3.out.base_le
  have HZ4 : Hid (X4.heap.size = W.heap.size + 1 + 1 + 1 + 1) := by show _ = _; rw [hX4, World.size_alloc, HZ3.out]
  have H4 := H3.out.keep (C := fun b => B b ∨ (W.heap.size ≤ b ∧ b < X4.heap.size)) B4 (fun b hb => by
    rcases hb with hb | ⟨q1, q2⟩
    · exact .inl (.inl hb)
    · have := HZ3.out; have := HZ4.out
      by_cases e : b < X3.heap.size
      · exact .inl (.inr ⟨q1, e⟩)
      · exact .inr ⟨by omega, q2⟩)
  have H5 : Hid (BtH w0 S (fun b => B b ∨ (W.heap.size ≤ b ∧ b < X4.heap.size)) base T A t X5) := by
    show BtH _ _ _ _ _ _ _ _
    rw [hX5]; exact H4.box _ (.inr ⟨by omega, by have := HZ4.out; omega⟩) _ _
  have HKB5 : Hid (∀ b, B b → X5.heap[b]? = W.heap[b]?) := fun b hb => by
    have hlt := (HW.out.size b hb).2
    obtain ⟨o, ho⟩ : ∃ o, W.heap[b]? = some o := ⟨_, Array.getElem?_eq_getElem hlt⟩
    rw [ho, hX5]
    exact set_far (box_on ((HKB3.out b hb).trans ho) B4) (by omega)
  have HRB : Hid (∀ b, rowB ⟨⟨some ⟨W.heap.size + 1, 0, none⟩, 1, 1⟩, ⟨some ⟨W.heap.size + 1 + 1 + 1, 0, none⟩, 2, 2⟩⟩ b → b = W.heap.size + 1 ∨ b = W.heap.size + 1 + 1 + 1) := fun b hb => hb.imp (fun q => by injection q with q; exact q.symm) (fun q => by injection q with q; exact q.symm)
  have HX4 := Lib.hid hX4
  have HX5 := Lib.hid hX5
  clear hX4 hX5 B4 n4 H4
  go_upto_region 4 with fail
  rw [← HX4.out]
  simp only [show X3.heap.size = W.heap.size + 1 + 1 + 1 from HZ3.out]
  rw [← HX5.out]
  have HH := Lib.hid (H5.out.hold (C := fun b => B b ∨ b = W.heap.size + 1 + 1) ⟨⟨some ⟨W.heap.size + 1, 0, none⟩, 1, 1⟩, ⟨some ⟨W.heap.size + 1 + 1 + 1, 0, none⟩, 2, 2⟩⟩ ⟨[s], [t.root, behind]⟩ HNA.out (fun b hb => by
    have := HRB.out b hb
    have := HW.out.kp.size
    have := HZ4.out
    exact ⟨by omega, .inr ⟨by omega, by omega⟩⟩) hroom (fun b hb => ⟨hb.imp id (fun e => by have := HZ4.out; exact ⟨by omega, by omega⟩), fun hr => by
      have h1 := HRB.out b hr
      rcases hb with hb | hb
      · have := (HW.out.size b hb).2; omega
      · omega⟩))
  obtain ⟨c3, c4⟩ := nd_cells HN5.out
  clear ct c1 c2 f3
  go_wp2_with fail
  refine HH.out.mono ?_
  rintro e y ⟨q, rfl, hno, hst, hkb⟩
  have HNO := Lib.hid hno
  obtain ⟨hs1, hs2⟩ := hst.setRoot (q : Int)
  have HS1 := Lib.hid hs1
  have HS2 := Lib.hid hs2
  have HKY := Lib.hid hkb
  have tc : y.cell? ⟨T, 2, none⟩ = some (.int .i64 t.root) := (cell_of_row _ _ 2 _ _ _ hst.top).trans rfl
  have tf : y.frozen? ⟨T, 2, none⟩ = false := frozen_of_row _ _ 2 _ _ hst.top
  clear hno hst hkb hs1 hs2 HH
  go_wp2_with fail
  go_end0
  refine ⟨rfl, q, HNO.out, HS1.out.less (fun b hb => .inl hb), fun b hb => (HS2.out b (.inl hb)).trans ((HKY.out b (.inl hb)).trans (HKB5.out b hb))⟩
end Go.Proofs.Ytjgcdmeojjnjlaa
/- A B-tree's blocks hold cells: what a range over a function keeps of its own is none of them. -/
namespace Go.Proofs.Ytjgcdmeojjnjlaa
open Go.RowKit Go.Sort Go.Proofs.Ytjgcdmeojjnjlaa.Bo Go.Proofs.Ytjgcdmeojjnjlaa.Bb
set_option linter.unusedVariables false
section
variable {w0 W W' : World} {S B C : Nat → Prop} {base T A g : Nat} {t : Bx}
theorem BtW.cells {a : Ag Rn} {S0 : Nat → Prop} {w : World} (h : BtW w base T A t a S0) (b : Nat) (hb : btS T t a S0 b) (o : Obj) (ho : w.heap[b]? = some o) : o.isCells = true := by
  have fin : ∀ o' : Obj, w.heap[b]? = some o' → o'.isCells = true → o.isCells = true := fun o' h1 h2 => by
    rw [ho] at h1; cases h1; exact h2
  have row : ∀ {base : Nat} {e : TypeId} {size : Nat} {v : Value} {n : Nat} {xs : List Value}, w.ownsRow base e size v n xs → v.ownBlock = some b → o.isCells = true := fun h1 h2 => by
    obtain ⟨cur, h3⟩ := own_type h1 h2
    exact fin _ h3 rfl
  rcases hb with rfl | hb | ⟨p, hp, hb⟩
  · exact fin _ h.top rfl
  · obtain ⟨pv, fv, rfl, hg⟩ := h.ar
    rcases hb with rfl | hb | hb
    · exact fin _ hg.box rfl
    · exact row hg.prow hb
    · exact row hg.frow hb
  · obtain ⟨n, hn, hnd⟩ := h.isn p hp
    rcases hb with hb | hb
    · exact row hnd.s hb
    · exact row hnd.k hb
/-- A step of a range over a function: the heap grows, and what holds no cells may turn. -/
theorem BtH.grown (h : BtH w0 S B base T A t W) {row : Option Nat} (hg : W.grownBy W' row) (hr : ∀ r, row = some r → w0.heap.size ≤ r ∧ ∃ o : Obj, W.heap[r]? = some o ∧ o.isCells = false) : BtH w0 S B base T A t W' := by
  obtain ⟨a, S0, h1, h2, h3, h4⟩ := h
  have hk : Kp (fun b => row = some b) W W' := (Kp.refl _ W).grown hg (fun k hk => .inl hk)
  refine ⟨a, S0, h1.kp hk (fun b hb e => ?_), h2.grown hg (fun k hk => .inr (hr k hk).1), h3, fun b hb => ⟨(h4 b hb).1, Nat.lt_of_lt_of_le (h4 b hb).2.1 hg.size, (h4 b hb).2.2⟩⟩
  obtain ⟨_, o, k1, k2⟩ := hr b e
  rw [h1.cells b hb o k1] at k2; cases k2
/-- A range's step keeps the blocks of cells. -/
theorem grown_cells {X Y : World} {row : Option Nat} (hg : X.grownBy Y row) (hr : ∀ r, row = some r → ∃ o : Obj, X.heap[r]? = some o ∧ o.isCells = false) {b : Nat} {o : Obj} (ho : o.isCells = true) (h : X.heap[b]? = some o) : Y.heap[b]? = some o :=
  (hg.block b (lt_of_block h) (fun e => by
    obtain ⟨o', k1, k2⟩ := hr b e.symm
    rw [h] at k1; cases k1; rw [ho] at k2; cases k2)).trans h
/-- Seen from the world itself: nothing but the tree's own blocks turns. -/
theorem BtH.rebase (h : BtH w0 S B base T A t W) : ∃ S1, BtH W S1 (fun _ => False) base T A t W ∧ ∀ t' w', BtH W S1 (fun _ => False) base T A t' w' → BtH w0 S B base T A t' w' ∧ KeepsOthers W w' ∧ ∀ b, B b → w'.heap[b]? = W.heap[b]? := by
  obtain ⟨a, S0, h1, h2, h3, h4⟩ := h
  refine ⟨btS T t a S0, btH_of h1, fun t' w' h' => ?_⟩
  obtain ⟨a', S0', k1, k2, k3, _⟩ := h'
  have hB : ∀ b, B b → w'.heap[b]? = W.heap[b]? := fun b hb => k2.block b (h4 b hb).2.1 (h4 b hb).2.2
  refine ⟨⟨a', S0', k1, h2.trans k2 (fun b hb hS => (h3 b hS).resolve_right (by omega)), fun b hb => ?_, fun b hb => ⟨(h4 b hb).1, Nat.lt_of_lt_of_le (h4 b hb).2.1 k2.size, fun hS => ?_⟩⟩, ⟨k2.size, fun k o hk ho => ?_⟩, hB⟩
  · rcases k3 b hb with q | q
    · exact h3 b q
    · exact .inr (Nat.le_trans h2.size q)
  · rcases k3 b hS with q | q
    · exact (h4 b hb).2.2 q
    · have := (h4 b hb).2.1; omega
  · exact (k2.block k (lt_of_block hk) (fun hS => by rw [h1.cells k hS o hk] at ho; cases ho)).trans hk
end
end Go.Proofs.Ytjgcdmeojjnjlaa
/- split: a node with children. -/
namespace Go.Proofs.Ytjgcdmeojjnjlaa
open Go.RowKit Go.Sort Go.Proofs.Ytjgcdmeojjnjlaa.Bo Go.Proofs.Ytjgcdmeojjnjlaa.Bb
set_option linter.unusedVariables false
set_option maxRecDepth 100000
set_option maxHeartbeats 8000000 in
theorem BtH.splitK {w0 W : World} {S B : Nat → Prop} {base T A : Nat} {t : Bx} (h : BtH w0 S B base T A t W) (p : Nat) (n : Kn) (hp : t.f (p : Int) = some n) (d : Nat) (hd : t.d = (d : Int)) (hd1 : 1 ≤ d) (hd2 : d ≤ 64) (hl : n.segs.length = 2 * d) (hk : n.kids.length = 2 * d + 1) (hroom : (t.n : Int) < t.room) (mid : G5) (hmid : n.segs[d]? = some mid) :
    Calls Try.prog 91 #[aP T, .int .i64 (p : Int)] W fun e w' => ∃ q : Nat, e = .returned (.tuple #[vG mid, .int .i64 (q : Int)]) ∧ (t.f (q : Int) = none ∧ q ≠ p ∧ BtH w0 S B base T A { t with n := t.n + 1, f := updK (updK t.f (p : Int) (some ⟨n.segs.take d, n.kids.take (d + 1)⟩)) (q : Int) (some ⟨n.segs.drop (d + 1), n.kids.drop (d + 1)⟩) } w' ∧ ∀ b, B b → w'.heap[b]? = W.heap[b]?) := by
  have mx := mixed
  obtain ⟨g, hg⟩ := h.gOf p (by rw [hp]; simp)
  have HP := Lib.hid hp
  -- the result's box
  have HR0 : Hid ((W.alloc zG).heap[W.heap.size]? = some zG) := heap_alloc_new W zG
  have HB0 : Hid (Go.RowKit.Below W.heap.size W (W.alloc zG)) := below_new W zG
  have HSZ0 : Hid (W.heap.size < (W.alloc zG).heap.size) := lt_of_block HR0.out
  have H0 := Lib.hid (h.keep (C := fun b => B b ∨ b = W.heap.size) HB0.out (fun b hb => hb.imp id (fun e => by subst e; exact ⟨Nat.le_refl _, HSZ0.out⟩)))
  have HG0 := Lib.hid (hg.below HB0.out)
  have HKB0 : Hid (∀ b, B b → (W.alloc zG).heap[b]? = W.heap[b]?) := fun b hb => HB0.out.block b (h.size b hb).2
  obtain ⟨sa0, ka0, sc0, kc0, v0⟩ := H0.out.node HG0.out p n hp
  have HAT := Lib.hid v0.at_
  have p1 := cell_regrown ((cell_of_row _ _ 1 _ _ _ H0.out.top).trans rfl : (W.alloc zG).cell? ⟨T, 1, none⟩ = some (aP A))
  have p2 := cell_regrown ((cell_of_row _ _ 0 _ _ _ H0.out.top).trans rfl : (W.alloc zG).cell? ⟨T, 0, none⟩ = some (.int .i64 t.d))
  rw [hd] at p2
  have HW := Lib.hid h
  clear v0 hg h
  go_enter Try.func91, Try.ntmps91
  go_upto_region 1 with fail
  generalize W.alloc zG = X0 at *
  refine wp_region_quiet_below (by assumption) (by kernel_rfl) ?_
  repeat (go_big_quiet_step (first | (go_at_call 50; exact Calls.regrown_of ((HAT.out _ (below_regrown _ _ _)).mono fun e w' q => ⟨q.1, q.2 ▸ Go.RowKit.Below.refl _ _⟩))))
  refine wpQuiet_nil ?_
  intro _ hw'
  obtain ⟨⟨nq, osq⟩, hw''⟩ := hw'
  subst hw''
  have hbY := below_regrown X0 nq osq
  show Exit.then _ _ Exit.normal _ (grow (redrawn X0 nq) osq)
  generalize grow (redrawn X0 nq) osq = Y at *
  have H1 := Lib.hid (H0.out.below hbY)
  have HG1 := Lib.hid (HG0.out.below hbY)
  have HR1 := Lib.hid (box_on HR0.out hbY)
  have HKB1 : Hid (∀ b, B b → Y.heap[b]? = W.heap[b]?) := fun b hb => (hbY.block b (H0.out.size b (.inl hb)).2).trans (HKB0.out b hb)
  have HSZ1 : Hid (W.heap.size < Y.heap.size) := Nat.lt_of_lt_of_le HSZ0.out hbY.size
  obtain ⟨sa, ka, sc, kc, v1⟩ := H1.out.node HG1.out p n HP.out
  have V1 := Lib.hid v1
  have hos := v1.os
  rw [hl] at hos
  obtain ⟨gb, rfl, _, hx, _⟩ := own_atG hos hl.symm d (by omega)
  have e1 : n.segs[d]'(by omega) = mid := by
    rw [List.getElem?_eq_getElem (by omega)] at hmid; exact Option.some.inj hmid
  rw [e1] at hx
  obtain ⟨x1, x2, x3, x4, x5⟩ := hx
  have hcs := v1.cs
  rw [hl] at hcs
  have hcl : 2 * d ≤ sc := by
    rcases hos.2 with ⟨q, _⟩ | ⟨g', c', cur, q, _, _, q2, _⟩
    · cases q
    · injection q with _ _ q; omega
  have hcm : sc ≤ 1000000000 ∨ True := .inr trivial
  clear p1 p2 hbY v1 H0 HG0 HR0 HKB0 HB0 HSZ0 HAT
  have i0 : (0 : Int) ≤ (d : Int) := by omega
  have i1 : (d : Int) < ((2 * d : Nat) : Int) := by omega
  go_upto_region 3 with fail
  -- the middle one's box
  have HM2 : Hid ((Y.alloc (oG mid)).heap[Y.heap.size]? = some (oG mid)) := heap_alloc_new Y (oG mid)
  have HB2 : Hid (Go.RowKit.Below Y.heap.size Y (Y.alloc (oG mid))) := below_new Y (oG mid)
  have HSZ2 : Hid (Y.heap.size < (Y.alloc (oG mid)).heap.size) := lt_of_block HM2.out
  have H2 := Lib.hid (H1.out.keep (C := fun b => (B b ∨ b = W.heap.size) ∨ b = Y.heap.size) HB2.out (fun b hb => hb.imp id (fun e => by subst e; exact ⟨Nat.le_refl _, HSZ2.out⟩)))
  have HG2 := Lib.hid (HG1.out.below HB2.out)
  have HR2 := Lib.hid (box_on HR1.out HB2.out)
  have HKB2 : Hid (∀ b, B b → (Y.alloc (oG mid)).heap[b]? = W.heap[b]?) := fun b hb => (HB2.out.block b (H1.out.size b (.inl hb)).2).trans (HKB1.out b hb)
  have hcs2 : (Y.alloc (oG mid)).cell? ⟨g, p * 3, none⟩ = some (.slice (some ⟨gb, 0, none⟩) (2 * d) sc) := (HB2.out.cell (p := ⟨g, p * 3, none⟩) V1.out.gb).trans hcs
  have HOS2 := Lib.hid (own_on hos HB2.out)
  clear hcs x1 x2 x3 x4 x5 hos
  generalize Y.alloc (oG mid) = Y2 at *
  have HLY := Lib.hid ((Bs.Lies.of_own HOS2.out).drop (k := d + 1) (size := 5) (cap := sc) (by rw [flatG_len, hl]; omega))
  rw [flatG_drop] at HLY
  have hdl : (n.segs.drop (d + 1)).length = d - 1 := by rw [List.length_drop]; omega
  obtain ⟨dl, hdl2⟩ : ∃ dl, dl = 2 * d - (d + 1) := ⟨_, rfl⟩
  have HDL : Hid (dl = (n.segs.drop (d + 1)).length) := by show _ = _; rw [hdl2, List.length_drop]; omega
  have HCL : Hid (∀ ad k, ad = (if sc = d + 1 then some (⟨gb, 0, none⟩ : Addr) else some ⟨gb, 0 + (d + 1) * 5, none⟩) → Calls Try.prog 72 #[.slice ad (2 * d - (d + 1)) k] Y2 (ClPost Y2 38 5 (2 * d - (d + 1)) (flatG (n.segs.drop (d + 1))))) := by
    rintro ad k rfl
    exact scloneG_any HLY.out (by rw [← hdl2, HDL.out]) (by omega)
  have i2 : IntKind.i64.wrap ((d : Int) + 1) = (d : Int) + 1 := IntWalk.i64_in _ (by omega)
  have i3 : (0 : Int) ≤ (d : Int) + 1 := by omega
  have i4 : (d : Int) + 1 ≤ ((2 * d : Nat) : Int) := by omega
  have i5 : (d : Int) + 1 ≤ (sc : Int) := by omega
  go_cut [9] from 10 to 35 (fun s9 wx => ∃ b3 a2 c2, s9 = .pointer (some ⟨b3, 0, none⟩) ∧ wx.heap[b3]? = some (ndO ⟨⟨a2, dl, c2⟩, ⟨none, 0, 0⟩⟩) ∧ wx.ownsRow Y2.heap.size 38 5 (.slice a2 dl c2) dl (flatG (n.segs.drop (d + 1))) ∧ Go.RowKit.Below Y2.heap.size Y2 wx ∧ Y2.heap.size ≤ b3 ∧ ∀ b, (Value.slice a2 dl c2).ownBlock = some b → b ≠ b3)
  case first =>
    have b80 : ∀ (W : World) (a : Option Addr) (m c : Nat), (Instr.build 80 #[(0, .slice a m c)]).run Try.prog W = .ok (.agg #[.slice a m c, .slice none 0 0]) W := fun W a m c => run_build W _ _ _ (by kernel_rfl)
    have HL2 := Lib.hid hdl2
    clear H2 HG2 HR2 HKB2 HM2 H1 HG1 HR1 HKB1 HW V1 hdl hdl2
    go_wp2_with fail
    all_goals
      refine (HCL.out _ _ (by first | (rw [if_pos (by assumption)]; done) | (rw [if_neg (by assumption), Nat.zero_add]; done))).mono ?_
      rintro e y ⟨a2, c2, ⟨rfl, ho⟩, hb⟩
      have HO := Lib.hid ho
      have HB := Lib.hid hb
      clear ho hb
      go_wp2_with fail
      go_meet
      refine ⟨_, a2, c2, rfl, ?_, ?_, bt HB.out (below_new _ _), HB.out.size, fun b hb => ?_⟩
      · rw [HL2.out]; exact heap_alloc_new _ _
      · rw [HL2.out]; exact own_on HO.out (below_new _ _)
      · have := (HO.out.lt b (by rw [← hb]; exact ownBlk _ _ _ _ _)).2; omega
  case rest =>
    obtain ⟨b3, a2, c2, rfl, h1, h2, h3, h4, h5⟩ := hcut
    have hb3 := lt_of_block h1
    have hr2 := fun b hb => h2.lt b hb
    have HN3 := Lib.hid h1
    have HO3 := Lib.hid h2
    have HB3 := Lib.hid h3
    have HL3 := Lib.hid h4
    have HD3 := Lib.hid h5
    have H3 := Lib.hid (H2.out.keep (C := fun b => ((B b ∨ b = W.heap.size) ∨ b = Y.heap.size) ∨ (b = b3 ∨ (Value.slice a2 dl c2).ownBlock = some b)) h3 (fun b hb => hb.imp id (fun e => by
      rcases e with rfl | e
      · exact ⟨h4, hb3⟩
      · exact hr2 b e)))
    have HG3 := Lib.hid (HG2.out.below h3)
    have HR3 := Lib.hid (box_on HR2.out h3)
    have HM3 := Lib.hid (box_on HM2.out h3)
    have HKB3 : Hid (∀ b, B b → wc.heap[b]? = W.heap[b]?) := fun b hb => (h3.block b (H2.out.size b (.inl (.inl hb))).2).trans (HKB2.out b hb)
    clear h1 h2 h3 h4 h5 hb3 hr2 hcs2 HCL HLY i2 i3 i4 i5 hdl hdl2
    -- the head stays
    obtain ⟨sa3, ka3, sc3, kc3, v3⟩ := H3.out.node HG3.out p n HP.out
    have hset := v3.setS wc sa3 sc3 (n.segs.take d) (grown_refl _ _) (own_take5 v3.os rfl d (by omega)) (fun b hb => .inl (by rw [← hb]; exact ownBlk _ _ _ _ _))
    have htl : (n.segs.take d).length = d := by rw [List.length_take]; omega
    rw [htl] at hset
    have H4 := Lib.hid hset.1
    have HG4 := Lib.hid hset.2.1
    have HKC4 := Lib.hid hset.2.2
    have c1 := v3.cs
    rw [hl] at c1
    have f1 := v3.fz (p * 3)
    have hcl3 : d ≤ sc3 := by
      rcases v3.os.2 with ⟨q, q2⟩ | ⟨g', c', cur, q, _, _, q2, _⟩
      · omega
      · injection q with _ _ q; omega
    have i0' : (0 : Int) ≤ (d : Int) := by omega
    have i1' : (d : Int) ≤ (sc3 : Int) := by omega
    clear v3 hset
    generalize hW4 : wc.setCell ⟨g, p * 3, none⟩ (.slice sa3 d sc3) = Y4 at H4 HG4 HKC4
    have HW4 := Lib.hid hW4
    clear hW4
    go_upto_region 5 with fail
    rw [HW4.out]
    have HP4 : Hid (updK t.f (p : Int) (some ⟨n.segs.take d, n.kids⟩) (p : Int) = some ⟨n.segs.take d, n.kids⟩) := updK_self _ _ _
    obtain ⟨sa4, ka4, sc4, kc4, v4⟩ := H4.out.node HG4.out p _ HP4.out
    have ck4 := v4.ck
    rw [show (⟨n.segs.take d, n.kids⟩ : Kn).kids.length = 2 * d + 1 from hk] at ck4
    have HN4 := Lib.hid (kp_box HKC4.out (.inr (.inl rfl)) HN3.out)
    have HO4 := Lib.hid (own_kpQ HO3.out (fun b hb => HKC4.out b (.inr (.inr hb))))
    have HR4 := Lib.hid (kp_box HKC4.out (.inl (.inl (.inr rfl))) HR3.out)
    have HM4 := Lib.hid (kp_box HKC4.out (.inl (.inr rfl)) HM3.out)
    have HKB4 : Hid (∀ b, B b → Y4.heap[b]? = W.heap[b]?) := fun b hb => (HKC4.out b (.inl (.inl (.inl hb)))).trans (HKB3.out b hb)
    have hkc : 2 * d + 1 ≤ kc4 := by
      have := v4.ok
      rw [show (⟨n.segs.take d, n.kids⟩ : Kn).kids.length = 2 * d + 1 from hk] at this
      rcases this.2 with ⟨q, q2⟩ | ⟨g', c', cur, q, _, _, q2, _⟩
      · omega
      · injection q with _ _ q; omega
    obtain ⟨kb, rfl⟩ : ∃ kb, ka4 = some ⟨kb, 0, none⟩ := by
      have := v4.ok
      rcases this.2 with ⟨q, q2⟩ | ⟨g', c', cur, q, _⟩
      · have q2 : n.kids.length = 0 := q2
        omega
      · injection q with q; exact ⟨g', q⟩
    have HLI := Lib.hid ((Bs.Lies.of_own v4.ok).drop (k := d + 1) (size := 1) (cap := kc4) (by rw [List.length_map]; show n.kids.length ≤ kc4 * 1; omega))
    rw [if_neg (show ¬ kc4 = d + 1 by omega), map_drop_nv] at HLI
    obtain ⟨kl, hkl⟩ : ∃ kl, kl = 2 * d - d := ⟨_, rfl⟩
    have HKL : Hid (kl = (n.kids.drop (d + 1)).length) := by show _ = _; rw [hkl, List.length_drop]; omega
    have HCI : Hid (Calls Try.prog 73 #[.slice (some ⟨kb, (d + 1) * 1, none⟩) (2 * d - d) (kc4 - (d + 1))] Y4 (ClPost Y4 3 1 kl ((n.kids.drop (d + 1)).map nv))) := by
      have := HLI.out
      rw [Nat.zero_add] at this
      rw [hkl]
      exact scloneI_any this (by rw [← hkl, HKL.out]) (by omega)
    rw [Nat.mul_one] at HCI
    have j0 : ¬ kc4 = d + 1 := by omega
    have j1 : IntKind.i64.wrap ((d : Int) + 1) = (d : Int) + 1 := IntWalk.i64_in _ (by omega)
    have j2 : (0 : Int) ≤ (d : Int) + 1 := by omega
    have j3 : (d : Int) + 1 ≤ ((2 * d + 1 : Nat) : Int) := by omega
    have j4 : (d : Int) + 1 ≤ (kc4 : Int) := by omega
    have j5 : (0 : Int) < ((2 * d + 1 : Nat) : Int) := by omega
    have j6 : 0 < 2 * d + 1 := by omega
    have V4 := Lib.hid v4
    have H4SZ := Lib.hid (show wc.heap.size ≤ Y4.heap.size by rw [← HW4.out]; simp [World.setCell])
    have H3SZ := Lib.hid (lt_of_block HN4.out)
    clear v4 HLI hkl
    go_wp2_with fail
    refine HCI.out.mono ?_
    rintro e y5 ⟨a5, c5, ⟨rfl, ho5⟩, hb5⟩
    have HO5 := Lib.hid ho5
    have hn5 := box_on HN4.out hb5
    have HN5 := Lib.hid hn5
    have f5 := frozen_of_row _ _ 1 _ _ hn5
    have c5' := (nd_cells hn5).2
    have hb3lt := lt_of_block HN4.out
    have H5 := Lib.hid (H4.out.keep (C := fun b => (((B b ∨ b = W.heap.size) ∨ b = Y.heap.size) ∨ (b = b3 ∨ (Value.slice a2 dl c2).ownBlock = some b)) ∨ (Value.slice a5 kl c5).ownBlock = some b) hb5 (fun b hb => hb.imp id (fun e => ⟨(ho5.lt b e).1, (ho5.lt b e).2⟩)))
    have HG5 := Lib.hid (HG4.out.below hb5)
    have HBX5 := Lib.hid hb5
    have H6 := Lib.hid (H5.out.box b3 (.inl (.inr (.inl rfl))) 1 (.slice a5 kl c5))
    have HG6 := Lib.hid (H5.out.boxG HG5.out b3 (.inl (.inr (.inl rfl))) 1 (.slice a5 kl c5) p (fun q => by have q2 := HP4.out.symm.trans q; cases q2))
    have HN6 : Hid ((y5.setCell ⟨b3, 1, none⟩ (.slice a5 kl c5)).heap[b3]? = some (ndO ⟨⟨a2, dl, c2⟩, ⟨a5, kl, c5⟩⟩)) := heap_setCell_same y5 b3 1 _ _ _ hn5
    have H5R : Hid (∀ b, (Value.slice a5 kl c5).ownBlock = some b → Y4.heap.size ≤ b) := fun b hb => (ho5.lt b hb).1
    have far5 : ∀ b o, b ≠ b3 → Y4.heap[b]? = some o → (y5.setCell ⟨b3, 1, none⟩ (.slice a5 kl c5)).heap[b]? = some o := fun b o hne ho => set_far (box_on ho hb5) hne
    have HR6 := Lib.hid (far5 _ _ (by have := HL3.out; have := HSZ2.out; have := HSZ1.out; omega) HR4.out)
    have HM6 := Lib.hid (far5 _ _ (by have := HL3.out; have := HSZ2.out; omega) HM4.out)
    have HO6 := Lib.hid (own_far (own_on HO4.out hb5) b3 1 (.slice a5 kl c5) (fun k hk => HD3.out k hk))
    have HK6 := Lib.hid (own_far HO5.out b3 1 (.slice a5 kl c5) (fun k hk => by have := (HO5.out.lt k hk).1; omega))
    have HKB6 : Hid (∀ b, B b → (y5.setCell ⟨b3, 1, none⟩ (.slice a5 kl c5)).heap[b]? = W.heap[b]?) := fun b hb => by
      have hlt := (HW.out.size b hb).2
      obtain ⟨o, ho⟩ : ∃ o, W.heap[b]? = some o := ⟨_, Array.getElem?_eq_getElem hlt⟩
      rw [ho]
      exact far5 b o (by have := HL3.out; have := HSZ2.out; have := HSZ1.out; omega) ((HKB4.out b hb).trans ho)
    clear ho5 hb5 hn5 H4 HG4 HN4 HO4 HR4 HM4 HKB4 HKC4 far5 HCI ck4
    go_upto_region 7 with fail
    generalize y5.setCell ⟨b3, 1, none⟩ (.slice a5 kl c5) = Y6 at *
    obtain ⟨sa6, ka6, sc6, kc6, v6⟩ := H6.out.node HG6.out p _ HP4.out
    have hset := v6.setK Y6 ka6 kc6 (n.kids.take (d + 1)) (grown_refl _ _) (own_take1 v6.ok rfl (d + 1) (by show d + 1 ≤ n.kids.length; omega)) (fun b hb => .inl (by rw [← hb]; exact ownBlk _ _ _ _ _))
    have htl2 : (n.kids.take (d + 1)).length = d + 1 := by rw [List.length_take]; omega
    rw [htl2] at hset
    rw [show ({ ({ t with f := updK t.f (p : Int) (some ⟨n.segs.take d, n.kids⟩) } : Bx) with f := updK ({ t with f := updK t.f (p : Int) (some ⟨n.segs.take d, n.kids⟩) } : Bx).f (p : Int) (some ⟨(⟨n.segs.take d, n.kids⟩ : Kn).segs, n.kids.take (d + 1)⟩) } : Bx) = { t with f := updK t.f (p : Int) (some ⟨n.segs.take d, n.kids.take (d + 1)⟩) } by
      show ({ t with f := updK (updK t.f (p : Int) _) (p : Int) _ } : Bx) = _
      rw [updK_same]] at hset
    have H7 := Lib.hid hset.1
    have HG7 := Lib.hid hset.2.1
    have HKC7 := Lib.hid hset.2.2
    have c6 := v6.ck
    rw [show (⟨n.segs.take d, n.kids⟩ : Kn).kids.length = 2 * d + 1 from hk] at c6
    have f6 := v6.fz (p * 3 + 1)
    have hcl6 : d + 1 ≤ kc6 := by
      rcases v6.ok.2 with ⟨q, q2⟩ | ⟨g', c', cur, q, _, _, q2, _⟩
      · have q2 : n.kids.length = 0 := q2
        omega
      · have q2 : n.kids.length ≤ c' := q2
        injection q with _ _ q; omega
    have j7 : (d : Int) + 1 ≤ (kc6 : Int) := by omega
    have HN7 := Lib.hid (kp_box HKC7.out (.inl (.inr (.inl rfl))) HN6.out)
    have HR7 := Lib.hid (kp_box HKC7.out (.inl (.inl (.inl (.inr rfl)))) HR6.out)
    have HM7 := Lib.hid (kp_box HKC7.out (.inl (.inl (.inr rfl))) HM6.out)
    have HO7 := Lib.hid (own_kpQ HO6.out (fun b hb => HKC7.out b (.inl (.inr (.inr hb)))))
    have HK7 := Lib.hid (own_kpQ HK6.out (fun b hb => HKC7.out b (.inr hb)))
    have HKB7 : Hid (∀ b, B b → (Y6.setCell ⟨g, p * 3 + 1, none⟩ (.slice ka6 (d + 1) kc6)).heap[b]? = W.heap[b]?) := fun b hb => (HKC7.out b (.inl (.inl (.inl (.inl hb))))).trans (HKB6.out b hb)
    clear v6 hset
    have HNA : Hid (NdAt (Y6.setCell ⟨g, p * 3 + 1, none⟩ (.slice ka6 (d + 1) kc6)) base ⟨⟨a2, dl, c2⟩, ⟨a5, kl, c5⟩⟩ ⟨n.segs.drop (d + 1), n.kids.drop (d + 1)⟩) := by
      refine ⟨?_, ?_⟩
      · show World.ownsRow _ base 38 5 (.slice a2 dl c2) (n.segs.drop (d + 1)).length (flatG (n.segs.drop (d + 1)))
        exact HDL.out ▸ own_base HO7.out (by have := V1.out.le; have := HSZ2.out; omega)
      · show World.ownsRow _ base 3 1 (.slice a5 kl c5) (n.kids.drop (d + 1)).length ((n.kids.drop (d + 1)).map nv)
        rw [← HKL.out]
        exact own_base HK7.out V4.out.le
    have HRB : Hid (∀ b, rowB ⟨⟨a2, dl, c2⟩, ⟨a5, kl, c5⟩⟩ b → (Value.slice a2 dl c2).ownBlock = some b ∨ (Value.slice a5 kl c5).ownBlock = some b) := fun b hb => hb
    have HSZ4 : Hid (Y2.heap.size ≤ Y4.heap.size) := Nat.le_trans HB3.out.size H4SZ.out
    clear j0 j4 j5 j6
    generalize hW7 : Y6.setCell ⟨g, p * 3 + 1, none⟩ (.slice ka6 (d + 1) kc6) = Y7 at H7 HG7 HKC7 HN7 HR7 HM7 HO7 HK7 HKB7 HNA
    have HW7 := Lib.hid hW7
    clear hW7
    go_upto_region 8 with fail
    rw [HW7.out]
    have hRBlt : ∀ b, rowB ⟨⟨a2, dl, c2⟩, ⟨a5, kl, c5⟩⟩ b → Y2.heap.size ≤ b := fun b hb => (hb.elim (fun q => (HO3.out.lt b q).1) (fun q => Nat.le_trans HSZ4.out (H5R.out b q)))
    have HRL := Lib.hid hRBlt
    clear hRBlt
    have HDR : Hid (Go.RowKit.Below Y7.heap.size Y7 Y7.drew) := (Go.RowKit.Below.refl _ _).drew
    have HH := Lib.hid ((H7.out.below HDR.out).hold (C := fun b => ((B b ∨ b = W.heap.size) ∨ b = Y.heap.size) ∨ b = b3) ⟨⟨a2, dl, c2⟩, ⟨a5, kl, c5⟩⟩ ⟨n.segs.drop (d + 1), n.kids.drop (d + 1)⟩ (HNA.out.below HDR.out) (fun b hb => ⟨by have := HRL.out b hb; have := (H2.out.size Y.heap.size (.inr rfl)).1; have := HSZ2.out; omega, (HRB.out b hb).elim (fun q => .inl (.inr (.inr q))) .inr⟩) hroom (fun b hb => ⟨.inl (hb.imp id .inl), fun hr => by
      have h1 := HRL.out b hr
      rcases hb with ((hb | rfl) | rfl) | rfl
      · have := (H2.out.size b (.inl (.inl hb))).2; omega
      · have := HSZ1.out; have := HSZ2.out; omega
      · have := HSZ2.out; omega
      · exact (hr.elim (fun q => (HD3.out b q) rfl) (fun q => by have := H5R.out b q; have := H3SZ.out; omega))⟩))
    have HS1 : Hid (Cells5 Y7.drew Y.heap.size 0 mid ∧ Y7.drew.cell? ⟨b3, 0, none⟩ = some (.slice a2 dl c2) ∧ Y7.drew.cell? ⟨b3, 1, none⟩ = some (.slice a5 kl c5)) := ⟨five_cells HM7.out, (nd_cells HN7.out).1, (nd_cells HN7.out).2⟩
    have HKD : Hid (∀ b, B b → Y7.drew.heap[b]? = W.heap[b]?) := HKB7.out
    obtain ⟨q1, q2, q3, q4, q5⟩ := HS1.out.1
    simp only [Nat.zero_add] at q1 q2 q3 q4 q5
    have HSS : Hid (Y7.drew.cell? ⟨Y.heap.size, 0, none⟩ = some (.int .i64 mid.ls) ∧ Y7.drew.cell? ⟨Y.heap.size, 1, none⟩ = some (.int .i64 mid.la) ∧ Y7.drew.cell? ⟨Y.heap.size, 2, none⟩ = some (.int .i64 mid.hs) ∧ Y7.drew.cell? ⟨Y.heap.size, 3, none⟩ = some (.int .i64 mid.ha) ∧ Y7.drew.cell? ⟨Y.heap.size, 4, none⟩ = some (.int .i64 mid.v) ∧ Y7.drew.cell? ⟨b3, 0, none⟩ = some (.slice a2 dl c2) ∧ Y7.drew.cell? ⟨b3, 1, none⟩ = some (.slice a5 kl c5)) := ⟨q1, q2, q3, q4, q5, HS1.out.2⟩
    clear q1 q2 q3 q4 q5
    go_region_held3 (fun w' => w'.cell? ⟨Y.heap.size, 0, none⟩ = some (.int .i64 mid.ls) ∧ w'.cell? ⟨Y.heap.size, 1, none⟩ = some (.int .i64 mid.la) ∧ w'.cell? ⟨Y.heap.size, 2, none⟩ = some (.int .i64 mid.hs) ∧ w'.cell? ⟨Y.heap.size, 3, none⟩ = some (.int .i64 mid.ha) ∧ w'.cell? ⟨Y.heap.size, 4, none⟩ = some (.int .i64 mid.v) ∧ w'.cell? ⟨b3, 0, none⟩ = some (.slice a2 dl c2) ∧ w'.cell? ⟨b3, 1, none⟩ = some (.slice a5 kl c5))
      (with_reducible first | exact HSS.out | exact HS5.out | exact HS6.out)
      (first
        | (go_at_call 102; refine HH.out.mono ?_; rintro e y ⟨q, rfl, hno, hst, hkb⟩; have HNO := Lib.hid hno; have HST := Lib.hid hst; have HKY := Lib.hid hkb; have hMy := kp_box hkb (.inl (.inl (.inr rfl))) (show Y7.drew.heap[Y.heap.size]? = some (oG mid) from HM7.out); have hNy := kp_box hkb (.inl (.inr (.inl rfl))) (show Y7.drew.heap[b3]? = some (ndO ⟨⟨a2, dl, c2⟩, ⟨a5, kl, c5⟩⟩) from HN7.out); have hRy := kp_box hkb (.inl (.inl (.inl (.inr rfl)))) (show Y7.drew.heap[W.heap.size]? = some zG from HR7.out); have HRY := Lib.hid hRy
           have HS5 : Hid (y.cell? ⟨Y.heap.size, 0, none⟩ = some (.int .i64 mid.ls) ∧ y.cell? ⟨Y.heap.size, 1, none⟩ = some (.int .i64 mid.la) ∧ y.cell? ⟨Y.heap.size, 2, none⟩ = some (.int .i64 mid.hs) ∧ y.cell? ⟨Y.heap.size, 3, none⟩ = some (.int .i64 mid.ha) ∧ y.cell? ⟨Y.heap.size, 4, none⟩ = some (.int .i64 mid.v) ∧ y.cell? ⟨b3, 0, none⟩ = some (.slice a2 dl c2) ∧ y.cell? ⟨b3, 1, none⟩ = some (.slice a5 kl c5)) := (by obtain ⟨q1, q2, q3, q4, q5⟩ := five_cells hMy; simp only [Nat.zero_add] at q1 q2 q3 q4 q5; exact ⟨q1, q2, q3, q4, q5, nd_cells hNy⟩)
           have HS6 : Hid ((seg5 y W.heap.size mid).cell? ⟨Y.heap.size, 0, none⟩ = some (.int .i64 mid.ls) ∧ (seg5 y W.heap.size mid).cell? ⟨Y.heap.size, 1, none⟩ = some (.int .i64 mid.la) ∧ (seg5 y W.heap.size mid).cell? ⟨Y.heap.size, 2, none⟩ = some (.int .i64 mid.hs) ∧ (seg5 y W.heap.size mid).cell? ⟨Y.heap.size, 3, none⟩ = some (.int .i64 mid.ha) ∧ (seg5 y W.heap.size mid).cell? ⟨Y.heap.size, 4, none⟩ = some (.int .i64 mid.v) ∧ (seg5 y W.heap.size mid).cell? ⟨b3, 0, none⟩ = some (.slice a2 dl c2) ∧ (seg5 y W.heap.size mid).cell? ⟨b3, 1, none⟩ = some (.slice a5 kl c5)) := (by obtain ⟨q1, q2, q3, q4, q5⟩ := five_cells (five_far hMy (by have := HSZ1.out; omega : Y.heap.size ≠ W.heap.size) mid); simp only [Nat.zero_add] at q1 q2 q3 q4 q5; exact ⟨q1, q2, q3, q4, q5, nd_cells (five_far hNy (by have := HSZ1.out; have := HSZ2.out; have := HL3.out; omega : b3 ≠ W.heap.size) mid)⟩)
           obtain ⟨d0, d1, d2, d3, d4⟩ := five_cells (g := g0) hRy; have z0 := five_frozen (g := g0) hRy 0; have z1 := five_frozen (g := g0) hRy 1; have z2 := five_frozen (g := g0) hRy 2; have z3 := five_frozen (g := g0) hRy 3; have z4 := five_frozen (g := g0) hRy 4; simp only [Nat.zero_add] at d1 d2 d3 d4; clear hno hst hkb hMy hNy hRy))
    all_goals
      obtain ⟨q0, q1, q2, q3, q4⟩ := five_cells (five_put (g := g0) HRY.out mid)
      simp only [Nat.zero_add] at q1 q2 q3 q4
      go_wp2_with fail
      refine bodyPost_ret (v := .tuple #[vG mid, .int .i64 (q : Int)]) (by simp [results, Try.results91, go_sem, q0, q1, q2, q3, q4]) rfl ?_
      have hqp : q ≠ p := fun e => by
        have := HNO.out
        rw [e] at this
        rw [updK_self] at this; cases this
      have hqn : t.f (q : Int) = none := by
        have := HNO.out
        rw [updK_nat _ _ _ _ hqp] at this; exact this
      refine ⟨q, rfl, hqn, hqp, ?_, fun b hb => ?_⟩
      · exact (((((HST.out.box _ (.inl (.inl (.inr rfl))) 0 _).box _ (.inl (.inl (.inr rfl))) 1 _).box _ (.inl (.inl (.inr rfl))) 2 _).box _ (.inl (.inl (.inr rfl))) 3 _).box _ (.inl (.inl (.inr rfl))) 4 _).less (fun b hb => .inl (.inl (.inl hb)))
      · have hlt := (HW.out.size b hb).2
        obtain ⟨o, ho⟩ : ∃ o, W.heap[b]? = some o := ⟨_, Array.getElem?_eq_getElem hlt⟩
        rw [ho]
        exact five_far ((HKY.out b (.inl (.inl (.inl (.inl hb))))).trans ((HKD.out b hb).trans ho)) (by omega) mid
end Go.Proofs.Ytjgcdmeojjnjlaa
