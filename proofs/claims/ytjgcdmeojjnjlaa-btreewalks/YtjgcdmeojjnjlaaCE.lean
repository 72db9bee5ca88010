/- A part of the proof: contracts of the functions that the statements reach. -/
import Derived.RangeFuncNested
import Derived.RangeFuncBound
import Derived.RangeFuncCalls
import Derived.RangeFuncLeaves
import Derived.Shelf.Abstract
import Derived.Shelf.RegionOpen
import Derived.WalkKit
import Derived.OwnWalkIn
import Derived.TacticsInMore
import Derived.LoopNIn
import Derived.LoopIn
import Derived.Shelf.SlSortCmp.WholeK
import Derived.WalkSpells
import Derived.WalkLawsBesides
import Derived.Lib.Hide
import Derived.Laws.StructEq
import Derived.Shelf.SlSortCmp.QuietGrown
import Derived.Laws.EntriesVeiled
import Derived.Deep.CutRange
import Derived.RegionTactic
import Derived.Lib.QuietBelow
import Derived.BigQuiet
import Derived.OpenShut
import Derived.Deep.RegionHeld3
import Derived.Deep.QuietTactic
import Derived.Maps.AppendAt
import Derived.Laws.IdiomCopy
import Derived.Deep.AppendLies
import Derived.Deep.LoopGhost
import Derived.Deep.Upon
import Derived.StillTailTactics
import Derived.Lib.SmallJoins
import Derived.Deep.SlicePairs
import Derived.Deep.Strs
import Derived.ChangeOld
import Derived.SizedLaws
import Derived.Lib.SliceRun
import Derived.Laws.CopyRow
import Derived.Below
import Derived.Laws.CopyOwn
import Derived.Deep.RegionLaw
import Derived.IntWalk
import Derived.Test.YtjgcdmeojjnjlaaCD

/- Colours of a tree, and its segments in order. No Go in sight. -/
namespace Go.Proofs.Ytjgcdmeojjnjlaa.Bo
/-- A tree in colours, with n black ones on each way; its root is of any colour. -/
def RB : Tr → Nat → Prop
  | .nil, n => n = 0
  | .node true l _ _ r, n => RB l n ∧ RB r n ∧ l.isRed = false ∧ r.isRed = false
  | .node false l _ _ r, n => ∃ m, n = m + 1 ∧ RB l m ∧ RB r m
theorem paint_black (x : Tr) (h : x.isRed = false) : x.paint false = x := by
  cases x with
  | nil => rfl
  | node c l i g r => simp only [Tr.isRed] at h; subst h; rfl
def crd : List Fr → Bool
  | [] => false
  | y :: _ => y.c
/-- What stands around a tree of n black ones on each way. -/
def RBC : List Fr → Nat → Prop
  | [], _ => True
  | y :: cx, n => RB y.o n ∧ (y.c = true → y.o.isRed = false ∧ crd cx = false ∧ cx ≠ [] ∧ RBC cx n) ∧ (y.c = false → RBC cx (n + 1))
/-- A whole red-black tree. -/
def Rbt (x : Tr) : Prop := (∃ n, RB x n) ∧ x.isRed = false
def cpre : List Fr → List G5
  | [] => []
  | y :: cx => cpre cx ++ if y.s then y.o.ino ++ [y.g] else []
def cpost : List Fr → List G5
  | [] => []
  | y :: cx => (if y.s then [] else y.g :: y.o.ino) ++ cpost cx
theorem ino_plug (cx : List Fr) : ∀ x : Tr, (plug cx x).ino = cpre cx ++ x.ino ++ cpost cx := by
  induction cx with
  | nil => intro x; simp [plug, cpre, cpost]
  | cons y cx ih =>
    intro x
    show (plug cx (y.fill x)).ino = _
    rw [ih]
    obtain ⟨s, c, i, g, o⟩ := y
    cases s <;> simp [Fr.fill, Tr.mk, Tr.ino, cpre, cpost]
/-- A node is painted, or has another segment. -/
theorem Rep.turn {t : Rt} {cx : List Fr} {s c c' : Bool} {A B : Tr} {i : Nat} {g g' : G5} (h : Rep t (plug cx (Tr.mk s c A i g B))) (f : Nd → Nd) (hf : ∀ p, f (ndk s g p A.idx B.idx c) = ndk s g' p A.idx B.idx c') : Rep (t.tw i f) (plug cx (Tr.mk s c' A i g' B)) := by
  obtain ⟨h1, h2, h3, h4, h5⟩ := h.parts
  obtain ⟨fi, rA, rB⟩ := (repT_mk ..).1 h2
  obtain ⟨nA, nB, iA, iB, dA⟩ := (Tr.mk_nodup ..).1 h4
  have hat := t.tw_look i f h.ok
  rw [Tr.mk_idx] at h1
  have xi : i ∉ cids cx := h5 i ((Tr.mk_mem ..).2 (.inl rfl))
  refine ⟨t.tw_ok _ _ h.ok, ?_, ?_, ?_, ?_⟩
  · rw [t.tw_root, h.root]
    cases cx with
    | nil => exact (Tr.mk_idx ..).trans (Tr.mk_idx ..).symm
    | cons y cx => exact plug_idx _ _ _ (by simp)
  · rw [hat, rep_plug, Tr.mk_idx]
    refine ⟨repC_congr _ _ (fun k hk => tw_ne _ _ _ (natne fun e => xi (e ▸ hk))) h1, (repT_mk ..).2 ⟨?_, repT_congr _ _ (fun k hk => tw_ne _ _ _ (natne fun e => iA (e ▸ hk))) rA, repT_congr _ _ (fun k hk => tw_ne _ _ _ (natne fun e => iB (e ▸ hk))) rB⟩⟩
    rw [tw_self _ _ _ fi, hf]
  · have hn := h.nd
    simp only [plug_nodup, Tr.mk_nodup, Tr.mk_mem] at hn ⊢
    exact hn
  · intro k hk
    have := h.all k (by rw [← hk]; exact (t.tw_is _ _ _).symm)
    simp only [plug_mem, Tr.mk_mem] at this ⊢
    exact this
end Go.Proofs.Ytjgcdmeojjnjlaa.Bo
/- Mending a red node below a red one. No Go in sight. -/
namespace Go.Proofs.Ytjgcdmeojjnjlaa.Bo
section
variable {t : Rt} {cx : List Fr} {s c : Bool} {A B : Tr} {i : Nat} {g : G5}
theorem Rep.node (h : Rep t (plug cx (Tr.mk s c A i g B))) : t.look i = some (ndk s g (cpi cx) A.idx B.idx c) := ((repT_mk ..).1 h.parts.2.1).1
theorem Rep.is (h : Rep t (plug cx (Tr.mk s c A i g B))) : t.ar.is (i : Int) = true := (t.ar.look_some _ _ h.node).1
theorem Rep.pa (h : Rep t (plug cx (Tr.mk s c A i g B))) : t.pa i = cpi cx := by rw [t.pa_of _ _ h.node, ndk_pa]
theorem Rep.ch (h : Rep t (plug cx (Tr.mk s c A i g B))) : t.ch i s = A.idx := by rw [t.ch_of _ _ _ h.node, ndk_ch]
theorem Rep.setRed (h : Rep t (plug cx (Tr.mk s c A i g B))) (d : Bool) : Rep (t.paint i d) (plug cx (Tr.mk s d A i g B)) := h.turn _ (fun _ => ndk_setRed ..)
end
theorem Rep.red {t : Rt} {cx : List Fr} {x : Tr} (h : Rep t (plug cx x)) : t.red x.idx = x.isRed := by
  cases x with
  | nil => exact t.red_no _ t.ar.look_neg
  | node c l i g r => exact t.red_of _ _ h.parts.2.1.1
/-- What is left in the end: a red-black tree of these segments. -/
def Fin (t : Rt) (L : List G5) : Prop := ∃ x, Rep t x ∧ Rbt x ∧ x.ino = L
/-- Nothing is amiss but that the red node i may have a red parent, or be the root. -/
def RedInv (t : Rt) (i : Int) (L : List G5) (k : Nat) : Prop := ∃ cx x n, Rep t (plug cx x) ∧ i = x.idx ∧ x.isRed = true ∧ RBC cx n ∧ RB x n ∧ (plug cx x).ino = L ∧ cx.length = k
theorem Fin.root {t : Rt} {L : List G5} (h : Fin t L) : Fin (t.paint t.root false) L := by
  obtain ⟨x, h1, ⟨⟨n, h2⟩, h3⟩, h4⟩ := h
  have h5 : Rep (t.paint x.idx false) (plug [] (x.paint false)) := Rep.paint (cx := []) h1 false
  rw [h1.root]
  exact ⟨_, h5, by rw [paint_black x h3]; exact ⟨⟨n, h2⟩, h3⟩, by show (x.paint false).ino = L; rw [x.paint_ino, h4]⟩
theorem RedInv.is {t : Rt} {i : Int} {L : List G5} {k : Nat} (h : RedInv t i L k) : t.ar.is i = true := by
  obtain ⟨cx, x, n, h1, rfl, h3, h4, h5, h6, h7⟩ := h
  obtain ⟨a, j, g, b, rfl⟩ := x.of_red h3 false
  rw [Tr.mk_idx]; exact h1.is
end Go.Proofs.Ytjgcdmeojjnjlaa.Bo
/- A node is hung in, a node is taken out. No Go in sight. -/
namespace Go.Proofs.Ytjgcdmeojjnjlaa.Bo
/-- A tree in an arena in which there may be more. -/
structure RepL (t : Rt) (x : Tr) : Prop where
  root : t.root = x.idx
  rep : RepT t.look x (-1)
theorem Rep.l {t : Rt} {x : Tr} (h : Rep t x) : RepL t x := ⟨h.root, h.rep⟩
end Go.Proofs.Ytjgcdmeojjnjlaa.Bo
/- Ways down a tree, and what its row says: put, delete, the nearest ones. No Go in sight. -/
namespace Go.Proofs.Ytjgcdmeojjnjlaa.Bo
abbrev Ris (l : List G5) : Prop := l.Pairwise (fun a b => a.key < b.key)
end Go.Proofs.Ytjgcdmeojjnjlaa.Bo
/- What the tree's calls say of its row. No Go in sight. -/
namespace Go.Proofs.Ytjgcdmeojjnjlaa.Bo
theorem ris_of (l : List G5) (h : RowOk l) : Ris l := (ris_iff l).1 h.ris
/-- What is told of a node that may not be there. -/
def tl (o : Option Fr) : G5 × Bool := opt (o.map (·.g))
theorem find_at (A B : List G5) (g : G5) (k : Int) (h : RowOk (A ++ g :: B)) (hk : Ky k) (hg : g.key = k) : findG (A ++ g :: B) k = A.length := by
  have hr := ris_of _ h
  unfold findG
  rw [List.findIdx_append]
  have h1 : A.findIdx (fun g => g.is k) = A.length := by
    rw [List.findIdx_eq_length]
    intro a ha
    cases e : a.is k with
    | false => rfl
    | true =>
      have := G5.is_key a k hk e
      simp only [Ris, List.pairwise_append] at hr
      have := hr.2.2 a ha g (by simp)
      omega
  rw [h1, if_neg (by omega), List.findIdx_cons]
  have : g.is k = true := by
    have := g.may_is (h.may g (by simp))
    rw [hg] at this; exact this
  rw [this]; simp
theorem find_none (l : List G5) (k : Int) (hk : Ky k) (h : ∀ g ∈ l, g.key ≠ k) : ¬ findG l k < l.length := by
  intro hf
  exact h _ (List.getElem_mem hf) (findG_key l k hk hf)
theorem insG_cut (s : G5) (A B : List G5) (hA : ∀ g ∈ A, g.key < s.key) (hB : ∀ g ∈ B, s.key < g.key) : insG s (A ++ B) = A ++ s :: B := by
  induction A with
  | nil =>
    cases B with
    | nil => rfl
    | cons b B => show insG s (b :: B) = _; unfold insG; rw [if_pos (hB b (by simp))]; rfl
  | cons a A ih =>
    show insG s (a :: (A ++ B)) = _
    unfold insG
    rw [if_neg (by have := hA a (by simp); omega), ih (fun g hg => hA g (by simp [hg]))]
    rfl
theorem putG_bad (l : List G5) (room : Int) (s : G5) (h : s.may = false) : putG l room s = (l, 1) := by unfold putG; rw [if_pos h]
/-- A segment is taken away. -/
theorem del_at (A B : List G5) (g : G5) (k : Int) (h : RowOk (A ++ g :: B)) (hk : Ky k) (hg : g.key = k) : delG (A ++ g :: B) k = (A ++ B, true) := by
  unfold delG
  rw [find_at A B g k h hk hg, if_pos (by simp)]
  congr 1
  rw [List.take_left, List.drop_append]
  simp
theorem del_none (l : List G5) (k : Int) (hk : Ky k) (h : ∀ g ∈ l, g.key ≠ k) : delG l k = (l, false) := by
  unfold delG; rw [if_neg (find_none l k hk h)]
end Go.Proofs.Ytjgcdmeojjnjlaa.Bo
/- What is asked of a B-tree, what is put and taken away, by its row. No Go in sight. -/
namespace Go.Proofs.Ytjgcdmeojjnjlaa.Bb
open Go.Proofs.Ytjgcdmeojjnjlaa.Bo
/-- A way down in a tree of the row L, to the leaf t. -/
structure Leaf (d : Nat) (f : Int → Option Kn) (n : Nat) (root : Int) (L : List G5) (fits : G5 → Bool) (cx : List BF) (t : Bt) : Prop where
  z : Zo f n root 0 cx t []
  dx : DegX d 0 cx
  dt : if cx = [] then DegR d 0 t else Deg d 0 t
  row : L = aheadR fits (cx, t) ++ behindR fits (cx, t)
  fa : ∀ g ∈ aheadR fits (cx, t), fits g = true
  fb : ∀ g ∈ behindR fits (cx, t), fits g = false
  at_ : ∀ y ∈ cx, y.l.length = fitN fits y.s
  ahead : aheadS (stepsB fits (cx, t)) = (aheadR fits (cx, t)).getLast?
  behind : behindS (stepsB fits (cx, t)) = (behindR fits (cx, t)).head?
theorem Zo.leaf {d : Nat} {f : Int → Option Kn} {n : Nat} {root : Int} {H : Nat} {x : Bt} (z : Zo f n root H [] x []) (hr : DegR d H x) (fits : G5 → Bool) (hm : Mono fits (Bt.ino H x)) :
    Leaf d f n root (Bt.ino H x) fits (dnB fits H x []).1 (dnB fits H x []).2 := by
  have w : WayB f fits H x (dnB fits H x []) := dnB_way fits H x H x [] rfl (by simp) trivial z.tree hm (fun g hg => by simp [bpre] at hg) (fun g hg => by simp [bpost] at hg) (fun y hy => by simp at hy)
  have h1 := w.aheadS
  have h2 := w.behindS
  have h3 := w.row
  have h4 := w.fitsA
  have h5 := w.fitsB hm
  obtain ⟨w1, w2, w3, w4, w5, w6, w7⟩ := w
  generalize dnB fits H x [] = w at *
  obtain ⟨cx, t⟩ := w
  dsimp only at *
  have e : 0 + cx.length = H := by omega
  have z' : Zo f n root (0 + cx.length) [] (bplug cx t) [] := by rw [e, w1]; exact z
  have z2 := Zo.unplug cx [] 0 t z'
  rw [List.append_nil] at z2
  have hd : DegR d (0 + cx.length) (bplug cx t) := by rw [e, w1]; exact hr
  obtain ⟨d1, d2⟩ := (deg_plug d cx 0 t).1 hd
  exact ⟨z2, d1, d2, h3, h4, h5, w7, h1, h2⟩
section
variable {d : Nat} {f : Int → Option Kn} {n : Nat} {root : Int} {L : List G5} {fits : G5 → Bool} {cx : List BF} {t : Bt}
theorem Leaf.filter (l : Leaf d f n root L fits cx t) : L.filter fits = aheadR fits (cx, t) ∧ L.filter (fun g => !fits g) = behindR fits (cx, t) := by
  rw [l.row, List.filter_append, List.filter_append, List.filter_eq_self.2 l.fa, List.filter_eq_nil_iff.2 (fun g hg => by rw [l.fb g hg]; simp), List.filter_eq_nil_iff.2 (fun g hg => by rw [l.fa g hg]; simp), List.filter_eq_self.2 (fun g hg => by rw [l.fb g hg]; rfl)]
  simp
/-- The one of a key: the first behind the way. -/
def foundS (k : Int) (w : List (List G5 × Nat)) : Option G5 := match behindS w with
  | some g => if g.key = k then some g else none
  | none => none
theorem Leaf.got {k : Int} (l : Leaf d f n root L (fun g => decide (g.key < k)) cx t) (hR : RowOk L) :
    (∀ g, foundS k (stepsB (fun g => decide (g.key < k)) (cx, t)) = some g → ∃ B, behindR (fun g => decide (g.key < k)) (cx, t) = g :: B ∧ g.key = k) ∧
    (foundS k (stepsB (fun g => decide (g.key < k)) (cx, t)) = none → ∀ g ∈ L, g.key ≠ k) := by
  have hb := l.behind
  have hrow := l.row
  have hfa := l.fa
  unfold foundS
  rw [hb]
  cases hB : behindR (fun g => decide (g.key < k)) (cx, t) with
  | nil =>
    refine ⟨fun g h => by simp at h, fun _ g hg e => ?_⟩
    rw [hrow, hB, List.append_nil] at hg
    have := hfa g hg
    simp at this; omega
  | cons b B =>
    simp only [List.head?]
    refine ⟨fun g h => ?_, fun h g hg e => ?_⟩
    · split at h
      · rename_i e; injection h with h; subst h; exact ⟨B, rfl, e⟩
      · cases h
    · split at h
      · cases h
      · rename_i e2
        rw [hrow, hB] at hg hR
        rcases List.mem_append.1 hg with hg | hg
        · have := hfa g hg
          simp at this; omega
        · have hb2 := l.fb b (by rw [hB]; simp)
          simp at hb2
          rcases List.mem_cons.1 hg with rfl | hg
          · exact e2 e
          · have hp := ((ris_iff _).1 hR.ris)
            rw [List.pairwise_append] at hp
            have := (List.pairwise_cons.1 hp.2.1).1 g hg
            omega
end
/-- A new segment is laid into a leaf: where the row takes it. -/
theorem Leaf.over {d : Nat} {f : Int → Option Kn} {n : Nat} {root : Int} {L : List G5} {fits : G5 → Bool} {cx : List BF} {t : Bt} (l : Leaf d f n root L fits cx t) (s : G5) :
    Over d (updK f (t.i : Int) (some ⟨insL t.s (fitN fits t.s) s, []⟩)) n root (aheadR fits (cx, t) ++ s :: behindR fits (cx, t)) 0 cx (.mk t.i (insL t.s (fitN fits t.s) s) []) := by
  have := over_leaf l.z l.dx l.dt (fitN fits t.s) (fitN_le fits t.s) s
  have e : bpre 0 cx ++ (insL t.s (fitN fits t.s) s ++ bpost 0 cx) = aheadR fits (cx, t) ++ s :: behindR fits (cx, t) := by
    unfold aheadR behindR insL
    simp
  rw [e] at this
  exact this
end Go.Proofs.Ytjgcdmeojjnjlaa.Bb
/- A segment is put where one of its key is; a segment is taken out. No Go in sight. -/
namespace Go.Proofs.Ytjgcdmeojjnjlaa.Bb
open Go.Proofs.Ytjgcdmeojjnjlaa.Bo
theorem bpre_append (c1 c2 : List BF) : ∀ h, bpre h (c1 ++ c2) = bpre (h + c1.length) c2 ++ bpre h c1 := by
  induction c1 with
  | nil => intro h; simp [bpre]
  | cons y c1 ih =>
    intro h
    rw [List.cons_append]
    simp only [bpre]
    rw [ih (h + 1), hsucc h y c1, List.append_assoc]
theorem bpost_append (c1 c2 : List BF) : ∀ h, bpost h (c1 ++ c2) = bpost h c1 ++ bpost (h + c1.length) c2 := by
  induction c1 with
  | nil => intro h; simp [bpost]
  | cons y c1 ih =>
    intro h
    rw [List.cons_append]
    simp only [bpost]
    rw [ih (h + 1), hsucc h y c1, List.append_assoc]
theorem bpost_full (c1 : List BF) : ∀ h, (∀ z ∈ c1, z.l.length = z.s.length) → bpost h c1 = [] := by
  induction c1 with
  | nil => intro h _; rfl
  | cons y c1 ih =>
    intro h hz
    simp only [bpost]
    rw [ih _ (fun z hm => hz z (List.mem_cons_of_mem _ hm)), hz y (List.mem_cons_self ..), List.drop_length]
    rfl
theorem degX_frame (d : Nat) (c1 c2 : List BF) (y : BF) (q : List G5) (hq : q.length = y.s.length) : ∀ h, DegX d h (c1 ++ y :: c2) → DegX d h (c1 ++ ⟨y.i, q, y.l, y.r⟩ :: c2) := by
  induction c1 with
  | nil =>
    rintro h ⟨h1, h2, h3, h4⟩
    refine ⟨h1, ?_, ?_, h4⟩
    · show q.length + 1 ≤ 2 * d
      rw [hq]; exact h2
    · show (if c2 = [] then 1 ≤ q.length else d ≤ q.length + 1)
      rw [hq]; exact h3
  | cons z c1 ih =>
    rintro h ⟨h1, h2, h3, h4⟩
    refine ⟨h1, h2, ?_, ih (h + 1) h4⟩
    have e : c1 ++ y :: c2 ≠ [] := by simp
    have e' : c1 ++ ⟨y.i, q, y.l, y.r⟩ :: c2 ≠ [] := by simp
    have h3' : (if c1 ++ y :: c2 = [] then 1 ≤ z.s.length else d ≤ z.s.length + 1) := h3
    rw [if_neg e] at h3'
    show (if c1 ++ ⟨y.i, q, y.l, y.r⟩ :: c2 = [] then 1 ≤ z.s.length else d ≤ z.s.length + 1)
    rw [if_neg e']; exact h3'
theorem set_cut {α : Type} (l : List α) (a : Nat) (s : α) (h : a < l.length) : l.set a s = l.take a ++ s :: l.drop (a + 1) := by
  rw [List.set_eq_take_append_cons_drop, if_pos h]
section
variable {d : Nat} {f : Int → Option Kn} {n : Nat} {root : Int} {L : List G5} {fits : G5 → Bool} {cx : List BF} {t : Bt}
theorem Leaf.lens (l : Leaf d f n root L fits cx t) : t.s.length + 1 ≤ 2 * d ∧ (if cx = [] then 1 ≤ t.s.length else d ≤ t.s.length + 1) ∧ t.ks = [] := by
  have h := l.dt
  refine ⟨?_, ?_, l.z.tree.2⟩
  · split at h
    · exact h.2
    · exact h.2
  · split at h
    · rename_i e; rw [if_pos e]; exact h.1
    · rename_i e; rw [if_neg e]; exact h.1
theorem Leaf.asMk (l : Leaf d f n root L fits cx t) : Zo f n root 0 cx (.mk t.i t.s []) [] := by
  have e : t = .mk t.i t.s [] := (Bt.eta t).symm.trans (by rw [l.lens.2.2])
  rw [← e]; exact l.z
/-- It stands in the leaf. -/
theorem Leaf.setLeaf (l : Leaf d f n root L fits cx t) (g s : G5) (B : List G5) (hb : behindR fits (cx, t) = g :: B) (ha : fitN fits t.s < t.s.length) :
    TreeAt d (updK f (t.i : Int) (some ⟨t.s.set (fitN fits t.s) s, []⟩)) n root (aheadR fits (cx, t) ++ s :: B) := by
  obtain ⟨h1, h2, _⟩ := l.lens
  have z := l.asMk.segs (t.s.set (fitN fits t.s) s) (.inl rfl)
  refine Over.done (h := 0) (cx := cx) (t := .mk t.i (t.s.set (fitN fits t.s) s) []) ⟨z, l.dx, ?_, ?_, trivial, ?_⟩ ?_
  · show (t.s.set _ s).length ≤ _
    rw [List.length_set]; omega
  · show (if cx = [] then 1 ≤ (t.s.set _ s).length else d ≤ (t.s.set _ s).length + 1)
    rw [List.length_set]; exact h2
  · have hB : t.s.drop (fitN fits t.s + 1) ++ bpost 0 cx = B := by
      unfold behindR at hb
      rw [List.drop_eq_getElem_cons ha] at hb
      injection hb
    show bpre 0 cx ++ (t.s.set _ s ++ bpost 0 cx) = _
    rw [set_cut _ _ _ ha, ← hB]
    unfold aheadR
    simp
  · show (t.s.set _ s).length < _
    rw [List.length_set]; omega
/-- It stands in a frame: what is told of such a frame. -/
theorem Leaf.frame (l : Leaf d f n root L fits cx t) (g s : G5) (B : List G5) (hb : behindR fits (cx, t) = g :: B) (ha : fitN fits t.s = t.s.length) (c1 c2 : List BF) (y : BF) (hc : cx = c1 ++ y :: c2) (hf : ∀ z ∈ c1, z.l.length = z.s.length) (hy : y.l.length < y.s.length) :
    f (y.i : Int) = some ⟨y.s, (y.l ++ bplug c1 t :: y.r).map Bt.idx⟩ ∧ Zo (updK f (y.i : Int) (some ⟨y.s.set y.l.length s, (y.l ++ bplug c1 t :: y.r).map Bt.idx⟩)) n root 0 (c1 ++ ⟨y.i, y.s.set y.l.length s, y.l, y.r⟩ :: c2) t [] ∧
      DegX d 0 (c1 ++ ⟨y.i, y.s.set y.l.length s, y.l, y.r⟩ :: c2) ∧ bpre 0 (c1 ++ ⟨y.i, y.s.set y.l.length s, y.l, y.r⟩ :: c2) = bpre 0 cx ∧ bpost 0 (c1 ++ ⟨y.i, y.s.set y.l.length s, y.l, y.r⟩ :: c2) = s :: B := by
  subst hc
  have hq : (y.s.set y.l.length s).length = y.s.length := List.length_set ..
  have z1 := l.z.plug c1 (y :: c2) 0 t
  have hn : f (y.i : Int) = some ⟨y.s, (y.l ++ bplug c1 t :: y.r).map Bt.idx⟩ := by
    rw [z1.ctx.1]; simp
  have hok := z1.ctx.2.1
  unfold BF.ok at hok
  refine ⟨hn, l.z.frame _ hq, degX_frame d c1 c2 y _ hq 0 l.dx, ?_, ?_⟩
  · rw [bpre_append, bpre_append]
    simp only [bpre]
    rw [set_cut _ _ _ hy, List.take_append_of_le_length (by simp; omega), List.take_take, Nat.min_self]
  · have hB : behindR fits (c1 ++ y :: c2, t) = bpost 0 (c1 ++ y :: c2) := by
      unfold behindR
      rw [List.drop_eq_nil_of_le (by show t.s.length ≤ fitN fits t.s; omega), List.nil_append]
    rw [hB, bpost_append, bpost_full c1 0 hf, List.nil_append] at hb
    rw [bpost_append, bpost_full c1 0 hf, List.nil_append]
    simp only [bpost] at hb ⊢
    have e2 : (y.s.set y.l.length s).drop y.l.length = s :: y.s.drop (y.l.length + 1) := by
      rw [set_cut _ _ _ hy, List.drop_append_of_le_length (by simp; omega)]
      simp
    rw [e2]
    rw [List.drop_eq_getElem_cons hy] at hb
    cases hr : y.r with
    | nil => rw [hr] at hok; simp at hok; omega
    | cons k r =>
      rw [hr] at hb
      simp only [List.map_cons, wr, List.cons_append] at hb ⊢
      injection hb with h1 h2
      rw [h2]
theorem Leaf.setFrame (l : Leaf d f n root L fits cx t) (g s : G5) (B : List G5) (hb : behindR fits (cx, t) = g :: B) (ha : fitN fits t.s = t.s.length) (c1 c2 : List BF) (y : BF) (hc : cx = c1 ++ y :: c2) (hf : ∀ z ∈ c1, z.l.length = z.s.length) (hy : y.l.length < y.s.length) :
    TreeAt d (updK f (y.i : Int) (some ⟨y.s.set y.l.length s, (y.l ++ bplug c1 t :: y.r).map Bt.idx⟩)) n root (aheadR fits (cx, t) ++ s :: B) := by
  obtain ⟨_, h2, h3, h4, h5⟩ := l.frame g s B hb ha c1 c2 y hc hf hy
  obtain ⟨k1, k2, k3⟩ := l.lens
  have hne : cx ≠ [] := by rw [hc]; simp
  rw [if_neg hne] at k2
  refine Over.done ⟨h2, h3, by omega, by rw [if_neg (by simp)]; exact k2, trivial, ?_⟩ (by omega)
  rw [h4, h5]
  unfold aheadR
  rw [ha, List.take_length]
  simp [Bt.ino]
theorem erase_cut {α : Type} (l : List α) (a : Nat) : l.eraseIdx a = l.take a ++ l.drop (a + 1) := List.eraseIdx_eq_take_drop_succ ..
/-- It is taken out of the leaf. -/
theorem Leaf.delLeaf (l : Leaf d f n root L fits cx t) (g : G5) (B : List G5) (hb : behindR fits (cx, t) = g :: B) (ha : fitN fits t.s < t.s.length) :
    Short d (updK f (t.i : Int) (some ⟨t.s.eraseIdx (fitN fits t.s), []⟩)) n root (aheadR fits (cx, t) ++ B) 0 cx (.mk t.i (t.s.eraseIdx (fitN fits t.s)) []) := by
  obtain ⟨h1, h2, _⟩ := l.lens
  have hl : (t.s.eraseIdx (fitN fits t.s)).length = t.s.length - 1 := List.length_eraseIdx_of_lt ha
  have z := l.asMk.segs (t.s.eraseIdx (fitN fits t.s)) (.inl rfl)
  refine ⟨z, l.dx, ?_, ?_, trivial, ?_⟩
  · show (t.s.eraseIdx _).length + 1 ≤ _
    omega
  · show (if cx = [] then True else d ≤ (t.s.eraseIdx _).length + 2)
    by_cases e : cx = []
    · rw [if_pos e]; trivial
    · rw [if_neg e] at h2 ⊢; omega
  · have hB : t.s.drop (fitN fits t.s + 1) ++ bpost 0 cx = B := by
      unfold behindR at hb
      rw [List.drop_eq_getElem_cons ha] at hb
      injection hb
    show bpre 0 cx ++ (t.s.eraseIdx _ ++ bpost 0 cx) = _
    rw [erase_cut, ← hB]
    unfold aheadR
    simp
/-- It is taken out of a frame: the one just ahead of it takes its place. -/
theorem Leaf.delFrame (l : Leaf d f n root L fits cx t) (hd : 2 ≤ d) (g m : G5) (B : List G5) (hb : behindR fits (cx, t) = g :: B) (ha : fitN fits t.s = t.s.length) (c1 c2 : List BF) (y : BF) (hc : cx = c1 ++ y :: c2) (hf : ∀ z ∈ c1, z.l.length = z.s.length) (hy : y.l.length < y.s.length)
    (hm : t.s[t.s.length - 1]? = some m) :
    0 < t.s.length ∧ y.i ≠ t.i ∧ Short d (updK (updK f (y.i : Int) (some ⟨y.s.set y.l.length m, (y.l ++ bplug c1 t :: y.r).map Bt.idx⟩)) (t.i : Int) (some ⟨t.s.eraseIdx (t.s.length - 1), []⟩)) n root (aheadR fits (cx, t) ++ B) 0 (c1 ++ ⟨y.i, y.s.set y.l.length m, y.l, y.r⟩ :: c2) (.mk t.i (t.s.eraseIdx (t.s.length - 1)) []) := by
  obtain ⟨_, h2, h3, h4, h5⟩ := l.frame g m B hb ha c1 c2 y hc hf hy
  obtain ⟨k1, k2, k3⟩ := l.lens
  have hne : cx ≠ [] := by rw [hc]; simp
  rw [if_neg hne] at k2
  have hpos : 0 < t.s.length := by omega
  have hl : (t.s.eraseIdx (t.s.length - 1)).length = t.s.length - 1 := List.length_eraseIdx_of_lt (by omega)
  have e0 : t = .mk t.i t.s [] := (Bt.eta t).symm.trans (by rw [k3])
  have h2' : Zo (updK f (y.i : Int) (some ⟨y.s.set y.l.length m, (y.l ++ bplug c1 t :: y.r).map Bt.idx⟩)) n root 0 (c1 ++ ⟨y.i, y.s.set y.l.length m, y.l, y.r⟩ :: c2) (.mk t.i t.s []) [] := by rw [← e0]; exact h2
  have z := h2'.segs (t.s.eraseIdx (t.s.length - 1)) (.inl rfl)
  have hyt : y.i ≠ t.i := by
    intro e
    have hnd := l.z.nd
    rw [hc, List.nodup_append] at hnd
    refine hnd.2.2 y.i ?_ t.i (List.mem_append.2 (.inl (Bt.i_mem 0 t))) e
    have key : ∀ (c1 : List BF) (h : Nat), y.i ∈ bcids h (c1 ++ y :: c2) := by
      intro c1
      induction c1 with
      | nil => intro h; simp [bcids]
      | cons w c1 ih => intro h; simp only [List.cons_append, bcids, List.mem_cons, List.mem_append]; exact .inr (.inr (ih (h + 1)))
    exact key c1 0
  refine ⟨hpos, hyt, z, h3, ?_, ?_, trivial, ?_⟩
  · show (t.s.eraseIdx _).length + 1 ≤ _
    omega
  · show (if _ = [] then True else d ≤ (t.s.eraseIdx _).length + 2)
    rw [if_neg (by simp)]; omega
  · show bpre 0 _ ++ (t.s.eraseIdx (t.s.length - 1) ++ bpost 0 _) = _
    rw [h4, h5, erase_cut]
    unfold aheadR
    rw [ha, List.take_length]
    have e1 : t.s.drop (t.s.length - 1 + 1) = [] := List.drop_eq_nil_of_le (by omega)
    have e2 : t.s = t.s.take (t.s.length - 1) ++ [m] := by
      have hlt : t.s.length - 1 < t.s.length := by omega
      rw [List.getElem?_eq_getElem hlt] at hm
      injection hm with hm
      have := List.take_append_drop (t.s.length - 1) t.s
      rw [List.drop_eq_getElem_cons hlt, e1, hm] at this
      exact this.symm
    rw [e1, List.append_nil]
    show bpre 0 cx ++ (t.s.take (t.s.length - 1) ++ m :: B) = bpre 0 cx ++ t.s ++ B
    conv => rhs; rw [e2]
    simp
end
end Go.Proofs.Ytjgcdmeojjnjlaa.Bb
/- The B-tree in memory: an arena of nodes, each with two rows of its own. -/
namespace Go.Proofs.Ytjgcdmeojjnjlaa
open Go.RowKit Go.Sort Go.Proofs.Ytjgcdmeojjnjlaa.Bo Go.Proofs.Ytjgcdmeojjnjlaa.Bb
set_option linter.unusedVariables false
abbrev SV.v (x : SV) : Value := .slice x.a x.n x.c
/-- The blocks of a node's rows. -/
def rowB (r : Rn) (b : Nat) : Prop := r.s.v.ownBlock = some b ∨ r.k.v.ownBlock = some b
/-- How a node's rows lie. -/
structure NdAt (w : World) (base : Nat) (r : Rn) (n : Kn) : Prop where
  s : w.ownsRow base 38 5 r.s.v n.segs.length (flatG n.segs)
  k : w.ownsRow base 3 1 r.k.v n.kids.length (n.kids.map nv)
theorem NdAt.kp {U : Nat → Prop} {w w' : World} {base : Nat} {r : Rn} {n : Kn} (h : NdAt w base r n) (hk : Kp U w w') (hn : ∀ b, rowB r b → ¬ U b) : NdAt w' base r n :=
  ⟨own_kp h.s hk (fun b hb => hn b (.inl hb)), own_kp h.k hk (fun b hb => hn b (.inr hb))⟩
theorem NdAt.lt {w : World} {base : Nat} {r : Rn} {n : Kn} (h : NdAt w base r n) (b : Nat) (hb : rowB r b) : base ≤ b ∧ b < w.heap.size := by
  rcases hb with hb | hb
  · exact h.s.lt b hb
  · exact h.k.lt b hb
theorem NdAt.type {w : World} {base : Nat} {r : Rn} {n : Kn} (h : NdAt w base r n) (b : Nat) (hb : rowB r b) : ∃ cur, w.heap[b]? = some (.cells cur 38 (0, 0)) ∨ w.heap[b]? = some (.cells cur 3 (0, 0)) := by
  rcases hb with hb | hb
  · obtain ⟨cur, h1⟩ := own_type h.s hb; exact ⟨cur, .inl h1⟩
  · obtain ⟨cur, h1⟩ := own_type h.k hb; exact ⟨cur, .inr h1⟩
/-- What the tree is, without its memory: the degree, the root's place, how many, the room, how many nodes, what is in each place. -/
structure Bx where
  d : Int
  root : Int
  many : Int
  room : Int
  n : Nat
  f : Int → Option Kn
abbrev bO (A : Nat) (t : Bx) : Obj := .cells #[.int .i64 t.d, aP A, .int .i64 t.root, .int .i64 t.many] 82 (0, 0)
structure BtW (w : World) (base T A : Nat) (t : Bx) (a : Ag Rn) (S0 : Nat → Prop) : Prop where
  top : w.heap[T]? = some (bO A t)
  le : base ≤ T
  ar : bnIs w base A a S0
  ok : a.ok
  room : a.room = t.room
  len : a.len = (t.n : Int)
  is : ∀ i : Int, a.is i = true ↔ t.f i ≠ none
  node : ∀ (p : Nat) (n : Kn), t.f (p : Int) = some n → NdAt w base (a.l.getD p bnZ) n
  apart : ∀ p q : Nat, t.f (p : Int) ≠ none → t.f (q : Int) ≠ none → p ≠ q → ∀ b, rowB (a.l.getD p bnZ) b → ¬ rowB (a.l.getD q bnZ) b
  far : ∀ p : Nat, t.f (p : Int) ≠ none → ∀ b, rowB (a.l.getD p bnZ) b → ¬ S0 b
/-- The blocks of a tree. -/
def btS (T : Nat) (t : Bx) (a : Ag Rn) (S0 : Nat → Prop) : Nat → Prop := fun b => b = T ∨ S0 b ∨ ∃ p : Nat, t.f (p : Int) ≠ none ∧ rowB (a.l.getD p bnZ) b
def BtIs (w : World) (base T A : Nat) (t : Bx) (S : Nat → Prop) : Prop := ∃ a S0, S = btS T t a S0 ∧ BtW w base T A t a S0
section
variable {w w' w0 : World} {base T A : Nat} {t : Bx} {a : Ag Rn} {S0 S : Nat → Prop}
theorem BtW.isn (h : BtW w base T A t a S0) (p : Nat) (hp : t.f (p : Int) ≠ none) : ∃ n, t.f (p : Int) = some n ∧ NdAt w base (a.l.getD p bnZ) n := by
  obtain ⟨n, hn⟩ := Option.ne_none_iff_exists'.1 hp
  exact ⟨n, hn, h.node p n hn⟩
theorem BtW.notT (h : BtW w base T A t a S0) : ¬ S0 T := by
  intro hs
  have := h.ar.type T hs h.top
  revert this
  decide
theorem BtW.rowT (h : BtW w base T A t a S0) (p : Nat) (hp : t.f (p : Int) ≠ none) : ¬ rowB (a.l.getD p bnZ) T := by
  intro hb
  obtain ⟨n, _, hn⟩ := h.isn p hp
  obtain ⟨cur, h1 | h1⟩ := hn.type T hb
  · rw [h.top] at h1; revert h1; simp
  · rw [h.top] at h1; revert h1; simp
theorem BtW.kp {U : Nat → Prop} (h : BtW w base T A t a S0) (hk : Kp U w w') (hn : ∀ b, btS T t a S0 b → ¬ U b) : BtW w' base T A t a S0 :=
  { top := hk.at h.top (hn T (.inl rfl)), le := h.le, ar := h.ar.kp hk (fun b hb => hn b (.inr (.inl hb))), ok := h.ok, room := h.room, len := h.len, is := h.is,
    node := fun p n hp => (h.node p n hp).kp hk (fun b hb => hn b (.inr (.inr ⟨p, by rw [hp]; simp, hb⟩))), apart := h.apart, far := h.far }
theorem BtIs.kp {U : Nat → Prop} (h : BtIs w base T A t S) (hk : Kp U w w') (hn : ∀ b, S b → ¬ U b) : BtIs w' base T A t S := by
  obtain ⟨a, S0, rfl, h1⟩ := h
  exact ⟨a, S0, rfl, h1.kp hk hn⟩
theorem BtIs.below (h : BtIs w base T A t S) (hb : Go.RowKit.Below w.heap.size w w') : BtIs w' base T A t S := h.kp (U := fun _ => False) (Kp.of_below _ hb) (fun _ _ => id)
theorem BtIs.lt (h : BtIs w base T A t S) : ∀ b, S b → base ≤ b ∧ b < w.heap.size := by
  obtain ⟨a, S0, rfl, h1⟩ := h
  rintro b (rfl | hb | ⟨p, hp, hb⟩)
  · exact ⟨h1.le, lt_of_block h1.top⟩
  · exact h1.ar.lt b hb
  · obtain ⟨n, _, hn⟩ := h1.isn p hp
    exact hn.lt b hb
theorem BtIs.base_le (h : BtIs w base T A t S) : base ≤ w.heap.size := by
  obtain ⟨a, S0, rfl, h1⟩ := h
  exact h1.ar.base_le
/-- The state w0 turned to: the tree is t, all that was not its own is as it was. -/
def BtAt (w0 : World) (S : Nat → Prop) (base T A : Nat) (t : Bx) (w : World) : Prop := ∃ S1, BtIs w base T A t S1 ∧ Kp S w0 w ∧ ∀ b, S1 b → S b ∨ w0.heap.size ≤ b
theorem BtAt.below (h : BtAt w0 S base T A t w) (hb : Go.RowKit.Below w.heap.size w w') : BtAt w0 S base T A t w' := by
  obtain ⟨S1, h1, h2, h3⟩ := h
  exact ⟨S1, h1.below hb, h2.trans (Kp.of_below S hb) (fun _ _ h => h), h3⟩
theorem BtAt.step {t' : Bx} {S1 S2 : Nat → Prop} (h1 : BtIs w base T A t S1) (h2 : Kp S w0 w) (h3 : ∀ b, S1 b → S b ∨ w0.heap.size ≤ b) (k1 : BtIs w' base T A t' S2) (k2 : Kp S1 w w') (k3 : ∀ b, S2 b → S1 b ∨ w.heap.size ≤ b) : BtAt w0 S base T A t' w' := by
  refine ⟨S2, k1, h2.trans k2 (fun n hn hs => (h3 n hs).resolve_right (by omega)), fun b hb => ?_⟩
  rcases k3 b hb with h | h
  · exact h3 b h
  · exact .inr (by have := h2.size; omega)
/-- Where the arena's places lie. -/
def PlG (w : World) (A g : Nat) : Prop := ∃ n c, w.cell? ⟨A, 1, none⟩ = some (.slice (some ⟨g, 0, none⟩) n c)
theorem PlG.uniq {g g' : Nat} (h : PlG w A g) (k : PlG w A g') : g = g' := by
  obtain ⟨n, c, h⟩ := h
  obtain ⟨n', c', k⟩ := k
  rw [h] at k
  injection k with k
  injection k with k _ _
  injection k with k
  injection k with k _ _
/-- One node's row is another one: what was laid is the row's own or new, then the slice goes into its cell. -/
theorem BtW.turnRow (h : BtW w base T A t a S0) (p : Nat) (n : Kn) (hp : t.f (p : Int) = some n) :
    ∃ g, S0 g ∧ (∀ W, Go.RowKit.Below w.heap.size w W → Calls Try.prog 50 #[aP A, .int .i64 (p : Int)] W fun e w' => e = .returned (.pointer (some ⟨g, p * 3, none⟩)) ∧ W = w') ∧
      w.cell? ⟨g, p * 3, none⟩ = some (a.l.getD p bnZ).s.v ∧ w.cell? ⟨g, p * 3 + 1, none⟩ = some (a.l.getD p bnZ).k.v ∧ (∀ j, w.frozen? ⟨g, j, none⟩ = false) ∧
      (∀ (w1 : World) (j : Nat) (u : Value) (r' : Rn) (n' : Kn), j < 2 → (bnE.e (a.l.getD p bnZ)).set j u = bnE.e r' → Kp (rowB (a.l.getD p bnZ)) w w1 → NdAt w1 base r' n' → (∀ b, rowB r' b → rowB (a.l.getD p bnZ) b ∨ w.heap.size ≤ b) →
        BtW (w1.setCell ⟨g, p * 3 + j, none⟩ u) base T A { t with f := updK t.f (p : Int) (some n') } (a.set p r') S0 ∧ Kp (btS T t a S0) w (w1.setCell ⟨g, p * 3 + j, none⟩ u) ∧
        ∀ b, btS T { t with f := updK t.f (p : Int) (some n') } (a.set p r') S0 b → btS T t a S0 b ∨ w.heap.size ≤ b) ∧
      PlG w A g ∧ g ≠ A ∧ S0 A ∧ ∃ cur, w.heap[g]? = some (.cells cur 120 (0, 0)) := by
  have hi : a.is (p : Int) = true := (h.is _).2 (by rw [hp]; simp)
  have hne : t.f (p : Int) ≠ none := by rw [hp]; simp
  obtain ⟨pv, fv, hS, h1⟩ := h.ar
  have hl := a.lens h.ok
  have h3 : p < a.l.length := by have := (a.is_in p h.ok hi).2.2.1; rwa [Int.toNat_natCast] at this
  have hn : p < (a.ps bnZ).length := by rw [a.ps_len]; exact h3
  have hy := ag_ps_yes bnZ a p hn hi
  obtain ⟨g, cap, e1, hgA, hat, hfz⟩ := h1.at p hn
  rw [hy] at hat
  have far : ∀ b, S0 b → ¬ rowB (a.l.getD p bnZ) b := fun b hb hr => h.far p hne b hr hb
  have hSg : S0 g := by rw [hS]; exact .inr (.inl (by rw [e1]; rfl))
  have hpl : PlG w A g := by
    have q : w.cell? ⟨A, 1, none⟩ = some pv := (cell_of_row _ _ 1 _ _ _ h1.box).trans rfl
    rw [e1] at q
    exact ⟨_, _, q⟩
  have hSA : S0 A := by rw [hS]; exact .inl rfl
  have hgt : ∃ cur, w.heap[g]? = some (.cells cur 120 (0, 0)) := own_type h1.prow (by rw [e1]; rfl)
  refine ⟨g, hSg, fun W hb => bnat_yes (h1.below hb) (by rw [a.ps_len]; omega) p g cap hn (by rw [hy]) e1, hat 0 _ rfl, hat 1 _ rfl, hfz, fun w1 j u r' n' hj hu hk hnd hnew => ?_, hpl, hgA, hSA, hgt⟩
  have h2 := h1.kp hk (fun b hb => far b (by rw [hS]; exact hb))
  subst e1
  obtain ⟨z1, z2⟩ := h2.put2 p j u r' hn (by rw [hy]) hj (by rw [hy]; exact hu)
  rw [a.ps_set bnZ p r' h.ok hi] at z1
  rw [← hS] at z2
  have hgd : ∀ q : Nat, (a.set p r').l.getD q bnZ = if q = p then r' else a.l.getD q bnZ := by
    intro q
    show (a.l.set p r').getD q bnZ = _
    rw [List.getD_eq_getElem?_getD, List.getD_eq_getElem?_getD, List.getElem?_set]
    by_cases hq : q = p
    · subst hq; simp [h3]
    · rw [if_neg hq, if_neg (fun e => hq e.symm)]
  have hff : ∀ q : Nat, updK t.f (p : Int) (some n') (q : Int) ≠ none ↔ t.f (q : Int) ≠ none := by
    intro q
    unfold updK
    by_cases hq : (q : Int) = p
    · rw [if_pos hq, hq]; simp [hne]
    · rw [if_neg hq]
  have hnd2 : ∀ b, rowB r' b → ¬ S0 b := fun b hb hs => by
    rcases hnew b hb with h5 | h5
    · exact far b hs h5
    · have := h.ar.lt b hs; omega
  have hlt : ∀ q : Nat, t.f (q : Int) ≠ none → ∀ b, rowB (a.l.getD q bnZ) b → b < w.heap.size := fun q hq b hb => by
    obtain ⟨m, _, hm⟩ := h.isn q hq
    exact (hm.lt b hb).2
  refine ⟨{ top := z2.at (hk.at h.top (h.rowT p hne)) h.notT, le := h.le, ar := ⟨_, fv, hS, z1⟩, ok := a.set_ok p r' h.ok, room := h.room, len := h.len, is := ?_, node := ?_, apart := ?_, far := ?_ }, ?_, ?_⟩
  · intro i
    refine (h.is i).trans ?_
    show t.f i ≠ none ↔ updK t.f (p : Int) (some n') i ≠ none
    unfold updK
    by_cases hq : i = p
    · rw [if_pos hq, hq]; simp [hne]
    · rw [if_neg hq]
  · intro q n1 hq
    rw [hgd]
    by_cases hqp : q = p
    · subst hqp
      rw [if_pos rfl]
      have e2 : n' = n1 := by
        have : updK t.f (q : Int) (some n') (q : Int) = some n1 := hq
        unfold updK at this
        rw [if_pos rfl] at this
        exact Option.some.inj this
      subst e2
      exact hnd.kp z2 hnd2
    · rw [if_neg hqp]
      have e2 : t.f (q : Int) = some n1 := by
        have : updK t.f (p : Int) (some n') (q : Int) = some n1 := hq
        unfold updK at this
        rwa [if_neg (by omega)] at this
      have hq' : t.f (q : Int) ≠ none := by rw [e2]; simp
      exact ((h.node q n1 e2).kp hk (h.apart q p hq' hne hqp)).kp z2 (h.far q hq')
  · intro q1 q2 h1' h2' hne' b hb
    rw [hgd] at hb ⊢
    have k1 := (hff q1).1 h1'
    have k2 := (hff q2).1 h2'
    by_cases hq1 : q1 = p
    · subst hq1
      rw [if_pos rfl] at hb
      rw [if_neg (fun e => hne' e.symm)]
      rcases hnew b hb with h5 | h5
      · exact h.apart q1 q2 hne k2 hne' b h5
      · exact fun h6 => by have := hlt q2 k2 b h6; omega
    · rw [if_neg hq1] at hb
      by_cases hq2 : q2 = p
      · subst hq2
        rw [if_pos rfl]
        intro h6
        rcases hnew b h6 with h5 | h5
        · exact h.apart q1 q2 k1 hne hne' b hb h5
        · have := hlt q1 k1 b hb; omega
      · rw [if_neg hq2]
        exact h.apart q1 q2 k1 k2 hne' b hb
  · intro q hq b hb
    rw [hgd] at hb
    by_cases hqp : q = p
    · rw [if_pos hqp] at hb; exact hnd2 b hb
    · rw [if_neg hqp] at hb
      exact h.far q ((hff q).1 hq) b hb
  · exact (hk.mono (fun b hb => .inr (.inr ⟨p, hne, hb⟩))).trans z2 (fun b _ hb => .inr (.inl hb))
  · rintro b (rfl | hb | ⟨q, hq, hb⟩)
    · exact .inl (.inl rfl)
    · exact .inl (.inr (.inl hb))
    · rw [hgd] at hb
      by_cases hqp : q = p
      · rw [if_pos hqp] at hb
        rcases hnew b hb with h5 | h5
        · exact .inl (.inr (.inr ⟨p, hne, h5⟩))
        · exact .inr h5
      · rw [if_neg hqp] at hb
        exact .inl (.inr (.inr ⟨q, (hff q).1 hq, hb⟩))
end
end Go.Proofs.Ytjgcdmeojjnjlaa
/- Contract of the reference's Put: a new segment is laid at its place. -/
namespace Go.Proofs.Ytjgcdmeojjnjlaa
open Go.RowKit Go.Sort Go.Proofs.Ytjgcdmeojjnjlaa.Bo
set_option linter.unusedVariables false
/-- What is laid of a row, and of the new one, up to a place. -/
def InsAt (l : List G5) (s : G5) (n j : Nat) (D : Bool) (out : List G5) : Prop := (D = false ∧ j ≤ n ∧ out = l.take j) ∨ (D = true ∧ n < j ∧ out = l.take n ++ s :: (l.drop n).take (j - n))
theorem own_lenS {w : World} {base cap n m size : Nat} {e : TypeId} {a : Option Addr} {xs : List Value} (h : w.ownsRow base e size (.slice a n cap) n xs) (hnm : n = m) : w.ownsRow base e size (.slice a m cap) m xs := hnm ▸ h
theorem insAt_len {l : List G5} {s : G5} {n j : Nat} {D : Bool} {out : List G5} (h : InsAt l s n j D out) (hn : n ≤ l.length) : out.length ≤ j + 1 := by
  rcases h with ⟨_, h1, rfl⟩ | ⟨_, h1, rfl⟩
  · rw [List.length_take]; omega
  · rw [List.length_append, List.length_take, List.length_cons, List.length_take]; omega
theorem insAt_no {l : List G5} {s : G5} {n j : Nat} {out : List G5} (h : InsAt l s n j false out) (hj : j < l.length) (hjn : j < n) : InsAt l s n (j + 1) false (out ++ [l[j]]) := by
  rcases h with ⟨_, h1, rfl⟩ | ⟨h, _⟩
  · exact .inl ⟨rfl, by omega, (List.take_succ_eq_append_getElem hj).symm⟩
  · cases h
theorem insAt_new {l : List G5} {s : G5} {n : Nat} {out : List G5} (h : InsAt l s n n false out) (hj : n < l.length) : InsAt l s n (n + 1) true (out ++ [s] ++ [l[n]]) := by
  rcases h with ⟨_, h1, rfl⟩ | ⟨h, _⟩
  · refine .inr ⟨rfl, by omega, ?_⟩
    rw [show n + 1 - n = 1 by omega, List.append_assoc]
    congr 1
    show [s, l[n]] = s :: (l.drop n).take 1
    congr 1
    rw [List.drop_eq_getElem_cons hj]
    rfl
  · cases h
theorem insAt_on {l : List G5} {s : G5} {n j : Nat} {out : List G5} (h : InsAt l s n j true out) (hj : j < l.length) : InsAt l s n (j + 1) true (out ++ [l[j]]) := by
  rcases h with ⟨h, _⟩ | ⟨_, h1, rfl⟩
  · cases h
  · refine .inr ⟨rfl, by omega, ?_⟩
    have e : (l.drop n)[j - n]? = some l[j] := by
      rw [List.getElem?_drop, show n + (j - n) = j by omega, List.getElem?_eq_getElem hj]
    have hlt : j - n < (l.drop n).length := by rw [List.length_drop]; omega
    have e2 : (l.drop n)[j - n] = l[j] := by
      rw [List.getElem?_eq_getElem hlt] at e
      exact Option.some.inj e
    rw [show j + 1 - n = (j - n) + 1 by omega, List.take_succ_eq_append_getElem hlt, e2]
    simp
set_option maxRecDepth 100000 in
set_option maxHeartbeats 4000000 in
theorem rputG_ins (a : Option Addr) (cap : Nat) (l : List G5) (room : Int) (s : G5) (w : World) (hs : s.ok) (hmay : s.may = true) (hz : ∀ g ∈ l, g.ok) (hno : ¬ findG l s.key < l.length) (hfull : ¬ room ≤ (l.length : Int)) (hr : GRow w a l) (hc : l.length ≤ cap) (hl : l.length ≤ 10000) :
    Calls Try.prog 36 #[.slice a l.length cap, .int .i64 room, vG s] w (PutG a l (insG s l, 0) w) := by
  have mx := mixed
  have hfd : ∀ W : World, (Instr.field 34 (.agg #[.int .i64 s.ls, .int .i64 s.la]) 0).run Try.prog W = .ok (.int .i64 s.ls) W := fun _ => by kernel_rfl
  obtain ⟨i0, hi0, hz0, hz1, hz2⟩ := info_parts Try.infoSeg
  have HK := Lib.hid (fun W => rkey_any s W)
  have HC := Lib.hid (fun W => rcanon_any s.ls s.la W hs.1)
  have nec := neq_cut (sd (key s.ls s.la)) (pa (key s.ls s.la)) s.ls s.la
  have hD : (sd (key s.ls s.la) == s.ls && pa (key s.ls s.la) == s.la) = true ∧ ¬ 0 < s.ls := by
    unfold G5.may G5.is G5.key at hmay
    simp at hmay ⊢
    exact ⟨⟨hmay.1.1.symm, hmay.1.2.symm⟩, hmay.2⟩
  have t1 : decide (0 < s.ls) = false := decide_eq_false hD.2
  rw [hD.1] at nec
  have HFI := Lib.hid (fun W (h : GRow W a l) => rfind_any a cap l s.ls s.la W hs.1 h (by omega))
  have hfv : findV l (key s.ls s.la) = -1 := by unfold findV; exact if_neg hno
  rw [hfv] at HFI
  have t2 : decide (room ≤ (l.length : Int)) = false := decide_eq_false hfull
  obtain ⟨n, hn, hins, hlo, hhi⟩ := insG_split s l
  have HINS := Lib.hid hins
  have HLO := Lib.hid hlo
  have HHI := Lib.hid hhi
  have HLE : Hid (∀ (j : Nat) (h : j < l.length) W, Calls Try.prog 62 #[.agg #[.int .i64 s.ls, .int .i64 s.la], .agg #[.int .i64 l[j].ls, .int .i64 l[j].la]] W fun e w' => e = .returned (.bool (decide (s.key < l[j].key))) ∧ Go.RowKit.Below W.heap.size W w') := fun j h W => rless_any _ _ _ _ W hs.1 (hz _ (List.getElem_mem h)).1
  clear hfv hno hfull hins hlo hhi hz
  generalize sd (key s.ls s.la) = x1 at *
  generalize pa (key s.ls s.la) = x2 at *
  have HB0 : Hid ((w.alloc (oG s)).heap[w.heap.size]? = some (oG s)) := heap_alloc_new _ _
  have hL := below_new w (oG s)
  have HR := Lib.hid hr
  clear hD hmay hr
  go_enter Try.func36, Try.ntmps36
  go_upto_region 1 with fail
  generalize w.alloc (oG s) = X at *
  obtain ⟨p1, p2, p3, p4, p5⟩ := (five_cells HB0.out).re
  refine wp_region_quiet_below (by assumption) (by kernel_rfl) ?_
  repeat (go_big_quiet_step (first
    | (go_at_call 45; exact Calls.regrown_of (HK.out _))
    | (go_at_call 60; exact Calls.regrown_of (HC.out _))))
  refine wpQuiet_nil ?_
  intro _ hw'
  obtain ⟨⟨nq, osq⟩, hw''⟩ := hw'
  subst hw''
  have hBq := below_regrown X nq osq
  have hL1 := bt hL hBq
  have HB1 := Lib.hid (box_on HB0.out hBq)
  clear p1 p2 p3 p4 p5 hBq HB0 hL HC nec t1
  generalize grow (redrawn X nq) osq = X1 at *
  obtain ⟨c1, c2, c3, c4, c5⟩ := five_cells HB1.out
  rw [Nat.zero_add] at c2 c3 c4 c5
  go_wp2_with fail
  clear c1 c2 c3 c4 c5
  refine (HK.out _).mono ?_
  rintro e y1 ⟨rfl, hB1⟩
  have hL2 := bt hL1 hB1
  have HB2 := Lib.hid (box_on HB1.out hB1)
  clear hB1 hL1 HB1
  go_wp2_with fail
  refine (HFI.out _ (HR.out.below hL2)).mono ?_
  rintro e y2 ⟨rfl, hB2⟩
  have hL3 := bt hL2 hB2
  have HB3 := Lib.hid (box_on HB2.out hB2)
  clear hB2 hL2 HB2 HFI
  go_wp2_with fail
  clear t2
  have HBX := Lib.hid HB3.out
  go_loopw [10, 11, 12] (fun o d i wr => ∃ (j cap3 : Nat) (a3 : Option Addr) (out : List G5) (D : Bool), i = .int .i64 (j : Int) ∧ o = .slice a3 out.length cap3 ∧ d = .bool D ∧ j ≤ l.length ∧ InsAt l s n j D out ∧ wr.ownsRow y2.heap.size 38 5 (.slice a3 out.length cap3) out.length (flatG out) ∧ Go.RowKit.Below y2.heap.size y2 wr) (fun _ _ i _ => l.length - (intOf i).toNat)
  case atStart => exact ⟨0, 0, none, [], false, rfl, rfl, rfl, Nat.zero_le _, .inl ⟨rfl, Nat.zero_le _, rfl⟩, ⟨rfl, .inl ⟨rfl, rfl⟩⟩, Go.RowKit.Below.refl _ _⟩
  case round =>
    obtain ⟨j, cap3, a3, out, D, rfl, rfl, rfl, hj, hat, hown, hBr⟩ := hrel
    have HAT := Lib.hid hat
    have HO := Lib.hid hown
    have hol := insAt_len hat hn
    have HBr := Lib.hid hBr
    have hszr := hBr.size
    have HB4 := Lib.hid (box_on HBX.out hBr)
    clear hat hown
    by_cases hlt : j < l.length
    · obtain ⟨b, off, rfl, hcc⟩ := ((HR.out.below hL3).below hBr) (by omega)
      have HC5 := Lib.hid (hcc j hlt)
      have ti0 : (0 : Int) ≤ (j : Int) := by omega
      have ti1 : (j : Int) < (l.length : Int) := by omega
      have HLEJ := Lib.hid (HLE.out j hlt)
      have HA1 : Hid (D = false → j < n → InsAt l s n (j + 1) false (out ++ [l[j]])) := fun h h2 => insAt_no (by have := HAT.out; rw [h] at this; exact this) hlt h2
      have HA2 : Hid (D = false → j = n → InsAt l s n (j + 1) true (out ++ [s] ++ [l[j]])) := fun h h2 => by subst h2; exact insAt_new (by have := HAT.out; rw [h] at this; exact this) hlt
      have HA3 : Hid (D = true → InsAt l s n (j + 1) true (out ++ [l[j]])) := fun h => insAt_on (by have := HAT.out; rw [h] at this; exact this) hlt
      have HJN : Hid (D = false → j ≤ n ∧ (s.key < l[j].key → j = n) ∧ (¬ s.key < l[j].key → j < n)) := by
        intro h
        have hjn : j ≤ n := by
          rcases HAT.out with ⟨_, h1, _⟩ | ⟨h1, _⟩
          · exact h1
          · rw [h] at h1; cases h1
        refine ⟨hjn, fun c => ?_, fun c => ?_⟩
        · rcases Nat.lt_or_ge j n with h2 | h2
          · exact absurd c (by have := HLO.out j hlt h2; omega)
          · omega
        · rcases Nat.lt_or_ge j n with h2 | h2
          · exact h2
          · obtain rfl : j = n := by omega
            exact absurd (HHI.out hlt) (by omega)
      clear hcc
      have HKg := Lib.hid (fun W => rkey_any l[j] W)
      obtain ⟨LB, hLB⟩ : ∃ LB, decide (s.key < l[j].key) = LB := ⟨_, rfl⟩
      rw [hLB] at HLEJ
      have HLB := Lib.hid hLB
      clear hLB
      obtain ⟨g, HGJ⟩ : ∃ g, Hid (l[j] = g) := ⟨_, Lib.hid rfl⟩
      rw [HGJ.out] at HC5 HA1 HA2 HA3 HJN HKg HLB HLEJ
      cases D with
      | false =>
        obtain ⟨p1, p2, p3, p4, p5⟩ := (five_cells HB4.out).re
        rw [Nat.zero_add] at p2 p3 p4 p5
        obtain ⟨p6, p7, p8, p9, p10⟩ := HC5.out.re
        go_wp2_with fail
        refine wp_region_quiet_below (by assumption) (by kernel_rfl) ?_
        repeat (go_big_quiet_step (first
          | (go_at_call 45; exact Calls.regrown_of (HK.out _))
          | (go_at_call 45; exact Calls.regrown_of (HKg.out _))
          | (go_at_call 62; exact Calls.regrown_of (HLEJ.out _))))
        refine wpQuiet_nil ?_
        intro _ hw'
        obtain ⟨⟨nq, osq⟩, hw''⟩ := hw'
        subst hw''
        have hBq := below_regrown wr nq osq
        have hB5 := bt HBr.out hBq
        have HO5 := Lib.hid (own_on HO.out hBq)
        have HB5 := Lib.hid (box_on HB4.out hBq)
        have HC6 := Lib.hid (HC5.out.below hBq)
        clear p1 p2 p3 p4 p5 p6 p7 p8 p9 p10 hBq HO HB4 HC5 hBr hszr
        generalize grow (redrawn wr nq) osq = y5 at *
        have hsz5 := hB5.size
        cases LB with
        | true =>
          have HJ := Lib.hid ((HJN.out (by trivial)).2.1 (of_decide_eq_true HLB.out))
          obtain ⟨c1, c2, c3, c4, c5⟩ := five_cells HB5.out
          rw [Nat.zero_add] at c2 c3 c4 c5
          have HN1 := Lib.hid (grow_one (heap_alloc_new y5 (oG s)))
          have HO5b := Lib.hid (own_on HO5.out (below_new y5 (oG s)))
          go_upto_region 18 with (at_builtin; refine wpList_append_segs _ rfl _ _ 32 rfl y2.heap.size 38 i0 (.agg #[.int .i64 0, .int .i64 0, .int .i64 0, .int .i64 0, .int .i64 0]) 40 Try.underlying32 hi0 hz0 hz1 hz2 rfl _ out.length (flatG out) (by rfl) HO5b.out (some ⟨y5.heap.size, 0, none⟩) 1 [s] (by rfl) HN1.out (by unfold maxLen; simp; omega) (by simp; omega) (by simp; omega) ?_; intro a6 cap6 w6 hown hgrow; have hB6 : Go.RowKit.Below y2.heap.size y2 w6 := (hB5.alloc (by omega) _).grown hgrow (by simp; omega) (fun k hk => (HO5b.out.lt k hk).1); have HO6 : Hid (w6.ownsRow y2.heap.size 38 5 (.slice a6 (out.length + 1) cap6) (out.length + 1) (flatG (out ++ [s]))) := (by rw [flatG_append]; exact hown); clear hown hgrow)
          clear c1 c2 c3 c4 c5 HN1 HO5b HO5
          have HC7 : Hid (Cells5 w6 b (off + j * 5) g) := by
            obtain ⟨b', off', e', hcc⟩ := ((HR.out.below hL3).below hB6) (by omega)
            injection e' with e'
            injection e' with e1 e2
            subst e1 e2
            have := hcc j hlt
            rw [HGJ.out] at this
            exact this
          obtain ⟨d1, d2, d3, d4, d5⟩ := HC7.out
          have hsz6 := hB6.size
          have HN2 := Lib.hid (grow_one (heap_alloc_new w6 (oG g)))
          have HO6b := Lib.hid (own_on HO6.out (below_new w6 (oG g)))
          go_wp2_with (at_builtin; refine wpList_append_segs _ rfl _ _ 32 rfl y2.heap.size 38 i0 (.agg #[.int .i64 0, .int .i64 0, .int .i64 0, .int .i64 0, .int .i64 0]) 40 Try.underlying32 hi0 hz0 hz1 hz2 rfl _ (out.length + 1) (flatG (out ++ [s])) (by rfl) HO6b.out (some ⟨w6.heap.size, 0, none⟩) 1 [g] (by rfl) HN2.out (by unfold maxLen; simp; omega) (by simp; omega) (by simp; omega) ?_; intro a7 cap7 w7 hown hgrow; have hB7 : Go.RowKit.Below y2.heap.size y2 w7 := (hB6.alloc (by omega) _).grown hgrow (by simp; omega) (fun k hk => (HO6b.out.lt k hk).1); have HO7 : Hid (w7.ownsRow y2.heap.size 38 5 (.slice a7 ((out.length + 1) + 1) cap7) ((out.length + 1) + 1) (flatG ((out ++ [s]) ++ [g]))) := (by rw [flatG_append]; exact hown); clear hown hgrow)
          go_roundw
          case rel => exact ⟨j + 1, cap7, a7, out ++ [s] ++ [g], true, by go_num, by simp, rfl, by omega, HA2.out (by trivial) HJ.out, own_lenS HO7.out (by simp), hB7⟩
          case measure => simp [intOf]; omega
        | false =>
          have HJ := Lib.hid ((HJN.out (by trivial)).2.2 (by have := of_decide_eq_false HLB.out; omega))
          obtain ⟨d1, d2, d3, d4, d5⟩ := HC6.out
          have HN2 := Lib.hid (grow_one (heap_alloc_new y5 (oG g)))
          have HO6b := Lib.hid (own_on HO5.out (below_new y5 (oG g)))
          go_wp2_with (at_builtin; refine wpList_append_segs _ rfl _ _ 32 rfl y2.heap.size 38 i0 (.agg #[.int .i64 0, .int .i64 0, .int .i64 0, .int .i64 0, .int .i64 0]) 40 Try.underlying32 hi0 hz0 hz1 hz2 rfl _ out.length (flatG out) (by rfl) HO6b.out (some ⟨y5.heap.size, 0, none⟩) 1 [g] (by rfl) HN2.out (by unfold maxLen; simp; omega) (by simp; omega) (by simp; omega) ?_; intro a7 cap7 w7 hown hgrow; have hB7 : Go.RowKit.Below y2.heap.size y2 w7 := (hB5.alloc (by omega) _).grown hgrow (by simp; omega) (fun k hk => (HO6b.out.lt k hk).1); have HO7 : Hid (w7.ownsRow y2.heap.size 38 5 (.slice a7 (out.length + 1) cap7) (out.length + 1) (flatG (out ++ [g]))) := (by rw [flatG_append]; exact hown); clear hown hgrow)
          go_roundw
          case rel => exact ⟨j + 1, cap7, a7, out ++ [g], false, by go_num, by simp, rfl, by omega, HA1.out (by trivial) HJ.out, own_lenS HO7.out (by simp), hB7⟩
          case measure => simp [intOf]; omega
      | true =>
        go_wp2_with fail
        refine wp_region_quiet_below (by assumption) (by kernel_rfl) ?_
        repeat (go_big_quiet_step (fail))
        refine wpQuiet_nil ?_
        intro _ hw'
        obtain ⟨⟨nq, osq⟩, hw''⟩ := hw'
        subst hw''
        have hBq := below_regrown wr nq osq
        have hB5 := bt HBr.out hBq
        have HO5 := Lib.hid (own_on HO.out hBq)
        have HC6 := Lib.hid (HC5.out.below hBq)
        clear hBq HO HB4 HC5 hBr hszr
        generalize grow (redrawn wr nq) osq = y5 at *
        have hsz5 := hB5.size
        obtain ⟨d1, d2, d3, d4, d5⟩ := HC6.out
        have HN2 := Lib.hid (grow_one (heap_alloc_new y5 (oG g)))
        have HO6b := Lib.hid (own_on HO5.out (below_new y5 (oG g)))
        go_wp2_with (at_builtin; refine wpList_append_segs _ rfl _ _ 32 rfl y2.heap.size 38 i0 (.agg #[.int .i64 0, .int .i64 0, .int .i64 0, .int .i64 0, .int .i64 0]) 40 Try.underlying32 hi0 hz0 hz1 hz2 rfl _ out.length (flatG out) (by rfl) HO6b.out (some ⟨y5.heap.size, 0, none⟩) 1 [g] (by rfl) HN2.out (by unfold maxLen; simp; omega) (by simp; omega) (by simp; omega) ?_; intro a7 cap7 w7 hown hgrow; have hB7 : Go.RowKit.Below y2.heap.size y2 w7 := (hB5.alloc (by omega) _).grown hgrow (by simp; omega) (fun k hk => (HO6b.out.lt k hk).1); have HO7 : Hid (w7.ownsRow y2.heap.size 38 5 (.slice a7 (out.length + 1) cap7) (out.length + 1) (flatG (out ++ [g]))) := (by rw [flatG_append]; exact hown); clear hown hgrow)
        go_roundw
        case rel => exact ⟨j + 1, cap7, a7, out ++ [g], true, by go_num, by simp, rfl, by omega, HA3.out (by trivial), own_lenS HO7.out (by simp), hB7⟩
        case measure => simp [intOf]; omega
    · obtain rfl : j = l.length := by omega
      cases D with
      | false =>
        have HE : Hid (insG s l = out ++ [s]) := by
          show _ = _
          rw [HINS.out]
          rcases HAT.out with ⟨_, h1, rfl⟩ | ⟨h1, _⟩
          · obtain rfl : n = l.length := by omega
            simp
          · cases h1
        obtain ⟨c1, c2, c3, c4, c5⟩ := five_cells HB4.out
        rw [Nat.zero_add] at c2 c3 c4 c5
        have HN1 := Lib.hid (grow_one (heap_alloc_new wr (oG s)))
        have HO5b := Lib.hid (own_on HO.out (below_new wr (oG s)))
        go_wp2_with (at_builtin; refine wpList_append_segs _ rfl _ _ 32 rfl y2.heap.size 38 i0 (.agg #[.int .i64 0, .int .i64 0, .int .i64 0, .int .i64 0, .int .i64 0]) 40 Try.underlying32 hi0 hz0 hz1 hz2 rfl _ out.length (flatG out) (by rfl) HO5b.out (some ⟨wr.heap.size, 0, none⟩) 1 [s] (by rfl) HN1.out (by unfold maxLen; simp; omega) (by simp; omega) (by simp; omega) ?_; intro a6 cap6 w6 hown hgrow; have hB6 : Go.RowKit.Below y2.heap.size y2 w6 := (hBr.alloc (by omega) _).grown hgrow (by simp; omega) (fun k hk => (HO5b.out.lt k hk).1); have HO6 : Hid (w6.ownsRow y2.heap.size 38 5 (.slice a6 (out.length + 1) cap6) (out.length + 1) (flatG (out ++ [s]))) := (by rw [flatG_append]; exact hown); clear hown hgrow)
        go_ret2
        rw [HE.out]
        refine ⟨a6, cap6, ⟨by simp, own_grow HO6.out (by simp), by have := own_capG HO6.out; simp; omega, .inr (own_new HO6.out hL3.size)⟩, bt hL3 hB6⟩
      | true =>
        have HE : Hid (insG s l = out) := by
          show _ = _
          rw [HINS.out]
          rcases HAT.out with ⟨h1, _⟩ | ⟨_, h1, rfl⟩
          · cases h1
          · rw [List.take_of_length_le (l := l.drop n) (by rw [List.length_drop]; omega)]
        go_wp2_with fail
        go_ret2
        rw [HE.out]
        exact ⟨a3, cap3, ⟨rfl, own_grow HO.out rfl, own_capG HO.out, .inr (own_new HO.out hL3.size)⟩, bt hL3 hBr⟩
end Go.Proofs.Ytjgcdmeojjnjlaa
/- Contracts of the reference's Put, Delete, Do, Bits over rows of segments. -/
namespace Go.Proofs.Ytjgcdmeojjnjlaa
open Go.RowKit Go.Sort Go.Proofs.Ytjgcdmeojjnjlaa.Bo
set_option linter.unusedVariables false
theorem rputG_any (a : Option Addr) (cap : Nat) (l : List G5) (room : Int) (s : G5) (w : World) (hs : s.ok) (hz : ∀ g ∈ l, g.ok) (hr : GRow w a l) (hc : l.length ≤ cap) (hl : l.length ≤ 9999) :
    Calls Try.prog 36 #[.slice a l.length cap, .int .i64 room, vG s] w (PutG a l (putG l room s) w) := by
  unfold putG
  cases hm : s.may with
  | false => rw [if_pos rfl]; exact rputG_arg a cap l room s w hs hm hr hc
  | true =>
    rw [if_neg (by decide)]
    by_cases hf : findG l s.key < l.length
    · rw [if_pos hf]; exact rputG_set a cap l room s w hs hm _ rfl hf hr hc (by omega)
    · rw [if_neg hf]
      by_cases hfull : room ≤ (l.length : Int)
      · rw [if_pos hfull]; exact rputG_full a cap l room s w hs hm hf hfull hr hc (by omega)
      · rw [if_neg hfull]; exact rputG_ins a cap l room s w hs hm hz hf hfull hr hc (by omega)
theorem GRow.take {w : World} {a : Option Addr} {l : List G5} (h : GRow w a l) (n : Nat) : GRow w a (l.take n) := by
  intro hp
  rw [List.length_take] at hp
  obtain ⟨b, off, e, hc⟩ := h (by omega)
  refine ⟨b, off, e, fun j hj => ?_⟩
  rw [List.length_take] at hj
  rw [List.getElem_take]
  exact hc j (by omega)
theorem GRow.drop {w : World} {b off : Nat} {l : List G5} (n : Nat) (hc : ∀ (j : Nat) (h : j < l.length), Cells5 w b (off + j * 5) l[j]) : GRow w (some ⟨b, off + n * 5, none⟩) (l.drop n) := by
  intro hp
  refine ⟨b, off + n * 5, rfl, fun j hj => ?_⟩
  rw [List.length_drop] at hj
  rw [List.getElem_drop, show off + n * 5 + j * 5 = off + (n + j) * 5 by omega]
  exact hc (n + j) (by omega)
/-- What Delete leaves. -/
def DelG (a0 : Option Addr) (l0 : List G5) (x : List G5 × Bool) (w : World) (e : Ending) (w' : World) : Prop := ∃ a cap, (e = .returned (.tuple #[.slice a x.1.length cap, .bool x.2]) ∧ GRow w' a x.1 ∧ x.1.length ≤ cap ∧ NewOr w.heap.size a0 l0 a x.1) ∧ Go.RowKit.Below w.heap.size w w'
set_option maxRecDepth 100000 in
set_option maxHeartbeats 2000000 in
theorem rdelG_no (a : Option Addr) (cap : Nat) (l : List G5) (s x : Int) (w : World) (hx : I64 x) (hno : ¬ findG l (key s x) < l.length) (hr : GRow w a l) (hc : l.length ≤ cap) (hl : l.length ≤ 9999) :
    Calls Try.prog 40 #[.slice a l.length cap, .agg #[.int .i64 s, .int .i64 x]] w (DelG a l (l, false) w) := by
  have HFI := Lib.hid (fun W (h : GRow W a l) => rfind_any a cap l s x W hx h (by omega))
  have hfv : findV l (key s x) = -1 := by unfold findV; exact if_neg hno
  rw [hfv] at HFI
  have hb : (w.alloc (.cells #[.int .i64 s, .int .i64 x] 34)).heap[w.heap.size]? = some (.cells #[.int .i64 s, .int .i64 x] 34) := heap_alloc_new _ _
  have hL := below_new w (.cells #[.int .i64 s, .int .i64 x] 34)
  have HR := Lib.hid hr
  obtain ⟨c1, c2, _, _⟩ := two_cells hb
  clear hfv hno hr hx hb
  go_enter Try.func40, Try.ntmps40
  go_wp2_with fail
  generalize w.alloc (.cells #[.int .i64 s, .int .i64 x] 34) = X at *
  refine (HFI.out _ (HR.out.below hL)).mono ?_
  rintro e y ⟨rfl, hB⟩
  go_wp2_with fail
  go_ret2
  exact ⟨a, cap, ⟨rfl, HR.out.below (bt hL hB), hc, .inl ⟨rfl, rfl⟩⟩, bt hL hB⟩
end Go.Proofs.Ytjgcdmeojjnjlaa
/- Contract of the reference's Delete: the one of a key is taken away. -/
namespace Go.Proofs.Ytjgcdmeojjnjlaa
open Go.RowKit Go.Sort Go.Proofs.Ytjgcdmeojjnjlaa.Bo
set_option linter.unusedVariables false
theorem bl_alloc5 {X W : World} (o : Obj) (h : Go.RowKit.Below X.heap.size X W) : Go.RowKit.Below X.heap.size X (W.alloc o) := bt h (below_new W o)
theorem bl_drew5 {X W : World} (h : Go.RowKit.Below X.heap.size X W) : Go.RowKit.Below X.heap.size X W.drew := h.drew
theorem step_append_segs {ops : Array Oper} {o : Oper} {a : Act} {K : Act → World → Prop} {Q : Exit → Act → World → Prop} {E : Prop} (w : World) (hgd : o.guard = none) (s x : Operand) (t : TypeId)
    (ho : o.op = .call { callee := .builtin .append, args := #[s, x], argTypes := #[t, t] })
    (base : Nat) (e : TypeId) (i : TypeInfo) (z : Value) (bytes : Nat) (ht : Try.prog.underlying t = some (.slice e)) (hi : Try.prog.info? e = some i) (hz : i.zero = some z)
    (hsize : i.size = 5) (hby : i.bytes = bytes) (hzs : z.cells.size = 5)
    (v : Value) (n : Nat) (xs : List Value) (hs : a.eval s = v) (hown : w.ownsRow base e 5 v n xs)
    (ax : Option Addr) (m c : Nat) (l : List G5) (hm : m = l.length) (hx : a.eval x = .slice ax m c) (hr : GRow w ax l)
    (h63 : n + m ≤ maxLen) (hbytes : (n + m) * bytes ≤ 140737488355328) (hbase : base ≤ w.heap.size)
    (h : ∀ a' cap w', w'.ownsRow base e 5 (.slice a' (n + m) cap) (n + m) (xs ++ flatG l) → w.grownBy w' v.ownBlock → K (a.put o.dst (.slice a' (n + m) cap)) w') :
    if Region.wanted o (yielded ops a.tmps) = true then Oper.wp Try.prog o a w K Q else E := by
  subst hm
  have hw : Region.wanted o (yielded ops a.tmps) = true := by simp [Region.wanted, hgd]
  rw [if_pos hw]
  obtain ⟨a', cap, w', hr', h2, h3⟩ := run_append_segs w t o.type e base i z bytes ht hi hz hsize hby hzs v n xs hown ax c l hr h63 hbytes hbase
  unfold Oper.wp execOp
  simp only [ho, resolve, invoke, builtin, Sem.run_bind, Sem.run_pure, Result.andThen_ok, List.map_toArray, List.map_cons, List.map_nil, hs, hx, hr']
  exact h a' cap w' h2 h3
set_option maxRecDepth 100000 in
set_option maxHeartbeats 2000000 in
theorem rdelG_yes (a : Option Addr) (cap : Nat) (l : List G5) (s x : Int) (k : Nat) (w : World) (hx : I64 x) (hk0 : k = findG l (key s x)) (hk : k < l.length) (hr : GRow w a l) (hc : l.length ≤ cap) (hl : l.length ≤ 9999) :
    Calls Try.prog 40 #[.slice a l.length cap, .agg #[.int .i64 s, .int .i64 x]] w (DelG a l (l.take k ++ l.drop (k + 1), true) w) := by
  have mx := mixed
  obtain ⟨i0, hi0, hz0, hz1, hz2⟩ := info_parts Try.infoSeg
  have HFI := Lib.hid (fun W (h : GRow W a l) => rfind_any a cap l s x W hx h (by omega))
  have hfv : findV l (key s x) = (k : Int) := by subst hk0; unfold findV; exact if_pos hk
  rw [hfv] at HFI
  have hb : (w.alloc (.cells #[.int .i64 s, .int .i64 x] 34)).heap[w.heap.size]? = some (.cells #[.int .i64 s, .int .i64 x] 34) := heap_alloc_new _ _
  have hL := below_new w (.cells #[.int .i64 s, .int .i64 x] 34)
  have HR := Lib.hid hr
  obtain ⟨c1, c2, _, _⟩ := two_cells hb
  clear hfv hk0 hr hx hb
  go_enter Try.func40, Try.ntmps40
  go_wp2_with fail
  generalize w.alloc (.cells #[.int .i64 s, .int .i64 x] 34) = X at *
  clear c1 c2
  refine (HFI.out _ (HR.out.below hL)).mono ?_
  rintro e y ⟨rfl, hB⟩
  have hL1 := bt hL hB
  obtain ⟨b, off, rfl, hcc⟩ := (HR.out.below hL1) (by omega)
  have HCC := Lib.hid hcc
  clear hcc hB HFI
  have i1 : (0 : Int) ≤ (k : Int) := by omega
  have i2 : (k : Int) ≤ (cap : Int) := by omega
  have i3 : (0 : Int) ≤ (k : Int) + 1 := by omega
  have i4 : (k : Int) + 1 ≤ (l.length : Int) := by omega
  have i5 : ((k : Int) + 1).toNat = k + 1 := by omega
  have i6 : IntKind.i64.wrap ((k : Int) + 1) = (k : Int) + 1 := IntWalk.i64_in _ (by omega)
  have i7 : (l.length : Int) ≤ (cap : Int) := by omega
  have HO0 := Lib.hid (own_emptyG y)
  have HGY : Hid (GRow y (some ⟨b, off, none⟩) l) := fun _ => ⟨b, off, rfl, HCC.out⟩
  have HLT : Hid ((l.take k).length = k) := by show _ = _; rw [List.length_take]; omega
  have HDR : Hid (l.length - (k + 1) = (l.drop (k + 1)).length) := by show _ = _; rw [List.length_drop]
  have HGD : Hid (∀ W, Go.RowKit.Below y.heap.size y W → GRow W (if cap = k + 1 then some ⟨b, off, none⟩ else some ⟨b, off + (k + 1) * 5, none⟩) (l.drop (k + 1))) := by
    intro W hW
    by_cases h : cap = k + 1
    · intro hp
      rw [List.length_drop] at hp
      omega
    · rw [if_neg h]
      exact GRow.drop (k + 1) (fun j hj => (HCC.out j hj).below hW)
  go_upto_region 4 with fail
  have HCK := Lib.hid (HCC.out k hk)
  generalize l[k] = gk at *
  have hck := HCK.out.1
  go_region_held3 (fun w' => w'.cell? ⟨b, off + k * 5, none⟩ = some (.int .i64 gk.ls))
    (exact (HCK.out.below (by with_reducible repeat (first | assumption | exact Go.RowKit.Below.refl _ _ | refine bl_alloc5 _ ?_ | refine bl_drew5 ?_))).1)
    (first
      | ((refine step_append_segs _ (by rfl) _ _ _ (by rfl) y.heap.size 38 i0 (.agg #[.int .i64 0, .int .i64 0, .int .i64 0, .int .i64 0, .int .i64 0]) 40 Try.underlying32 hi0 hz0 hz1 hz2 rfl (.slice (some ⟨y.heap.size, 0, none⟩) 0 0) 0 [] (by rfl) (by exact HO0.out) (some ⟨b, off, none⟩) k cap (l.take k) HLT.out.symm (by rfl) ((HGY.out.below (by with_reducible repeat (first | exact Go.RowKit.Below.refl _ _ | refine bl_alloc5 _ ?_ | refine bl_drew5 ?_))).take k) (by unfold maxLen; omega) (by omega) (by simp) ?_; intro a1 cap1 w1 hown1 hgrow1; rw [List.nil_append] at hown1; have hB1 : Go.RowKit.Below y.heap.size y w1 := (Go.RowKit.Below.grown (by with_reducible repeat (first | exact Go.RowKit.Below.refl _ _ | refine bl_alloc5 _ ?_ | refine bl_drew5 ?_)) hgrow1 (by simp) (fun k hk => (HO0.out.lt k hk).1)); have HO1 := Lib.hid hown1; clear hown1 hgrow1))
      | ((refine step_append_segs _ (by rfl) _ _ _ (by rfl) y.heap.size 38 i0 (.agg #[.int .i64 0, .int .i64 0, .int .i64 0, .int .i64 0, .int .i64 0]) 40 Try.underlying32 hi0 hz0 hz1 hz2 rfl (.slice a1 (0 + k) cap1) (0 + k) (flatG (l.take k)) (by rfl) (by exact HO1.out) (if cap = k + 1 then some ⟨b, off, none⟩ else some ⟨b, off + (k + 1) * 5, none⟩) (l.length - (k + 1)) (cap - (k + 1)) (l.drop (k + 1)) HDR.out (by rfl) (HGD.out _ (by with_reducible repeat (first | exact hB1 | refine bl_drew5 ?_))) (by unfold maxLen; omega) (by omega) (by have := hB1.size; first | exact this | (simp; omega)) ?_; intro a2 cap2 w2 hown2 hgrow2; have hB2 : Go.RowKit.Below y.heap.size y w2 := (Go.RowKit.Below.grown (by with_reducible repeat (first | exact hB1 | refine bl_drew5 ?_)) hgrow2 (by have := hB1.size; first | exact this | (simp; omega)) (fun k hk => (HO1.out.lt k hk).1)); have HO2 := Lib.hid hown2; clear hown2 hgrow2)))
  all_goals go_wp2_with fail
  all_goals
    go_ret2
    have HO3 : Hid (w2.ownsRow y.heap.size 38 5 (.slice a2 (0 + k + (l.length - (k + 1))) cap2) (0 + k + (l.length - (k + 1))) (flatG (l.take k ++ l.drop (k + 1)))) := by rw [flatG_append]; exact HO2.out
    have hlen : (l.take k ++ l.drop (k + 1)).length = 0 + k + (l.length - (k + 1)) := by rw [List.length_append, HLT.out, ← HDR.out, Nat.zero_add]
    refine ⟨a2, cap2, ⟨?_, own_grow HO3.out hlen.symm, ?_, .inr (own_new HO3.out hL1.size)⟩, bt hL1 hB2⟩
    · show _ = Ending.returned (.tuple #[.slice a2 (l.take k ++ l.drop (k + 1)).length cap2, .bool true])
      rw [hlen, Nat.zero_add]; rfl
    · show (l.take k ++ l.drop (k + 1)).length ≤ cap2
      rw [hlen]; exact own_capG HO3.out
theorem rdelG_any (a : Option Addr) (cap : Nat) (l : List G5) (s x : Int) (w : World) (hx : I64 x) (hr : GRow w a l) (hc : l.length ≤ cap) (hl : l.length ≤ 9999) :
    Calls Try.prog 40 #[.slice a l.length cap, .agg #[.int .i64 s, .int .i64 x]] w (DelG a l (delG l (key s x)) w) := by
  unfold delG
  by_cases h : findG l (key s x) < l.length
  · rw [if_pos h]; exact rdelG_yes a cap l s x _ w hx rfl h hr hc hl
  · rw [if_neg h]; exact rdelG_no a cap l s x w hx h hr hc hl
end Go.Proofs.Ytjgcdmeojjnjlaa
/- Contract of the reference's Do over rows of segments. -/
namespace Go.Proofs.Ytjgcdmeojjnjlaa
open Go.RowKit Go.Sort Go.Proofs.Ytjgcdmeojjnjlaa.Bo
set_option linter.unusedVariables false
abbrev vOG (k : Int) (g : G5) : Value := .agg #[.int .i64 k, .int .i64 g.ls, .int .i64 g.la, .int .i64 g.hs, .int .i64 g.ha, .int .i64 g.v]
abbrev oOG (k : Int) (g : G5) : Obj := .cells #[.int .i64 k, .int .i64 g.ls, .int .i64 g.la, .int .i64 g.hs, .int .i64 g.ha, .int .i64 g.v] 40
theorem six_cells {W : World} {b : Nat} {k : Int} {g : G5} (h : W.heap[b]? = some (oOG k g)) : W.cell? ⟨b, 0, none⟩ = some (.int .i64 k) ∧ W.cell? ⟨b, 1, none⟩ = some (.int .i64 g.ls) ∧ W.cell? ⟨b, 2, none⟩ = some (.int .i64 g.la) ∧ W.cell? ⟨b, 3, none⟩ = some (.int .i64 g.hs) ∧ W.cell? ⟨b, 4, none⟩ = some (.int .i64 g.ha) ∧ W.cell? ⟨b, 5, none⟩ = some (.int .i64 g.v) :=
  ⟨(cell_of_row _ _ 0 _ _ _ h).trans rfl, (cell_of_row _ _ 1 _ _ _ h).trans rfl, (cell_of_row _ _ 2 _ _ _ h).trans rfl, (cell_of_row _ _ 3 _ _ _ h).trans rfl, (cell_of_row _ _ 4 _ _ _ h).trans rfl, (cell_of_row _ _ 5 _ _ _ h).trans rfl⟩
/-- What a call of the document's row leaves. -/
def DoGP (a0 : Option Addr) (l0 : List G5) (x : List G5 × Bool × Int) (w : World) (e : Ending) (w' : World) : Prop := ∃ a cap, (e = .returned (.tuple #[.slice a x.1.length cap, .bool x.2.1, .int .i64 x.2.2]) ∧ GRow w' a x.1 ∧ x.1.length ≤ cap ∧ NewOr w.heap.size a0 l0 a x.1) ∧ Go.RowKit.Below w.heap.size w w'
set_option maxRecDepth 100000 in
set_option maxHeartbeats 2000000 in
theorem rdoG_any (a : Option Addr) (cap : Nat) (l : List G5) (room k : Int) (s : G5) (w : World) (hs : s.ok) (hz : ∀ g ∈ l, g.ok) (hr : GRow w a l) (hc : l.length ≤ cap) (hl : l.length ≤ 9999) :
    Calls Try.prog 14 #[.slice a l.length cap, .int .i64 room, vOG k s] w (DoGP a l (doG l room k s) w) := by
  have hb : (w.alloc (oOG k s)).heap[w.heap.size]? = some (oOG k s) := heap_alloc_new _ _
  have hL := below_new w (oOG k s)
  obtain ⟨c1, c2, c3, c4, c5, c6⟩ := six_cells hb
  have HR := Lib.hid hr
  have HP := Lib.hid (fun W (h : GRow W a l) => rputG_any a cap l room s W hs hz h hc hl)
  have HD : Hid (∀ W, GRow W a l → Calls Try.prog 40 #[.slice a l.length cap, .agg #[.int .i64 s.ls, .int .i64 s.la]] W (DelG a l (delG l s.key) W)) := fun W h => rdelG_any a cap l s.ls s.la W hs.1 h hc hl
  have HK := Lib.hid (fun W => rkey_any s W)
  obtain ⟨EV, hEV⟩ : ∃ EV, EV = doG l room k s := ⟨_, rfl⟩
  rw [← hEV]
  unfold doG at hEV
  have HEV := Lib.hid hEV
  clear hEV hr hz hb
  go_enter Try.func14, Try.ntmps14
  by_cases h0 : k = 0
  · subst h0
    have HE : Hid (EV = ((putG l room s).1, false, (putG l room s).2)) := by show _ = _; rw [HEV.out, if_pos rfl]
    generalize putG l room s = x at *
    go_wp2_with fail
    generalize w.alloc (oOG 0 s) = X at *
    refine (HP.out _ (HR.out.below hL)).mono ?_
    rintro e y ⟨a1, cap1, ⟨rfl, hg, hcp, hnw⟩, hB⟩
    clear c1 c2 c3 c4 c5 c6 HEV
    go_wp2_with fail
    go_ret3
    rw [HE.out]
    exact ⟨a1, cap1, ⟨rfl, hg, hcp, hnw.on hL.size⟩, bt hL hB⟩
  · have t0 : (k == 0) = false := beq_eq_false_iff_ne.2 h0
    by_cases h1 : k = 1
    · subst h1
      have HE : Hid (EV = ((delG l s.key).1, (delG l s.key).2, 0)) := by show _ = _; rw [HEV.out, if_neg (by decide), if_pos rfl]
      generalize delG l s.key = x at *
      go_wp2_with fail
      generalize w.alloc (oOG 1 s) = X at *
      refine (HK.out _).mono ?_
      rintro e y0 ⟨rfl, hB0⟩
      have hL1 := bt hL hB0
      clear c1 c2 c3 c4 c5 c6 HEV
      go_wp2_with fail
      refine (HD.out _ (HR.out.below hL1)).mono ?_
      rintro e y ⟨a1, cap1, ⟨rfl, hg, hcp, hnw⟩, hB⟩
      go_wp2_with fail
      go_ret3
      rw [HE.out]
      exact ⟨a1, cap1, ⟨rfl, hg, hcp, hnw.on hL1.size⟩, bt hL1 hB⟩
    · have t1 : (k == 1) = false := beq_eq_false_iff_ne.2 h1
      by_cases h2 : k = 2
      · subst h2
        have HE : Hid (EV = ([], false, 0)) := by show _ = _; rw [HEV.out, if_neg (by decide), if_neg (by decide), if_pos rfl]
        go_wp2_with fail
        go_ret3
        rw [HE.out]
        exact ⟨none, 0, ⟨rfl, grow_nil _ _, Nat.le_refl _, .inr (fun p hp => by cases hp)⟩, hL⟩
      · have t2 : (k == 2) = false := beq_eq_false_iff_ne.2 h2
        have HE : Hid (EV = (l, false, 0)) := by show _ = _; rw [HEV.out, if_neg h0, if_neg h1, if_neg h2]
        clear h0 h1 h2
        go_wp2_with fail
        go_ret3
        rw [HE.out]
        exact ⟨a, cap, ⟨rfl, HR.out.below hL, hc, .inl ⟨rfl, rfl⟩⟩, hL⟩
end Go.Proofs.Ytjgcdmeojjnjlaa
/- Contract of the reference's Near. -/
namespace Go.Proofs.Ytjgcdmeojjnjlaa
open Go.RowKit Go.Sort Go.Proofs.Ytjgcdmeojjnjlaa.Bo
set_option linter.unusedVariables false
abbrev seg5 (W : World) (b : Nat) (g : G5) : World := ((((W.setCell ⟨b, 0, none⟩ (.int .i64 g.ls)).setCell ⟨b, 1, none⟩ (.int .i64 g.la)).setCell ⟨b, 2, none⟩ (.int .i64 g.hs)).setCell ⟨b, 3, none⟩ (.int .i64 g.ha)).setCell ⟨b, 4, none⟩ (.int .i64 g.v)
theorem five_put {W : World} {b : Nat} {g : G5} (h : W.heap[b]? = some (oG g)) (q : G5) : (seg5 W b q).heap[b]? = some (oG q) :=
  heap_setCell_same _ _ _ _ _ _ (heap_setCell_same _ _ _ _ _ _ (heap_setCell_same _ _ _ _ _ _ (heap_setCell_same _ _ _ _ _ _ (heap_setCell_same _ _ _ _ _ _ h))))
theorem five_far {W : World} {b c : Nat} {o : Obj} (h : W.heap[b]? = some o) (hne : b ≠ c) (g : G5) : (seg5 W c g).heap[b]? = some o := set_far (set_far (set_far (set_far (set_far h hne) hne) hne) hne) hne
theorem five_frozen {W : World} {b : Nat} {g : G5} (h : W.heap[b]? = some (oG g)) (j : Nat) : W.frozen? ⟨b, j, none⟩ = false := frozen_of_row _ _ _ _ _ h
abbrev zG : Obj := .cells #[.int .i64 0, .int .i64 0, .int .i64 0, .int .i64 0, .int .i64 0] 38
/-- The blocks of Near. -/
structure NrAt (w : World) (s x : Int) (best : G5) (W : World) : Prop where
  cb : W.heap[w.heap.size]? = some (.cells #[.int .i64 s, .int .i64 x] 34)
  rs : W.heap[w.heap.size + 1]? = some zG
  bs : W.heap[w.heap.size + 1 + 1]? = some (oG best)
  be : Go.RowKit.Below w.heap.size w W
theorem NrAt.on {w : World} {s x : Int} {best : G5} {W W' : World} (h : NrAt w s x best W) (hb : Go.RowKit.Below W.heap.size W W') : NrAt w s x best W' := ⟨box_on h.cb hb, box_on h.rs hb, box_on h.bs hb, bt h.be hb⟩
theorem seg5_below {w W : World} {b : Nat} (h : Go.RowKit.Below w.heap.size w W) (hb : w.heap.size ≤ b) (g : G5) : Go.RowKit.Below w.heap.size w (seg5 W b g) := ((((h.setCell (p := ⟨b, 0, none⟩) hb _).setCell (p := ⟨b, 1, none⟩) hb _).setCell (p := ⟨b, 2, none⟩) hb _).setCell (p := ⟨b, 3, none⟩) hb _).setCell (p := ⟨b, 4, none⟩) hb _
theorem NrAt.put {w : World} {s x : Int} {best : G5} {W : World} (h : NrAt w s x best W) (g : G5) : NrAt w s x g (seg5 W (w.heap.size + 1 + 1) g) := ⟨five_far h.cb (by omega) g, five_far h.rs (by omega) g, five_put h.bs g, seg5_below h.be (by omega) g⟩
end Go.Proofs.Ytjgcdmeojjnjlaa
/- The B-tree's small calls. -/
namespace Go.Proofs.Ytjgcdmeojjnjlaa
open Go.RowKit Go.Sort Go.Proofs.Ytjgcdmeojjnjlaa.Bo Go.Proofs.Ytjgcdmeojjnjlaa.Bb
set_option linter.unusedVariables false
set_option maxRecDepth 100000 in
set_option maxHeartbeats 1000000 in
theorem bfit_lt (c : Nat) (x y s a : Int) (w : World) (hy : I64 y) (ha : I64 a) (hc : w.heap[c]? = some (.cells #[.int .i64 x, .int .i64 y] 34)) :
    Calls Try.prog 84 #[.agg #[.int .i64 s, .int .i64 a], .pointer (some ⟨c, 0, none⟩)] w fun e w' => e = .returned (.bool (decide (key s a < key x y))) ∧ Go.RowKit.Below w.heap.size w w' := by
  have mx := mixed
  have HC := Lib.hid (fun W => compare_any s a x y W ha hy)
  have HQ : Hid (decide (kcmp (key s a) (key x y) < 0) = decide (key s a < key x y)) := by
    show _ = _
    unfold kcmp; split
    · simp; omega
    · split <;> simp <;> omega
  generalize kcmp (key s a) (key x y) = K at *
  have hk0 : (w.alloc (.cells #[.int .i64 s, .int .i64 a] 34)).heap[w.heap.size]? = some (.cells #[.int .i64 s, .int .i64 a] 34) := heap_alloc_new _ _
  have hc0 : (w.alloc (.cells #[.int .i64 s, .int .i64 a] 34)).heap[c]? = some (.cells #[.int .i64 x, .int .i64 y] 34) := box_on hc (below_new _ _)
  have hL0 := below_new w (.cells #[.int .i64 s, .int .i64 a] 34)
  obtain ⟨d1, d2, _, _⟩ := two_cells hc0
  obtain ⟨d3, d4, _, _⟩ := two_cells hk0
  clear hc hk0 hc0
  go_enter Try.func84, Try.ntmps84
  go_wp2_with fail
  refine (HC.out _).mono ?_
  rintro e y ⟨rfl, hL⟩
  have hB := bt hL0 hL.1
  clear hL hL0 d1 d2 d3 d4
  go_wp2_with fail
  go_ret
  exact ⟨by rw [← HQ.out]; rfl, hB⟩
set_option maxRecDepth 100000 in
set_option maxHeartbeats 1000000 in
theorem bfit_le (c : Nat) (x y s a : Int) (w : World) (hy : I64 y) (ha : I64 a) (hc : w.heap[c]? = some (.cells #[.int .i64 x, .int .i64 y] 34)) :
    Calls Try.prog 82 #[.agg #[.int .i64 s, .int .i64 a], .pointer (some ⟨c, 0, none⟩)] w fun e w' => e = .returned (.bool (decide (key s a ≤ key x y))) ∧ Go.RowKit.Below w.heap.size w w' := by
  have mx := mixed
  have HC := Lib.hid (fun W => compare_any s a x y W ha hy)
  have HQ : Hid (decide (kcmp (key s a) (key x y) ≤ 0) = decide (key s a ≤ key x y)) := by
    show _ = _
    unfold kcmp; split
    · simp; omega
    · split <;> simp <;> omega
  generalize kcmp (key s a) (key x y) = K at *
  have hk0 : (w.alloc (.cells #[.int .i64 s, .int .i64 a] 34)).heap[w.heap.size]? = some (.cells #[.int .i64 s, .int .i64 a] 34) := heap_alloc_new _ _
  have hc0 : (w.alloc (.cells #[.int .i64 s, .int .i64 a] 34)).heap[c]? = some (.cells #[.int .i64 x, .int .i64 y] 34) := box_on hc (below_new _ _)
  have hL0 := below_new w (.cells #[.int .i64 s, .int .i64 a] 34)
  obtain ⟨d1, d2, _, _⟩ := two_cells hc0
  obtain ⟨d3, d4, _, _⟩ := two_cells hk0
  clear hc hk0 hc0
  go_enter Try.func82, Try.ntmps82
  go_wp2_with fail
  refine (HC.out _).mono ?_
  rintro e y ⟨rfl, hL⟩
  have hB := bt hL0 hL.1
  clear hL hL0 d1 d2 d3 d4
  go_wp2_with fail
  go_ret
  exact ⟨by rw [← HQ.out]; rfl, hB⟩
theorem bdeg_any {w : World} {base T A : Nat} {t : Bx} {a : Ag Rn} {S0 : Nat → Prop} (h : BtW w base T A t a S0) : Calls Try.prog 13 #[aP T] w fun e w' => e = .returned (.int .i64 t.d) ∧ w = w' := by
  have c0 : w.cell? ⟨T, 0, none⟩ = some (.int .i64 t.d) := (cell_of_row _ _ 0 _ _ _ h.top).trans rfl
  clear h
  go_enter Try.func13, Try.ntmps13
  go_wp2_with fail
  go_ret
  exact ⟨rfl, rfl⟩
theorem bmany_any {w : World} {base T A : Nat} {t : Bx} {a : Ag Rn} {S0 : Nat → Prop} (h : BtW w base T A t a S0) : Calls Try.prog 18 #[aP T] w fun e w' => e = .returned (.int .i64 t.many) ∧ w = w' := by
  have c0 : w.cell? ⟨T, 3, none⟩ = some (.int .i64 t.many) := (cell_of_row _ _ 3 _ _ _ h.top).trans rfl
  clear h
  go_enter Try.func18, Try.ntmps18
  go_wp2_with fail
  go_ret
  exact ⟨rfl, rfl⟩
theorem broom_any {w : World} {base T A : Nat} {t : Bx} {a : Ag Rn} {S0 : Nat → Prop} (h : BtW w base T A t a S0) : Calls Try.prog 12 #[aP T] w fun e w' => e = .returned (.int .i64 t.room) ∧ w = w' := by
  have c0 : w.cell? ⟨T, 1, none⟩ = some (aP A) := (cell_of_row _ _ 1 _ _ _ h.top).trans rfl
  have HR := Lib.hid (bnroom_any h.ar)
  have HE := Lib.hid h.room
  clear h
  go_enter Try.func12, Try.ntmps12
  go_wp2_with fail
  refine HR.out.mono ?_
  rintro e y1 ⟨rfl, rfl⟩
  go_wp2_with fail
  go_ret
  exact ⟨by rw [HE.out]; rfl, rfl⟩
/-- The k-th child's place; none of a node without. -/
def kidV (n : Kn) (k : Nat) : Int := if n.kids.length = 0 then -1 else n.kids.getD k 0
set_option maxRecDepth 100000 in
theorem bkid_core (g p kn kc : Nat) (ka : Option Addr) (base : Nat) (ks : List Int) (k : Nat) (w : World) (hc : w.cell? ⟨g, p + 1, none⟩ = some (.slice ka kn kc)) (ho : w.ownsRow base 3 1 (.slice ka kn kc) kn (ks.map nv)) (hn : kn = ks.length) (hk : ks.length ≠ 0 → k < ks.length) :
    Calls Try.prog 51 #[.pointer (some ⟨g, p, none⟩), .int .i64 (k : Int)] w fun e w' => e = .returned (.int .i64 (if ks.length = 0 then -1 else ks.getD k 0)) ∧ w = w' := by
  by_cases h0 : kn = 0
  · rw [if_pos (by omega)]
    subst h0
    clear ho hn hk
    go_enter Try.func51, Try.ntmps51
    go_wp2_with fail
    go_ret
    exact ⟨rfl, rfl⟩
  · rw [if_neg (by omega)]
    have hk1 : k < kn := by rw [hn]; exact hk (by omega)
    obtain ⟨x, rfl, hb, q1, f1⟩ := own_at ho hn k hk1
    have e1 : ks.getD k 0 = ks[k]'(by omega) := by rw [List.getD_eq_getElem?_getD, List.getElem?_eq_getElem (by omega)]; rfl
    rw [e1]
    generalize ks[k]'(by omega) = z at *
    have t1 : ((kn : Int) == 0) = false := by simp; omega
    have t2 : ¬ (kn : Int) = 0 := by omega
    have i1 : (0 : Int) ≤ (k : Int) := by omega
    have i2 : (k : Int) < (kn : Int) := by omega
    clear ho hn hk e1 f1
    go_enter Try.func51, Try.ntmps51
    go_wp2_with fail
    go_ret
    exact ⟨rfl, rfl⟩
set_option maxRecDepth 100000 in
theorem btold_no (w : World) : Calls Try.prog 52 #[.pointer none] w fun e w' => e = .returned (.tuple #[vG ⟨0, 0, 0, 0, 0⟩, .bool false]) ∧ Go.RowKit.Below w.heap.size w w' := by
  have mx := mixed
  go_enter Try.func52, Try.ntmps52
  have HR0 := Lib.hid (heap_alloc_new w zG)
  have HB0 := Lib.hid (below_new w zG)
  go_upto_region 1 with fail
  generalize w.alloc zG = X at *
  obtain ⟨d0, d1, d2, d3, d4⟩ := five_cells (g := g0) HR0.out
  have z0 := five_frozen (g := g0) HR0.out 0
  have z1 := five_frozen (g := g0) HR0.out 1
  have z2 := five_frozen (g := g0) HR0.out 2
  have z3 := five_frozen (g := g0) HR0.out 3
  have z4 := five_frozen (g := g0) HR0.out 4
  obtain ⟨q0, q1, q2, q3, q4⟩ := five_cells (five_put (g := g0) HR0.out ⟨0, 0, 0, 0, 0⟩)
  have HE := Lib.hid (seg5_below HB0.out (Nat.le_refl _) ⟨0, 0, 0, 0, 0⟩)
  simp only [Nat.zero_add] at d1 d2 d3 d4 q1 q2 q3 q4
  go_wp2_with fail
  refine bodyPost_ret (v := .tuple #[vG ⟨0, 0, 0, 0, 0⟩, .bool false]) (by simp [results, Try.results52, go_sem, q0, q1, q2, q3, q4]) rfl ?_
  exact ⟨rfl, HE.out⟩
set_option maxRecDepth 100000 in
theorem btold_yes (b o : Nat) (n : G5) (w : World) (hc : Cells5 w b o n) : Calls Try.prog 52 #[.pointer (some ⟨b, o, none⟩)] w fun e w' => e = .returned (.tuple #[vG n, .bool true]) ∧ Go.RowKit.Below w.heap.size w w' := by
  have mx := mixed
  have hb := World.block_lt_of_cell? w _ hc.1
  go_enter Try.func52, Try.ntmps52
  have HR0 := Lib.hid (heap_alloc_new w zG)
  have HB0 := Lib.hid (below_new w zG)
  have HC := Lib.hid (hc.below HB0.out)
  go_upto_region 1 with fail
  generalize w.alloc zG = X at *
  obtain ⟨k0, k1, k2, k3, k4⟩ := HC.out
  obtain ⟨d0, d1, d2, d3, d4⟩ := five_cells (g := g0) HR0.out
  have z0 := five_frozen (g := g0) HR0.out 0
  have z1 := five_frozen (g := g0) HR0.out 1
  have z2 := five_frozen (g := g0) HR0.out 2
  have z3 := five_frozen (g := g0) HR0.out 3
  have z4 := five_frozen (g := g0) HR0.out 4
  obtain ⟨q0, q1, q2, q3, q4⟩ := five_cells (five_put (g := g0) HR0.out n)
  have HE := Lib.hid (seg5_below HB0.out (Nat.le_refl _) n)
  simp only [Nat.zero_add] at d1 d2 d3 d4 q1 q2 q3 q4
  go_wp2_with fail
  refine bodyPost_ret (v := .tuple #[vG n, .bool true]) (by simp [results, Try.results52, go_sem, q0, q1, q2, q3, q4]) rfl ?_
  exact ⟨rfl, HE.out⟩
end Go.Proofs.Ytjgcdmeojjnjlaa
/- sort.Search, of any closure of two captures. -/
namespace Go.Proofs.Ytjgcdmeojjnjlaa
open Go.RowKit Go.Sort Go.Proofs.Ytjgcdmeojjnjlaa.Bo Go.Proofs.Ytjgcdmeojjnjlaa.Bb
set_option linter.unusedVariables false
set_option maxRecDepth 100000 in
set_option maxHeartbeats 1000000 in
theorem search_core (fid : Nat) (eg : ∀ args w, (callFunc fid args).run Try.prog w = .ok (.enter fid args) w) (c1 c2 : Value) (n k0 : Nat) (w : World) (hn : n ≤ 1000000) (hk : k0 ≤ n)
    (HF : Hid (∀ (t : Nat) W, t < n → Go.RowKit.Below w.heap.size w W → Calls Try.prog fid #[.int .i64 (t : Int), c1, c2] W fun e w' => e = .returned (.bool (decide (k0 ≤ t))) ∧ Go.RowKit.Below W.heap.size W w')) :
    Calls Try.prog 80 #[.int .i64 (n : Int), .func (.func fid) #[] #[c1, c2]] w fun e w' => e = .returned (.int .i64 (k0 : Int)) ∧ Go.RowKit.Below w.heap.size w w' := by
  have mx := mixed
  go_enter Try.func80, Try.ntmps80
  go_wp2_with fail
  go_loopw [5, 6] (fun i j wr => ∃ a b : Nat, i = .int .i64 (a : Int) ∧ j = .int .i64 (b : Int) ∧ a ≤ k0 ∧ k0 ≤ b ∧ b ≤ n ∧ Go.RowKit.Below w.heap.size w wr) (fun i j _ => (intOf j - intOf i).toNat)
  case atStart => exact ⟨0, n, rfl, rfl, Nat.zero_le _, hk, Nat.le_refl _, Go.RowKit.Below.refl _ _⟩
  case round =>
    obtain ⟨a, b, rfl, rfl, ha, hb, hbn, hBr⟩ := hrel
    by_cases hab : a < b
    · obtain ⟨m, hm⟩ : ∃ m, m = (a + b) / 2 := ⟨_, rfl⟩
      have t1 : (a : Int) < (b : Int) := by omega
      go_upto_region 4 with fail
      have hmi : ((a : Int) + (b : Int)) / 2 = (m : Int) := by omega
      rw [hmi]
      have HM := Lib.hid hm
      clear hmi hm
      go_wp2_with fail
      refine (HF.out m _ (by have := HM.out; omega) hBr).mono ?_
      rintro e y ⟨rfl, hb2⟩
      have HBY := Lib.hid (bt hBr hb2)
      clear hb2
      by_cases hkm : k0 ≤ m
      · have t2 : decide (k0 ≤ m) = true := decide_eq_true hkm
        have HKM := Lib.hid hkm
        clear hkm
        go_wp2_with fail
        go_roundw
        case rel => exact ⟨a, m, rfl, rfl, ha, HKM.out, by have := HM.out; omega, HBY.out⟩
        case measure => have := HM.out; simp [intOf]; omega
      · have t2 : decide (k0 ≤ m) = false := decide_eq_false hkm
        have HKM := Lib.hid hkm
        have i6 : IntKind.i64.wrap ((m : Int) + 1) = (m : Int) + 1 := IntWalk.i64_in _ (by have := HM.out; omega)
        clear hkm
        go_wp2_with fail
        go_roundw
        case rel => exact ⟨m + 1, b, by go_num, rfl, by have := HKM.out; omega, hb, hbn, HBY.out⟩
        case measure => have := HM.out; simp [intOf]; omega
    · have t1 : ¬ (a : Int) < (b : Int) := by omega
      have e1 : a = k0 := by omega
      subst e1
      go_wp2_with fail
      go_ret
      exact ⟨rfl, hBr⟩
theorem cells5_below {w y : World} {a b c d e : Addr} {u1 u2 u3 u4 u5 : Value} (h : w.cell? a = some u1 ∧ w.cell? b = some u2 ∧ w.cell? c = some u3 ∧ w.cell? d = some u4 ∧ w.cell? e = some u5) (hb : Go.RowKit.Below w.heap.size w y) :
    y.cell? a = some u1 ∧ y.cell? b = some u2 ∧ y.cell? c = some u3 ∧ y.cell? d = some u4 ∧ y.cell? e = some u5 := by
  have k : ∀ (a : Addr) (u : Value), w.cell? a = some u → y.cell? a = some u := fun a u hu => (hb.cell (p := a) (World.block_lt_of_cell? w _ hu)).trans hu
  exact ⟨k _ _ h.1, k _ _ h.2.1, k _ _ h.2.2.1, k _ _ h.2.2.2.1, k _ _ h.2.2.2.2⟩
set_option maxRecDepth 100000 in
set_option maxHeartbeats 1000000 in
/-- A step's closure: not what fits the k-th segment's key. C3: the box of what fits; C7: the box of the node. -/
theorem wayfit_core (fid : Nat) (eg : ∀ args w, (callFunc fid args).run Try.prog w = .ok (.enter fid args) w) (fc : Value) (C3 C7 g p gs n cap k : Nat) (x : G5) (b : Bool) (w : World)
    (h3 : w.cell? ⟨C3, 0, none⟩ = some (.func (.func fid) #[] #[fc])) (h7 : w.cell? ⟨C7, 0, none⟩ = some (.pointer (some ⟨g, p, none⟩))) (hs : w.cell? ⟨g, p, none⟩ = some (.slice (some ⟨gs, 0, none⟩) n cap))
    (hk : k < n) (hx : Cells5 w gs (k * 5) x) (HF : Hid (∀ W, Go.RowKit.Below w.heap.size w W → Calls Try.prog fid #[.agg #[.int .i64 x.ls, .int .i64 x.la], fc] W fun e w' => e = .returned (.bool b) ∧ Go.RowKit.Below W.heap.size W w')) :
    Calls Try.prog 81 #[.int .i64 (k : Int), .pointer (some ⟨C3, 0, none⟩), .pointer (some ⟨C7, 0, none⟩)] w fun e w' => e = .returned (.bool (!b)) ∧ Go.RowKit.Below w.heap.size w w' := by
  have mx := mixed
  have i1 : (0 : Int) ≤ (k : Int) := by omega
  have i2 : (k : Int) < (n : Int) := by omega
  obtain ⟨x1, x2, _, _, _⟩ := hx
  have HS0 : Hid (w.cell? ⟨C3, 0, none⟩ = some (.func (.func fid) #[] #[fc]) ∧ w.cell? ⟨C7, 0, none⟩ = some (.pointer (some ⟨g, p, none⟩)) ∧ w.cell? ⟨g, p, none⟩ = some (.slice (some ⟨gs, 0, none⟩) n cap) ∧ w.cell? ⟨gs, k * 5, none⟩ = some (.int .i64 x.ls) ∧ w.cell? ⟨gs, k * 5 + 1, none⟩ = some (.int .i64 x.la)) := ⟨h3, h7, hs, x1, x2⟩
  have HS1 : Hid (w.drew.cell? ⟨C3, 0, none⟩ = some (.func (.func fid) #[] #[fc]) ∧ w.drew.cell? ⟨C7, 0, none⟩ = some (.pointer (some ⟨g, p, none⟩)) ∧ w.drew.cell? ⟨g, p, none⟩ = some (.slice (some ⟨gs, 0, none⟩) n cap) ∧ w.drew.cell? ⟨gs, k * 5, none⟩ = some (.int .i64 x.ls) ∧ w.drew.cell? ⟨gs, k * 5 + 1, none⟩ = some (.int .i64 x.la)) := ⟨h3, h7, hs, x1, x2⟩
  have HBD : Hid (Go.RowKit.Below w.heap.size w w.drew) := (Go.RowKit.Below.refl _ _).drew
  clear h3 h7 hs x1 x2
  go_enter Try.func81, Try.ntmps81
  go_upto_region 1 with fail
  go_region_held3 (fun w' => w'.cell? ⟨C3, 0, none⟩ = some (.func (.func fid) #[] #[fc]) ∧ w'.cell? ⟨C7, 0, none⟩ = some (.pointer (some ⟨g, p, none⟩)) ∧ w'.cell? ⟨g, p, none⟩ = some (.slice (some ⟨gs, 0, none⟩) n cap) ∧ w'.cell? ⟨gs, k * 5, none⟩ = some (.int .i64 x.ls) ∧ w'.cell? ⟨gs, k * 5 + 1, none⟩ = some (.int .i64 x.la)) (with_reducible first | exact HS0.out | exact HS1.out | exact HS2.out)
    (first
      | (refine (HF.out _ HBD.out).mono ?_; rintro e y2 ⟨rfl, hb⟩; have HB2 : Hid (Go.RowKit.Below w.heap.size w y2) := bt HBD.out hb; have HS2 : Hid (y2.cell? ⟨C3, 0, none⟩ = some (.func (.func fid) #[] #[fc]) ∧ y2.cell? ⟨C7, 0, none⟩ = some (.pointer (some ⟨g, p, none⟩)) ∧ y2.cell? ⟨g, p, none⟩ = some (.slice (some ⟨gs, 0, none⟩) n cap) ∧ y2.cell? ⟨gs, k * 5, none⟩ = some (.int .i64 x.ls) ∧ y2.cell? ⟨gs, k * 5 + 1, none⟩ = some (.int .i64 x.la)) := cells5_below HS0.out HB2.out; clear hb))
  all_goals go_wp2_with fail
  all_goals
    go_ret
    exact ⟨rfl, HB2.out⟩
end Go.Proofs.Ytjgcdmeojjnjlaa
/- How many of a node's segments fit: sort.Search over a step's closure. -/
namespace Go.Proofs.Ytjgcdmeojjnjlaa
open Go.RowKit Go.Sort Go.Proofs.Ytjgcdmeojjnjlaa.Bo Go.Proofs.Ytjgcdmeojjnjlaa.Bb
set_option linter.unusedVariables false
theorem fit_dec (fits : G5 → Bool) (l : List G5) (hm : Mono fits l) (t : Nat) (ht : t < l.length) : (!fits l[t]) = decide (fitN fits l ≤ t) := by
  by_cases h : fitN fits l ≤ t
  · rw [decide_eq_true h]
    have h1 := fitN_next fits l (by omega)
    cases e : fits l[t] with
    | false => rfl
    | true =>
      rcases Nat.lt_or_ge (fitN fits l) t with h2 | h2
      · have := (List.pairwise_iff_getElem.1 hm) (fitN fits l) t (by omega) ht h2 e
        rw [h1] at this; cases this
      · have e2 : fitN fits l = t := by omega
        simp only [e2] at h1
        rw [h1] at e; cases e
  · rw [decide_eq_false h, fitN_fits fits l l[t] (List.mem_take_iff_getElem.2 ⟨t, by omega, rfl⟩)]
    rfl
set_option maxRecDepth 100000 in
theorem bsearch_any (fid : Nat) (eg : ∀ args w, (callFunc fid args).run Try.prog w = .ok (.enter fid args) w) (fc : Value) (C3 C7 g p n cap base : Nat) (a : Option Addr) (l : List G5) (fits : G5 → Bool) (w : World)
    (h3 : w.cell? ⟨C3, 0, none⟩ = some (.func (.func fid) #[] #[fc])) (h7 : w.cell? ⟨C7, 0, none⟩ = some (.pointer (some ⟨g, p, none⟩))) (hs : w.cell? ⟨g, p, none⟩ = some (.slice a n cap))
    (ho : w.ownsRow base 38 5 (.slice a n cap) n (flatG l)) (hn : n = l.length) (hl : n ≤ 1000000) (hm : Mono fits l)
    (HF : ∀ x ∈ l, ∀ W, Go.RowKit.Below w.heap.size w W → Calls Try.prog fid #[.agg #[.int .i64 x.ls, .int .i64 x.la], fc] W fun e w' => e = .returned (.bool (fits x)) ∧ Go.RowKit.Below W.heap.size W w') :
    Calls Try.prog 80 #[.int .i64 (n : Int), .func (.func 81) #[] #[.pointer (some ⟨C3, 0, none⟩), .pointer (some ⟨C7, 0, none⟩)]] w fun e w' => e = .returned (.int .i64 (fitN fits l : Int)) ∧ Go.RowKit.Below w.heap.size w w' := by
  refine search_core 81 (fun _ _ => rfl) _ _ n (fitN fits l) w hl (by rw [hn]; exact fitN_le fits l) (Lib.hid fun t W ht hb => ?_)
  obtain ⟨gs, rfl, _, hx, _⟩ := own_atG (own_on ho hb) hn t ht
  have k : ∀ (a : Addr) (u : Value), w.cell? a = some u → W.cell? a = some u := fun a u hu => (hb.cell (p := a) (World.block_lt_of_cell? w _ hu)).trans hu
  have h := wayfit_core fid eg fc C3 C7 g p gs n cap t (l[t]'(by omega)) (fits (l[t]'(by omega))) W (k _ _ h3) (k _ _ h7) (k _ _ hs) ht hx (Lib.hid fun W' hb' => HF _ (List.getElem_mem _) W' (bt hb hb'))
  rw [fit_dec fits l hm t (by omega)] at h
  exact h
end Go.Proofs.Ytjgcdmeojjnjlaa
/- A node where it stands: at, kid, how many fit, told by NdPt. -/
namespace Go.Proofs.Ytjgcdmeojjnjlaa
open Go.RowKit Go.Sort Go.Proofs.Ytjgcdmeojjnjlaa.Bo Go.Proofs.Ytjgcdmeojjnjlaa.Bb
set_option linter.unusedVariables false
/-- nv points to a node that is n. -/
def NdPt (W : World) (base : Nat) (nv : Value) (n : Kn) : Prop :=
  ∃ (g p : Nat) (r : Rn), nv = .pointer (some ⟨g, p, none⟩) ∧ W.cell? ⟨g, p, none⟩ = some r.s.v ∧ W.cell? ⟨g, p + 1, none⟩ = some r.k.v ∧ NdAt W base r n
theorem NdAt.nums {w : World} {base : Nat} {r : Rn} {n : Kn} (h : NdAt w base r n) : r.s.n = n.segs.length ∧ r.k.n = n.kids.length := by
  obtain ⟨a1, c1, e1, _⟩ := own_slice h.s
  obtain ⟨a2, c2, e2, _⟩ := own_slice h.k
  injection e1 with _ e1 _
  injection e2 with _ e2 _
  exact ⟨e1, e2⟩
theorem NdAt.below {w w' : World} {base : Nat} {r : Rn} {n : Kn} (h : NdAt w base r n) (hb : Go.RowKit.Below w.heap.size w w') : NdAt w' base r n := h.kp (U := fun _ => False) (Kp.of_below _ hb) (fun _ _ => id)
theorem NdPt.below {w w' : World} {base : Nat} {nv : Value} {n : Kn} (h : NdPt w base nv n) (hb : Go.RowKit.Below w.heap.size w w') : NdPt w' base nv n := by
  obtain ⟨g, p, r, e, h1, h2, h3⟩ := h
  have k : ∀ (a : Addr) (u : Value), w.cell? a = some u → w'.cell? a = some u := fun a u hu => (hb.cell (p := a) (World.block_lt_of_cell? w _ hu)).trans hu
  exact ⟨g, p, r, e, k _ _ h1, k _ _ h2, h3.below hb⟩
theorem bat_node {w : World} {base T A : Nat} {t : Bx} {a : Ag Rn} {S0 : Nat → Prop} (h : BtW w base T A t a S0) (p : Nat) (n : Kn) (hp : t.f (p : Int) = some n) :
    ∃ np, NdPt w base (.pointer np) n ∧ ∀ W, Go.RowKit.Below w.heap.size w W → Calls Try.prog 50 #[aP A, .int .i64 (p : Int)] W fun e w' => e = .returned (.pointer np) ∧ W = w' := by
  obtain ⟨g, _, h1, h2, h3, _⟩ := h.turnRow p n hp
  exact ⟨some ⟨g, p * 3, none⟩, ⟨g, p * 3, _, rfl, h2, h3, h.node p n hp⟩, h1⟩
theorem bat_none {w : World} {base T A : Nat} {t : Bx} {a : Ag Rn} {S0 : Nat → Prop} (h : BtW w base T A t a S0) (i : Int) (hi : t.f i = none) :
    Calls Try.prog 50 #[aP A, .int .i64 i] w fun e w' => e = .returned (.pointer none) ∧ w = w' := by
  refine bnat_nil h.ar h.ok i ?_
  cases e : a.is i with
  | false => rfl
  | true => exact absurd hi ((h.is i).1 e)
theorem bkid_any {w : World} {base : Nat} {nv : Value} {n : Kn} (h : NdPt w base nv n) (k : Nat) (hk : n.kids.length ≠ 0 → k < n.kids.length) :
    Calls Try.prog 51 #[nv, .int .i64 (k : Int)] w fun e w' => e = .returned (.int .i64 (kidV n k)) ∧ w = w' := by
  obtain ⟨g, p, r, rfl, h1, h2, h3⟩ := h
  have hn := h3.nums.2
  have ho := h3.k
  rw [← hn] at ho
  exact bkid_core g p r.k.n r.k.c r.k.a base n.kids k w h2 ho hn hk
/-- How many fit, asked of a node in a box. -/
theorem bfit_any (fid : Nat) (eg : ∀ args w, (callFunc fid args).run Try.prog w = .ok (.enter fid args) w) (fc nv : Value) (C3 C7 base : Nat) (n : Kn) (fits : G5 → Bool) (w : World)
    (h3 : w.cell? ⟨C3, 0, none⟩ = some (.func (.func fid) #[] #[fc])) (h7 : w.cell? ⟨C7, 0, none⟩ = some nv) (h : NdPt w base nv n) (hl : n.segs.length ≤ 1000000) (hm : Mono fits n.segs)
    (HF : ∀ x ∈ n.segs, ∀ W, Go.RowKit.Below w.heap.size w W → Calls Try.prog fid #[.agg #[.int .i64 x.ls, .int .i64 x.la], fc] W fun e w' => e = .returned (.bool (fits x)) ∧ Go.RowKit.Below W.heap.size W w') :
    Calls Try.prog 80 #[.int .i64 (n.segs.length : Int), .func (.func 81) #[] #[.pointer (some ⟨C3, 0, none⟩), .pointer (some ⟨C7, 0, none⟩)]] w fun e w' => e = .returned (.int .i64 (fitN fits n.segs : Int)) ∧ Go.RowKit.Below w.heap.size w w' := by
  obtain ⟨g, p, r, rfl, h1, h2, h4⟩ := h
  have hn := h4.nums.1
  have ho := h4.s
  have hs : w.cell? ⟨g, p, none⟩ = some (.slice r.s.a n.segs.length r.s.c) := by rw [h1, ← hn]
  rw [show r.s.v = .slice r.s.a n.segs.length r.s.c by rw [← hn]] at ho
  exact bsearch_any fid eg fc C3 C7 g p n.segs.length r.s.c base r.s.a n.segs fits w h3 h7 hs ho rfl hl hm HF
end Go.Proofs.Ytjgcdmeojjnjlaa
