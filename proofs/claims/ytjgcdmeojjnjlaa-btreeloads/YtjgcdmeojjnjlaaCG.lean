/- A part of the proof: contracts of the functions that the statements reach. -/
import Derived.RangeFuncNested
import Derived.RangeFuncBound
import Derived.RangeFuncCalls
import Derived.RangeFuncLeaves
import Derived.Shelf.Abstract
import Derived.Shelf.RegionOpen
import Derived.WalkKit
import Derived.OwnWalkIn
import Derived.TacticsInMore
import Derived.LoopNIn
import Derived.LoopIn
import Derived.Shelf.SlSortCmp.WholeK
import Derived.WalkSpells
import Derived.WalkLawsBesides
import Derived.Lib.Hide
import Derived.Laws.StructEq
import Derived.Shelf.SlSortCmp.QuietGrown
import Derived.Laws.EntriesVeiled
import Derived.Deep.CutRange
import Derived.RegionTactic
import Derived.Lib.QuietBelow
import Derived.BigQuiet
import Derived.OpenShut
import Derived.Deep.RegionHeld3
import Derived.Deep.QuietTactic
import Derived.Maps.AppendAt
import Derived.Laws.IdiomCopy
import Derived.Deep.AppendLies
import Derived.Deep.LoopGhost
import Derived.Deep.Upon
import Derived.StillTailTactics
import Derived.Lib.SmallJoins
import Derived.Deep.SlicePairs
import Derived.Deep.Strs
import Derived.ChangeOld
import Derived.SizedLaws
import Derived.Lib.SliceRun
import Derived.Laws.CopyRow
import Derived.Below
import Derived.Laws.CopyOwn
import Derived.Deep.RegionLaw
import Derived.IntWalk
import Derived.Test.YtjgcdmeojjnjlaaCF

/- The steps of a way, gone through from the innermost on: where the first one behind it stands, and the last one ahead. No Go in sight. -/
namespace Go.Proofs.Ytjgcdmeojjnjlaa.Bb
open Go.Proofs.Ytjgcdmeojjnjlaa.Bo
set_option linter.unusedVariables false
def segsAt (f : Int → Option Kn) (p : Int) : List G5 := match f p with | some n => n.segs | none => []
def behI (f : Int → Option Kn) : List (Int × Int) → Option (Int × Nat)
  | [] => none
  | x :: r => if x.2.toNat < (segsAt f x.1).length then some (x.1, x.2.toNat) else behI f r
def aheI : List (Int × Int) → Option (Int × Nat)
  | [] => none
  | x :: r => if 0 < x.2 then some (x.1, x.2.toNat - 1) else aheI r
/-- The steps, the innermost first. -/
def wayRev (fits : G5 → Bool) (w : List BF × Bt) : List (Int × Int) := ((w.2.i : Int), (fitN fits w.2.s : Int)) :: w.1.map fun y => ((y.i : Int), (y.l.length : Int))
theorem wayRev_eq (fits : G5 → Bool) (w : List BF × Bt) : wayRev fits w = (wayRow fits w).reverse := by
  unfold wayRev wayRow rowSt
  rw [List.reverse_append, List.map_reverse, List.reverse_reverse]
  rfl
theorem wayRow_len (fits : G5 → Bool) (w : List BF × Bt) : (wayRow fits w).length = w.1.length + 1 := by unfold wayRow rowSt; simp
section
variable {d : Nat} {f : Int → Option Kn} {n : Nat} {root : Int} {L : List G5} {fits : G5 → Bool} {cx : List BF} {t : Bt}
theorem segsAt_node (t : Bt) (h : nodeAt f t) : segsAt f (t.i : Int) = t.s := by unfold segsAt; rw [h]
theorem repX_at (cx : List BF) : ∀ (h : Nat) (c : Int), RepX f h cx c → ∀ y ∈ cx, ∃ ks, f (y.i : Int) = some ⟨y.s, ks⟩ := by
  induction cx with
  | nil => intro h c _ y hy; simp at hy
  | cons z cx ih =>
    rintro h c ⟨h1, _, _, h4⟩ y hy
    rcases List.mem_cons.1 hy with rfl | hy
    · exact ⟨_, h1⟩
    · exact ih _ _ h4 y hy
theorem segsAt_frame {h : Nat} {c : Int} (hx : RepX f h cx c) (y : BF) (hy : y ∈ cx) : segsAt f (y.i : Int) = y.s := by
  obtain ⟨ks, e⟩ := repX_at cx h c hx y hy
  unfold segsAt; rw [e]
theorem behI_ctx (cx : List BF) : ∀ (h : Nat) (c : Int), RepX f h cx c →
    (behI f (cx.map fun y => ((y.i : Int), (y.l.length : Int))) = none ∧ behindS (cx.map fun y => (y.s, y.l.length)) = none ∧ ∀ z ∈ cx, z.l.length = z.s.length) ∨
    ∃ c1 y c2, cx = c1 ++ y :: c2 ∧ (∀ z ∈ c1, z.l.length = z.s.length) ∧ y.l.length < y.s.length ∧ behI f (cx.map fun y => ((y.i : Int), (y.l.length : Int))) = some ((y.i : Int), y.l.length) ∧ behindS (cx.map fun y => (y.s, y.l.length)) = y.s[y.l.length]? := by
  induction cx with
  | nil => intro h c _; exact .inl ⟨rfl, rfl, fun z hz => by simp at hz⟩
  | cons y cx ih =>
    rintro h c hx
    have hs := segsAt_frame hx y (List.mem_cons_self ..)
    obtain ⟨h1, h2, h3, h4⟩ := hx
    unfold BF.ok at h2
    have e1 : behI f ((y :: cx).map fun y => ((y.i : Int), (y.l.length : Int))) = if y.l.length < y.s.length then some ((y.i : Int), y.l.length) else behI f (cx.map fun y => ((y.i : Int), (y.l.length : Int))) := by
      show (if ((y.l.length : Int)).toNat < (segsAt f (y.i : Int)).length then some ((y.i : Int), ((y.l.length : Int)).toNat) else _) = _
      rw [hs, Int.toNat_natCast]
    have e2 : behindS ((y :: cx).map fun y => (y.s, y.l.length)) = if y.l.length < y.s.length then y.s[y.l.length]? else behindS (cx.map fun y => (y.s, y.l.length)) := rfl
    by_cases e : y.l.length < y.s.length
    · exact .inr ⟨[], y, cx, rfl, fun z hz => by simp at hz, e, by rw [e1, if_pos e], by rw [e2, if_pos e]⟩
    · rw [e1, e2, if_neg e, if_neg e]
      rcases ih _ _ h4 with ⟨k1, k2, k3⟩ | ⟨c1, z, c2, rfl, k2, k3, k4, k5⟩
      · refine .inl ⟨k1, k2, fun z hz => ?_⟩
        rcases List.mem_cons.1 hz with rfl | hz
        · omega
        · exact k3 z hz
      · refine .inr ⟨y :: c1, z, c2, rfl, fun w hw => ?_, k3, k4, k5⟩
        rcases List.mem_cons.1 hw with rfl | hw
        · omega
        · exact k2 w hw
/-- The first one behind a way: in the leaf, or in a frame; or there is none. -/
theorem Leaf.beh (l : Leaf d f n root L fits cx t) :
    (behI f (wayRev fits (cx, t)) = none ∧ behindS (stepsB fits (cx, t)) = none) ∨
    (fitN fits t.s < t.s.length ∧ behI f (wayRev fits (cx, t)) = some ((t.i : Int), fitN fits t.s) ∧ behindS (stepsB fits (cx, t)) = t.s[fitN fits t.s]?) ∨
    (fitN fits t.s = t.s.length ∧ ∃ c1 y c2, cx = c1 ++ y :: c2 ∧ (∀ z ∈ c1, z.l.length = z.s.length) ∧ y.l.length < y.s.length ∧ behI f (wayRev fits (cx, t)) = some ((y.i : Int), y.l.length) ∧ behindS (stepsB fits (cx, t)) = y.s[y.l.length]?) := by
  have hs := segsAt_node t l.z.tree.node
  have hle := fitN_le fits t.s
  have e1 : behI f (wayRev fits (cx, t)) = if fitN fits t.s < t.s.length then some ((t.i : Int), fitN fits t.s) else behI f (cx.map fun y => ((y.i : Int), (y.l.length : Int))) := by
    show (if ((fitN fits t.s : Int)).toNat < (segsAt f (t.i : Int)).length then some ((t.i : Int), ((fitN fits t.s : Int)).toNat) else _) = _
    rw [hs, Int.toNat_natCast]
  have e2 : behindS (stepsB fits (cx, t)) = if fitN fits t.s < t.s.length then t.s[fitN fits t.s]? else behindS (cx.map fun y => (y.s, y.l.length)) := rfl
  by_cases e : fitN fits t.s < t.s.length
  · exact .inr (.inl ⟨e, by rw [e1, if_pos e], by rw [e2, if_pos e]⟩)
  · rw [e1, e2, if_neg e, if_neg e]
    rcases behI_ctx cx 0 _ l.z.ctx with ⟨k1, k2, _⟩ | ⟨c1, y, c2, k1, k2, k3, k4, k5⟩
    · exact .inl ⟨k1, k2⟩
    · exact .inr (.inr ⟨by omega, c1, y, c2, k1, k2, k3, k4, k5⟩)
theorem aheI_ctx (cx : List BF) : ∀ (h : Nat) (c : Int), RepX f h cx c →
    (aheI (cx.map fun y => ((y.i : Int), (y.l.length : Int))) = none ∧ aheadS (cx.map fun y => (y.s, y.l.length)) = none) ∨
    ∃ y ∈ cx, 0 < y.l.length ∧ y.l.length ≤ y.s.length ∧ aheI (cx.map fun y => ((y.i : Int), (y.l.length : Int))) = some ((y.i : Int), y.l.length - 1) ∧ aheadS (cx.map fun y => (y.s, y.l.length)) = y.s[y.l.length - 1]? := by
  induction cx with
  | nil => intro h c _; exact .inl ⟨rfl, rfl⟩
  | cons y cx ih =>
    rintro h c ⟨h1, h2, h3, h4⟩
    unfold BF.ok at h2
    have e1 : aheI ((y :: cx).map fun y => ((y.i : Int), (y.l.length : Int))) = if 0 < y.l.length then some ((y.i : Int), y.l.length - 1) else aheI (cx.map fun y => ((y.i : Int), (y.l.length : Int))) := by
      show (if (0 : Int) < (y.l.length : Int) then some ((y.i : Int), ((y.l.length : Int)).toNat - 1) else _) = _
      rw [Int.toNat_natCast]
      by_cases e : 0 < y.l.length
      · rw [if_pos (by omega), if_pos e]
      · rw [if_neg (by omega), if_neg e]
    have e2 : aheadS ((y :: cx).map fun y => (y.s, y.l.length)) = if 0 < y.l.length then y.s[y.l.length - 1]? else aheadS (cx.map fun y => (y.s, y.l.length)) := rfl
    by_cases e : 0 < y.l.length
    · exact .inr ⟨y, List.mem_cons_self .., e, by omega, by rw [e1, if_pos e], by rw [e2, if_pos e]⟩
    · rw [e1, e2, if_neg e, if_neg e]
      rcases ih _ _ h4 with k | ⟨z, k1, k2⟩
      · exact .inl k
      · exact .inr ⟨z, List.mem_cons_of_mem _ k1, k2⟩
theorem Leaf.ahe (l : Leaf d f n root L fits cx t) :
    (aheI (wayRev fits (cx, t)) = none ∧ aheadS (stepsB fits (cx, t)) = none) ∨
    ∃ p k m g, aheI (wayRev fits (cx, t)) = some (((p : Nat) : Int), k) ∧ f (p : Int) = some m ∧ m.segs[k]? = some g ∧ aheadS (stepsB fits (cx, t)) = some g := by
  have hle := fitN_le fits t.s
  have e1 : aheI (wayRev fits (cx, t)) = if 0 < fitN fits t.s then some ((t.i : Int), fitN fits t.s - 1) else aheI (cx.map fun y => ((y.i : Int), (y.l.length : Int))) := by
    show (if (0 : Int) < (fitN fits t.s : Int) then some ((t.i : Int), ((fitN fits t.s : Int)).toNat - 1) else _) = _
    rw [Int.toNat_natCast]
    by_cases e : 0 < fitN fits t.s
    · rw [if_pos (by omega), if_pos e]
    · rw [if_neg (by omega), if_neg e]
  have e2 : aheadS (stepsB fits (cx, t)) = if 0 < fitN fits t.s then t.s[fitN fits t.s - 1]? else aheadS (cx.map fun y => (y.s, y.l.length)) := rfl
  by_cases e : 0 < fitN fits t.s
  · refine .inr ⟨t.i, fitN fits t.s - 1, _, t.s[fitN fits t.s - 1]'(by omega), by rw [e1, if_pos e], l.z.tree.node, List.getElem?_eq_getElem (by show fitN fits t.s - 1 < t.s.length; omega), by rw [e2, if_pos e, List.getElem?_eq_getElem (by omega)]⟩
  · rw [e1, e2, if_neg e, if_neg e]
    rcases aheI_ctx cx 0 _ l.z.ctx with k | ⟨y, k1, k2, k3, k4, k5⟩
    · exact .inl k
    · obtain ⟨ks, hk⟩ := repX_at cx 0 _ l.z.ctx y k1
      exact .inr ⟨y.i, y.l.length - 1, _, y.s[y.l.length - 1]'(by omega), k4, hk, List.getElem?_eq_getElem (by show y.l.length - 1 < y.s.length; omega), by rw [k5, List.getElem?_eq_getElem (by omega)]⟩
/-- The same of the one behind, as it is told. -/
theorem Leaf.behT (l : Leaf d f n root L fits cx t) :
    (behI f (wayRev fits (cx, t)) = none ∧ behindS (stepsB fits (cx, t)) = none) ∨
    ∃ p k m g, behI f (wayRev fits (cx, t)) = some (((p : Nat) : Int), k) ∧ f (p : Int) = some m ∧ m.segs[k]? = some g ∧ behindS (stepsB fits (cx, t)) = some g := by
  rcases l.beh with k | ⟨k1, k2, k3⟩ | ⟨k0, c1, y, c2, k1, k2, k3, k4, k5⟩
  · exact .inl k
  · exact .inr ⟨t.i, _, _, t.s[fitN fits t.s], k2, l.z.tree.node, List.getElem?_eq_getElem k1, by rw [k3, List.getElem?_eq_getElem k1]⟩
  · obtain ⟨ks, hk⟩ := repX_at cx 0 _ l.z.ctx y (by rw [k1]; simp)
    exact .inr ⟨y.i, _, _, y.s[y.l.length], k4, hk, List.getElem?_eq_getElem k3, by rw [k5, List.getElem?_eq_getElem k3]⟩
/-- Each step is a node, and its number is in order. -/
theorem Leaf.steps (l : Leaf d f n root L fits cx t) : ∀ x ∈ wayRev fits (cx, t), ∃ (p a : Nat) (m : Kn), x = ((p : Int), (a : Int)) ∧ f (p : Int) = some m ∧ a ≤ m.segs.length := by
  intro x hx
  rcases List.mem_cons.1 hx with rfl | hx
  · exact ⟨t.i, fitN fits t.s, _, rfl, l.z.tree.node, fitN_le fits t.s⟩
  · obtain ⟨y, hy, rfl⟩ := List.mem_map.1 hx
    obtain ⟨ks, hk⟩ := repX_at cx 0 _ l.z.ctx y hy
    have := repX_ok _ _ _ l.z.ctx y hy
    unfold BF.ok at this
    exact ⟨y.i, y.l.length, _, rfl, hk, by show y.l.length ≤ y.s.length; omega⟩
end
end Go.Proofs.Ytjgcdmeojjnjlaa.Bb
/- A region that draws its order, in a round of a range over a function: what is shown of it outside a round serves there, too. -/
namespace Go.Proofs.Ytjgcdmeojjnjlaa.Rf
open Go.RowKit Go.Sort
set_option linter.unusedVariables false
/-- Behind a region that is left by its end. -/
def onlyN (K : Act → World → Prop) : Exit → Act → World → Prop
  | .normal, a, w => K a w
  | _, _, _ => False
theorem onlyN_out (K : Act → World → Prop) : ¬ LetsOut (onlyN K) := by
  rintro ⟨a, w, h⟩
  exact h
def noDefer (o : Oper) : Bool := match o.op with | .defer _ => false | _ => true
theorem noDefer_ne {o : Oper} (h : noDefer o = true) : ∀ c, o.op ≠ .defer c := by
  intro c e
  unfold noDefer at h
  rw [e] at h
  cases h
variable {P : Program} {n l : Nat} {ops : Array Oper}
theorem wpOpIn_round {i : Nat} {K : Act → World → Prop} {Q : Exit → Act → World → Prop} {a : Act} {w : World} (hd : ∀ o, ops[i]? = some o → noDefer o = true) (hq : ¬ LetsOut Q) (h : wpOp P ops Q i K a w) : wpOpIn (Fence.wide.inRound l) n P ops Q i K a w := by
  unfold wpOp at h
  unfold wpOpIn
  split
  · rename_i e; simpa only [e] using h
  · rename_i o e
    simp only [e] at h
    split
    · rename_i hw
      simp only [hw, if_true] at h
      rcases h with h | h
      · refine ⟨fun _ _ => trivial, ?_⟩
        show o.uponIn (Fence.wide.inRound l) n P a K Q ((o.semAt (some l) a.eval).run P w)
        rw [Oper.semAt_some l a.eval o (noDefer_ne (hd o e))]
        unfold Oper.wp at h
        generalize (execOp a.eval o).run P w = r at *
        cases r with
        | ok x w' =>
          cases x <;> simp only [Oper.upon] at h <;> simp only [Oper.uponIn] <;>
            first
              | exact h
              | exact ⟨fun h => (by cases h), (callsIn_wide.2 (h.mono fun e w'' he => by cases e <;> exact he)).inRound l⟩
              | exact ⟨fun h => (by cases h), fun c cs _ => by
                  obtain ⟨v, w'', h1, h2⟩ := h c cs
                  exact ⟨v, w'', h1, stepsIn_wide.2 h2⟩⟩
              | exact h.elim
        | halt x w' => cases x <;> simp only [Oper.upon] at h <;> simp only [Oper.uponIn] <;> first | exact h | exact h.elim
      · exact absurd h.2 hq
    · rename_i hw
      simp only [hw] at h
      exact ⟨fun _ _ => trivial, h⟩
theorem wpAnyIn_round {Q : Exit → Act → World → Prop} (hd : ∀ (i : Nat) o, ops[i]? = some o → noDefer o = true) (hq : ¬ LetsOut Q) {md : Region.Mode} : ∀ (fuel : Nat) (listed : Array Bool) (a : Act) (w : World), wpAny P md ops Q fuel listed a w → wpAnyIn (Fence.wide.inRound l) n P md ops Q fuel listed a w
  | 0, _, _, _, h => h
  | fuel + 1, listed, a, w, h => ⟨h.1, fun i hi => wpOpIn_mono (fun a' w' h' => wpAnyIn_round hd hq fuel _ a' w' h') (wpOpIn_round (hd i) hq (h.2 i hi))⟩
theorem noDefer_all (h : ops.toList.all noDefer = true) (i : Nat) (o : Oper) (e : ops[i]? = some o) : noDefer o = true :=
  List.all_eq_true.1 h o (Array.mem_toList_iff.2 (Array.mem_of_getElem? e))
theorem wpIn_round_any {id : Nat} {K : Act → World → Prop} {Q : Exit → Act → World → Prop} {a : Act} {w : World} (hm : P.follows .mixedOrders = true) (hd : ops.toList.all noDefer = true) (hK : ∀ a' w', K a' w' → Q .normal a' w')
    (h : wpAny P .any ops (onlyN K) ops.size (Array.replicate ops.size false) a { w with drawn := w.drawn + 1 }) : (Code.region id ops true).wpIn (Fence.wide.inRound l) n P Q a w := by
  refine wpIn_mono (wpIn_region_any hm (wpAnyIn_round (noDefer_all hd) (onlyN_out K) _ _ _ _ h)) ?_
  intro e a' w' hq
  cases e <;> first | exact hK _ _ hq | exact hq.elim
/-- Whose operations only read, and whose callees lay blocks at most. -/
theorem wpIn_round_quiet_below {id : Nat} {Q : Exit → Act → World → Prop} {a : Act} {w : World} {ol : List Oper} (hm : P.follows .mixedOrders = true) (hB : Region.lexB .any ol.toArray = true) (hd : ol.all noDefer = true)
    (h : wpQuiet P ol.toArray (fun w' => ∃ p : Regrown, w' = grow (redrawn w p.d) p.os) (fun a' => ∀ w', (∃ p : Regrown, w' = grow (redrawn w p.d) p.os) → Q .normal a' w') ol a) : (Code.region id ol.toArray true).wpIn (Fence.wide.inRound l) n P Q a w := by
  refine wpIn_round_any (K := fun a' w' => Q .normal a' w') hm (by simpa using hd) (fun _ _ h => h) ?_
  simp only [Region.lexB, Bool.and_eq_true] at hB
  refine wpAny_of_quiet (C := fun w' => ∃ p : Regrown, w' = grow (redrawn w p.d) p.os) (Q := fun a' => ∀ w', (∃ p : Regrown, w' = grow (redrawn w p.d) p.os) → Q .normal a' w') (Q' := onlyN fun a' w' => Q .normal a' w') (fun _ w' hw' h => h w' hw') _ _ _ { w with drawn := w.drawn + 1 } ⟨⟨w.drawn + 1, #[]⟩, by rw [grow_empty]; rfl⟩ ?_
  have := wpAnyQ_lex (P := P) (C := fun w' => ∃ p : Regrown, w' = grow (redrawn w p.d) p.os) (md := .any) hB.1 ol 0 (Array.replicate ol.toArray.size false) a (by simp) (by simpa using hB.2) h
  simpa using this
/-- With a condition S on the world that each step shows anew. -/
theorem wpIn_round_held {id : Nat} {S : World → Prop} {K : Act → World → Prop} {Q : Exit → Act → World → Prop} {a : Act} {w : World} (hm : P.follows .mixedOrders = true) (hd : ops.toList.all noDefer = true) (hS : S w.drew)
    (hK : ∀ a' w', K a' w' → Q .normal a' w') (h : S w.drew → wpAnyH P .any ops (onlyN K) S ops.size (Array.replicate ops.size false) a w.drew) : (Code.region id ops true).wpIn (Fence.wide.inRound l) n P Q a w :=
  wpIn_round_any hm hd hK (wpAny_of_held _ _ _ _ (h hS))
end Go.Proofs.Ytjgcdmeojjnjlaa.Rf
/- ahead, behind: a way gone through from its end. -/
namespace Go.Proofs.Ytjgcdmeojjnjlaa
open Go.RowKit Go.Sort Go.Shelf Go.Proofs.Ytjgcdmeojjnjlaa.Bo Go.Proofs.Ytjgcdmeojjnjlaa.Bb Go.Proofs.Ytjgcdmeojjnjlaa.Rf
set_option linter.unusedVariables false
set_option linter.unusedSimpArgs false
set_option maxRecDepth 100000
attribute [local go_sem] Oper.semAt_some
theorem own_from_box {B b : Nat} {o : Obj} (ho : o.isCells = true) {X Y : World} {row : Option Nat} (h : X.heap[b]? = some o) (hg : X.grownBy Y row) (hr : ∀ r, row = some r → B ≤ r ∧ ∃ o : Obj, X.heap[r]? = some o ∧ o.isCells = false) : Y.heap[b]? = some o :=
  (hg.block b (lt_of_block h) (fun e => by
    obtain ⟨_, o', ho', hc⟩ := hr b e.symm
    rw [h] at ho'
    cases ho'
    rw [ho] at hc
    cases hc)).trans h
abbrev tbO (T : Nat) : Obj := .cells #[aP T] 26 (0, 0)
abbrev rsO (v : Option Addr) : Obj := .cells #[.pointer v] 93 (0, 0)
abbrev stO (x : Int × Int) : Obj := .cells #[.int .i64 x.1, .int .i64 x.2] 125 (0, 0)
theorem find_rev (ok : Int × Int → Bool) (xs : List (Int × Int)) (j : Nat) (hj : j < xs.length) (h : ∀ i, i < j → ok (xs.getD (xs.length - 1 - i) (0, 0)) = false) (hk : ok (xs.getD (xs.length - 1 - j) (0, 0)) = true) : xs.reverse.find? ok = some (xs.getD (xs.length - 1 - j) (0, 0)) := by
  rw [List.find?_eq_some_iff_getElem]
  refine ⟨hk, j, by simpa using hj, ?_, fun i hi => ?_⟩
  · rw [List.getElem_reverse, List.getD_eq_getElem?_getD, List.getElem?_eq_getElem (by omega)]; rfl
  · have := h i hi
    rw [List.getD_eq_getElem?_getD, List.getElem?_eq_getElem (by omega)] at this
    rw [List.getElem_reverse]
    simpa using this
theorem find_rev_none (ok : Int × Int → Bool) (xs : List (Int × Int)) (h : ∀ i, i < xs.length → ok (xs.getD (xs.length - 1 - i) (0, 0)) = false) : xs.reverse.find? ok = none := by
  rw [List.find?_eq_none]
  intro x hx
  obtain ⟨i, hi, rfl⟩ := List.mem_iff_getElem.1 hx
  have hi' : i < xs.length := by simpa using hi
  have := h i hi'
  rw [List.getD_eq_getElem?_getD, List.getElem?_eq_getElem (by omega)] at this
  rw [List.getElem_reverse]
  simpa using this
def ansI (ok : Int × Int → Bool) (pt : Int × Int → Option Addr) (l : List (Int × Int)) : Option Addr := match l.find? ok with | some x => pt x | none => none
/-- Between two rounds. -/
def AhI (w W0 : World) (Q : Nat → Prop) (T : Nat) (ok : Int × Int → Bool) (xs : List (Int × Int)) (j : Nat) (W : World) : Prop :=
  (W.heap[w.heap.size]? = some (tbO T) ∧ W.heap[w.heap.size + 1]? = some (rsO none) ∧ (∀ i, i < j → ok (xs.getD (xs.length - 1 - i) (0, 0)) = false)) ∧ Go.RowKit.Below w.heap.size w W ∧ Go.RowKit.Below W0.heap.size W0 W
def AhX (w W0 : World) (ans : Option Addr) (c : Code) (j : Nat) (W : World) : Prop := (c = .ret ∧ W.heap[w.heap.size + 1]? = some (rsO ans)) ∧ Go.RowKit.Below w.heap.size w W
theorem ahI_own (w W0 : World) (Q : Nat → Prop) (T : Nat) (ok : Int × Int → Bool) (xs : List (Int × Int)) (B : Nat) (h1 : w.heap.size ≤ B) (h2 : W0.heap.size ≤ B) : OwnFrom B (AhI w W0 Q T ok xs) := fun s X Y row hs hg hr =>
  ⟨⟨own_from_box rfl hs.1.1 hg hr, own_from_box rfl hs.1.2.1 hg hr, hs.1.2.2⟩, hs.2.1.grown hg hs.2.1.size (fun j e => by have := (hr j e).1; omega), hs.2.2.grown hg hs.2.2.size (fun j e => by have := (hr j e).1; omega)⟩
theorem ahX_own (w W0 : World) (ans : Option Addr) (c : Code) (B : Nat) (h1 : w.heap.size ≤ B) : OwnFrom B (AhX w W0 ans c) := fun s X Y row hs hg hr =>
  ⟨⟨hs.1.1, own_from_box rfl hs.1.2 hg hr⟩, hs.2.grown hg hs.2.size (fun j e => by have := (hr j e).1; omega)⟩
set_option maxHeartbeats 4000000 in
theorem bahead_core (T A : Nat) (ap : Option Addr) (cap base : Nat) (xs : List (Int × Int)) (t : Bx) (ok : Int × Int → Bool) (pt : Int × Int → Option Addr) (w : World) (HT : Hid (w.heap[T]? = some (bO A t)))
    (ho : w.ownsRow base 125 2 (.slice ap xs.length cap) xs.length (flat2 xs)) (hN : xs.length ≤ 1000000)
    (HAT : Hid (∀ x ∈ xs, ok x = decide (0 < x.2) ∧ (0 < x.2 → ∃ g po sb n c, w.cell? ⟨g, po, none⟩ = some (.slice (some ⟨sb, 0, none⟩) n c) ∧ (∀ W, Go.RowKit.Below w.heap.size w W → Calls Try.prog 50 #[aP A, .int .i64 x.1] W fun e w' => e = .returned (.pointer (some ⟨g, po, none⟩)) ∧ W = w') ∧ x.2 ≤ n ∧ n ≤ 1000000 ∧ pt x = some ⟨sb, (x.2.toNat - 1) * 5, none⟩))) :
    Calls Try.prog 53 #[aP T, .slice ap xs.length cap] w fun e w' => e = .returned (.pointer (ansI ok pt xs.reverse)) ∧ Go.RowKit.Below w.heap.size w w' := by
  have mx := mixed
  obtain ⟨ans, hans0⟩ : ∃ ans, ans = ansI ok pt xs.reverse := ⟨_, rfl⟩
  rw [← hans0]
  have HANS := Lib.hid hans0
  clear hans0
  have hB0 : Go.RowKit.Below w.heap.size w ((w.alloc (tbO T)).alloc (rsO none)) := bt (below_new _ _) (below_new _ _)
  have hB1 : Go.RowKit.Below w.heap.size w (((w.alloc (tbO T)).alloc (rsO none)).alloc (.cells #[.slice ap xs.length cap] 95)) := bt hB0 (below_new _ _)
  have HB1 := Lib.hid hB1
  have HTB : Hid ((((w.alloc (tbO T)).alloc (rsO none)).alloc (.cells #[.slice ap xs.length cap] 95)).heap[w.heap.size]? = some (tbO T)) := box_on (box_on (heap_alloc_new _ _) (below_new _ _)) (below_new _ _)
  have HRS : Hid ((((w.alloc (tbO T)).alloc (rsO none)).alloc (.cells #[.slice ap xs.length cap] 95)).heap[w.heap.size + 1]? = some (rsO none)) := box_on (new_at' _ (by simp)) (below_new _ _)
  have HBX : Hid ((((w.alloc (tbO T)).alloc (rsO none)).alloc (.cells #[.slice ap xs.length cap] 95)).heap[w.heap.size + 2]? = some (.cells #[.slice ap xs.length cap] 95 (0, 0))) := new_at' _ (by simp)
  have HOW := Lib.hid (own_on ho hB1)
  have HOLT := Lib.hid (fun b hb => (ho.lt b hb).2)
  clear hB0 hB1 ho
  refine (callsIn_wide (n := 6)).1 ?_
  refine callsIn_of_wp_marks Try.func53 rfl trivial ?_ rfl
  simp only [Try.ntmps53, List.size_toArray, List.length_cons, List.length_nil, Nat.reduceAdd, Nat.reduceSub, Array.replicate_succ, Array.replicate_zero, List.push_toArray, List.append_toArray, List.nil_append, List.cons_append]
  gi_wp2_with (refine ⟨trivial, ?_⟩; gi_at_call 79; refine (callsIn_wide.2 (bback_any ap xs.length cap _)).mono ?_; rintro e w' ⟨rfl, rfl⟩)
  obtain ⟨Q, HQ⟩ : ∃ Q : Nat → Prop, Hid (Q = fun b => b = w.heap.size + 2 ∨ (Value.slice ap xs.length cap).ownBlock = some b) := ⟨_, rfl⟩
  generalize ((w.alloc (tbO T)).alloc (rsO none)).alloc (.cells #[.slice ap xs.length cap] 95) = W0 at *
  have hsz : w.heap.size + 2 < W0.heap.size := lt_of_block HBX.out
  have hQlt : ∀ b, Q b → b < W0.heap.size := fun b hb => by
    rw [HQ.out] at hb
    rcases hb with rfl | hb
    · exact hsz
    · have := HOLT.out b hb; omega
  have HQL := Lib.hid hQlt
  have hdd : ∀ m : Nat, (Fence.wide.depth.isSome = true → 1 ≤ m) := fun m h => by cases h
  refine wpIn_rangeN (gf := 98) (lb := #[.pointer (some ⟨w.heap.size + 2, 0, none⟩)]) rfl (enters_of Try.func98 (by kernel_rfl) rfl)
    (bback_seq (w.heap.size + 2) ap cap base xs Q W0 HBX.out HOW.out (by rw [HQ.out]; exact .inl rfl) (fun b hb => by rw [HQ.out]; exact .inr hb) hN) kpQ.trans (kpQ_b hQlt) (Go.RowKit.Below.refl _ _) (fun _ => rfl)
    (AhI w W0 Q T ok xs) (AhX w W0 ans) (ahI_own w W0 Q T ok xs _ (by omega) (Nat.le_refl _)) (fun c => ahX_own w W0 ans c _ (by omega))
    ⟨⟨HTB.out, HRS.out, fun i hi => absurd hi (Nat.not_lt_zero _)⟩, HB1.out, Go.RowKit.Below.refl _ _⟩ ?round ?done ?stop
  case round =>
    rintro l j W K hj ⟨⟨h1, h2, h3⟩, h4, h5⟩ hK
    have hx : ∃ x, xs.getD (xs.length - 1 - j) (0, 0) = x ∧ x ∈ xs := ⟨_, rfl, by
      rw [List.getD_eq_getElem?_getD, List.getElem?_eq_getElem (by omega)]; exact List.getElem_mem _⟩
    obtain ⟨x, ex, hxm⟩ := hx
    have HX := Lib.hid ex
    rw [ex]
    have HW := Lib.hid (⟨⟨h1, h2, h3⟩, h4, h5⟩ : AhI w W0 Q T ok xs j W)
    clear h1 h2 h3 h4 h5 ex
    gi_wp2
    have hb6 := below_new W (stO x)
    refine hK _ _ ((KeepsOthers.alloc _ _).from _) (fun b hb => hb6.block b (Nat.lt_of_lt_of_le (HQL.out b hb) HW.out.2.2.size)) ⟨fun i V => (AhI w W0 Q T ok xs i V ∧ V.heap[W.heap.size]? = some (stO x)) ∧ W.heap.size ≤ V.heap.size, ?_, ⟨⟨own_after (ahI_own w W0 Q T ok xs W0.heap.size (by omega) (Nat.le_refl _)) HW.out hb6, heap_alloc_new W (stO x)⟩, hb6.size⟩, ?_⟩
    · exact fun s X Y row hs hg hr => ⟨⟨ahI_own w W0 Q T ok xs W0.heap.size (by omega) (Nat.le_refl _) s X Y row hs.1.1 hg hr, own_from_box rfl hs.1.2 hg hr⟩, Nat.le_trans hs.2 hg.size⟩
    rintro V ⟨⟨hI, hS⟩, hWV⟩
    have hWV0 : w.heap.size + 2 < W.heap.size := by have := HW.out.2.2.size; omega
    generalize W.heap.size = BX at *
    have HI := Lib.hid hI
    obtain ⟨⟨g1, g2, g3⟩, g4, g5⟩ := hI
    have HG3 := Lib.hid g3
    have c1 : V.cell? ⟨w.heap.size, 0, none⟩ = some (aP T) := (cell_of_row _ _ 0 _ _ _ g1).trans rfl
    have c2 : V.cell? ⟨T, 1, none⟩ = some (aP A) := (cell_of_row _ _ 1 _ _ _ (box_on HT.out g4)).trans rfl
    have c3 : V.cell? ⟨w.heap.size + 1, 0, none⟩ = some (.pointer none) := (cell_of_row _ _ 0 _ _ _ g2).trans rfl
    have f3 : V.frozen? ⟨w.heap.size + 1, 0, none⟩ = false := frozen_of_row _ _ 0 _ _ g2
    have c4 : V.cell? ⟨BX, 0, none⟩ = some (.int .i64 x.1) := (cell_of_row _ _ 0 _ _ _ hS).trans rfl
    have c5 : V.cell? ⟨BX, 1, none⟩ = some (.int .i64 x.2) := (cell_of_row _ _ 1 _ _ _ hS).trans rfl
    have HKQ : Hid (∀ Y, Go.RowKit.Below W0.heap.size W0 Y → kpQ Q V Y) := fun Y hY b hb => (hY.block b (HQL.out b hb)).trans (g5.block b (HQL.out b hb)).symm
    have HG4 := Lib.hid g4
    have HG5 := Lib.hid g5
    have HV2 := Lib.hid g2
    clear g1 g2 g3 g4 g5 hS
    obtain ⟨hok, hat⟩ := HAT.out x hxm
    by_cases hpos : 0 < x.2
    · obtain ⟨g, po, sb, n, c, k1, k2, k3, k4, k5⟩ := hat hpos
      obtain ⟨m, hm⟩ : ∃ m : Nat, x.2 = (m : Int) + 1 := ⟨(x.2 - 1).toNat, by omega⟩
      have hk1 : V.cell? ⟨g, po, none⟩ = some (.slice (some ⟨sb, 0, none⟩) n c) := (HG4.out.cell (p := ⟨g, po, none⟩) (World.block_lt_of_cell? w _ k1)).trans k1
      have hans : ans = some ⟨sb, m * 5, none⟩ := by
        rw [HANS.out]; unfold ansI; rw [find_rev ok xs j hj HG3.out (by rw [HX.out, hok]; simpa using hpos), HX.out]
        show pt x = _
        rw [k5, show x.2.toNat - 1 = m by omega]
      have HAN := Lib.hid hans
      have HAC : Hid (∀ W, Go.RowKit.Below w.heap.size w W → Calls Try.prog 50 #[aP A, .int .i64 x.1] W fun e w' => e = .returned (.pointer (some ⟨g, po, none⟩)) ∧ W = w') := k2
      rw [hm] at c5
      have i1 : IntKind.i64.wrap ((m : Int) + 1 - 1) = (m : Int) := by rw [show (m : Int) + 1 - 1 = (m : Int) by omega]; exact IntWalk.i64_in _ (by omega)
      have i2 : IntKind.i64.wrap (m : Int) = (m : Int) := IntWalk.i64_in _ (by omega)
      have t1 : (0 : Int) < (m : Int) + 1 := by omega
      have t2 : (0 : Int) ≤ (m : Int) := by omega
      have t3 : (m : Int) < (n : Int) := by omega
      have HGD : Hid (Go.RowKit.Below w.heap.size w V.drew) := HG4.out.drew
      have hg := World.block_lt_of_cell? w _ k1
      have hT := lt_of_block HT.out
      obtain ⟨S, hS⟩ : ∃ S : World → Prop, S = fun w' => w'.cell? ⟨w.heap.size, 0, none⟩ = some (aP T) ∧ w'.cell? ⟨T, 1, none⟩ = some (aP A) ∧ w'.cell? ⟨BX, 0, none⟩ = some (.int .i64 x.1) ∧ w'.cell? ⟨BX, 1, none⟩ = some (.int .i64 ((m : Int) + 1)) ∧ w'.cell? ⟨g, po, none⟩ = some (.slice (some ⟨sb, 0, none⟩) n c) := ⟨_, rfl⟩
      have HS1 : Hid (S V.drew) := by rw [hS]; exact ⟨c1, c2, c4, c5, hk1⟩
      have HS2 : Hid (S (V.setCell ⟨w.heap.size + 1, 0, none⟩ (.pointer (some ⟨sb, m * 5, none⟩))).drew) := by
        rw [hS]
        have far : ∀ (p : Addr) (u : Value), w.heap.size + 1 ≠ p.block → V.cell? p = some u → (V.setCell ⟨w.heap.size + 1, 0, none⟩ (.pointer (some ⟨sb, m * 5, none⟩))).drew.cell? p = some u := fun p u hne hu => (World.cell?_setCell_far _ _ _ _ hne).trans hu
        exact ⟨far _ _ (by simp) c1, far _ _ (by dsimp only; omega) c2, far _ _ (by dsimp only; omega) c4, far _ _ (by dsimp only; omega) c5, far _ _ (by dsimp only at hg ⊢; omega) hk1⟩
      have e3 : V.drew.cell? ⟨w.heap.size + 1, 0, none⟩ = some (.pointer none) := c3
      have q3 : V.drew.frozen? ⟨w.heap.size + 1, 0, none⟩ = false := f3
      clear hok hat hpos k1 k2 k3 k4 k5 hm hans hg hT
      gi_wp2
      clear c1 c2 c4 c5 hk1
      refine wpIn_round_held (S := S) mx (by kernel_rfl) HS1.out (fun _ _ h => h) (fun hHeld => ?_)
      subst hS
      refine wpAnyH_take (i := 0) (v := ?_) rfl (by kernel_rfl) (by kernel_rfl) (by kernel_rfl) (fun _ _ _ h => h) (Or.inl ⟨by rfl, ?_⟩) (by assumption) ?_
      rotate_left
      · intro w0 hSw; (try dsimp only at hSw); go_simp; all_goals (with_reducible rfl)
      try simp only [Act.put, List.setIfInBounds_toArray, List.set_cons_zero, List.set_cons_succ]
      refine wpAnyH_take (i := 1) (v := ?_) rfl (by kernel_rfl) (by kernel_rfl) (by kernel_rfl) (fun _ _ _ h => h) (Or.inl ⟨by rfl, ?_⟩) (by assumption) ?_
      rotate_left
      · intro w0 hSw; (try dsimp only at hSw); go_simp; all_goals (with_reducible rfl)
      try simp only [Act.put, List.setIfInBounds_toArray, List.set_cons_zero, List.set_cons_succ]
      refine wpAnyH_take (i := 2) (v := ?_) rfl (by kernel_rfl) (by kernel_rfl) (by kernel_rfl) (fun _ _ _ h => h) (Or.inl ⟨by rfl, ?_⟩) (by assumption) ?_
      rotate_left
      · intro w0 hSw; (try dsimp only at hSw); go_simp; all_goals (with_reducible rfl)
      try simp only [Act.put, List.setIfInBounds_toArray, List.set_cons_zero, List.set_cons_succ]
      refine wpAnyH_take (i := 3) (v := ?_) rfl (by kernel_rfl) (by kernel_rfl) (by kernel_rfl) (fun _ _ _ h => h) (Or.inl ⟨by rfl, ?_⟩) (by assumption) ?_
      rotate_left
      · intro w0 hSw; (try dsimp only at hSw); go_simp; all_goals (with_reducible rfl)
      try simp only [Act.put, List.setIfInBounds_toArray, List.set_cons_zero, List.set_cons_succ]
      refine wpAnyH_take (i := 4) (v := ?_) rfl (by kernel_rfl) (by kernel_rfl) (by kernel_rfl) (fun _ _ _ h => h) (Or.inl ⟨by rfl, ?_⟩) (by assumption) ?_
      rotate_left
      · intro w0 hSw; (try dsimp only at hSw); go_simp; all_goals (with_reducible rfl)
      try simp only [Act.put, List.setIfInBounds_toArray, List.set_cons_zero, List.set_cons_succ]
      refine wpAnyH_take (i := 5) (v := ?_) rfl (by kernel_rfl) (by kernel_rfl) (by kernel_rfl) (fun _ _ _ h => h) (Or.inl ⟨by rfl, ?_⟩) (by assumption) ?_
      rotate_left
      · intro w0 hSw; (try dsimp only at hSw); go_simp; all_goals (with_reducible rfl)
      try simp only [Act.put, List.setIfInBounds_toArray, List.set_cons_zero, List.set_cons_succ]
      refine wpAnyH_take (i := 10) (v := ?_) rfl (by kernel_rfl) (by kernel_rfl) (by kernel_rfl) (fun _ _ _ h => h) (Or.inl ⟨by rfl, ?_⟩) (by assumption) ?_
      rotate_left
      · intro w0 hSw; (try dsimp only at hSw); go_simp; all_goals (with_reducible rfl)
      try simp only [Act.put, List.setIfInBounds_toArray, List.set_cons_zero, List.set_cons_succ]
      refine wpAnyH_take (i := 11) (v := ?_) rfl (by kernel_rfl) (by kernel_rfl) (by kernel_rfl) (fun _ _ _ h => h) (Or.inl ⟨by rfl, ?_⟩) (by assumption) ?_
      rotate_left
      · intro w0 hSw; (try dsimp only at hSw); go_simp; all_goals (with_reducible rfl)
      try simp only [Act.put, List.setIfInBounds_toArray, List.set_cons_zero, List.set_cons_succ]
      refine wpAnyH_take (i := 12) (v := ?_) rfl (by kernel_rfl) (by kernel_rfl) (by kernel_rfl) (fun _ _ _ h => h) (Or.inl ⟨by rfl, ?_⟩) (by assumption) ?_
      rotate_left
      · intro w0 hSw; (try dsimp only at hSw); go_simp; all_goals (with_reducible rfl)
      try simp only [Act.put, List.setIfInBounds_toArray, List.set_cons_zero, List.set_cons_succ]
      refine wpAnyH_ready (rs := [6]) (by kernel_rfl) (by simp) ?_
      refine AllReadyH.cons rfl (fun K0 hK0 => ?_) AllReadyH.nil
      go_simp
      refine (HAC.out _ HGD.out).mono ?_
      rintro e w' ⟨rfl, rfl⟩
      try dsimp only
      refine hK0.out _ _ ?_ (fun hHeld => ?_)
      · (with_reducible first | exact HS1.out | exact HS2.out)
      clear hK0 K0
      try simp only [Act.put, List.setIfInBounds_toArray, List.set_cons_zero, List.set_cons_succ]
      refine wpAnyH_take (i := 7) (v := ?_) rfl (by kernel_rfl) (by kernel_rfl) (by kernel_rfl) (fun _ _ _ h => h) (Or.inl ⟨by rfl, ?_⟩) (by assumption) ?_
      rotate_left
      · intro w0 hSw; (try dsimp only at hSw); go_simp; all_goals (with_reducible rfl)
      try simp only [Act.put, List.setIfInBounds_toArray, List.set_cons_zero, List.set_cons_succ]
      refine wpAnyH_take (i := 8) (v := ?_) rfl (by kernel_rfl) (by kernel_rfl) (by kernel_rfl) (fun _ _ _ h => h) (Or.inl ⟨by rfl, ?_⟩) (by assumption) ?_
      rotate_left
      · intro w0 hSw; (try dsimp only at hSw); go_simp; all_goals (with_reducible rfl)
      try simp only [Act.put, List.setIfInBounds_toArray, List.set_cons_zero, List.set_cons_succ]
      refine wpAnyH_take (i := 9) (v := ?_) rfl (by kernel_rfl) (by kernel_rfl) (by kernel_rfl) (fun _ _ _ h => h) (Or.inl ⟨by rfl, ?_⟩) (by assumption) ?_
      rotate_left
      · intro w0 hSw; (try dsimp only at hSw); go_simp; all_goals (with_reducible rfl)
      try simp only [Act.put, List.setIfInBounds_toArray, List.set_cons_zero, List.set_cons_succ]
      refine wpAnyH_take (i := 13) (v := ?_) rfl (by kernel_rfl) (by kernel_rfl) (by kernel_rfl) (fun _ _ _ h => h) (Or.inl ⟨by rfl, ?_⟩) (by assumption) ?_
      rotate_left
      · intro w0 hSw; (try dsimp only at hSw); go_simp; all_goals (with_reducible rfl)
      try simp only [Act.put, List.setIfInBounds_toArray, List.set_cons_zero, List.set_cons_succ]
      refine wpAnyH_ready (rs := [14]) (by kernel_rfl) (by simp) ?_
      refine AllReadyH.cons rfl (fun K0 hK0 => ?_) AllReadyH.nil
      go_simp
      refine hK0.out _ _ ?_ (fun hHeld => ?_)
      · (with_reducible first | exact HS1.out | exact HS2.out)
      clear hK0 K0
      try simp only [Act.put, List.setIfInBounds_toArray, List.set_cons_zero, List.set_cons_succ]
      refine wpAnyH_done (by kernel_rfl) ?_ _
      simp only [onlyN]
      gi_wp2
      refine ⟨⟨(KeepsOthers.setCell V _ _).size, fun k o _ hk ho => (KeepsOthers.setCell V _ _).same k o hk ho⟩, ⟨rfl, ?_⟩, ?_⟩
      · rw [HAN.out]; exact heap_setCell_same _ (w.heap.size + 1) 0 _ _ _ HV2.out
      · exact (HG4.out.setCell (p := ⟨w.heap.size + 1, 0, none⟩) (by simp) _).drew
    · have t1 : ¬ 0 < x.2 := hpos
      clear hat
      gi_wp2
      refine ⟨KeepsFrom.refl _ _, HKQ.out V HG5.out, ⟨HI.out.1.1, HI.out.1.2.1, fun i hi => ?_⟩, HG4.out, HG5.out⟩
      by_cases e : i = j
      · rw [e, HX.out, hok]; simpa using hpos
      · exact HG3.out i (by omega)
  case done =>
    rintro D W hD ⟨⟨h1, h2, h3⟩, h4, h5⟩ hK
    have hans : ans = none := by rw [HANS.out]; unfold ansI; rw [find_rev_none ok xs h3]
    have c3 : W.cell? ⟨w.heap.size + 1, 0, none⟩ = some (.pointer none) := (cell_of_row _ _ 0 _ _ _ h2).trans rfl
    have f3 : W.frozen? ⟨w.heap.size + 1, 0, none⟩ = false := frozen_of_row _ _ 0 _ _ h2
    have HK := Lib.hid hK
    have H2 := Lib.hid h2
    have H4 := Lib.hid h4
    clear h1 h2 h3 h4 h5 hK
    gi_wp2
    have hs2 : (W.setCell ⟨w.heap.size + 1, 0, none⟩ (.pointer none)).heap[w.heap.size + 1]? = some (rsO none) := heap_setCell_same W (w.heap.size + 1) 0 _ _ (.pointer none) H2.out
    have hK2 : (W.setCell ⟨w.heap.size + 1, 0, none⟩ (.pointer none)).heap[D]? = some (.deferred (some [])) := (KeepsOthers.setCell _ _ _).same D _ HK.out rfl
    have hD1 : w.heap.size + 1 < D := by omega
    have hc : ((W.setCell ⟨w.heap.size + 1, 0, none⟩ (.pointer none)).putObj D (.deferred none)).cell? ⟨w.heap.size + 1, 0, none⟩ = some (.pointer none) := (cell_of_row _ _ 0 _ _ _ ((World.putObj_heap_other (by omega)).trans hs2)).trans rfl
    refine ⟨by simp, .inl ⟨_, _, rfl, run_takeDeferred hK2, ?_⟩⟩
    refine ⟨.pointer none, by simp [results, Try.results53, go_sem, hc], by rw [hans], ?_⟩
    exact (H4.out.setCell (p := ⟨w.heap.size + 1, 0, none⟩) (by simp) _).trans (belowK_b (n₀ := w.heap.size) (w := w) (Nat.le_refl _) _ D _ _ (by omega) hK2 rfl rfl)
  case stop =>
    rintro D j c W hD hj ⟨⟨rfl, h2⟩, h4⟩ hK
    have HK := Lib.hid hK
    have H4 := Lib.hid h4
    have hc : (W.putObj D (.deferred none)).cell? ⟨w.heap.size + 1, 0, none⟩ = some (.pointer ans) := (cell_of_row _ _ 0 _ _ _ ((World.putObj_heap_other (by omega)).trans h2)).trans rfl
    clear hK h2 h4
    gi_wp2
    refine ⟨by simp, .inl ⟨_, _, rfl, run_takeDeferred HK.out, ?_⟩⟩
    refine ⟨.pointer ans, by simp [results, Try.results53, go_sem, hc], rfl, ?_⟩
    exact H4.out.trans (belowK_b (n₀ := w.heap.size) (w := w) (Nat.le_refl _) W D _ _ (by omega) HK.out rfl rfl)
set_option maxHeartbeats 4000000 in
theorem bbehind_core (T A : Nat) (ap : Option Addr) (cap base : Nat) (xs : List (Int × Int)) (t : Bx) (ok : Int × Int → Bool) (pt : Int × Int → Option Addr) (w : World) (HT : Hid (w.heap[T]? = some (bO A t)))
    (ho : w.ownsRow base 125 2 (.slice ap xs.length cap) xs.length (flat2 xs)) (hN : xs.length ≤ 1000000)
    (HAT : Hid (∀ x ∈ xs, ∃ g po sa n c, w.cell? ⟨g, po, none⟩ = some (.slice sa n c) ∧ (∀ W, Go.RowKit.Below w.heap.size w W → Calls Try.prog 50 #[aP A, .int .i64 x.1] W fun e w' => e = .returned (.pointer (some ⟨g, po, none⟩)) ∧ W = w') ∧ 0 ≤ x.2 ∧ n ≤ 1000000 ∧ ok x = decide (x.2 < n) ∧ (x.2 < n → ∃ sb, sa = some ⟨sb, 0, none⟩ ∧ pt x = some ⟨sb, x.2.toNat * 5, none⟩))) :
    Calls Try.prog 57 #[aP T, .slice ap xs.length cap] w fun e w' => e = .returned (.pointer (ansI ok pt xs.reverse)) ∧ Go.RowKit.Below w.heap.size w w' := by
  have mx := mixed
  obtain ⟨ans, hans0⟩ : ∃ ans, ans = ansI ok pt xs.reverse := ⟨_, rfl⟩
  rw [← hans0]
  have HANS := Lib.hid hans0
  clear hans0
  have hB0 : Go.RowKit.Below w.heap.size w ((w.alloc (tbO T)).alloc (rsO none)) := bt (below_new _ _) (below_new _ _)
  have hB1 : Go.RowKit.Below w.heap.size w (((w.alloc (tbO T)).alloc (rsO none)).alloc (.cells #[.slice ap xs.length cap] 95)) := bt hB0 (below_new _ _)
  have HB1 := Lib.hid hB1
  have HTB : Hid ((((w.alloc (tbO T)).alloc (rsO none)).alloc (.cells #[.slice ap xs.length cap] 95)).heap[w.heap.size]? = some (tbO T)) := box_on (box_on (heap_alloc_new _ _) (below_new _ _)) (below_new _ _)
  have HRS : Hid ((((w.alloc (tbO T)).alloc (rsO none)).alloc (.cells #[.slice ap xs.length cap] 95)).heap[w.heap.size + 1]? = some (rsO none)) := box_on (new_at' _ (by simp)) (below_new _ _)
  have HBX : Hid ((((w.alloc (tbO T)).alloc (rsO none)).alloc (.cells #[.slice ap xs.length cap] 95)).heap[w.heap.size + 2]? = some (.cells #[.slice ap xs.length cap] 95 (0, 0))) := new_at' _ (by simp)
  have HOW := Lib.hid (own_on ho hB1)
  have HOLT := Lib.hid (fun b hb => (ho.lt b hb).2)
  clear hB0 hB1 ho
  refine (callsIn_wide (n := 6)).1 ?_
  refine callsIn_of_wp_marks Try.func57 rfl trivial ?_ rfl
  simp only [Try.ntmps57, List.size_toArray, List.length_cons, List.length_nil, Nat.reduceAdd, Nat.reduceSub, Array.replicate_succ, Array.replicate_zero, List.push_toArray, List.append_toArray, List.nil_append, List.cons_append]
  gi_wp2_with (refine ⟨trivial, ?_⟩; gi_at_call 79; refine (callsIn_wide.2 (bback_any ap xs.length cap _)).mono ?_; rintro e w' ⟨rfl, rfl⟩)
  obtain ⟨Q, HQ⟩ : ∃ Q : Nat → Prop, Hid (Q = fun b => b = w.heap.size + 2 ∨ (Value.slice ap xs.length cap).ownBlock = some b) := ⟨_, rfl⟩
  generalize ((w.alloc (tbO T)).alloc (rsO none)).alloc (.cells #[.slice ap xs.length cap] 95) = W0 at *
  have hsz : w.heap.size + 2 < W0.heap.size := lt_of_block HBX.out
  have hQlt : ∀ b, Q b → b < W0.heap.size := fun b hb => by
    rw [HQ.out] at hb
    rcases hb with rfl | hb
    · exact hsz
    · have := HOLT.out b hb; omega
  have HQL := Lib.hid hQlt
  have hdd : ∀ m : Nat, (Fence.wide.depth.isSome = true → 1 ≤ m) := fun m h => by cases h
  refine wpIn_rangeN (gf := 98) (lb := #[.pointer (some ⟨w.heap.size + 2, 0, none⟩)]) rfl (enters_of Try.func98 (by kernel_rfl) rfl)
    (bback_seq (w.heap.size + 2) ap cap base xs Q W0 HBX.out HOW.out (by rw [HQ.out]; exact .inl rfl) (fun b hb => by rw [HQ.out]; exact .inr hb) hN) kpQ.trans (kpQ_b hQlt) (Go.RowKit.Below.refl _ _) (fun _ => rfl)
    (AhI w W0 Q T ok xs) (AhX w W0 ans) (ahI_own w W0 Q T ok xs _ (by omega) (Nat.le_refl _)) (fun c => ahX_own w W0 ans c _ (by omega))
    ⟨⟨HTB.out, HRS.out, fun i hi => absurd hi (Nat.not_lt_zero _)⟩, HB1.out, Go.RowKit.Below.refl _ _⟩ ?round ?done ?stop
  case round =>
    rintro l j W K hj ⟨⟨h1, h2, h3⟩, h4, h5⟩ hK
    have hx : ∃ x, xs.getD (xs.length - 1 - j) (0, 0) = x ∧ x ∈ xs := ⟨_, rfl, by
      rw [List.getD_eq_getElem?_getD, List.getElem?_eq_getElem (by omega)]; exact List.getElem_mem _⟩
    obtain ⟨x, ex, hxm⟩ := hx
    have HX := Lib.hid ex
    rw [ex]
    have HW := Lib.hid (⟨⟨h1, h2, h3⟩, h4, h5⟩ : AhI w W0 Q T ok xs j W)
    clear h1 h2 h3 h4 h5 ex
    gi_wp2
    have hb6 := below_new W (stO x)
    refine hK _ _ ((KeepsOthers.alloc _ _).from _) (fun b hb => hb6.block b (Nat.lt_of_lt_of_le (HQL.out b hb) HW.out.2.2.size)) ⟨fun i V => (AhI w W0 Q T ok xs i V ∧ V.heap[W.heap.size]? = some (stO x)) ∧ W.heap.size ≤ V.heap.size, ?_, ⟨⟨own_after (ahI_own w W0 Q T ok xs W0.heap.size (by omega) (Nat.le_refl _)) HW.out hb6, heap_alloc_new W (stO x)⟩, hb6.size⟩, ?_⟩
    · exact fun s X Y row hs hg hr => ⟨⟨ahI_own w W0 Q T ok xs W0.heap.size (by omega) (Nat.le_refl _) s X Y row hs.1.1 hg hr, own_from_box rfl hs.1.2 hg hr⟩, Nat.le_trans hs.2 hg.size⟩
    rintro V ⟨⟨hI, hS⟩, hWV⟩
    have hWV0 : w.heap.size + 2 < W.heap.size := by have := HW.out.2.2.size; omega
    generalize W.heap.size = BX at *
    have HI := Lib.hid hI
    obtain ⟨⟨g1, g2, g3⟩, g4, g5⟩ := hI
    have HG3 := Lib.hid g3
    have c1 : V.cell? ⟨w.heap.size, 0, none⟩ = some (aP T) := (cell_of_row _ _ 0 _ _ _ g1).trans rfl
    have c2 : V.cell? ⟨T, 1, none⟩ = some (aP A) := (cell_of_row _ _ 1 _ _ _ (box_on HT.out g4)).trans rfl
    have c3 : V.cell? ⟨w.heap.size + 1, 0, none⟩ = some (.pointer none) := (cell_of_row _ _ 0 _ _ _ g2).trans rfl
    have f3 : V.frozen? ⟨w.heap.size + 1, 0, none⟩ = false := frozen_of_row _ _ 0 _ _ g2
    have c4 : V.cell? ⟨BX, 0, none⟩ = some (.int .i64 x.1) := (cell_of_row _ _ 0 _ _ _ hS).trans rfl
    have c5 : V.cell? ⟨BX, 1, none⟩ = some (.int .i64 x.2) := (cell_of_row _ _ 1 _ _ _ hS).trans rfl
    have HKQ : Hid (∀ Y, Go.RowKit.Below W0.heap.size W0 Y → kpQ Q V Y) := fun Y hY b hb => (hY.block b (HQL.out b hb)).trans (g5.block b (HQL.out b hb)).symm
    have HG4 := Lib.hid g4
    have HG5 := Lib.hid g5
    have HV2 := Lib.hid g2
    clear g1 g2 g3 g4 g5 hS
    obtain ⟨g, po, sa, n, c, k1, k2, k3, k4, hok, k5⟩ := HAT.out x hxm
    have hk1 : V.cell? ⟨g, po, none⟩ = some (.slice sa n c) := (HG4.out.cell (p := ⟨g, po, none⟩) (World.block_lt_of_cell? w _ k1)).trans k1
    have hk2 : V.drew.cell? ⟨g, po, none⟩ = some (.slice sa n c) := hk1
    obtain ⟨m, hm⟩ : ∃ m : Nat, x.2 = (m : Int) := ⟨x.2.toNat, by omega⟩
    have HAC : Hid (∀ W, Go.RowKit.Below w.heap.size w W → Calls Try.prog 50 #[aP A, .int .i64 x.1] W fun e w' => e = .returned (.pointer (some ⟨g, po, none⟩)) ∧ W = w') := k2
    have HGD : Hid (Go.RowKit.Below w.heap.size w V.drew) := HG4.out.drew
    have HGD0 : Hid (Go.RowKit.Below W0.heap.size W0 V.drew) := HG5.out.drew
    by_cases hpos : x.2 < (n : Int)
    · obtain ⟨sb, rfl, hpt⟩ := k5 hpos
      have hans : ans = some ⟨sb, m * 5, none⟩ := by
        rw [HANS.out]; unfold ansI; rw [find_rev ok xs j hj HG3.out (by rw [HX.out, hok]; simpa using hpos), HX.out]
        show pt x = _
        rw [hpt, show x.2.toNat = m by omega]
      have HAN := Lib.hid hans
      rw [hm] at c5
      have t2 : (0 : Int) ≤ (m : Int) := by omega
      have t3 : (m : Int) < (n : Int) := by omega
      have p1 := cell_regrown c1
      have p2 := cell_regrown c2
      have p4 := cell_regrown c4
      have p5 := cell_regrown c5
      have p6 := cell_regrown hk1
      clear hok hpos k1 k2 k3 k4 k5 hm hans hpt c1 c2 c3 f3 c4 c5 hk1 hk2
      gi_wp2
      clear mx
      have mx := mixed
      refine wpIn_round_quiet_below (by assumption) (by kernel_rfl) (by kernel_rfl) ?_
      repeat (go_big_quiet_step (first | (go_at_call 50; exact Calls.regrown_of ((HAC.out _ (bt HG4.out (below_regrown _ _ _))).mono fun e w' h => ⟨h.1, h.2 ▸ Go.RowKit.Below.refl _ _⟩))))
      refine wpQuiet_nil ?_
      intro _ hw'
      obtain ⟨⟨nq, osq⟩, hw''⟩ := hw'
      subst hw''
      have hB := below_regrown V nq osq
      have z5 := p5 nq osq
      have z3 := box_on HV2.out hB
      generalize grow (redrawn V nq) osq = Y at *
      clear p1 p2 p4 p5 p6
      have y3 : Y.cell? ⟨w.heap.size + 1, 0, none⟩ = some (.pointer none) := (cell_of_row _ _ 0 _ _ _ z3).trans rfl
      have x3 : Y.frozen? ⟨w.heap.size + 1, 0, none⟩ = false := frozen_of_row _ _ 0 _ _ z3
      gi_wp2
      refine ⟨(KeepsOthers.trans (KeepsOthers.of_grownBy (row := none) ⟨hB.os, hB.tape, hB.output, hB.size, fun k hk _ => hB.block k hk⟩ (fun j o e => by cases e)) (KeepsOthers.setCell Y ⟨w.heap.size + 1, 0, none⟩ (.pointer (some ⟨sb, m * 5, none⟩)))).from _, ⟨rfl, ?_⟩, ?_⟩
      · rw [HAN.out]; exact heap_setCell_same _ (w.heap.size + 1) 0 _ _ _ (box_on HV2.out hB)
      · exact (bt HG4.out hB).setCell (p := ⟨w.heap.size + 1, 0, none⟩) (by simp) _
    · have HOK := Lib.hid hok
      have HPOS := Lib.hid hpos
      rw [hm] at c5
      have t3 : ¬ (m : Int) < (n : Int) := by omega
      have p1 := cell_regrown c1
      have p2 := cell_regrown c2
      have p4 := cell_regrown c4
      have p5 := cell_regrown c5
      have p6 := cell_regrown hk1
      clear hok hpos k1 k2 k3 k4 k5 hm c1 c2 c3 f3 c4 c5 hk1 hk2
      gi_wp2
      clear mx
      have mx := mixed
      refine wpIn_round_quiet_below (by assumption) (by kernel_rfl) (by kernel_rfl) ?_
      repeat (go_big_quiet_step (first | (go_at_call 50; exact Calls.regrown_of ((HAC.out _ (bt HG4.out (below_regrown _ _ _))).mono fun e w' h => ⟨h.1, h.2 ▸ Go.RowKit.Below.refl _ _⟩))))
      refine wpQuiet_nil ?_
      intro _ hw'
      obtain ⟨⟨nq, osq⟩, hw''⟩ := hw'
      subst hw''
      have hB := below_regrown V nq osq
      have z5 := p5 nq osq
      have z3 := box_on HV2.out hB
      generalize grow (redrawn V nq) osq = Y at *
      clear p1 p2 p4 p5 p6
      have y3 : Y.cell? ⟨w.heap.size + 1, 0, none⟩ = some (.pointer none) := (cell_of_row _ _ 0 _ _ _ z3).trans rfl
      have x3 : Y.frozen? ⟨w.heap.size + 1, 0, none⟩ = false := frozen_of_row _ _ 0 _ _ z3
      gi_wp2
      refine ⟨(KeepsOthers.of_grownBy (row := none) ⟨hB.os, hB.tape, hB.output, hB.size, fun k hk _ => hB.block k hk⟩ (fun j o e => by cases e)).from _, HKQ.out _ (bt HG5.out hB), ⟨box_on HI.out.1.1 hB, box_on HI.out.1.2.1 hB, fun i hi => ?_⟩, bt HG4.out hB, bt HG5.out hB⟩
      by_cases e : i = j
      · rw [e, HX.out, HOK.out]; simpa using HPOS.out
      · exact HG3.out i (by omega)
  case done =>
    rintro D W hD ⟨⟨h1, h2, h3⟩, h4, h5⟩ hK
    have hans : ans = none := by rw [HANS.out]; unfold ansI; rw [find_rev_none ok xs h3]
    have c3 : W.cell? ⟨w.heap.size + 1, 0, none⟩ = some (.pointer none) := (cell_of_row _ _ 0 _ _ _ h2).trans rfl
    have f3 : W.frozen? ⟨w.heap.size + 1, 0, none⟩ = false := frozen_of_row _ _ 0 _ _ h2
    have HK := Lib.hid hK
    have H2 := Lib.hid h2
    have H4 := Lib.hid h4
    clear h1 h2 h3 h4 h5 hK
    gi_wp2
    have hs2 : (W.setCell ⟨w.heap.size + 1, 0, none⟩ (.pointer none)).heap[w.heap.size + 1]? = some (rsO none) := heap_setCell_same W (w.heap.size + 1) 0 _ _ (.pointer none) H2.out
    have hK2 : (W.setCell ⟨w.heap.size + 1, 0, none⟩ (.pointer none)).heap[D]? = some (.deferred (some [])) := (KeepsOthers.setCell _ _ _).same D _ HK.out rfl
    have hD1 : w.heap.size + 1 < D := by omega
    have hc : ((W.setCell ⟨w.heap.size + 1, 0, none⟩ (.pointer none)).putObj D (.deferred none)).cell? ⟨w.heap.size + 1, 0, none⟩ = some (.pointer none) := (cell_of_row _ _ 0 _ _ _ ((World.putObj_heap_other (by omega)).trans hs2)).trans rfl
    refine ⟨by simp, .inl ⟨_, _, rfl, run_takeDeferred hK2, ?_⟩⟩
    refine ⟨.pointer none, by simp [results, Try.results57, go_sem, hc], by rw [hans], ?_⟩
    exact (H4.out.setCell (p := ⟨w.heap.size + 1, 0, none⟩) (by simp) _).trans (belowK_b (n₀ := w.heap.size) (w := w) (Nat.le_refl _) _ D _ _ (by omega) hK2 rfl rfl)
  case stop =>
    rintro D j c W hD hj ⟨⟨rfl, h2⟩, h4⟩ hK
    have HK := Lib.hid hK
    have H4 := Lib.hid h4
    have hc : (W.putObj D (.deferred none)).cell? ⟨w.heap.size + 1, 0, none⟩ = some (.pointer ans) := (cell_of_row _ _ 0 _ _ _ ((World.putObj_heap_other (by omega)).trans h2)).trans rfl
    clear hK h2 h4
    gi_wp2
    refine ⟨by simp, .inl ⟨_, _, rfl, run_takeDeferred HK.out, ?_⟩⟩
    refine ⟨.pointer ans, by simp [results, Try.results57, go_sem, hc], rfl, ?_⟩
    exact H4.out.trans (belowK_b (n₀ := w.heap.size) (w := w) (Nat.le_refl _) W D _ _ (by omega) HK.out rfl rfl)
end Go.Proofs.Ytjgcdmeojjnjlaa
/- What is told of the nearest segments: the walks. -/
namespace Go.Proofs.Ytjgcdmeojjnjlaa
open Go.RowKit Go.Sort Go.Proofs.Ytjgcdmeojjnjlaa.Bo Go.Proofs.Ytjgcdmeojjnjlaa.Bb
set_option linter.unusedVariables false
set_option maxRecDepth 100000
theorem bbelow_b (s a : Int) (W : World) : Calls Try.prog 56 #[.agg #[.int .i64 s, .int .i64 a]] W fun e w' => ∃ c, (e = .returned (.func (.func 84) #[] #[.pointer (some ⟨c, 0, none⟩)]) ∧ w'.heap[c]? = some (.cells #[.int .i64 s, .int .i64 a] 34)) ∧ Go.RowKit.Below W.heap.size W w' :=
  (bbelow_any s a W).mono fun e w' ⟨h1, h2⟩ => ⟨W.heap.size, ⟨h1, h2 ▸ heap_alloc_new _ _⟩, h2 ▸ below_new _ _⟩
theorem bnotAbove_b (s a : Int) (W : World) : Calls Try.prog 55 #[.agg #[.int .i64 s, .int .i64 a]] W fun e w' => ∃ c, (e = .returned (.func (.func 82) #[] #[.pointer (some ⟨c, 0, none⟩)]) ∧ w'.heap[c]? = some (.cells #[.int .i64 s, .int .i64 a] 34)) ∧ Go.RowKit.Below W.heap.size W w' :=
  (bnotAbove_any s a W).mono fun e w' ⟨h1, h2⟩ => ⟨W.heap.size, ⟨h1, h2 ▸ heap_alloc_new _ _⟩, h2 ▸ below_new _ _⟩
set_option maxHeartbeats 2000000 in
theorem bfound_no (T n cap : Nat) (ap : Option Addr) (x y : Int) (w : World) (HB : Hid (∀ W, Go.RowKit.Below w.heap.size w W → Calls Try.prog 57 #[aP T, .slice ap n cap] W fun e w' => e = .returned (.pointer none) ∧ Go.RowKit.Below W.heap.size W w')) :
    Calls Try.prog 59 #[aP T, .slice ap n cap, .agg #[.int .i64 x, .int .i64 y]] w fun e w' => e = .returned (.pointer none) ∧ Go.RowKit.Below w.heap.size w w' := by
  have mx := mixed
  have HB0 := Lib.hid (below_new w (.cells #[.int .i64 x, .int .i64 y] 34))
  have HK0 := Lib.hid (heap_alloc_new w (.cells #[.int .i64 x, .int .i64 y] 34))
  go_enter Try.func59, Try.ntmps59
  go_wp2_with fail
  refine (HB.out _ HB0.out).mono ?_
  rintro e y1 ⟨rfl, hb⟩
  have HB1 := Lib.hid (bt HB0.out hb)
  obtain ⟨d1, d2, _, _⟩ := two_cells (box_on HK0.out hb)
  have p1 := cell_regrown d1
  have p2 := cell_regrown d2
  clear hb d1 d2
  go_wp2_with fail
  refine wp_region_quiet_below (by assumption) (by kernel_rfl) ?_
  repeat (go_big_quiet_step (fail))
  refine wpQuiet_nil ?_
  intro _ hw'
  obtain ⟨⟨nq, osq⟩, hw''⟩ := hw'
  subst hw''
  have HB3 := Lib.hid (bt HB1.out (below_regrown y1 nq osq))
  clear p1 p2
  generalize grow (redrawn y1 nq) osq = y3 at *
  go_wp2_with fail
  go_ret
  exact ⟨rfl, HB3.out⟩
set_option maxHeartbeats 2000000 in
theorem bfound_yes (T n cap b o : Nat) (ap : Option Addr) (x y : Int) (g : G5) (w : World) (hy : I64 y) (hg : I64 g.la) (HB : Hid (∀ W, Go.RowKit.Below w.heap.size w W → Calls Try.prog 57 #[aP T, .slice ap n cap] W fun e w' => e = .returned (.pointer (some ⟨b, o, none⟩)) ∧ Go.RowKit.Below W.heap.size W w'))
    (HG : Hid (Cells5 w b o g)) : Calls Try.prog 59 #[aP T, .slice ap n cap, .agg #[.int .i64 x, .int .i64 y]] w fun e w' => e = .returned (.pointer (if g.key = key x y then some ⟨b, o, none⟩ else none)) ∧ Go.RowKit.Below w.heap.size w w' := by
  have mx := mixed
  have HC := Lib.hid (fun W => compare_any g.ls g.la x y W hg hy)
  obtain ⟨B, HBQ⟩ : ∃ B, Hid ((kcmp (key g.ls g.la) (key x y) != 0) = B ∧ (B = true → ¬ g.key = key x y) ∧ (B = false → g.key = key x y)) := by
    refine ⟨kcmp (key g.ls g.la) (key x y) != 0, Lib.hid ⟨rfl, fun h => ?_, fun h => ?_⟩⟩
    · have : kcmp (key g.ls g.la) (key x y) ≠ 0 := by simpa using h
      unfold G5.key; unfold kcmp at this; intro e; rw [e] at this; simp at this
    · have : kcmp (key g.ls g.la) (key x y) = 0 := by simpa using h
      unfold G5.key; unfold kcmp at this; split at this
      · cases this
      · split at this
        · cases this
        · omega
  generalize kcmp (key g.ls g.la) (key x y) = K at *
  obtain ⟨ans, hans⟩ : ∃ ans : Option Addr, ans = if g.key = key x y then some ⟨b, o, none⟩ else none := ⟨_, rfl⟩
  rw [← hans]
  have HAN := Lib.hid hans
  clear hans
  have HB0 := Lib.hid (below_new w (.cells #[.int .i64 x, .int .i64 y] 34))
  have HK0 := Lib.hid (heap_alloc_new w (.cells #[.int .i64 x, .int .i64 y] 34))
  go_enter Try.func59, Try.ntmps59
  go_wp2_with fail
  refine (HB.out _ HB0.out).mono ?_
  rintro e y1 ⟨rfl, hb⟩
  have HB1 := Lib.hid (bt HB0.out hb)
  obtain ⟨d1, d2, _, _⟩ := two_cells (box_on HK0.out hb)
  have p1 := cell_regrown d1
  have p2 := cell_regrown d2
  obtain ⟨p3, p4, _, _, _⟩ := (HG.out.below HB1.out).re
  clear hb d1 d2
  go_wp2_with fail
  refine wp_region_quiet_below (by assumption) (by kernel_rfl) ?_
  repeat (go_big_quiet_step (first
    | (go_at_call 83; exact Calls.regrown_of ((HC.out _).mono fun _ _ h => ⟨h.1, h.2.1⟩))))
  refine wpQuiet_nil ?_
  intro _ hw'
  obtain ⟨⟨nq, osq⟩, hw''⟩ := hw'
  subst hw''
  have HB3 := Lib.hid (bt HB1.out (below_regrown y1 nq osq))
  clear p1 p2 p3 p4
  generalize grow (redrawn y1 nq) osq = y3 at *
  obtain ⟨hQ, hQ1, hQ2⟩ := HBQ.out
  cases B with
  | true =>
    have e : ¬ K = 0 := by simpa using hQ
    have HNE := Lib.hid ((HAN.out).trans (if_neg (hQ1 rfl)))
    clear hQ1 hQ2
    go_wp2_with fail
    go_ret
    exact ⟨by rw [HNE.out]; rfl, HB3.out⟩
  | false =>
    have e : K = 0 := by simpa using hQ
    have HNE := Lib.hid ((HAN.out).trans (if_pos (hQ2 rfl)))
    clear hQ1 hQ2
    subst e
    go_wp2_with fail
    go_ret
    exact ⟨by rw [HNE.out]; rfl, HB3.out⟩
set_option maxHeartbeats 2000000 in
theorem bfloor_core (T : Nat) (x y : Int) (o : Option Addr) (g : G5) (b : Bool) (PW : Option Addr → Nat → Nat → World → Prop) (w : World)
    (HW : Hid (∀ W c, Go.RowKit.Below w.heap.size w W → W.heap[c]? = some (.cells #[.int .i64 x, .int .i64 y] 34) → Calls Try.prog 54 #[aP T, .func (.func 82) #[] #[.pointer (some ⟨c, 0, none⟩)]] W fun e w' => ∃ ap n cap, (e = .returned (.slice ap n cap) ∧ PW ap n cap w') ∧ Go.RowKit.Below W.heap.size W w'))
    (HA : Hid (∀ ap n cap W, PW ap n cap W → Go.RowKit.Below w.heap.size w W → Calls Try.prog 53 #[aP T, .slice ap n cap] W fun e w' => e = .returned (.pointer o) ∧ Go.RowKit.Below W.heap.size W w'))
    (HD : Hid (∀ W, Go.RowKit.Below w.heap.size w W → Calls Try.prog 52 #[.pointer o] W fun e w' => e = .returned (.tuple #[vG g, .bool b]) ∧ Go.RowKit.Below W.heap.size W w')) :
    Calls Try.prog 23 #[aP T, .agg #[.int .i64 x, .int .i64 y]] w fun e w' => e = .returned (.tuple #[vG g, .bool b]) ∧ Go.RowKit.Below w.heap.size w w' := by
  have mx := mixed
  have HR0 := Lib.hid (show ((w.alloc (.cells #[.int .i64 x, .int .i64 y] 34)).alloc zG).heap[w.heap.size + 1]? = some zG from new_at' _ (by simp))
  have HB0 := Lib.hid (bt (below_new w (.cells #[.int .i64 x, .int .i64 y] 34)) (below_new _ zG))
  have HK0 := Lib.hid (two_cells (show ((w.alloc (.cells #[.int .i64 x, .int .i64 y] 34)).alloc zG).heap[w.heap.size]? = some (.cells #[.int .i64 x, .int .i64 y] 34) from box_on (heap_alloc_new _ _) (below_new _ _)))
  go_enter Try.func23, Try.ntmps23
  go_upto_region 1 with fail
  generalize (w.alloc (.cells #[.int .i64 x, .int .i64 y] 34)).alloc zG = X at *
  obtain ⟨k1, k2, _, _⟩ := HK0.out
  go_wp2_with fail
  refine (bnotAbove_b x y _).mono ?_
  rintro e y1 ⟨c, ⟨rfl, hc⟩, hb⟩
  have HC1 := Lib.hid hc
  have HB1 := Lib.hid (bt HB0.out hb)
  replace HR0 := Lib.hid (box_on HR0.out hb)
  clear hb hc k1 k2
  go_wp2_with fail
  refine (HW.out _ c HB1.out HC1.out).mono ?_
  rintro e y2 ⟨ap, n, cap, ⟨rfl, hp⟩, hb⟩
  have HP2 := Lib.hid hp
  have HB2 := Lib.hid (bt HB1.out hb)
  replace HR0 := Lib.hid (box_on HR0.out hb)
  clear hb hp
  go_wp2_with fail
  refine (HA.out ap n cap _ HP2.out HB2.out).mono ?_
  rintro e y3 ⟨rfl, hb⟩
  have HB3 := Lib.hid (bt HB2.out hb)
  replace HR0 := Lib.hid (box_on HR0.out hb)
  clear hb
  go_wp2_with fail
  refine (HD.out _ HB3.out).mono ?_
  rintro e y4 ⟨rfl, hb⟩
  have hR := box_on HR0.out hb
  have hBY := bt HB3.out hb
  clear hb
  obtain ⟨d0, d1, d2, d3, d4⟩ := five_cells (g := g0) hR
  have z0 := five_frozen (g := g0) hR 0
  have z1 := five_frozen (g := g0) hR 1
  have z2 := five_frozen (g := g0) hR 2
  have z3 := five_frozen (g := g0) hR 3
  have z4 := five_frozen (g := g0) hR 4
  obtain ⟨q0, q1, q2, q3, q4⟩ := five_cells (five_put (g := g0) hR g)
  have HE := Lib.hid (seg5_below (b := w.heap.size + 1) hBY (by omega) g)
  simp only [Nat.zero_add] at d1 d2 d3 d4 q1 q2 q3 q4
  clear hR hBY
  go_wp2_with fail
  refine bodyPost_ret (v := .tuple #[vG g, .bool b]) (by simp [results, Try.results23, go_sem, q0, q1, q2, q3, q4]) rfl ?_
  exact ⟨rfl, HE.out⟩
set_option maxHeartbeats 2000000 in
theorem blower_core (T : Nat) (x y : Int) (o : Option Addr) (g : G5) (b : Bool) (PW : Option Addr → Nat → Nat → World → Prop) (w : World)
    (HW : Hid (∀ W c, Go.RowKit.Below w.heap.size w W → W.heap[c]? = some (.cells #[.int .i64 x, .int .i64 y] 34) → Calls Try.prog 54 #[aP T, .func (.func 84) #[] #[.pointer (some ⟨c, 0, none⟩)]] W fun e w' => ∃ ap n cap, (e = .returned (.slice ap n cap) ∧ PW ap n cap w') ∧ Go.RowKit.Below W.heap.size W w'))
    (HA : Hid (∀ ap n cap W, PW ap n cap W → Go.RowKit.Below w.heap.size w W → Calls Try.prog 53 #[aP T, .slice ap n cap] W fun e w' => e = .returned (.pointer o) ∧ Go.RowKit.Below W.heap.size W w'))
    (HD : Hid (∀ W, Go.RowKit.Below w.heap.size w W → Calls Try.prog 52 #[.pointer o] W fun e w' => e = .returned (.tuple #[vG g, .bool b]) ∧ Go.RowKit.Below W.heap.size W w')) :
    Calls Try.prog 24 #[aP T, .agg #[.int .i64 x, .int .i64 y]] w fun e w' => e = .returned (.tuple #[vG g, .bool b]) ∧ Go.RowKit.Below w.heap.size w w' := by
  have mx := mixed
  have HR0 := Lib.hid (show ((w.alloc (.cells #[.int .i64 x, .int .i64 y] 34)).alloc zG).heap[w.heap.size + 1]? = some zG from new_at' _ (by simp))
  have HB0 := Lib.hid (bt (below_new w (.cells #[.int .i64 x, .int .i64 y] 34)) (below_new _ zG))
  have HK0 := Lib.hid (two_cells (show ((w.alloc (.cells #[.int .i64 x, .int .i64 y] 34)).alloc zG).heap[w.heap.size]? = some (.cells #[.int .i64 x, .int .i64 y] 34) from box_on (heap_alloc_new _ _) (below_new _ _)))
  go_enter Try.func24, Try.ntmps24
  go_upto_region 1 with fail
  generalize (w.alloc (.cells #[.int .i64 x, .int .i64 y] 34)).alloc zG = X at *
  obtain ⟨k1, k2, _, _⟩ := HK0.out
  go_wp2_with fail
  refine (bbelow_b x y _).mono ?_
  rintro e y1 ⟨c, ⟨rfl, hc⟩, hb⟩
  have HC1 := Lib.hid hc
  have HB1 := Lib.hid (bt HB0.out hb)
  replace HR0 := Lib.hid (box_on HR0.out hb)
  clear hb hc k1 k2
  go_wp2_with fail
  refine (HW.out _ c HB1.out HC1.out).mono ?_
  rintro e y2 ⟨ap, n, cap, ⟨rfl, hp⟩, hb⟩
  have HP2 := Lib.hid hp
  have HB2 := Lib.hid (bt HB1.out hb)
  replace HR0 := Lib.hid (box_on HR0.out hb)
  clear hb hp
  go_wp2_with fail
  refine (HA.out ap n cap _ HP2.out HB2.out).mono ?_
  rintro e y3 ⟨rfl, hb⟩
  have HB3 := Lib.hid (bt HB2.out hb)
  replace HR0 := Lib.hid (box_on HR0.out hb)
  clear hb
  go_wp2_with fail
  refine (HD.out _ HB3.out).mono ?_
  rintro e y4 ⟨rfl, hb⟩
  have hR := box_on HR0.out hb
  have hBY := bt HB3.out hb
  clear hb
  obtain ⟨d0, d1, d2, d3, d4⟩ := five_cells (g := g0) hR
  have z0 := five_frozen (g := g0) hR 0
  have z1 := five_frozen (g := g0) hR 1
  have z2 := five_frozen (g := g0) hR 2
  have z3 := five_frozen (g := g0) hR 3
  have z4 := five_frozen (g := g0) hR 4
  obtain ⟨q0, q1, q2, q3, q4⟩ := five_cells (five_put (g := g0) hR g)
  have HE := Lib.hid (seg5_below (b := w.heap.size + 1) hBY (by omega) g)
  simp only [Nat.zero_add] at d1 d2 d3 d4 q1 q2 q3 q4
  clear hR hBY
  go_wp2_with fail
  refine bodyPost_ret (v := .tuple #[vG g, .bool b]) (by simp [results, Try.results24, go_sem, q0, q1, q2, q3, q4]) rfl ?_
  exact ⟨rfl, HE.out⟩
set_option maxHeartbeats 2000000 in
theorem bceil_core (T : Nat) (x y : Int) (o : Option Addr) (g : G5) (b : Bool) (PW : Option Addr → Nat → Nat → World → Prop) (w : World)
    (HW : Hid (∀ W c, Go.RowKit.Below w.heap.size w W → W.heap[c]? = some (.cells #[.int .i64 x, .int .i64 y] 34) → Calls Try.prog 54 #[aP T, .func (.func 84) #[] #[.pointer (some ⟨c, 0, none⟩)]] W fun e w' => ∃ ap n cap, (e = .returned (.slice ap n cap) ∧ PW ap n cap w') ∧ Go.RowKit.Below W.heap.size W w'))
    (HA : Hid (∀ ap n cap W, PW ap n cap W → Go.RowKit.Below w.heap.size w W → Calls Try.prog 57 #[aP T, .slice ap n cap] W fun e w' => e = .returned (.pointer o) ∧ Go.RowKit.Below W.heap.size W w'))
    (HD : Hid (∀ W, Go.RowKit.Below w.heap.size w W → Calls Try.prog 52 #[.pointer o] W fun e w' => e = .returned (.tuple #[vG g, .bool b]) ∧ Go.RowKit.Below W.heap.size W w')) :
    Calls Try.prog 25 #[aP T, .agg #[.int .i64 x, .int .i64 y]] w fun e w' => e = .returned (.tuple #[vG g, .bool b]) ∧ Go.RowKit.Below w.heap.size w w' := by
  have mx := mixed
  have HR0 := Lib.hid (show ((w.alloc (.cells #[.int .i64 x, .int .i64 y] 34)).alloc zG).heap[w.heap.size + 1]? = some zG from new_at' _ (by simp))
  have HB0 := Lib.hid (bt (below_new w (.cells #[.int .i64 x, .int .i64 y] 34)) (below_new _ zG))
  have HK0 := Lib.hid (two_cells (show ((w.alloc (.cells #[.int .i64 x, .int .i64 y] 34)).alloc zG).heap[w.heap.size]? = some (.cells #[.int .i64 x, .int .i64 y] 34) from box_on (heap_alloc_new _ _) (below_new _ _)))
  go_enter Try.func25, Try.ntmps25
  go_upto_region 1 with fail
  generalize (w.alloc (.cells #[.int .i64 x, .int .i64 y] 34)).alloc zG = X at *
  obtain ⟨k1, k2, _, _⟩ := HK0.out
  go_wp2_with fail
  refine (bbelow_b x y _).mono ?_
  rintro e y1 ⟨c, ⟨rfl, hc⟩, hb⟩
  have HC1 := Lib.hid hc
  have HB1 := Lib.hid (bt HB0.out hb)
  replace HR0 := Lib.hid (box_on HR0.out hb)
  clear hb hc k1 k2
  go_wp2_with fail
  refine (HW.out _ c HB1.out HC1.out).mono ?_
  rintro e y2 ⟨ap, n, cap, ⟨rfl, hp⟩, hb⟩
  have HP2 := Lib.hid hp
  have HB2 := Lib.hid (bt HB1.out hb)
  replace HR0 := Lib.hid (box_on HR0.out hb)
  clear hb hp
  go_wp2_with fail
  refine (HA.out ap n cap _ HP2.out HB2.out).mono ?_
  rintro e y3 ⟨rfl, hb⟩
  have HB3 := Lib.hid (bt HB2.out hb)
  replace HR0 := Lib.hid (box_on HR0.out hb)
  clear hb
  go_wp2_with fail
  refine (HD.out _ HB3.out).mono ?_
  rintro e y4 ⟨rfl, hb⟩
  have hR := box_on HR0.out hb
  have hBY := bt HB3.out hb
  clear hb
  obtain ⟨d0, d1, d2, d3, d4⟩ := five_cells (g := g0) hR
  have z0 := five_frozen (g := g0) hR 0
  have z1 := five_frozen (g := g0) hR 1
  have z2 := five_frozen (g := g0) hR 2
  have z3 := five_frozen (g := g0) hR 3
  have z4 := five_frozen (g := g0) hR 4
  obtain ⟨q0, q1, q2, q3, q4⟩ := five_cells (five_put (g := g0) hR g)
  have HE := Lib.hid (seg5_below (b := w.heap.size + 1) hBY (by omega) g)
  simp only [Nat.zero_add] at d1 d2 d3 d4 q1 q2 q3 q4
  clear hR hBY
  go_wp2_with fail
  refine bodyPost_ret (v := .tuple #[vG g, .bool b]) (by simp [results, Try.results25, go_sem, q0, q1, q2, q3, q4]) rfl ?_
  exact ⟨rfl, HE.out⟩
set_option maxHeartbeats 2000000 in
theorem bhigher_core (T : Nat) (x y : Int) (o : Option Addr) (g : G5) (b : Bool) (PW : Option Addr → Nat → Nat → World → Prop) (w : World)
    (HW : Hid (∀ W c, Go.RowKit.Below w.heap.size w W → W.heap[c]? = some (.cells #[.int .i64 x, .int .i64 y] 34) → Calls Try.prog 54 #[aP T, .func (.func 82) #[] #[.pointer (some ⟨c, 0, none⟩)]] W fun e w' => ∃ ap n cap, (e = .returned (.slice ap n cap) ∧ PW ap n cap w') ∧ Go.RowKit.Below W.heap.size W w'))
    (HA : Hid (∀ ap n cap W, PW ap n cap W → Go.RowKit.Below w.heap.size w W → Calls Try.prog 57 #[aP T, .slice ap n cap] W fun e w' => e = .returned (.pointer o) ∧ Go.RowKit.Below W.heap.size W w'))
    (HD : Hid (∀ W, Go.RowKit.Below w.heap.size w W → Calls Try.prog 52 #[.pointer o] W fun e w' => e = .returned (.tuple #[vG g, .bool b]) ∧ Go.RowKit.Below W.heap.size W w')) :
    Calls Try.prog 26 #[aP T, .agg #[.int .i64 x, .int .i64 y]] w fun e w' => e = .returned (.tuple #[vG g, .bool b]) ∧ Go.RowKit.Below w.heap.size w w' := by
  have mx := mixed
  have HR0 := Lib.hid (show ((w.alloc (.cells #[.int .i64 x, .int .i64 y] 34)).alloc zG).heap[w.heap.size + 1]? = some zG from new_at' _ (by simp))
  have HB0 := Lib.hid (bt (below_new w (.cells #[.int .i64 x, .int .i64 y] 34)) (below_new _ zG))
  have HK0 := Lib.hid (two_cells (show ((w.alloc (.cells #[.int .i64 x, .int .i64 y] 34)).alloc zG).heap[w.heap.size]? = some (.cells #[.int .i64 x, .int .i64 y] 34) from box_on (heap_alloc_new _ _) (below_new _ _)))
  go_enter Try.func26, Try.ntmps26
  go_upto_region 1 with fail
  generalize (w.alloc (.cells #[.int .i64 x, .int .i64 y] 34)).alloc zG = X at *
  obtain ⟨k1, k2, _, _⟩ := HK0.out
  go_wp2_with fail
  refine (bnotAbove_b x y _).mono ?_
  rintro e y1 ⟨c, ⟨rfl, hc⟩, hb⟩
  have HC1 := Lib.hid hc
  have HB1 := Lib.hid (bt HB0.out hb)
  replace HR0 := Lib.hid (box_on HR0.out hb)
  clear hb hc k1 k2
  go_wp2_with fail
  refine (HW.out _ c HB1.out HC1.out).mono ?_
  rintro e y2 ⟨ap, n, cap, ⟨rfl, hp⟩, hb⟩
  have HP2 := Lib.hid hp
  have HB2 := Lib.hid (bt HB1.out hb)
  replace HR0 := Lib.hid (box_on HR0.out hb)
  clear hb hp
  go_wp2_with fail
  refine (HA.out ap n cap _ HP2.out HB2.out).mono ?_
  rintro e y3 ⟨rfl, hb⟩
  have HB3 := Lib.hid (bt HB2.out hb)
  replace HR0 := Lib.hid (box_on HR0.out hb)
  clear hb
  go_wp2_with fail
  refine (HD.out _ HB3.out).mono ?_
  rintro e y4 ⟨rfl, hb⟩
  have hR := box_on HR0.out hb
  have hBY := bt HB3.out hb
  clear hb
  obtain ⟨d0, d1, d2, d3, d4⟩ := five_cells (g := g0) hR
  have z0 := five_frozen (g := g0) hR 0
  have z1 := five_frozen (g := g0) hR 1
  have z2 := five_frozen (g := g0) hR 2
  have z3 := five_frozen (g := g0) hR 3
  have z4 := five_frozen (g := g0) hR 4
  obtain ⟨q0, q1, q2, q3, q4⟩ := five_cells (five_put (g := g0) hR g)
  have HE := Lib.hid (seg5_below (b := w.heap.size + 1) hBY (by omega) g)
  simp only [Nat.zero_add] at d1 d2 d3 d4 q1 q2 q3 q4
  clear hR hBY
  go_wp2_with fail
  refine bodyPost_ret (v := .tuple #[vG g, .bool b]) (by simp [results, Try.results26, go_sem, q0, q1, q2, q3, q4]) rfl ?_
  exact ⟨rfl, HE.out⟩
set_option maxHeartbeats 4000000 in
theorem bget_core (T : Nat) (x y : Int) (o : Option Addr) (g : G5) (b : Bool) (PW : Option Addr → Nat → Nat → World → Prop) (w : World)
    (HW : Hid (∀ W c, Go.RowKit.Below w.heap.size w W → W.heap[c]? = some (.cells #[.int .i64 x, .int .i64 y] 34) → Calls Try.prog 54 #[aP T, .func (.func 84) #[] #[.pointer (some ⟨c, 0, none⟩)]] W fun e w' => ∃ ap n cap, (e = .returned (.slice ap n cap) ∧ PW ap n cap w') ∧ Go.RowKit.Below W.heap.size W w'))
    (HA : Hid (∀ ap n cap W, PW ap n cap W → Go.RowKit.Below w.heap.size w W → Calls Try.prog 59 #[aP T, .slice ap n cap, .agg #[.int .i64 x, .int .i64 y]] W fun e w' => e = .returned (.pointer o) ∧ Go.RowKit.Below W.heap.size W w'))
    (HD : Hid (∀ W, Go.RowKit.Below w.heap.size w W → Calls Try.prog 52 #[.pointer o] W fun e w' => e = .returned (.tuple #[vG g, .bool b]) ∧ Go.RowKit.Below W.heap.size W w')) :
    Calls Try.prog 28 #[aP T, .agg #[.int .i64 x, .int .i64 y]] w fun e w' => e = .returned (.tuple #[vG g, .bool b]) ∧ Go.RowKit.Below w.heap.size w w' := by
  have mx := mixed
  have HR0 := Lib.hid (show ((w.alloc (.cells #[.int .i64 x, .int .i64 y] 34)).alloc zG).heap[w.heap.size + 1]? = some zG from new_at' _ (by simp))
  have HK0 := Lib.hid (show ((w.alloc (.cells #[.int .i64 x, .int .i64 y] 34)).alloc zG).heap[w.heap.size]? = some (.cells #[.int .i64 x, .int .i64 y] 34) from box_on (heap_alloc_new _ _) (below_new _ _))
  have HB0 := Lib.hid (bt (below_new w (.cells #[.int .i64 x, .int .i64 y] 34)) (below_new _ zG))
  go_enter Try.func28, Try.ntmps28
  go_upto_region 1 with fail
  generalize (w.alloc (.cells #[.int .i64 x, .int .i64 y] 34)).alloc zG = X at *
  have HBD : Hid (Go.RowKit.Below w.heap.size w X.drew) := HB0.out.drew
  have HKD : Hid (X.drew.heap[w.heap.size]? = some (.cells #[.int .i64 x, .int .i64 y] 34)) := HK0.out
  have HRD : Hid (X.drew.heap[w.heap.size + 1]? = some zG) := HR0.out
  have HSD : Hid (X.drew.cell? ⟨w.heap.size, 0, none⟩ = some (.int .i64 x) ∧ X.drew.cell? ⟨w.heap.size, 1, none⟩ = some (.int .i64 y)) := ⟨(two_cells HKD.out).1, (two_cells HKD.out).2.1⟩
  go_region_held3 (fun w' => w'.cell? ⟨w.heap.size, 0, none⟩ = some (.int .i64 x) ∧ w'.cell? ⟨w.heap.size, 1, none⟩ = some (.int .i64 y))
    (with_reducible first | exact HSD.out | exact HS1.out | exact HS2.out | exact HS3.out | exact HS4.out | exact HS5.out)
    (first
      | (go_at_call 56; refine (bbelow_b x y _).mono ?_; rintro e y1 ⟨c, ⟨rfl, hc⟩, hb⟩; have HC1 := Lib.hid hc; have HB1 := Lib.hid (bt HBD.out hb); have HK1 := Lib.hid (box_on HKD.out hb); have HR1 := Lib.hid (box_on HRD.out hb); have HS1 := Lib.hid (And.intro (two_cells HK1.out).1 (two_cells HK1.out).2.1); clear hb hc)
      | (go_at_call 54; refine (HW.out _ c HB1.out HC1.out).mono ?_; rintro e y2 ⟨ap, n, cap, ⟨rfl, hp⟩, hb⟩; have HP2 := Lib.hid hp; have HB2 := Lib.hid (bt HB1.out hb); have HK2 := Lib.hid (box_on HK1.out hb); have HR2 := Lib.hid (box_on HR1.out hb); have HS2 := Lib.hid (And.intro (two_cells HK2.out).1 (two_cells HK2.out).2.1); clear hb hp)
      | (go_at_call 59; refine (HA.out ap n cap _ HP2.out HB2.out).mono ?_; rintro e y3 ⟨rfl, hb⟩; have HB3 := Lib.hid (bt HB2.out hb); have HK3 := Lib.hid (box_on HK2.out hb); have HR3 := Lib.hid (box_on HR2.out hb); have HS3 := Lib.hid (And.intro (two_cells HK3.out).1 (two_cells HK3.out).2.1); clear hb)
      | (go_at_call 52; refine (HD.out _ HB3.out).mono ?_; rintro e y4 ⟨rfl, hb⟩; have hR := box_on HR3.out hb; have hBY := bt HB3.out hb; have HK4 := Lib.hid (box_on HK3.out hb); have HS4 := Lib.hid (And.intro (two_cells HK4.out).1 (two_cells HK4.out).2.1); have HS5 := Lib.hid (And.intro (two_cells (five_far HK4.out (show w.heap.size ≠ w.heap.size + 1 by omega) g)).1 (two_cells (five_far HK4.out (show w.heap.size ≠ w.heap.size + 1 by omega) g)).2.1); obtain ⟨d0, d1, d2, d3, d4⟩ := five_cells (g := g0) hR; have z0 := five_frozen (g := g0) hR 0; have z1 := five_frozen (g := g0) hR 1; have z2 := five_frozen (g := g0) hR 2; have z3 := five_frozen (g := g0) hR 3; have z4 := five_frozen (g := g0) hR 4; have HQ5 := Lib.hid (five_cells (five_put (g := g0) hR g)); have HE := Lib.hid (seg5_below (b := w.heap.size + 1) hBY (by omega) g); simp only [Nat.zero_add] at d1 d2 d3 d4; clear hR hBY hb))
  all_goals
    obtain ⟨q0, q1, q2, q3, q4⟩ := HQ5.out
    simp only [Nat.zero_add] at q1 q2 q3 q4
    go_wp2_with fail
    refine bodyPost_ret (v := .tuple #[vG g, .bool b]) (by simp [results, Try.results28, go_sem, q0, q1, q2, q3, q4]) rfl ?_
    exact ⟨rfl, HE.out⟩
set_option maxHeartbeats 2000000 in
theorem bfirst_core (T : Nat) (g : G5) (b : Bool) (w : World)
    (HN : Hid (∀ W, Calls Try.prog 48 #[] W fun e w' => e = .returned (.agg #[.int .i64 (-1), .int .i64 0]) ∧ Go.RowKit.Below W.heap.size W w'))
    (HD : Hid (∀ W, Go.RowKit.Below w.heap.size w W → Calls Try.prog 25 #[aP T, .agg #[.int .i64 (-1), .int .i64 0]] W fun e w' => e = .returned (.tuple #[vG g, .bool b]) ∧ Go.RowKit.Below W.heap.size W w')) :
    Calls Try.prog 30 #[aP T] w fun e w' => e = .returned (.tuple #[vG g, .bool b]) ∧ Go.RowKit.Below w.heap.size w w' := by
  have mx := mixed
  have HR0 := Lib.hid (heap_alloc_new w zG)
  have HB0 := Lib.hid (below_new w zG)
  go_enter Try.func30, Try.ntmps30
  go_wp2_with fail
  refine (HN.out _).mono ?_
  rintro e y1 ⟨rfl, hb⟩
  have HR1 := Lib.hid (box_on HR0.out hb)
  have HB1 := Lib.hid (bt HB0.out hb)
  clear hb
  go_wp2_with fail
  refine (HD.out _ HB1.out).mono ?_
  rintro e y2 ⟨rfl, hb⟩
  have hR := box_on HR1.out hb
  have hBY := bt HB1.out hb
  clear hb
  obtain ⟨d0, d1, d2, d3, d4⟩ := five_cells (g := g0) hR
  have z0 := five_frozen (g := g0) hR 0
  have z1 := five_frozen (g := g0) hR 1
  have z2 := five_frozen (g := g0) hR 2
  have z3 := five_frozen (g := g0) hR 3
  have z4 := five_frozen (g := g0) hR 4
  obtain ⟨q0, q1, q2, q3, q4⟩ := five_cells (five_put (g := g0) hR g)
  have HE := Lib.hid (seg5_below (b := w.heap.size) hBY (by omega) g)
  simp only [Nat.zero_add] at d1 d2 d3 d4 q1 q2 q3 q4
  clear hR hBY
  go_wp2_with fail
  refine bodyPost_ret (v := .tuple #[vG g, .bool b]) (by simp [results, Try.results30, go_sem, q0, q1, q2, q3, q4]) rfl ?_
  exact ⟨rfl, HE.out⟩
set_option maxHeartbeats 2000000 in
theorem blast_core (T : Nat) (g : G5) (b : Bool) (w : World)
    (HN : Hid (∀ W, Calls Try.prog 49 #[] W fun e w' => e = .returned (.agg #[.int .i64 1, .int .i64 0]) ∧ Go.RowKit.Below W.heap.size W w'))
    (HD : Hid (∀ W, Go.RowKit.Below w.heap.size w W → Calls Try.prog 23 #[aP T, .agg #[.int .i64 1, .int .i64 0]] W fun e w' => e = .returned (.tuple #[vG g, .bool b]) ∧ Go.RowKit.Below W.heap.size W w')) :
    Calls Try.prog 31 #[aP T] w fun e w' => e = .returned (.tuple #[vG g, .bool b]) ∧ Go.RowKit.Below w.heap.size w w' := by
  have mx := mixed
  have HR0 := Lib.hid (heap_alloc_new w zG)
  have HB0 := Lib.hid (below_new w zG)
  go_enter Try.func31, Try.ntmps31
  go_wp2_with fail
  refine (HN.out _).mono ?_
  rintro e y1 ⟨rfl, hb⟩
  have HR1 := Lib.hid (box_on HR0.out hb)
  have HB1 := Lib.hid (bt HB0.out hb)
  clear hb
  go_wp2_with fail
  refine (HD.out _ HB1.out).mono ?_
  rintro e y2 ⟨rfl, hb⟩
  have hR := box_on HR1.out hb
  have hBY := bt HB1.out hb
  clear hb
  obtain ⟨d0, d1, d2, d3, d4⟩ := five_cells (g := g0) hR
  have z0 := five_frozen (g := g0) hR 0
  have z1 := five_frozen (g := g0) hR 1
  have z2 := five_frozen (g := g0) hR 2
  have z3 := five_frozen (g := g0) hR 3
  have z4 := five_frozen (g := g0) hR 4
  obtain ⟨q0, q1, q2, q3, q4⟩ := five_cells (five_put (g := g0) hR g)
  have HE := Lib.hid (seg5_below (b := w.heap.size) hBY (by omega) g)
  simp only [Nat.zero_add] at d1 d2 d3 d4 q1 q2 q3 q4
  clear hR hBY
  go_wp2_with fail
  refine bodyPost_ret (v := .tuple #[vG g, .bool b]) (by simp [results, Try.results31, go_sem, q0, q1, q2, q3, q4]) rfl ?_
  exact ⟨rfl, HE.out⟩
end Go.Proofs.Ytjgcdmeojjnjlaa
