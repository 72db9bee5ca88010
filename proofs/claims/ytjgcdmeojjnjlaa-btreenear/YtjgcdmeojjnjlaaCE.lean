/- A part of the proof: contracts of the functions that the statements reach. -/
import Derived.RangeFuncNested
import Derived.RangeFuncBound
import Derived.RangeFuncCalls
import Derived.RangeFuncLeaves
import Derived.Shelf.Abstract
import Derived.Shelf.RegionOpen
import Derived.WalkKit
import Derived.OwnWalkIn
import Derived.TacticsInMore
import Derived.LoopNIn
import Derived.LoopIn
import Derived.Shelf.SlSortCmp.WholeK
import Derived.WalkSpells
import Derived.WalkLawsBesides
import Derived.Lib.Hide
import Derived.Laws.StructEq
import Derived.Shelf.SlSortCmp.QuietGrown
import Derived.Laws.EntriesVeiled
import Derived.Deep.CutRange
import Derived.RegionTactic
import Derived.Lib.QuietBelow
import Derived.BigQuiet
import Derived.OpenShut
import Derived.Deep.RegionHeld3
import Derived.Deep.QuietTactic
import Derived.Maps.AppendAt
import Derived.Laws.IdiomCopy
import Derived.Deep.AppendLies
import Derived.Deep.LoopGhost
import Derived.Deep.Upon
import Derived.StillTailTactics
import Derived.Lib.SmallJoins
import Derived.Deep.SlicePairs
import Derived.Deep.Strs
import Derived.ChangeOld
import Derived.SizedLaws
import Derived.Lib.SliceRun
import Derived.Laws.CopyRow
import Derived.Below
import Derived.Laws.CopyOwn
import Derived.Deep.RegionLaw
import Derived.Test.YtjgcdmeojjnjlaaCD

/- Trees of segments whose nodes stand in places; ways down to them; how they lie in an arena. No Go in sight. -/
namespace Go.Proofs.Ytjgcdmeojjnjlaa.Bo
/-- A node: its segment, the place of its parent, of its children, its colour. -/
structure Nd where
  g : G5
  pa : Int
  c0 : Int
  c1 : Int
  red : Bool
/-- Sides: false is left. -/
def Nd.ch (n : Nd) (s : Bool) : Int := if s then n.c1 else n.c0
def Nd.setCh (n : Nd) (s : Bool) (j : Int) : Nd := if s then { n with c1 := j } else { n with c0 := j }
def Nd.setPa (n : Nd) (p : Int) : Nd := { n with pa := p }
def Nd.setRed (n : Nd) (b : Bool) : Nd := { n with red := b }
/-- The node whose child on the side s is a, on the other one b. -/
def ndk (s : Bool) (g : G5) (p a b : Int) (c : Bool) : Nd := if s then ⟨g, p, b, a, c⟩ else ⟨g, p, a, b, c⟩
theorem ndk_ch (s : Bool) (g : G5) (p a b : Int) (c : Bool) : (ndk s g p a b c).ch s = a := by cases s <;> rfl
theorem ndk_ch2 (s : Bool) (g : G5) (p a b : Int) (c : Bool) : (ndk s g p a b c).ch (!s) = b := by cases s <;> rfl
theorem ndk_setCh (s : Bool) (g : G5) (p a b j : Int) (c : Bool) : (ndk s g p a b c).setCh s j = ndk s g p j b c := by cases s <;> rfl
theorem ndk_setCh2 (s : Bool) (g : G5) (p a b j : Int) (c : Bool) : (ndk s g p a b c).setCh (!s) j = ndk s g p a j c := by cases s <;> rfl
theorem ndk_setPa (s : Bool) (g : G5) (p a b q : Int) (c : Bool) : (ndk s g p a b c).setPa q = ndk s g q a b c := by cases s <;> rfl
theorem ndk_setRed (s : Bool) (g : G5) (p a b : Int) (c d : Bool) : (ndk s g p a b c).setRed d = ndk s g p a b d := by cases s <;> rfl
theorem ndk_pa (s : Bool) (g : G5) (p a b : Int) (c : Bool) : (ndk s g p a b c).pa = p := by cases s <;> rfl
def ndZ : Nd := ⟨⟨0, 0, 0, 0, 0⟩, 0, 0, 0, false⟩
inductive Tr where
  | nil : Tr
  | node (c : Bool) (l : Tr) (i : Nat) (g : G5) (r : Tr) : Tr
namespace Tr
/-- Where it stands; -1: there is none. -/
def idx : Tr → Int
  | nil => -1
  | node _ _ i _ _ => (i : Int)
def ids : Tr → List Nat
  | nil => []
  | node _ l i _ r => l.ids ++ i :: r.ids
def ino : Tr → List G5
  | nil => []
  | node _ l _ g r => l.ino ++ g :: r.ino
def isRed : Tr → Bool
  | nil => false
  | node c _ _ _ _ => c
def paint (b : Bool) : Tr → Tr
  | nil => nil
  | node _ l i g r => node b l i g r
/-- The node that has a on the side s, and b on the other one. -/
def mk (s : Bool) (c : Bool) (a : Tr) (i : Nat) (g : G5) (b : Tr) : Tr := if s then node c b i g a else node c a i g b
theorem mk_idx (s c : Bool) (a : Tr) (i : Nat) (g : G5) (b : Tr) : (mk s c a i g b).idx = (i : Int) := by cases s <;> rfl
theorem mk_red (s c : Bool) (a : Tr) (i : Nat) (g : G5) (b : Tr) : (mk s c a i g b).isRed = c := by cases s <;> rfl
theorem mk_swap (s c : Bool) (a : Tr) (i : Nat) (g : G5) (b : Tr) : mk (!s) c a i g b = mk s c b i g a := by cases s <;> rfl
theorem mk_paint (s c d : Bool) (a : Tr) (i : Nat) (g : G5) (b : Tr) : (mk s c a i g b).paint d = mk s d a i g b := by cases s <;> rfl
theorem mk_mem (s c : Bool) (a : Tr) (i : Nat) (g : G5) (b : Tr) (k : Nat) : k ∈ (mk s c a i g b).ids ↔ k = i ∨ k ∈ a.ids ∨ k ∈ b.ids := by
  cases s <;> simp [mk, ids, or_assoc, or_comm, or_left_comm]
theorem mk_nodup (s c : Bool) (a : Tr) (i : Nat) (g : G5) (b : Tr) : (mk s c a i g b).ids.Nodup ↔ a.ids.Nodup ∧ b.ids.Nodup ∧ i ∉ a.ids ∧ i ∉ b.ids ∧ ∀ k ∈ a.ids, k ∉ b.ids := by
  cases s
  · simp only [mk, ids, List.nodup_append, List.nodup_cons, Bool.false_eq_true, if_false]
    constructor
    · rintro ⟨h1, ⟨h2, h3⟩, h4⟩
      exact ⟨h1, h3, fun h => h4 i h i (by simp) rfl, h2, fun k h h' => h4 k h k (List.mem_cons_of_mem _ h') rfl⟩
    · rintro ⟨h1, h2, h3, h4, h5⟩
      refine ⟨h1, ⟨h4, h2⟩, fun x hx y hy e => ?_⟩
      subst e
      rcases List.mem_cons.1 hy with rfl | hy
      · exact h3 hx
      · exact h5 x hx hy
  · simp only [mk, ids, List.nodup_append, List.nodup_cons, if_true]
    constructor
    · rintro ⟨h1, ⟨h2, h3⟩, h4⟩
      exact ⟨h3, h1, h2, fun h => h4 i h i (by simp) rfl, fun k h h' => h4 k h' k (List.mem_cons_of_mem _ h) rfl⟩
    · rintro ⟨h1, h2, h3, h4, h5⟩
      refine ⟨h2, ⟨h3, h1⟩, fun x hx y hy e => ?_⟩
      subst e
      rcases List.mem_cons.1 hy with rfl | hy
      · exact h4 hx
      · exact h5 x hy hx
theorem of_idx (t : Tr) (h : t.idx ≠ -1) (s : Bool) : ∃ c a i g b, t = mk s c a i g b := by
  rcases t.nil_or with rfl | h1
  · exact absurd rfl h
  · exact h1 s
theorem idx_mem (t : Tr) (k : Nat) (h : t.idx = (k : Int)) : k ∈ t.ids := by
  cases t with
  | nil => simp only [idx] at h; omega
  | node c l i g r =>
    simp only [idx] at h
    have : i = k := by omega
    subst this; simp [ids]
end Tr
/-- A step of a way down: the node, on which side the way goes on, what is on the other one. -/
structure Fr where
  s : Bool
  c : Bool
  i : Nat
  g : G5
  o : Tr
def Fr.fill (f : Fr) (t : Tr) : Tr := Tr.mk f.s f.c t f.i f.g f.o
/-- What stands around a place: the innermost step first. -/
def plug : List Fr → Tr → Tr
  | [], t => t
  | f :: cx, t => plug cx (f.fill t)
def cpi : List Fr → Int
  | [] => -1
  | f :: _ => (f.i : Int)
def cids : List Fr → List Nat
  | [] => []
  | f :: cx => f.i :: f.o.ids ++ cids cx
/-- How a tree lies. -/
def RepT (f : Int → Option Nd) : Tr → Int → Prop
  | .nil, _ => True
  | .node c l i g r, p => f i = some ⟨g, p, l.idx, r.idx, c⟩ ∧ RepT f l i ∧ RepT f r i
def RepC (f : Int → Option Nd) : List Fr → Int → Prop
  | [], _ => True
  | k :: cx, h => f k.i = some (ndk k.s k.g (cpi cx) h k.o.idx k.c) ∧ RepT f k.o k.i ∧ RepC f cx k.i
variable {f f' : Int → Option Nd}
theorem repT_mk (s c : Bool) (a : Tr) (i : Nat) (g : G5) (b : Tr) (p : Int) : RepT f (Tr.mk s c a i g b) p ↔ f i = some (ndk s g p a.idx b.idx c) ∧ RepT f a i ∧ RepT f b i := by
  cases s
  · exact Iff.rfl
  · show (_ ∧ _ ∧ _) ↔ _
    exact ⟨fun ⟨h1, h2, h3⟩ => ⟨h1, h3, h2⟩, fun ⟨h1, h2, h3⟩ => ⟨h1, h3, h2⟩⟩
theorem repT_congr (t : Tr) : ∀ (p : Int), (∀ k ∈ t.ids, f' (k : Int) = f k) → RepT f t p → RepT f' t p := by
  induction t with
  | nil => intro p _ _; trivial
  | node c l i g r ih1 ih2 =>
    rintro p hk ⟨h1, h2, h3⟩
    exact ⟨(hk i (by simp [Tr.ids])).trans h1, ih1 _ (fun k h => hk k (by simp [Tr.ids, h])) h2, ih2 _ (fun k h => hk k (by simp [Tr.ids, h])) h3⟩
theorem repC_congr (cx : List Fr) : ∀ (h : Int), (∀ k ∈ cids cx, f' (k : Int) = f k) → RepC f cx h → RepC f' cx h := by
  induction cx with
  | nil => intro h _ _; trivial
  | cons x cx ih =>
    rintro h hk ⟨h1, h2, h3⟩
    exact ⟨(hk x.i (by simp [cids])).trans h1, repT_congr _ _ (fun k h => hk k (by simp [cids, h])) h2, ih _ (fun k h => hk k (by simp [cids, h])) h3⟩
theorem rep_plug (cx : List Fr) : ∀ t : Tr, RepT f (plug cx t) (-1) ↔ RepC f cx t.idx ∧ RepT f t (cpi cx) := by
  induction cx with
  | nil => intro t; exact ⟨fun h => ⟨trivial, h⟩, fun h => h.2⟩
  | cons x cx ih =>
    intro t
    show RepT f (plug cx (x.fill t)) (-1) ↔ _
    rw [ih]
    show RepC f cx (x.fill t).idx ∧ RepT f (Tr.mk x.s x.c t x.i x.g x.o) (cpi cx) ↔ (f x.i = some (ndk x.s x.g (cpi cx) t.idx x.o.idx x.c) ∧ RepT f x.o x.i ∧ RepC f cx x.i) ∧ RepT f t x.i
    rw [repT_mk, show (x.fill t).idx = (x.i : Int) from Tr.mk_idx ..]
    exact ⟨fun ⟨h1, h2, h3, h4⟩ => ⟨⟨h2, h4, h1⟩, h3⟩, fun ⟨⟨h1, h2, h3⟩, h4⟩ => ⟨h3, h1, h4, h2⟩⟩
theorem plug_mem (cx : List Fr) (k : Nat) : ∀ t : Tr, k ∈ (plug cx t).ids ↔ k ∈ cids cx ∨ k ∈ t.ids := by
  induction cx with
  | nil => intro t; simp [plug, cids]
  | cons x cx ih =>
    intro t
    show k ∈ (plug cx (x.fill t)).ids ↔ _
    rw [ih, show (k ∈ (x.fill t).ids ↔ _) from Tr.mk_mem ..]
    simp only [cids, List.cons_append, List.mem_cons, List.mem_append]
    constructor
    · rintro (h | h | h | h)
      · exact .inl (.inr (.inr h))
      · exact .inl (.inl h)
      · exact .inr h
      · exact .inl (.inr (.inl h))
    · rintro ((h | h | h) | h)
      · exact .inr (.inl h)
      · exact .inr (.inr (.inr h))
      · exact .inl h
      · exact .inr (.inr (.inl h))
theorem plug_nodup (cx : List Fr) : ∀ t : Tr, (plug cx t).ids.Nodup ↔ (cids cx).Nodup ∧ t.ids.Nodup ∧ ∀ k ∈ t.ids, k ∉ cids cx := by
  induction cx with
  | nil => intro t; simp [plug, cids]
  | cons x cx ih =>
    intro t
    show (plug cx (x.fill t)).ids.Nodup ↔ _
    rw [ih, show ((x.fill t).ids.Nodup ↔ _) from Tr.mk_nodup ..]
    simp only [cids, List.cons_append, List.nodup_cons, List.nodup_append, List.mem_append, List.mem_cons]
    constructor
    · rintro ⟨h1, ⟨h2, h3, h4, h5, h6⟩, h7⟩
      have m : ∀ k, k ∈ (x.fill t).ids ↔ k = x.i ∨ k ∈ t.ids ∨ k ∈ x.o.ids := fun k => Tr.mk_mem ..
      refine ⟨⟨fun h => ?_, h3, h1, fun a ha b hb e => ?_⟩, h2, fun k hk h => ?_⟩
      · rcases h with h | h
        · exact h5 h
        · exact h7 x.i ((m _).2 (.inl rfl)) h
      · subst e; exact h7 a ((m _).2 (.inr (.inr ha))) hb
      · rcases h with rfl | h | h
        · exact h4 hk
        · exact h6 k hk h
        · exact h7 k ((m _).2 (.inr (.inl hk))) h
    · rintro ⟨⟨h1, h2, h3, h4⟩, h5, h6⟩
      have m : ∀ k, k ∈ (x.fill t).ids ↔ k = x.i ∨ k ∈ t.ids ∨ k ∈ x.o.ids := fun k => Tr.mk_mem ..
      refine ⟨h3, ⟨h5, h2, fun h => h6 _ h (.inl rfl), fun h => h1 (.inl h), fun k hk h => h6 k hk (.inr (.inl h))⟩, fun k hk h => ?_⟩
      rcases (m k).1 hk with rfl | hk | hk
      · exact h1 (.inr h)
      · exact h6 k hk (.inr (.inr h))
      · exact h4 k hk k h rfl
/-- One node is another one. -/
def upd (f : Int → Option Nd) (i : Int) (v : Nd) : Int → Option Nd := fun j => if j = i then some v else f j
theorem upd_self (i : Int) (v : Nd) : upd f i v i = some v := if_pos rfl
theorem upd_ne (i j : Int) (v : Nd) (h : j ≠ i) : upd f i v j = f j := if_neg h
/-- One node is turned, if it is there. -/
def tw (f : Int → Option Nd) (i : Int) (t : Nd → Nd) : Int → Option Nd := fun j => if j = i then (f j).map t else f j
theorem tw_self (i : Int) (t : Nd → Nd) (n : Nd) (h : f i = some n) : tw f i t i = some (t n) := by unfold tw; rw [if_pos rfl, h]; rfl
theorem tw_ne (i j : Int) (t : Nd → Nd) (h : j ≠ i) : tw f i t j = f j := if_neg h
theorem tw_none (i : Int) (t : Nd → Nd) (h : f i = none) : tw f i t = f := by
  funext j; unfold tw
  split
  · rename_i e; subst e; rw [h]; rfl
  · rfl
theorem tw_some (i : Int) (t : Nd → Nd) (n : Nd) (h : f i = some n) : tw f i t = upd f i (t n) := by
  funext j; unfold tw upd
  split
  · rename_i e; subst e; rw [h]; rfl
  · rfl
/-- The child of p on the side s is j; j's parent is p. -/
def hangf (f : Int → Option Nd) (j p : Int) (s : Bool) : Int → Option Nd := tw (tw f p (·.setCh s j)) j (·.setPa p)
theorem repT_in (t : Tr) (p : Int) (h : RepT f t p) : ∀ k ∈ t.ids, ∃ n, f (k : Int) = some n := by
  induction t generalizing p with
  | nil => intro k hk; simp [Tr.ids] at hk
  | node c l i g r ih1 ih2 =>
    obtain ⟨h1, h2, h3⟩ := h
    intro k hk
    simp only [Tr.ids, List.mem_append, List.mem_cons] at hk
    rcases hk with hk | rfl | hk
    · exact ih1 _ h2 k hk
    · exact ⟨_, h1⟩
    · exact ih2 _ h3 k hk
/-- A tree is hung elsewhere. -/
theorem repT_move (t : Tr) (p q : Int) (h : RepT f t p) (hn : t.ids.Nodup) : RepT (tw f t.idx (·.setPa q)) t q := by
  cases t with
  | nil => trivial
  | node c l i g r =>
    obtain ⟨h1, h2, h3⟩ := h
    have hn' := (Tr.mk_nodup false c l i g r).1 hn
    refine ⟨(tw_self _ _ _ h1).trans rfl, repT_congr _ _ (fun k hk => tw_ne _ _ _ ?_) h2, repT_congr _ _ (fun k hk => tw_ne _ _ _ ?_) h3⟩
    · intro e
      have : k = i := by simp only [Tr.idx] at e; omega
      subst this; exact hn'.2.2.1 hk
    · intro e
      have : k = i := by simp only [Tr.idx] at e; omega
      subst this; exact hn'.2.2.2.1 hk
end Go.Proofs.Ytjgcdmeojjnjlaa.Bo
/- A tree in an arena: hanging, turning, painting. No Go in sight. -/
namespace Go.Proofs.Ytjgcdmeojjnjlaa.Bo
/-- What stands where in an arena of nodes. -/
def Ag.look (a : Ag Nd) (i : Int) : Option Nd := if a.is i = true then some (a.l.getD i.toNat ndZ) else none
theorem Ag.look_some (a : Ag Nd) (i : Int) (n : Nd) (h : a.look i = some n) : a.is i = true ∧ a.l.getD i.toNat ndZ = n := by
  unfold Ag.look at h
  split at h
  · rename_i k; injection h with h; exact ⟨k, h⟩
  · cases h
theorem Ag.look_none (a : Ag Nd) (i : Int) : a.look i = none ↔ a.is i = false := by
  unfold Ag.look
  split
  · rename_i h; simp [h]
  · rename_i h; simp at h; simp [h]
theorem Ag.is_set {α : Type} (a : Ag α) (n : Nat) (v : α) (i : Int) : (a.set n v).is i = a.is i := rfl
theorem Ag.look_set (a : Ag Nd) (n : Nat) (v : Nd) (hok : a.ok) (hn : a.is (n : Int) = true) : (a.set n v).look = upd a.look (n : Int) v := by
  obtain ⟨_, _, h3, _⟩ := a.is_in n hok hn
  rw [Int.toNat_natCast] at h3
  funext i
  show (if (a.set n v).is i = true then some ((a.set n v).l.getD i.toNat ndZ) else none) = if i = (n : Int) then some v else (if a.is i = true then some (a.l.getD i.toNat ndZ) else none)
  rw [Ag.is_set]
  by_cases hi : i = (n : Int)
  · subst hi
    rw [if_pos hn, if_pos rfl]
    show some ((a.l.set n v).getD _ ndZ) = _
    rw [Int.toNat_natCast, agetD_set_self _ _ _ _ h3]
  · rw [if_neg hi]
    split
    · rename_i h
      have := (a.is_iff i).1 h
      show some ((a.l.set n v).getD _ ndZ) = _
      rw [agetD_set_ne _ _ _ _ _ (by omega)]
    · rfl
/-- The tree's own: the arena, and where the root is. -/
structure Rt where
  ar : Ag Nd
  root : Int
namespace Rt
abbrev look (t : Rt) : Int → Option Nd := t.ar.look
def tw (t : Rt) (i : Int) (h : Nd → Nd) : Rt := if t.ar.is i = true then { t with ar := t.ar.set i.toNat (h (t.ar.l.getD i.toNat ndZ)) } else t
theorem tw_is (t : Rt) (i : Int) (h : Nd → Nd) (j : Int) : (t.tw i h).ar.is j = t.ar.is j := by unfold tw; split <;> rfl
theorem tw_root (t : Rt) (i : Int) (h : Nd → Nd) : (t.tw i h).root = t.root := by unfold tw; split <;> rfl
theorem tw_ok (t : Rt) (i : Int) (h : Nd → Nd) (hok : t.ar.ok) : (t.tw i h).ar.ok := by unfold tw; split; exact t.ar.set_ok _ _ hok; exact hok
theorem tw_look (t : Rt) (i : Int) (h : Nd → Nd) (hok : t.ar.ok) : (t.tw i h).look = Bo.tw t.look i h := by
  unfold tw
  split
  · rename_i k
    have hk := (t.ar.is_iff i).1 k
    obtain ⟨n, rfl⟩ : ∃ n : Nat, i = (n : Int) := ⟨i.toNat, by omega⟩
    rw [Int.toNat_natCast]
    refine (t.ar.look_set n _ hok k).trans (tw_some _ _ _ ?_).symm
    show Ag.look _ _ = _
    unfold Ag.look
    rw [if_pos k, Int.toNat_natCast]
  · rename_i k
    exact (tw_none _ _ ((t.ar.look_none i).2 (by simpa using k))).symm
def pa (t : Rt) (i : Int) : Int := (t.ar.l.getD i.toNat ndZ).pa
def ch (t : Rt) (i : Int) (s : Bool) : Int := (t.ar.l.getD i.toNat ndZ).ch s
def sd (t : Rt) (i : Int) : Bool := t.ar.is (t.pa i) && (t.ch (t.pa i) true == i)
def red (t : Rt) (i : Int) : Bool := t.ar.is i && (t.ar.l.getD i.toNat ndZ).red
/-- The child of p on the side s is j (of none: the root); j's parent is p. -/
def hang (t : Rt) (j p : Int) (s : Bool) : Rt := (if t.ar.is p = true then t.tw p (·.setCh s j) else { t with root := j }).tw j (·.setPa p)
def paint (t : Rt) (i : Int) (b : Bool) : Rt := t.tw i (·.setRed b)
def rot (t : Rt) (i : Int) (s : Bool) : Rt := ((t.hang (t.ch i (!s)) (t.pa i) (t.sd i)).hang i (t.ch i (!s)) s).hang (t.ch (t.ch i (!s)) s) i (!s)
theorem hang_is (t : Rt) (j p : Int) (s : Bool) (i : Int) : (t.hang j p s).ar.is i = t.ar.is i := by
  unfold hang; rw [tw_is]; split; exact tw_is ..; rfl
theorem hang_ok (t : Rt) (j p : Int) (s : Bool) (hok : t.ar.ok) : (t.hang j p s).ar.ok := by
  unfold hang; apply tw_ok; split; exact tw_ok _ _ _ hok; exact hok
theorem hang_look (t : Rt) (j p : Int) (s : Bool) (hok : t.ar.ok) : (t.hang j p s).look = hangf t.look j p s := by
  unfold hang hangf
  split
  · rename_i h
    rw [tw_look _ _ _ (tw_ok _ _ _ hok), tw_look _ _ _ hok]
  · rename_i h
    refine (tw_look ⟨t.ar, j⟩ _ _ hok).trans ?_
    rw [tw_none (f := t.look) _ _ ((t.ar.look_none p).2 (by simpa using h))]
theorem hang_root (t : Rt) (j p : Int) (s : Bool) : (t.hang j p s).root = if t.ar.is p = true then t.root else j := by
  unfold hang; rw [tw_root]; split; exact tw_root ..; rfl
theorem rot_is (t : Rt) (i : Int) (s : Bool) (j : Int) : (t.rot i s).ar.is j = t.ar.is j := by unfold rot; rw [hang_is, hang_is, hang_is]
theorem rot_ok (t : Rt) (i : Int) (s : Bool) (hok : t.ar.ok) : (t.rot i s).ar.ok := hang_ok _ _ _ _ (hang_ok _ _ _ _ (hang_ok _ _ _ _ hok))
end Rt
/-- The arena holds just that tree. -/
structure Rep (t : Rt) (x : Tr) : Prop where
  ok : t.ar.ok
  root : t.root = x.idx
  rep : RepT t.look x (-1)
  nd : x.ids.Nodup
  all : ∀ k : Nat, t.ar.is (k : Int) = true → k ∈ x.ids
theorem Ag.look_neg (a : Ag Nd) : a.look (-1) = none := by
  rw [Ag.look_none]
  cases h : a.is (-1) with
  | false => rfl
  | true => have := (a.is_iff (-1)).1 h; omega
theorem hangf_other {f : Int → Option Nd} (j p k : Int) (s : Bool) (h1 : k ≠ j) (h2 : k ≠ p) : hangf f j p s k = f k := by
  unfold hangf; rw [tw_ne _ _ _ h1, tw_ne _ _ _ h2]
theorem hangf_p {f : Int → Option Nd} (j p : Int) (s : Bool) (n : Nd) (h1 : p ≠ j) (h : f p = some n) : hangf f j p s p = some (n.setCh s j) := by
  unfold hangf; rw [tw_ne _ _ _ h1, tw_self _ _ _ h]
theorem hangf_j {f : Int → Option Nd} (j p : Int) (s : Bool) (n : Nd) (h1 : j ≠ p) (h : f j = some n) : hangf f j p s j = some (n.setPa p) := by
  unfold hangf; rw [tw_self _ _ n (by rw [tw_ne _ _ _ h1]; exact h)]
/-- A tree that was hung elsewhere. -/
theorem hangf_tree {f : Int → Option Nd} (x : Tr) (p q : Int) (s : Bool) (hr : RepT f x p) (hn : x.ids.Nodup) (hq : ∀ k ∈ x.ids, q ≠ (k : Int)) : RepT (hangf f x.idx q s) x q := by
  refine repT_congr x q (fun k hk => ?_) (repT_move x p q hr hn)
  have h1 := hq k hk
  unfold hangf tw
  rw [if_neg (c := (k : Int) = q) (fun e => h1 e.symm)]
theorem idx_ne (x : Tr) (k : Nat) (h : k ∉ x.ids) : (k : Int) ≠ x.idx := fun e => h (x.idx_mem k e.symm)
theorem cpi_ne (cx : List Fr) (k : Nat) (h : k ∉ cids cx) : (k : Int) ≠ cpi cx := by
  cases cx with
  | nil => show (k : Int) ≠ -1; omega
  | cons y cx =>
    intro e
    have e : (k : Int) = (y.i : Int) := e
    have : k = y.i := by omega
    subst this
    exact h (by simp [cids])
/-- A way down leads elsewhere. -/
theorem hangf_way {f : Int → Option Nd} (cx : List Fr) (h j : Int) (hr : RepC f cx h) (hn : (cids cx).Nodup) (hj : ∀ k ∈ cids cx, (k : Int) ≠ j) (s : Bool) (hs : ∀ y l, cx = y :: l → y.s = s) : RepC (hangf f j (cpi cx) s) cx j := by
  cases cx with
  | nil => trivial
  | cons y cx =>
    obtain ⟨h1, h2, h3⟩ := hr
    have e := hs y cx rfl
    subst e
    simp only [cids, List.cons_append, List.nodup_cons, List.nodup_append, List.mem_append, not_or] at hn
    refine ⟨?_, repT_congr _ _ (fun k hk => ?_) h2, repC_congr _ _ (fun k hk => ?_) h3⟩
    · show hangf f j (y.i : Int) y.s (y.i : Int) = _
      rw [hangf_p _ _ _ _ (hj y.i (by simp [cids])) h1, ndk_setCh]
    · refine hangf_other _ _ _ _ (hj k (by simp [cids, hk])) ?_
      show (k : Int) ≠ (y.i : Int)
      intro e
      have : k = y.i := by omega
      subst this; exact hn.1.1 hk
    · refine hangf_other _ _ _ _ (hj k (by simp [cids, hk])) ?_
      show (k : Int) ≠ (y.i : Int)
      intro e
      have : k = y.i := by omega
      subst this; exact hn.1.2 hk
/-- On which side a node hangs. -/
def csd : List Fr → Bool
  | [] => false
  | y :: _ => y.s
theorem csd_of (cx : List Fr) : ∀ y l, cx = y :: l → y.s = csd cx := by rintro y l rfl; rfl
theorem Rep.parts {t : Rt} {cx : List Fr} {x : Tr} (h : Rep t (plug cx x)) : RepC t.look cx x.idx ∧ RepT t.look x (cpi cx) ∧ (cids cx).Nodup ∧ x.ids.Nodup ∧ ∀ k ∈ x.ids, k ∉ cids cx := by
  have h1 := (rep_plug cx x).1 h.rep
  have h2 := (plug_nodup cx x).1 h.nd
  exact ⟨h1.1, h1.2, h2.1, h2.2.1, h2.2.2⟩
theorem plug_idx (cx : List Fr) (x y : Tr) (h : cx ≠ []) : (plug cx x).idx = (plug cx y).idx := by
  induction cx generalizing x y with
  | nil => exact absurd rfl h
  | cons z cx ih =>
    cases cx with
    | nil => show (Tr.mk ..).idx = (Tr.mk ..).idx; rw [Tr.mk_idx, Tr.mk_idx]
    | cons z2 cx => exact ih _ _ (by simp)
theorem cpi_is {t : Rt} {cx : List Fr} {h : Int} (hr : RepC t.look cx h) : t.ar.is (cpi cx) = !cx.isEmpty := by
  cases cx with
  | nil => exact (t.ar.look_none (-1)).1 t.ar.look_neg
  | cons y cx => exact (t.ar.look_some _ _ hr.1).1
/-- The side is told as it is. -/
theorem Rep.side {t : Rt} {cx : List Fr} {x : Tr} (h : Rep t (plug cx x)) (hx : x ≠ .nil) : t.sd x.idx = csd cx := by
  obtain ⟨h1, h2, h3, h4, h5⟩ := h.parts
  have hp : t.pa x.idx = cpi cx := by
    cases x with
    | nil => exact absurd rfl hx
    | node c l i g r => exact (t.pa_of _ _ h2.1)
  unfold Rt.sd
  rw [hp, cpi_is h1]
  cases cx with
  | nil => rfl
  | cons y cx =>
    show (true && _) = y.s
    rw [Bool.true_and, show cpi (y :: cx) = (y.i : Int) from rfl, t.ch_of _ _ _ h1.1]
    cases hs : y.s with
    | true => simp [ndk, Nd.ch]
    | false =>
      simp [ndk, Nd.ch]
      intro e
      cases x with
      | nil => exact hx rfl
      | node c l i g r =>
        have h6 := h5 i (by simp [Tr.ids])
        exact h6 (by simp [cids, Tr.idx_mem y.o i e])
/-- A node is painted. -/
theorem Rep.paint {t : Rt} {cx : List Fr} {x : Tr} (h : Rep t (plug cx x)) (b : Bool) : Rep (t.paint x.idx b) (plug cx (x.paint b)) := by
  obtain ⟨h1, h2, h3, h4, h5⟩ := h.parts
  have hat := t.tw_look x.idx (·.setRed b) h.ok
  refine ⟨t.tw_ok _ _ h.ok, ?_, ?_, ?_, ?_⟩
  · show (t.tw _ _).root = _
    rw [t.tw_root, h.root]
    cases cx with
    | nil => exact (x.paint_idx b).symm
    | cons y cx => exact plug_idx _ _ _ (by simp)
  · show RepT (t.tw _ _).look _ _
    rw [hat, rep_plug, x.paint_idx]
    refine ⟨repC_congr _ _ (fun k hk => tw_ne _ _ _ (idx_ne x k (fun hx => h5 k hx hk))) h1, ?_⟩
    cases x with
    | nil => trivial
    | node c l i g r =>
      obtain ⟨g1, g2, g3⟩ := h2
      have hn := (Tr.mk_nodup false c l i g r).1 h4
      refine ⟨(tw_self _ _ _ g1).trans rfl, repT_congr _ _ (fun k hk => tw_ne _ _ _ ?_) g2, repT_congr _ _ (fun k hk => tw_ne _ _ _ ?_) g3⟩
      · intro e
        have : k = i := by simp only [Tr.idx] at e; omega
        subst this; exact hn.2.2.1 hk
      · intro e
        have : k = i := by simp only [Tr.idx] at e; omega
        subst this; exact hn.2.2.2.1 hk
  · rw [plug_nodup, x.paint_ids]; exact ⟨h3, h4, h5⟩
  · intro k hk
    have := h.all k (by rw [← hk]; exact (t.tw_is _ _ _).symm)
    rw [plug_mem] at this ⊢
    rw [x.paint_ids]; exact this
end Go.Proofs.Ytjgcdmeojjnjlaa.Bo
/- A tree in an arena: turning a node down. No Go in sight. -/
namespace Go.Proofs.Ytjgcdmeojjnjlaa.Bo
theorem natne {a b : Nat} (h : a ≠ b) : (a : Int) ≠ (b : Int) := fun e => h (by omega)
theorem Rep.rot {t : Rt} {cx : List Fr} {s ci cu : Bool} {A B C : Tr} {i u : Nat} {gi gu : G5} (h : Rep t (plug cx (Tr.mk s ci A i gi (Tr.mk s cu B u gu C)))) :
    Rep (t.rot i s) (plug cx (Tr.mk s cu (Tr.mk s ci A i gi B) u gu C)) := by
  obtain ⟨h1, h2, h3, h4, h5⟩ := h.parts
  have hsd := h.side (by cases s <;> simp [Tr.mk])
  rw [Tr.mk_idx] at h1 hsd
  obtain ⟨fi, rA, rU⟩ := (repT_mk ..).1 h2
  obtain ⟨fu, rB, rC⟩ := (repT_mk ..).1 rU
  rw [Tr.mk_idx] at fi
  obtain ⟨nA, nU, iA, iU, dA⟩ := (Tr.mk_nodup ..).1 h4
  obtain ⟨nB, nC, uB, uC, dB⟩ := (Tr.mk_nodup ..).1 nU
  simp only [Tr.mk_mem] at h5 iU dA
  have iu : i ≠ u := fun e => iU (.inl e)
  have iB : i ∉ B.ids := fun e => iU (.inr (.inl e))
  have iC : i ∉ C.ids := fun e => iU (.inr (.inr e))
  have xi : i ∉ cids cx := h5 i (.inl rfl)
  have xu : u ∉ cids cx := h5 u (.inr (.inr (.inl rfl)))
  have xA : ∀ k ∈ A.ids, k ∉ cids cx := fun k hk => h5 k (.inr (.inl hk))
  have xB : ∀ k ∈ B.ids, k ∉ cids cx := fun k hk => h5 k (.inr (.inr (.inr (.inl hk))))
  have xC : ∀ k ∈ C.ids, k ∉ cids cx := fun k hk => h5 k (.inr (.inr (.inr (.inr hk))))
  have uA : u ∉ A.ids := fun e => dA u e (.inl rfl)
  have AB : ∀ k ∈ A.ids, k ∉ B.ids := fun k hk e => dA k hk (.inr (.inl e))
  have AC : ∀ k ∈ A.ids, k ∉ C.ids := fun k hk e => dA k hk (.inr (.inr e))
  have e1 : t.ch i (!s) = (u : Int) := by rw [t.ch_of _ _ _ fi, ndk_ch2]
  have e2 : t.ch u s = B.idx := by rw [t.ch_of _ _ _ fu, ndk_ch]
  have e3 : t.pa i = cpi cx := by rw [t.pa_of _ _ fi, ndk_pa]
  have eL : (t.rot i s).look = hangf (hangf (hangf t.look u (cpi cx) (csd cx)) i u s) B.idx i (!s) := by
    unfold Rt.rot
    rw [e1, e2, e3, hsd, Rt.hang_look _ _ _ _ (Rt.hang_ok _ _ _ _ (Rt.hang_ok _ _ _ _ h.ok)), Rt.hang_look _ _ _ _ (Rt.hang_ok _ _ _ _ h.ok), Rt.hang_look _ _ _ _ h.ok]
  have isu : t.ar.is (u : Int) = true := (t.ar.look_some _ _ fu).1
  have isi : t.ar.is (i : Int) = true := (t.ar.look_some _ _ fi).1
  have eR : (t.rot i s).root = if t.ar.is (cpi cx) = true then t.root else (u : Int) := by
    unfold Rt.rot
    rw [e1, e2, e3, hsd, Rt.hang_root, Rt.hang_is, Rt.hang_is, if_pos isi, Rt.hang_root, Rt.hang_is, if_pos isu, Rt.hang_root]
  have jne : ∀ k, k ∈ cids cx → k ≠ i ∧ k ≠ u ∧ k ∉ B.ids := fun k hk => ⟨fun e => xi (e ▸ hk), fun e => xu (e ▸ hk), fun e => xB k e hk⟩
  have c1 := hangf_way cx _ (u : Int) h1 h3 (fun k hk => natne (jne k hk).2.1) (csd cx) (csd_of cx)
  have c2 := repC_congr (f' := hangf (hangf t.look u (cpi cx) (csd cx)) i u s) cx _ (fun k hk => hangf_other _ _ _ _ (natne (jne k hk).1) (natne (jne k hk).2.1)) c1
  have c3 := repC_congr (f' := hangf (hangf (hangf t.look u (cpi cx) (csd cx)) i u s) B.idx i (!s)) cx _ (fun k hk => hangf_other _ _ _ _ (idx_ne B k (jne k hk).2.2) (natne (jne k hk).1)) c2
  have u1 : hangf t.look u (cpi cx) (csd cx) u = some (ndk s gu (cpi cx) B.idx C.idx cu) := by
    rw [hangf_j _ _ _ _ (cpi_ne cx u xu) fu, ndk_setPa]
  have i1 : hangf t.look u (cpi cx) (csd cx) i = some (ndk s gi (cpi cx) A.idx u ci) := by
    rw [hangf_other _ _ _ _ (natne iu) (cpi_ne cx i xi)]; exact fi
  have u2 : hangf (hangf t.look u (cpi cx) (csd cx)) i u s u = some (ndk s gu (cpi cx) i C.idx cu) := by
    rw [hangf_p _ _ _ _ (natne fun e => iu e.symm) u1, ndk_setCh]
  have i2 : hangf (hangf t.look u (cpi cx) (csd cx)) i u s i = some (ndk s gi u A.idx u ci) := by
    rw [hangf_j _ _ _ _ (natne iu) i1, ndk_setPa]
  have u3 : hangf (hangf (hangf t.look u (cpi cx) (csd cx)) i u s) B.idx i (!s) u = some (ndk s gu (cpi cx) i C.idx cu) := by
    rw [hangf_other _ _ _ _ (idx_ne B u uB) (natne fun e => iu e.symm)]; exact u2
  have i3 : hangf (hangf (hangf t.look u (cpi cx) (csd cx)) i u s) B.idx i (!s) i = some (ndk s gi u A.idx B.idx ci) := by
    rw [hangf_p _ _ _ _ (idx_ne B i iB) i2, ndk_setCh2]
  have far2 : ∀ k, k ≠ i → k ≠ u → k ∉ cids cx → hangf (hangf t.look u (cpi cx) (csd cx)) i u s (k : Int) = t.look k := by
    intro k k1 k2 k3
    rw [hangf_other _ _ _ _ (natne k1) (natne k2), hangf_other _ _ _ _ (natne k2) (cpi_ne cx k k3)]
  have far3 : ∀ k, k ≠ i → k ≠ u → k ∉ cids cx → k ∉ B.ids → hangf (hangf (hangf t.look u (cpi cx) (csd cx)) i u s) B.idx i (!s) (k : Int) = t.look k := by
    intro k k1 k2 k3 k4
    rw [hangf_other _ _ _ _ (idx_ne B k k4) (natne k1), far2 k k1 k2 k3]
  have rA3 := repT_congr (f' := hangf (hangf (hangf t.look u (cpi cx) (csd cx)) i u s) B.idx i (!s)) A _ (fun k hk => far3 k (fun e => iA (e ▸ hk)) (fun e => uA (e ▸ hk)) (xA k hk) (AB k hk)) rA
  have rC3 := repT_congr (f' := hangf (hangf (hangf t.look u (cpi cx) (csd cx)) i u s) B.idx i (!s)) C _ (fun k hk => far3 k (fun e => iC (e ▸ hk)) (fun e => uC (e ▸ hk)) (xC k hk) (fun e => dB k e hk)) rC
  have rB2 := repT_congr (f' := hangf (hangf t.look u (cpi cx) (csd cx)) i u s) B _ (fun k hk => far2 k (fun e => iB (e ▸ hk)) (fun e => uB (e ▸ hk)) (xB k hk)) rB
  have rB3 := hangf_tree B u i (!s) rB2 nB (fun k hk => natne fun e => iB (e ▸ hk))
  refine ⟨Rt.rot_ok _ _ _ h.ok, ?_, ?_, ?_, ?_⟩
  · rw [eR, cpi_is h1]
    cases cx with
    | nil => exact (Tr.mk_idx ..).symm
    | cons y cx => exact h.root.trans (plug_idx _ _ _ (by simp))
  · rw [eL, rep_plug, Tr.mk_idx]
    refine ⟨c3, (repT_mk ..).2 ⟨?_, (repT_mk ..).2 ⟨i3, rA3, rB3⟩, rC3⟩⟩
    rw [Tr.mk_idx]; exact u3
  · rw [plug_nodup, Tr.mk_nodup, Tr.mk_nodup]
    simp only [Tr.mk_mem]
    refine ⟨h3, ⟨⟨nA, nB, iA, iB, AB⟩, nC, fun e => ?_, uC, fun k hk => ?_⟩, fun k hk => ?_⟩
    · rcases e with e | e | e
      · exact iu e.symm
      · exact uA e
      · exact uB e
    · rcases hk with rfl | hk | hk
      · exact iC
      · exact AC k hk
      · exact dB k hk
    · rcases hk with rfl | (rfl | hk | hk) | hk
      · exact xu
      · exact xi
      · exact xA k hk
      · exact xB k hk
      · exact xC k hk
  · intro k hk
    rw [Rt.rot_is] at hk
    have := h.all k hk
    simp only [plug_mem, Tr.mk_mem] at this ⊢
    rcases this with k1 | k1 | k1 | k1 | k1 | k1
    · exact .inl k1
    · exact .inr (.inr (.inl (.inl k1)))
    · exact .inr (.inr (.inl (.inr (.inl k1))))
    · exact .inr (.inl k1)
    · exact .inr (.inr (.inl (.inr (.inr k1))))
    · exact .inr (.inr (.inr k1))
end Go.Proofs.Ytjgcdmeojjnjlaa.Bo
/- Colours of a tree, and its segments in order. No Go in sight. -/
namespace Go.Proofs.Ytjgcdmeojjnjlaa.Bo
/-- A tree in colours, with n black ones on each way; its root is of any colour. -/
def RB : Tr → Nat → Prop
  | .nil, n => n = 0
  | .node true l _ _ r, n => RB l n ∧ RB r n ∧ l.isRed = false ∧ r.isRed = false
  | .node false l _ _ r, n => ∃ m, n = m + 1 ∧ RB l m ∧ RB r m
theorem rb_red (s : Bool) (a : Tr) (i : Nat) (g : G5) (b : Tr) (n : Nat) : RB (Tr.mk s true a i g b) n ↔ RB a n ∧ RB b n ∧ a.isRed = false ∧ b.isRed = false := by
  cases s
  · exact Iff.rfl
  · show (_ ∧ _ ∧ _ ∧ _) ↔ _
    exact ⟨fun ⟨h1, h2, h3, h4⟩ => ⟨h2, h1, h4, h3⟩, fun ⟨h1, h2, h3, h4⟩ => ⟨h2, h1, h4, h3⟩⟩
theorem rb_black (s : Bool) (a : Tr) (i : Nat) (g : G5) (b : Tr) (n : Nat) : RB (Tr.mk s false a i g b) n ↔ ∃ m, n = m + 1 ∧ RB a m ∧ RB b m := by
  cases s
  · exact Iff.rfl
  · show (∃ m, _ ∧ _ ∧ _) ↔ _
    exact ⟨fun ⟨m, h1, h2, h3⟩ => ⟨m, h1, h3, h2⟩, fun ⟨m, h1, h2, h3⟩ => ⟨m, h1, h3, h2⟩⟩
/-- A red one that is painted black. -/
theorem rb_paint (x : Tr) (n : Nat) (h : RB x n) (hr : x.isRed = true) : RB (x.paint false) (n + 1) := by
  obtain ⟨a, i, g, b, rfl⟩ := x.of_red hr false
  rw [Tr.mk_paint]
  exact (rb_black ..).2 ⟨n, rfl, ((rb_red ..).1 h).1, ((rb_red ..).1 h).2.1⟩
theorem paint_black (x : Tr) (h : x.isRed = false) : x.paint false = x := by
  cases x with
  | nil => rfl
  | node c l i g r => simp only [Tr.isRed] at h; subst h; rfl
def crd : List Fr → Bool
  | [] => false
  | y :: _ => y.c
/-- What stands around a tree of n black ones on each way. -/
def RBC : List Fr → Nat → Prop
  | [], _ => True
  | y :: cx, n => RB y.o n ∧ (y.c = true → y.o.isRed = false ∧ crd cx = false ∧ cx ≠ [] ∧ RBC cx n) ∧ (y.c = false → RBC cx (n + 1))
/-- A whole red-black tree. -/
def Rbt (x : Tr) : Prop := (∃ n, RB x n) ∧ x.isRed = false
theorem rb_plug (cx : List Fr) : ∀ (x : Tr) (n : Nat), RBC cx n → RB x n → (x.isRed = true → crd cx = false ∧ cx ≠ []) → Rbt (plug cx x) := by
  induction cx with
  | nil =>
    intro x n _ hx hr
    refine ⟨⟨n, hx⟩, ?_⟩
    cases h : x.isRed with
    | false => exact h
    | true => exact absurd rfl (hr h).2
  | cons y cx ih =>
    rintro x n ⟨h1, h2, h3⟩ hx hr
    show Rbt (plug cx (Tr.mk y.s y.c x y.i y.g y.o))
    cases hc : y.c with
    | true =>
      obtain ⟨k1, k2, k3, k4⟩ := h2 hc
      have hxr : x.isRed = false := by
        cases h : x.isRed with
        | false => rfl
        | true =>
          have := (hr h).1
          rw [show crd (y :: cx) = y.c from rfl, hc] at this
          cases this
      exact ih _ n k4 ((rb_red ..).2 ⟨hx, h1, hxr, k1⟩) (fun _ => ⟨k2, k3⟩)
    | false =>
      exact ih _ (n + 1) (h3 hc) ((rb_black ..).2 ⟨n, rfl, hx, h1⟩) (fun h => by rw [Tr.mk_red] at h; cases h)
def cpre : List Fr → List G5
  | [] => []
  | y :: cx => cpre cx ++ if y.s then y.o.ino ++ [y.g] else []
def cpost : List Fr → List G5
  | [] => []
  | y :: cx => (if y.s then [] else y.g :: y.o.ino) ++ cpost cx
theorem ino_plug (cx : List Fr) : ∀ x : Tr, (plug cx x).ino = cpre cx ++ x.ino ++ cpost cx := by
  induction cx with
  | nil => intro x; simp [plug, cpre, cpost]
  | cons y cx ih =>
    intro x
    show (plug cx (y.fill x)).ino = _
    rw [ih]
    obtain ⟨s, c, i, g, o⟩ := y
    cases s <;> simp [Fr.fill, Tr.mk, Tr.ino, cpre, cpost]
theorem ino_plug_eq (cx : List Fr) (x y : Tr) (h : x.ino = y.ino) : (plug cx x).ino = (plug cx y).ino := by rw [ino_plug, ino_plug, h]
theorem ino_rot (s ci cu : Bool) (A B C : Tr) (i u : Nat) (gi gu : G5) : (Tr.mk s cu (Tr.mk s ci A i gi B) u gu C).ino = (Tr.mk s ci A i gi (Tr.mk s cu B u gu C)).ino := by
  cases s <;> simp [Tr.mk, Tr.ino]
theorem ino_col (s c d : Bool) (A B : Tr) (i : Nat) (g : G5) : (Tr.mk s c A i g B).ino = (Tr.mk s d A i g B).ino := by cases s <;> rfl
theorem ino_mk (s c : Bool) (A A' B B' : Tr) (i : Nat) (g : G5) (h1 : A.ino = A'.ino) (h2 : B.ino = B'.ino) : (Tr.mk s c A i g B).ino = (Tr.mk s c A' i g B').ino := by
  cases s <;> simp [Tr.mk, Tr.ino, h1, h2]
theorem ino_len (x : Tr) : x.ino.length = x.ids.length := by
  induction x with
  | nil => rfl
  | node c l i g r ih1 ih2 => simp [Tr.ino, Tr.ids, ih1, ih2]
/-- A node is painted, or has another segment. -/
theorem Rep.turn {t : Rt} {cx : List Fr} {s c c' : Bool} {A B : Tr} {i : Nat} {g g' : G5} (h : Rep t (plug cx (Tr.mk s c A i g B))) (f : Nd → Nd) (hf : ∀ p, f (ndk s g p A.idx B.idx c) = ndk s g' p A.idx B.idx c') : Rep (t.tw i f) (plug cx (Tr.mk s c' A i g' B)) := by
  obtain ⟨h1, h2, h3, h4, h5⟩ := h.parts
  obtain ⟨fi, rA, rB⟩ := (repT_mk ..).1 h2
  obtain ⟨nA, nB, iA, iB, dA⟩ := (Tr.mk_nodup ..).1 h4
  have hat := t.tw_look i f h.ok
  rw [Tr.mk_idx] at h1
  have xi : i ∉ cids cx := h5 i ((Tr.mk_mem ..).2 (.inl rfl))
  refine ⟨t.tw_ok _ _ h.ok, ?_, ?_, ?_, ?_⟩
  · rw [t.tw_root, h.root]
    cases cx with
    | nil => exact (Tr.mk_idx ..).trans (Tr.mk_idx ..).symm
    | cons y cx => exact plug_idx _ _ _ (by simp)
  · rw [hat, rep_plug, Tr.mk_idx]
    refine ⟨repC_congr _ _ (fun k hk => tw_ne _ _ _ (natne fun e => xi (e ▸ hk))) h1, (repT_mk ..).2 ⟨?_, repT_congr _ _ (fun k hk => tw_ne _ _ _ (natne fun e => iA (e ▸ hk))) rA, repT_congr _ _ (fun k hk => tw_ne _ _ _ (natne fun e => iB (e ▸ hk))) rB⟩⟩
    rw [tw_self _ _ _ fi, hf]
  · have hn := h.nd
    simp only [plug_nodup, Tr.mk_nodup, Tr.mk_mem] at hn ⊢
    exact hn
  · intro k hk
    have := h.all k (by rw [← hk]; exact (t.tw_is _ _ _).symm)
    simp only [plug_mem, Tr.mk_mem] at this ⊢
    exact this
end Go.Proofs.Ytjgcdmeojjnjlaa.Bo
/- Mending a red node below a red one. No Go in sight. -/
namespace Go.Proofs.Ytjgcdmeojjnjlaa.Bo
/-- May a node be turned down? -/
def Rt.canRot (t : Rt) (i : Int) (s : Bool) : Prop := t.ar.is i = true ∧ t.ar.is (t.ch i (!s)) = true
def Rt.turnRed (t : Rt) (i : Int) : Rt :=
  if t.sd i = t.sd (t.pa i) then ((t.paint (t.pa i) false).paint (t.pa (t.pa i)) true).rot (t.pa (t.pa i)) (!(t.sd (t.pa i)))
  else (((t.rot (t.pa i) (t.sd (t.pa i))).paint i false).paint (t.pa (t.pa i)) true).rot (t.pa (t.pa i)) (!(t.sd (t.pa i)))
def Rt.canTurnRed (t : Rt) (i : Int) : Prop :=
  t.ar.is i = true ∧ t.ar.is (t.pa i) = true ∧ t.ar.is (t.pa (t.pa i)) = true ∧
  (t.sd i = t.sd (t.pa i) → ((t.paint (t.pa i) false).paint (t.pa (t.pa i)) true).canRot (t.pa (t.pa i)) (!(t.sd (t.pa i)))) ∧
  (t.sd i ≠ t.sd (t.pa i) → t.canRot (t.pa i) (t.sd (t.pa i)) ∧ (((t.rot (t.pa i) (t.sd (t.pa i))).paint i false).paint (t.pa (t.pa i)) true).canRot (t.pa (t.pa i)) (!(t.sd (t.pa i))))
section
variable {t : Rt} {cx : List Fr} {s c : Bool} {A B : Tr} {i : Nat} {g : G5}
theorem Rep.node (h : Rep t (plug cx (Tr.mk s c A i g B))) : t.look i = some (ndk s g (cpi cx) A.idx B.idx c) := ((repT_mk ..).1 h.parts.2.1).1
theorem Rep.is (h : Rep t (plug cx (Tr.mk s c A i g B))) : t.ar.is (i : Int) = true := (t.ar.look_some _ _ h.node).1
theorem Rep.pa (h : Rep t (plug cx (Tr.mk s c A i g B))) : t.pa i = cpi cx := by rw [t.pa_of _ _ h.node, ndk_pa]
theorem Rep.ch (h : Rep t (plug cx (Tr.mk s c A i g B))) : t.ch i s = A.idx := by rw [t.ch_of _ _ _ h.node, ndk_ch]
theorem Rep.ch2 (h : Rep t (plug cx (Tr.mk s c A i g B))) : t.ch i (!s) = B.idx := by rw [t.ch_of _ _ _ h.node, ndk_ch2]
theorem Rep.sd (h : Rep t (plug cx (Tr.mk s c A i g B))) : t.sd i = csd cx := by
  have := h.side (by cases s <;> simp [Tr.mk])
  rw [Tr.mk_idx] at this; exact this
theorem Rep.setRed (h : Rep t (plug cx (Tr.mk s c A i g B))) (d : Bool) : Rep (t.paint i d) (plug cx (Tr.mk s d A i g B)) := h.turn _ (fun _ => ndk_setRed ..)
end
theorem Rep.red {t : Rt} {cx : List Fr} {x : Tr} (h : Rep t (plug cx x)) : t.red x.idx = x.isRed := by
  cases x with
  | nil => exact t.red_no _ t.ar.look_neg
  | node c l i g r => exact t.red_of _ _ h.parts.2.1.1
theorem bool_ne {a b : Bool} (h : a ≠ b) : a = !b := by cases a <;> cases b <;> simp_all
/-- Turning at a red node below a red one that has no red one beside it. -/
theorem turnRed_rep {t : Rt} {up : List Fr} {fp ft : Fr} {a b : Tr} {i : Nat} {g : G5} (s0 : Bool) (h : Rep t (plug (fp :: ft :: up) (Tr.mk s0 true a i g b))) :
    t.canTurnRed i ∧ ∃ y, Rep (t.turnRed i) (plug up y) ∧ (plug up y).ino = (plug (fp :: ft :: up) (Tr.mk s0 true a i g b)).ino ∧
      ∀ n, fp.c = true → RB (Tr.mk s0 true a i g b) n → RB fp.o n → fp.o.isRed = false → RB ft.o n → ft.o.isRed = false → RB y (n + 1) ∧ y.isRed = false := by
  have p1 := h.pa
  have s1 := h.sd
  have i1 := h.is
  have hp : Rep t (plug (ft :: up) (Tr.mk fp.s fp.c (Tr.mk s0 true a i g b) fp.i fp.g fp.o)) := h
  have ht : Rep t (plug up (Tr.mk ft.s ft.c (Tr.mk fp.s fp.c (Tr.mk s0 true a i g b) fp.i fp.g fp.o) ft.i ft.g ft.o)) := h
  have p2 := hp.pa
  have s2 := hp.sd
  have i2 := hp.is
  have i3 := ht.is
  rw [show cpi (fp :: ft :: up) = (fp.i : Int) from rfl] at p1
  rw [show cpi (ft :: up) = (ft.i : Int) from rfl] at p2
  rw [show csd (fp :: ft :: up) = fp.s from rfl] at s1
  rw [show csd (ft :: up) = ft.s from rfl] at s2
  unfold Rt.canTurnRed Rt.turnRed
  rw [p1, p2, s1, s2]
  by_cases e : fp.s = ft.s
  · -- the outer one
    rw [if_pos e]
    have h1 : Rep (t.paint fp.i false) (plug (ft :: up) (Tr.mk fp.s false (Tr.mk s0 true a i g b) fp.i fp.g fp.o)) := hp.setRed false
    have h1' : Rep (t.paint fp.i false) (plug up (Tr.mk ft.s ft.c (Tr.mk fp.s false (Tr.mk s0 true a i g b) fp.i fp.g fp.o) ft.i ft.g ft.o)) := h1
    have h2 := h1'.setRed true
    rw [e] at h2
    have h3 : Rep ((t.paint fp.i false).paint ft.i true) (plug up (Tr.mk (!ft.s) true ft.o ft.i ft.g (Tr.mk (!ft.s) false fp.o fp.i fp.g (Tr.mk s0 true a i g b)))) := by
      rw [Tr.mk_swap, Tr.mk_swap]; exact h2
    have h4 := h3.rot
    refine ⟨⟨i1, i2, i3, fun _ => ⟨h3.is, ?_⟩, fun k => absurd e k⟩, _, h4, ?_, ?_⟩
    · have := h3.ch2
      rw [this, Tr.mk_idx]
      rw [show (((t.paint fp.i false).paint ft.i true).ar.is fp.i) = t.ar.is fp.i from by unfold Rt.paint; rw [Rt.tw_is, Rt.tw_is]]
      exact i2
    · refine (ino_plug_eq up _ _ ?_)
      rw [ino_rot, Tr.mk_swap, Tr.mk_swap]
      show _ = (Tr.mk ft.s ft.c (Tr.mk fp.s fp.c (Tr.mk s0 true a i g b) fp.i fp.g fp.o) ft.i ft.g ft.o).ino
      rw [e, ino_col ft.s true ft.c]
      exact ino_mk _ _ _ _ _ _ _ _ (ino_col ..) rfl
    · intro n _ hx ho hob hq hqb
      refine ⟨(rb_black ..).2 ⟨n, rfl, (rb_red ..).2 ⟨hq, ho, hqb, hob⟩, hx⟩, Tr.mk_red ..⟩
  · -- the inner one
    rw [if_neg e]
    have e' := bool_ne e
    have hx : Rep t (plug (ft :: up) (Tr.mk ft.s fp.c fp.o fp.i fp.g (Tr.mk ft.s true (if s0 = ft.s then a else b) i g (if s0 = ft.s then b else a)))) := by
      have h0 := hp
      rw [e', Tr.mk_swap] at h0
      by_cases q : s0 = ft.s
      · rw [if_pos q, if_pos q, ← q]; rw [← q] at h0; exact h0
      · rw [if_neg q, if_neg q]
        have q' := bool_ne q
        rw [q', Tr.mk_swap] at h0
        exact h0
    generalize ha' : (if s0 = ft.s then a else b) = a' at hx
    generalize hb' : (if s0 = ft.s then b else a) = b' at hx
    have hmk : Tr.mk s0 true a i g b = Tr.mk ft.s true a' i g b' := by
      by_cases q : s0 = ft.s
      · rw [if_pos q] at ha' hb'; subst ha'; subst hb'; rw [q]
      · rw [if_neg q] at ha' hb'; subst ha'; subst hb'
        rw [bool_ne q, Tr.mk_swap]
    have h1 := hx.rot
    have h2 : Rep ((t.rot fp.i ft.s).paint i false) (plug (ft :: up) (Tr.mk ft.s false (Tr.mk ft.s fp.c fp.o fp.i fp.g a') i g b')) := h1.setRed false
    have h2' : Rep ((t.rot fp.i ft.s).paint i false) (plug up (Tr.mk ft.s ft.c (Tr.mk ft.s false (Tr.mk ft.s fp.c fp.o fp.i fp.g a') i g b') ft.i ft.g ft.o)) := h2
    have h3 := h2'.setRed true
    have h4 : Rep (((t.rot fp.i ft.s).paint i false).paint ft.i true) (plug up (Tr.mk (!ft.s) true ft.o ft.i ft.g (Tr.mk (!ft.s) false b' i g (Tr.mk ft.s fp.c fp.o fp.i fp.g a')))) := by
      rw [Tr.mk_swap, Tr.mk_swap]; exact h3
    have h5 := h4.rot
    refine ⟨⟨i1, i2, i3, fun k => absurd k e, fun _ => ⟨⟨i2, ?_⟩, ⟨h4.is, ?_⟩⟩⟩, _, h5, ?_, ?_⟩
    · rw [hx.ch2, Tr.mk_idx]; exact i1
    · rw [h4.ch2, Tr.mk_idx]
      rw [show ((((t.rot fp.i ft.s).paint i false).paint ft.i true).ar.is i) = t.ar.is i from by unfold Rt.paint; rw [Rt.tw_is, Rt.tw_is, Rt.rot_is]]
      exact i1
    · refine (ino_plug_eq up _ _ ?_)
      rw [ino_rot, Tr.mk_swap, Tr.mk_swap]
      show _ = (Tr.mk ft.s ft.c (Tr.mk fp.s fp.c (Tr.mk s0 true a i g b) fp.i fp.g fp.o) ft.i ft.g ft.o).ino
      rw [hmk, e', Tr.mk_swap, ino_col ft.s true ft.c]
      refine ino_mk _ _ _ _ _ _ _ _ ?_ rfl
      rw [ino_col ft.s false true, ino_rot]
    · intro n hc hx2 ho hob hq hqb
      rw [hmk] at hx2
      obtain ⟨k1, k2, k3, k4⟩ := (rb_red ..).1 hx2
      rw [hc]
      exact ⟨(rb_black ..).2 ⟨n, rfl, (rb_red ..).2 ⟨hq, k2, hqb, k4⟩, (rb_red ..).2 ⟨ho, k1, hob, k3⟩⟩, Tr.mk_red ..⟩
/-- What is left in the end: a red-black tree of these segments. -/
def Fin (t : Rt) (L : List G5) : Prop := ∃ x, Rep t x ∧ Rbt x ∧ x.ino = L
/-- Nothing is amiss but that the red node i may have a red parent, or be the root. -/
def RedInv (t : Rt) (i : Int) (L : List G5) (k : Nat) : Prop := ∃ cx x n, Rep t (plug cx x) ∧ i = x.idx ∧ x.isRed = true ∧ RBC cx n ∧ RB x n ∧ (plug cx x).ino = L ∧ cx.length = k
theorem Fin.root {t : Rt} {L : List G5} (h : Fin t L) : Fin (t.paint t.root false) L := by
  obtain ⟨x, h1, ⟨⟨n, h2⟩, h3⟩, h4⟩ := h
  have h5 : Rep (t.paint x.idx false) (plug [] (x.paint false)) := Rep.paint (cx := []) h1 false
  rw [h1.root]
  exact ⟨_, h5, by rw [paint_black x h3]; exact ⟨⟨n, h2⟩, h3⟩, by show (x.paint false).ino = L; rw [x.paint_ino, h4]⟩
theorem RedInv.is {t : Rt} {i : Int} {L : List G5} {k : Nat} (h : RedInv t i L k) : t.ar.is i = true := by
  obtain ⟨cx, x, n, h1, rfl, h3, h4, h5, h6, h7⟩ := h
  obtain ⟨a, j, g, b, rfl⟩ := x.of_red h3 false
  rw [Tr.mk_idx]; exact h1.is
/-- The end: the parent is not red. -/
theorem RedInv.stop {t : Rt} {i : Int} {L : List G5} {k : Nat} (h : RedInv t i L k) (hr : t.red (t.pa i) = false) : t.ar.is t.root = true ∧ Fin (t.paint t.root false) L := by
  obtain ⟨cx, x, n, h1, rfl, h3, h4, h5, h6, h7⟩ := h
  obtain ⟨a, j, g, b, rfl⟩ := x.of_red h3 false
  rw [Tr.mk_idx, h1.pa] at hr
  cases cx with
  | nil =>
    have h2 : Rep t (plug [] (Tr.mk false true a j g b)) := h1
    have hro := h1.root
    rw [show plug [] (Tr.mk false true a j g b) = Tr.mk false true a j g b from rfl, Tr.mk_idx] at hro
    rw [hro]
    refine ⟨h1.is, _, h2.setRed false, ⟨⟨n + 1, ?_⟩, Tr.mk_red ..⟩, ?_⟩
    · exact (rb_black ..).2 ⟨n, rfl, ((rb_red ..).1 h5).1, ((rb_red ..).1 h5).2.1⟩
    · rw [← h6]; exact ino_col ..
  | cons y cx =>
    have h2 : Rep t (plug cx (Tr.mk y.s y.c (Tr.mk false true a j g b) y.i y.g y.o)) := h1
    have hred := h2.red
    rw [Tr.mk_idx, Tr.mk_red] at hred
    have hyc : y.c = false := hred.symm.trans hr
    have hf : Fin t L := ⟨_, h1, rb_plug _ _ n h4 h5 (fun _ => ⟨hyc, by simp⟩), h6⟩
    refine ⟨?_, hf.root⟩
    have : ∀ (cx : List Fr) (z : Tr), z.idx ≠ -1 → (plug cx z).idx ≠ -1 := by
      intro cx
      induction cx with
      | nil => intro z hz; exact hz
      | cons w cx ih => intro z _; refine ih _ ?_; show (Tr.mk ..).idx ≠ -1; rw [Tr.mk_idx]; omega
    have hne := this (y :: cx) (Tr.mk false true a j g b) (by rw [Tr.mk_idx]; omega)
    have hro := h1.root
    obtain ⟨c', a', i', g', b', e⟩ := (plug (y :: cx) (Tr.mk false true a j g b)).of_idx hne false
    have h8 : Rep t (plug [] (Tr.mk false c' a' i' g' b')) := by rw [← e]; exact h1
    rw [e, Tr.mk_idx] at hro
    rw [hro]; exact h8.is
/-- A round: the parent is red. -/
theorem RedInv.step {t : Rt} {i : Int} {L : List G5} {k : Nat} (h : RedInv t i L k) (hr : t.red (t.pa i) = true) :
    t.ar.is (t.pa i) = true ∧ t.ar.is (t.pa (t.pa i)) = true ∧
    (t.red (t.ch (t.pa (t.pa i)) (!(t.sd (t.pa i)))) = false → t.canTurnRed i ∧ (t.turnRed i).ar.is (t.turnRed i).root = true ∧ Fin ((t.turnRed i).paint (t.turnRed i).root false) L) ∧
    (t.red (t.ch (t.pa (t.pa i)) (!(t.sd (t.pa i)))) = true → t.ar.is (t.ch (t.pa (t.pa i)) (!(t.sd (t.pa i)))) = true ∧
      ∃ m, m < k ∧ RedInv (((t.paint (t.pa i) false).paint (t.ch (t.pa (t.pa i)) (!(t.sd (t.pa i)))) false).paint (t.pa (t.pa i)) true) (t.pa (t.pa i)) L m) := by
  obtain ⟨cx, x, n, h1, rfl, h3, h4, h5, h6, h7⟩ := h
  obtain ⟨a, j, g, b, rfl⟩ := x.of_red h3 false
  rw [Tr.mk_idx] at hr ⊢
  rw [h1.pa] at hr ⊢
  cases cx with
  | nil => rw [show cpi [] = -1 from rfl, t.red_no _ t.ar.look_neg] at hr; cases hr
  | cons fp cx =>
    rw [show cpi (fp :: cx) = (fp.i : Int) from rfl] at hr ⊢
    have hp : Rep t (plug cx (Tr.mk fp.s fp.c (Tr.mk false true a j g b) fp.i fp.g fp.o)) := h1
    have hred := hp.red
    rw [Tr.mk_idx, Tr.mk_red, hr] at hred
    have hc := hred.symm
    obtain ⟨k1, kk, _⟩ := h4
    obtain ⟨k2, k3, k4, k5⟩ := kk hc
    cases cx with
    | nil => exact absurd rfl k4
    | cons ft up =>
      rw [hp.pa, hp.sd, show cpi (ft :: up) = (ft.i : Int) from rfl, show csd (ft :: up) = ft.s from rfl]
      have ht : Rep t (plug up (Tr.mk ft.s ft.c (Tr.mk fp.s fp.c (Tr.mk false true a j g b) fp.i fp.g fp.o) ft.i ft.g ft.o)) := h1
      rw [ht.ch2]
      have ho : Rep t (plug (⟨!ft.s, ft.c, ft.i, ft.g, Tr.mk fp.s fp.c (Tr.mk false true a j g b) fp.i fp.g fp.o⟩ :: up) ft.o) := by
        show Rep t (plug up (Tr.mk (!ft.s) ft.c ft.o ft.i ft.g _))
        rw [Tr.mk_swap]; exact ht
      rw [ho.red]
      have hfc : ft.c = false := k3
      obtain ⟨j1, _, j3⟩ := k5
      have j3 := j3 hfc
      refine ⟨hp.is, ht.is, fun hq => ?_, fun hq => ?_⟩
      · obtain ⟨q1, y, q2, q3, q4⟩ := turnRed_rep false h1
        obtain ⟨q4, q5⟩ := q4 n hc h5 k1 k2 j1 hq
        have hf : Fin (t.turnRed j) L := ⟨_, q2, rb_plug up y (n + 1) j3 q4 (fun e => by rw [q5] at e; cases e), q3.trans h6⟩
        refine ⟨q1, ?_, hf.root⟩
        obtain ⟨z, z1, ⟨⟨m, z2⟩, z3⟩, z4⟩ := hf
        have hne : z ≠ .nil := by
          rintro rfl
          rw [← h6, ino_plug] at z4
          have := congrArg List.length z4
          simp [Tr.mk, Tr.ino] at this
        cases z with
        | nil => exact absurd rfl hne
        | node c' l' i' g' r' =>
          have h8 : Rep (t.turnRed j) (plug [] (Tr.mk false c' l' i' g' r')) := z1
          have := z1.root
          rw [this]; exact h8.is
      · obtain ⟨a', q, gq, b', e⟩ := ft.o.of_red hq ft.s
        have e1 : ft.o.idx = (q : Int) := by rw [e, Tr.mk_idx]
        rw [e1]
        have g1 : Rep (t.paint fp.i false) (plug (ft :: up) (Tr.mk fp.s false (Tr.mk false true a j g b) fp.i fp.g fp.o)) := Rep.setRed (cx := ft :: up) hp false
        have g2 : Rep (t.paint fp.i false) (plug (⟨!ft.s, ft.c, ft.i, ft.g, Tr.mk fp.s false (Tr.mk false true a j g b) fp.i fp.g fp.o⟩ :: up) (Tr.mk ft.s true a' q gq b')) := by
          show Rep _ (plug up (Tr.mk (!ft.s) ft.c _ ft.i ft.g _))
          rw [Tr.mk_swap, ← e]; exact g1
        have g3 := g2.setRed false
        have g4 : Rep ((t.paint fp.i false).paint q false) (plug up (Tr.mk ft.s ft.c (Tr.mk fp.s false (Tr.mk false true a j g b) fp.i fp.g fp.o) ft.i ft.g (Tr.mk ft.s false a' q gq b'))) := by
          rw [← Tr.mk_swap]; exact g3
        have g5 := g4.setRed true
        have hqq : Rep t (plug (⟨!ft.s, ft.c, ft.i, ft.g, Tr.mk fp.s fp.c (Tr.mk false true a j g b) fp.i fp.g fp.o⟩ :: up) (Tr.mk ft.s true a' q gq b')) := by rw [← e]; exact ho
        refine ⟨hqq.is, up.length, by simp at h7; omega, up, _, n + 1, g5, (Tr.mk_idx ..).symm, Tr.mk_red .., j3, ?_, ?_, rfl⟩
        · rw [e] at j1
          obtain ⟨z1, z2, z3, z4⟩ := (rb_red ..).1 j1
          exact (rb_red ..).2 ⟨(rb_black ..).2 ⟨n, rfl, h5, k1⟩, (rb_black ..).2 ⟨n, rfl, z1, z2⟩, Tr.mk_red .., Tr.mk_red ..⟩
        · rw [← h6]
          show _ = (plug up (Tr.mk ft.s ft.c (Tr.mk fp.s fp.c (Tr.mk false true a j g b) fp.i fp.g fp.o) ft.i ft.g ft.o)).ino
          refine ino_plug_eq up _ _ ?_
          rw [ino_col ft.s true ft.c]
          refine ino_mk _ _ _ _ _ _ _ _ (ino_col ..) ?_
          rw [e]; exact ino_col ..
end Go.Proofs.Ytjgcdmeojjnjlaa.Bo
/- Mending a way down that lacks a black node. No Go in sight. -/
namespace Go.Proofs.Ytjgcdmeojjnjlaa.Bo
namespace Rt
def blackAside (t : Rt) (p : Int) (s : Bool) : Rt := if t.red (t.ch p (!s)) = false then t else ((t.paint (t.ch p (!s)) false).paint p true).rot p s
def canBlack (t : Rt) (p : Int) (s : Bool) : Prop := t.ar.is p = true ∧ (t.red (t.ch p (!s)) = true → t.ar.is (t.ch p (!s)) = true ∧ ((t.paint (t.ch p (!s)) false).paint p true).canRot p s)
def short1 (t : Rt) (p a : Int) : Rt := (t.paint a (t.red p)).paint p false
def short2 (t : Rt) (p a : Int) (s : Bool) : Rt := ((t.short1 p a).paint ((t.short1 p a).ch a (!s)) false).rot p s
def canShort2 (t : Rt) (p a : Int) (s : Bool) : Prop := t.ar.is a = true ∧ t.ar.is p = true ∧ t.ar.is ((t.short1 p a).ch a (!s)) = true ∧ ((t.short1 p a).paint ((t.short1 p a).ch a (!s)) false).canRot p s
def turnShort (t : Rt) (p : Int) (s : Bool) : Rt :=
  if t.red (t.ch (t.ch p (!s)) (!s)) = false then (t.rot (t.ch p (!s)) (!s)).short2 p (t.ch (t.ch p (!s)) s) s else t.short2 p (t.ch p (!s)) s
def canTurnShort (t : Rt) (p : Int) (s : Bool) : Prop := t.ar.is p = true ∧ t.ar.is (t.ch p (!s)) = true ∧
  (t.red (t.ch (t.ch p (!s)) (!s)) = false → t.canRot (t.ch p (!s)) (!s) ∧ (t.rot (t.ch p (!s)) (!s)).canShort2 p (t.ch (t.ch p (!s)) s) s) ∧
  (t.red (t.ch (t.ch p (!s)) (!s)) = true → t.canShort2 p (t.ch p (!s)) s)
theorem paint_is (t : Rt) (i : Int) (b : Bool) (j : Int) : (t.paint i b).ar.is j = t.ar.is j := t.tw_is ..
end Rt
/-- What stands beside a way down: a tree of its own, seen from there. -/
def Fr.flip (y : Fr) (x : Tr) : Fr := ⟨!y.s, y.c, y.i, y.g, x⟩
theorem plug_flip (y : Fr) (cx : List Fr) (x : Tr) : plug (y.flip x :: cx) y.o = plug (y :: cx) x := by
  show plug cx (Tr.mk (!y.s) y.c y.o y.i y.g x) = plug cx (Tr.mk y.s y.c x y.i y.g y.o)
  rw [Tr.mk_swap]
section
variable {t : Rt} {cx : List Fr} {s c : Bool} {x : Tr} {i : Nat} {g : G5}
/-- The red one beside is made black. -/
theorem black_rep {y : Fr} {n : Nat} (h : Rep t (plug (y :: cx) x)) (hc : RBC (y :: cx) (n + 1)) : t.canBlack y.i y.s ∧
    ∃ y1 cx1, Rep (t.blackAside y.i y.s) (plug (y1 :: cx1) x) ∧ y1.i = y.i ∧ y1.s = y.s ∧ RBC (y1 :: cx1) (n + 1) ∧ y1.o.isRed = false ∧ (plug (y1 :: cx1) x).ino = (plug (y :: cx) x).ino ∧ (y1.c = true ∨ cx1 = cx) := by
  obtain ⟨ys, yc, yi, yg, yo⟩ := y
  have hp : Rep t (plug cx (Tr.mk ys yc x yi yg yo)) := h
  have ho : Rep t (plug (Fr.flip ⟨ys, yc, yi, yg, yo⟩ x :: cx) yo) := by rw [show yo = Fr.o ⟨ys, yc, yi, yg, yo⟩ from rfl, plug_flip]; exact h
  unfold Rt.canBlack Rt.blackAside
  show _ ∧ ∃ y1 cx1, Rep (if t.red (t.ch (yi : Int) (!ys)) = false then _ else _) _ ∧ _
  rw [hp.ch2, ho.red]
  cases hr : yo.isRed with
  | false =>
    refine ⟨⟨hp.is, fun e => by cases e⟩, ⟨ys, yc, yi, yg, yo⟩, cx, ?_, rfl, rfl, hc, hr, rfl, .inr rfl⟩
    rw [if_pos rfl]; exact h
  | true =>
    rw [if_neg (by simp)]
    obtain ⟨A, a, ga, B, e⟩ := yo.of_red hr ys
    subst e
    rw [Tr.mk_idx]
    obtain ⟨h1, h2, h3⟩ := hc
    have hyc : yc = false := by
      cases e : yc with
      | false => rfl
      | true => have := (h2 e).1; rw [Tr.mk_red] at this; cases this
    subst hyc
    have h3 := h3 rfl
    obtain ⟨k1, k2, k3, k4⟩ := (rb_red ..).1 h1
    have g1 : Rep (t.paint a false) (plug (Fr.flip ⟨ys, false, yi, yg, Tr.mk ys true A a ga B⟩ x :: cx) (Tr.mk ys false A a ga B)) := Rep.setRed (cx := Fr.flip ⟨ys, false, yi, yg, Tr.mk ys true A a ga B⟩ x :: cx) ho false
    have g2 : Rep (t.paint a false) (plug cx (Tr.mk ys false x yi yg (Tr.mk ys false A a ga B))) := by
      rw [← Tr.mk_swap]; exact g1
    have g3 := g2.setRed true
    have g4 := g3.rot
    refine ⟨⟨hp.is, fun _ => ⟨?_, g3.is, ?_⟩⟩, ⟨ys, true, yi, yg, A⟩, ⟨ys, false, a, ga, B⟩ :: cx, g4, rfl, rfl, ⟨k1, fun _ => ⟨k3, rfl, by simp, ?_⟩, fun e => by cases e⟩, k3, ?_, .inl rfl⟩
    · exact Rep.is (cx := Fr.flip ⟨ys, false, yi, yg, Tr.mk ys true A a ga B⟩ x :: cx) ho
    · rw [g3.ch2, Tr.mk_idx, Rt.paint_is, Rt.paint_is]
      exact Rep.is (cx := Fr.flip ⟨ys, false, yi, yg, Tr.mk ys true A a ga B⟩ x :: cx) ho
    · exact ⟨k2, fun e => absurd e (by simp), fun _ => h3⟩
    · show (plug cx (Tr.mk ys false (Tr.mk ys true x yi yg A) a ga B)).ino = (plug cx (Tr.mk ys false x yi yg (Tr.mk ys true A a ga B))).ino
      refine ino_plug_eq cx _ _ ?_
      rw [ino_rot, ino_col ys true false]
      exact ino_mk _ _ _ _ _ _ _ _ rfl (ino_col ..)
/-- The last step of turnShort. -/
theorem short2_rep {pc d : Bool} {N F : Tr} {a p : Nat} {ga gp : G5} {n : Nat} (h : Rep t (plug cx (Tr.mk s pc x p gp (Tr.mk s d N a ga F)))) (hF : RB (F.paint false) (n + 1)) (hN : RB N n) (hx : RB x n)
    (h1 : pc = true → crd cx = false ∧ cx ≠ [] ∧ RBC cx (n + 1)) (h2 : pc = false → RBC cx (n + 2)) :
    t.canShort2 p a s ∧ ∃ z, Rep (t.short2 p a s) (plug cx z) ∧ Rbt (plug cx z) ∧ (plug cx z).ino = (plug cx (Tr.mk s pc x p gp (Tr.mk s d N a ga F))).ino := by
  have hFn : F.idx ≠ -1 := by
    intro e
    have := F.idx_nil e
    subst this
    have : n + 1 = 0 := hF
    omega
  obtain ⟨fc, FA, f, gf, FB, rfl⟩ := F.of_idx hFn s
  rw [Tr.mk_paint] at hF
  obtain ⟨m, hm, j1, j2⟩ := (rb_black ..).1 hF
  have hm : m = n := by omega
  subst hm
  have hpr := h.red
  rw [Tr.mk_idx, Tr.mk_red] at hpr
  have ha : Rep t (plug (⟨!s, pc, p, gp, x⟩ :: cx) (Tr.mk s d N a ga (Tr.mk s fc FA f gf FB))) := by
    show Rep t (plug cx (Tr.mk (!s) pc _ p gp x)); rw [Tr.mk_swap]; exact h
  have g1 := ha.setRed pc
  have g1' : Rep (t.paint a pc) (plug cx (Tr.mk s pc x p gp (Tr.mk s pc N a ga (Tr.mk s fc FA f gf FB)))) := by rw [← Tr.mk_swap]; exact g1
  have g2 : Rep (t.short1 p a) (plug cx (Tr.mk s false x p gp (Tr.mk s pc N a ga (Tr.mk s fc FA f gf FB)))) := by
    unfold Rt.short1; rw [hpr]; exact g1'.setRed false
  have g2a : Rep (t.short1 p a) (plug (⟨!s, false, p, gp, x⟩ :: cx) (Tr.mk s pc N a ga (Tr.mk s fc FA f gf FB))) := by
    show Rep _ (plug cx (Tr.mk (!s) false _ p gp x)); rw [Tr.mk_swap]; exact g2
  have e2 : (t.short1 p a).ch a (!s) = (f : Int) := by rw [g2a.ch2, Tr.mk_idx]
  have g2f : Rep (t.short1 p a) (plug (⟨!s, pc, a, ga, N⟩ :: ⟨!s, false, p, gp, x⟩ :: cx) (Tr.mk s fc FA f gf FB)) := by
    show Rep _ (plug (_ :: cx) (Tr.mk (!s) pc _ a ga N)); rw [Tr.mk_swap]; exact g2a
  have g3 := g2f.setRed false
  have g3a : Rep ((t.short1 p a).paint f false) (plug (⟨!s, false, p, gp, x⟩ :: cx) (Tr.mk s pc N a ga (Tr.mk s false FA f gf FB))) := by
    rw [← Tr.mk_swap]; exact g3
  have g4 : Rep ((t.short1 p a).paint f false) (plug cx (Tr.mk s false x p gp (Tr.mk s pc N a ga (Tr.mk s false FA f gf FB)))) := by
    rw [← Tr.mk_swap]; exact g3a
  have g5 := g4.rot
  unfold Rt.canShort2 Rt.short2
  rw [e2]
  have js : ∀ k : Int, (t.short1 p a).ar.is k = t.ar.is k := fun k => by unfold Rt.short1; rw [Rt.paint_is, Rt.paint_is]
  refine ⟨⟨ha.is, h.is, ?_, g4.is, ?_⟩, _, g5, ?_, ?_⟩
  · rw [← js]; exact g2f.is
  · rw [g4.ch2, Tr.mk_idx, Rt.paint_is, js]; exact ha.is
  · have b1 : RB (Tr.mk s false x p gp N) (m + 1) := (rb_black ..).2 ⟨m, rfl, hx, hN⟩
    have b2 : RB (Tr.mk s false FA f gf FB) (m + 1) := (rb_black ..).2 ⟨m, rfl, j1, j2⟩
    cases pc with
    | true =>
      obtain ⟨q1, q2, q3⟩ := h1 rfl
      exact rb_plug _ _ (m + 1) q3 ((rb_red ..).2 ⟨b1, b2, Tr.mk_red .., Tr.mk_red ..⟩) (fun _ => ⟨q1, q2⟩)
    | false => exact rb_plug _ _ (m + 2) (h2 rfl) ((rb_black ..).2 ⟨m + 1, rfl, b1, b2⟩) (fun e => by rw [Tr.mk_red] at e; cases e)
  · refine ino_plug_eq cx _ _ ?_
    rw [ino_rot, ino_col s false pc]
    refine ino_mk _ _ _ _ _ _ _ _ rfl ?_
    rw [ino_col s pc d]
    exact ino_mk _ _ _ _ _ _ _ _ rfl (ino_col ..)
/-- A red node below the black one beside mends it. -/
theorem turnShort_rep {y : Fr} {n : Nat} {N F : Tr} {a : Nat} {ga : G5} (h : Rep t (plug (y :: cx) x)) (ho : y.o = Tr.mk y.s false N a ga F) (hc : RBC (y :: cx) (n + 1)) (hx : RB x n) (hr : N.isRed = true ∨ F.isRed = true) :
    t.canTurnShort y.i y.s ∧ Fin (t.turnShort y.i y.s) (plug (y :: cx) x).ino := by
  obtain ⟨s, pc, p, gp, yo⟩ := y
  simp only at ho
  subst ho
  obtain ⟨h1, h2, h3⟩ := hc
  obtain ⟨m, hm, j1, j2⟩ := (rb_black ..).1 h1
  have hm : m = n := by omega
  subst hm
  have hp : Rep t (plug cx (Tr.mk s pc x p gp (Tr.mk s false N a ga F))) := h
  have ha : Rep t (plug (⟨!s, pc, p, gp, x⟩ :: cx) (Tr.mk s false N a ga F)) := by
    show Rep t (plug cx (Tr.mk (!s) pc _ p gp x)); rw [Tr.mk_swap]; exact h
  have hN : Rep t (plug (⟨s, false, a, ga, F⟩ :: ⟨!s, pc, p, gp, x⟩ :: cx) N) := ha
  have hF : Rep t (plug (⟨!s, false, a, ga, N⟩ :: ⟨!s, pc, p, gp, x⟩ :: cx) F) := by
    show Rep t (plug (_ :: cx) (Tr.mk (!s) false _ a ga N)); rw [Tr.mk_swap]; exact ha
  have e1 : t.ch (p : Int) (!s) = (a : Int) := by rw [hp.ch2, Tr.mk_idx]
  have e2 : t.ch (a : Int) (!s) = F.idx := ha.ch2
  have e3 : t.ch (a : Int) s = N.idx := ha.ch
  have e4 : t.red F.idx = F.isRed := hF.red
  have q1 : pc = true → crd cx = false ∧ cx ≠ [] ∧ RBC cx (m + 1) := fun e => ⟨(h2 e).2.1, (h2 e).2.2.1, (h2 e).2.2.2⟩
  have q2 : pc = false → RBC cx (m + 2) := h3
  unfold Rt.canTurnShort Rt.turnShort
  show _ ∧ Fin (if t.red (t.ch (t.ch (p : Int) (!s)) (!s)) = false then (t.rot (t.ch (p : Int) (!s)) (!s)).short2 p (t.ch (t.ch (p : Int) (!s)) s) s else t.short2 p (t.ch (p : Int) (!s)) s) _
  show (t.ar.is (p : Int) = true ∧ t.ar.is (t.ch (p : Int) (!s)) = true ∧ (t.red (t.ch (t.ch (p : Int) (!s)) (!s)) = false → _) ∧ (t.red (t.ch (t.ch (p : Int) (!s)) (!s)) = true → t.canShort2 p (t.ch (p : Int) (!s)) s)) ∧ _
  rw [e1, e2, e3, e4]
  cases hFr : F.isRed with
  | true =>
    rw [if_neg (by simp)]
    obtain ⟨z1, z, z2, z3, z4⟩ := short2_rep hp (rb_paint F _ j2 hFr) j1 hx q1 q2
    exact ⟨⟨hp.is, ha.is, fun e => (by cases e), fun _ => z1⟩, _, z2, z3, z4⟩
  | false =>
    rw [if_pos rfl]
    have hNr : N.isRed = true := by
      rcases hr with h | h
      · exact h
      · rw [hFr] at h; cases h
    obtain ⟨nn, q, gq, nf, rfl⟩ := N.of_red hNr s
    rw [Tr.mk_idx]
    obtain ⟨k1, k2, k3, k4⟩ := (rb_red ..).1 j1
    have g0 : Rep t (plug (⟨!s, pc, p, gp, x⟩ :: cx) (Tr.mk (!s) false F a ga (Tr.mk (!s) true nf q gq nn))) := by
      rw [Tr.mk_swap, Tr.mk_swap]; exact ha
    have g1 := g0.rot
    have g2 : Rep (t.rot a (!s)) (plug cx (Tr.mk s pc x p gp (Tr.mk s true nn q gq (Tr.mk s false nf a ga F)))) := by
      have g1' : Rep (t.rot a (!s)) (plug cx (Tr.mk (!s) pc (Tr.mk (!s) true (Tr.mk (!s) false F a ga nf) q gq nn) p gp x)) := g1
      rw [Tr.mk_swap, Tr.mk_swap, Tr.mk_swap] at g1'; exact g1'
    obtain ⟨z1, z, z2, z3, z4⟩ := short2_rep g2 (by rw [Tr.mk_paint]; exact (rb_black ..).2 ⟨m, rfl, k2, j2⟩) k1 hx q1 q2
    have hq : Rep t (plug (⟨s, false, a, ga, F⟩ :: ⟨!s, pc, p, gp, x⟩ :: cx) (Tr.mk s true nn q gq nf)) := ha
    refine ⟨⟨hp.is, ha.is, fun _ => ⟨⟨ha.is, ?_⟩, z1⟩, fun e => (by cases e)⟩, _, z2, z3, z4.trans ?_⟩
    · rw [Bool.not_not, e3, Tr.mk_idx]; exact hq.is
    · show _ = (plug cx (Tr.mk s pc x p gp (Tr.mk s false (Tr.mk s true nn q gq nf) a ga F))).ino
      refine ino_plug_eq cx _ _ (ino_mk _ _ _ _ _ _ _ _ rfl ?_)
      have := ino_rot (!s) false true F nf nn a q ga gq
      rw [Tr.mk_swap, Tr.mk_swap, Tr.mk_swap, Tr.mk_swap] at this
      exact this
/-- The ways down through the side s of p lack a black one. -/
def ShInv (t : Rt) (p : Int) (s : Bool) (L : List G5) (k : Nat) : Prop := ∃ cx x n, Rep t (plug cx x) ∧ p = cpi cx ∧ s = csd cx ∧ RBC cx (n + 1) ∧ RB x n ∧ x.isRed = false ∧ (plug cx x).ino = L ∧ cx.length = k
theorem ShInv.stop {p : Int} {L : List G5} {k : Nat} (h : ShInv t p s L k) (hp : p = -1) : Fin t L := by
  obtain ⟨cx, x, n, h1, rfl, rfl, h4, h5, h6, h7, h8⟩ := h
  cases cx with
  | nil => exact ⟨_, h1, ⟨⟨n, h5⟩, h6⟩, h7⟩
  | cons y cx =>
    have : (y.i : Int) = -1 := hp
    omega
/-- A round. -/
theorem ShInv.step {p : Int} {L : List G5} {k : Nat} (h : ShInv t p s L k) (hp : p ≠ -1) :
    t.canBlack p s ∧ (t.blackAside p s).ar.is p = true ∧ (t.blackAside p s).ar.is ((t.blackAside p s).ch p (!s)) = true ∧
    (((t.blackAside p s).red ((t.blackAside p s).ch ((t.blackAside p s).ch p (!s)) false) = true ∨ (t.blackAside p s).red ((t.blackAside p s).ch ((t.blackAside p s).ch p (!s)) true) = true) →
      (t.blackAside p s).canTurnShort p s ∧ Fin ((t.blackAside p s).turnShort p s) L) ∧
    ((t.blackAside p s).red ((t.blackAside p s).ch ((t.blackAside p s).ch p (!s)) false) = false → (t.blackAside p s).red ((t.blackAside p s).ch ((t.blackAside p s).ch p (!s)) true) = false →
      (((t.blackAside p s).paint ((t.blackAside p s).ch p (!s)) true).red p = true → Fin (((t.blackAside p s).paint ((t.blackAside p s).ch p (!s)) true).paint p false) L) ∧
      (((t.blackAside p s).paint ((t.blackAside p s).ch p (!s)) true).red p = false → ∃ m, m < k ∧ ShInv ((t.blackAside p s).paint ((t.blackAside p s).ch p (!s)) true) (((t.blackAside p s).paint ((t.blackAside p s).ch p (!s)) true).pa p) (((t.blackAside p s).paint ((t.blackAside p s).ch p (!s)) true).sd p) L m)) := by
  obtain ⟨cx, x, n, h1, rfl, rfl, h4, h5, h6, h7, h8⟩ := h
  cases cx with
  | nil => exact absurd rfl hp
  | cons y cx =>
    obtain ⟨q1, y1, cx1, q2, q3, q4, q5, q6, q7, q8⟩ := black_rep h1 h4
    show t.canBlack (y.i : Int) y.s ∧ _
    rw [show cpi (y :: cx) = (y.i : Int) from rfl, show csd (y :: cx) = y.s from rfl]
    refine ⟨q1, ?_⟩
    generalize t.blackAside (y.i : Int) y.s = t1 at q2 ⊢
    rw [← q3, ← q4]
    obtain ⟨s1, c1, i1, g1, o1⟩ := y1
    simp only at q2 q3 q4 q5 q6 q7 q8 ⊢
    have hon : o1.idx ≠ -1 := by
      intro e
      have := o1.idx_nil e
      subst this
      have : n + 1 = 0 := q5.1
      omega
    obtain ⟨oc, N, a, ga, F, rfl⟩ := o1.of_idx hon s1
    have hoc : oc = false := by rw [Tr.mk_red] at q6; exact q6
    subst hoc
    have hp : Rep t1 (plug cx1 (Tr.mk s1 c1 x i1 g1 (Tr.mk s1 false N a ga F))) := q2
    have ha : Rep t1 (plug (⟨!s1, c1, i1, g1, x⟩ :: cx1) (Tr.mk s1 false N a ga F)) := by
      show Rep t1 (plug cx1 (Tr.mk (!s1) c1 _ i1 g1 x)); rw [Tr.mk_swap]; exact q2
    have hN : Rep t1 (plug (⟨s1, false, a, ga, F⟩ :: ⟨!s1, c1, i1, g1, x⟩ :: cx1) N) := ha
    have hF : Rep t1 (plug (⟨!s1, false, a, ga, N⟩ :: ⟨!s1, c1, i1, g1, x⟩ :: cx1) F) := by
      show Rep t1 (plug (_ :: cx1) (Tr.mk (!s1) false _ a ga N)); rw [Tr.mk_swap]; exact ha
    rw [hp.ch2, Tr.mk_idx]
    have both : (t1.red (t1.ch a false) = N.isRed ∧ t1.red (t1.ch a true) = F.isRed) ∨ (t1.red (t1.ch a false) = F.isRed ∧ t1.red (t1.ch a true) = N.isRed) := by
      have e1 := ha.ch
      have e2 := ha.ch2
      cases s1 with
      | false =>
        rw [show (!false) = true from rfl] at e2
        exact .inl ⟨by rw [e1]; exact hN.red, by rw [e2]; exact hF.red⟩
      | true =>
        rw [show (!true) = false from rfl] at e2
        exact .inr ⟨by rw [e2]; exact hF.red, by rw [e1]; exact hN.red⟩
    refine ⟨hp.is, ha.is, fun hr => ?_, fun hr1 hr2 => ?_⟩
    · have hr' : N.isRed = true ∨ F.isRed = true := by
        rcases both with ⟨e1, e2⟩ | ⟨e1, e2⟩
        · rw [e1, e2] at hr; exact hr
        · rw [e1, e2] at hr; exact hr.symm
      have := turnShort_rep q2 rfl q5 h5 hr'
      rw [q7, h7] at this
      exact this
    · have hr' : N.isRed = false ∧ F.isRed = false := by
        rcases both with ⟨e1, e2⟩ | ⟨e1, e2⟩
        · exact ⟨e1 ▸ hr1, e2 ▸ hr2⟩
        · exact ⟨e2 ▸ hr2, e1 ▸ hr1⟩
      have g1' := ha.setRed true
      have g2 : Rep (t1.paint a true) (plug cx1 (Tr.mk s1 c1 x i1 g1 (Tr.mk s1 true N a ga F))) := by rw [← Tr.mk_swap]; exact g1'
      obtain ⟨z1, z2, z3⟩ := q5
      obtain ⟨m, hm, j1, j2⟩ := (rb_black ..).1 z1
      have hm : m = n := by omega
      subst hm
      have bo : RB (Tr.mk s1 true N a ga F) m := (rb_red ..).2 ⟨j1, j2, hr'.1, hr'.2⟩
      have hino : (plug cx1 (Tr.mk s1 false x i1 g1 (Tr.mk s1 true N a ga F))).ino = L := by
        rw [← h7, ← q7]
        show _ = (plug cx1 (Tr.mk s1 c1 x i1 g1 (Tr.mk s1 false N a ga F))).ino
        refine ino_plug_eq cx1 _ _ ?_
        rw [ino_col s1 false c1]
        exact ino_mk _ _ _ _ _ _ _ _ rfl (ino_col ..)
      have bn : RB (Tr.mk s1 false x i1 g1 (Tr.mk s1 true N a ga F)) (m + 1) := (rb_black ..).2 ⟨m, rfl, h5, bo⟩
      have hpr := g2.red
      rw [Tr.mk_idx, Tr.mk_red] at hpr
      rw [hpr, g2.pa, g2.sd]
      refine ⟨fun e => ?_, fun e => ?_⟩
      · subst e
        exact ⟨_, g2.setRed false, rb_plug _ _ (m + 1) (z2 rfl).2.2.2 bn (fun e => by rw [Tr.mk_red] at e; cases e), hino⟩
      · subst e
        have : cx1 = cx := q8.resolve_left (by simp)
        subst this
        exact ⟨cx1.length, by simp at h8; omega, cx1, _, m + 1, g2, rfl, rfl, z3 rfl, bn, Tr.mk_red .., hino, rfl⟩
end
end Go.Proofs.Ytjgcdmeojjnjlaa.Bo
/- A node is hung in, a node is taken out. No Go in sight. -/
namespace Go.Proofs.Ytjgcdmeojjnjlaa.Bo
/-- A thing is put in the place i. -/
structure Puts (a : Ag Nd) (v : Nd) (i : Nat) (b : Ag Nd) : Prop where
  ok : b.ok
  was : a.is (i : Int) = false
  look : b.look = upd a.look (i : Int) v
  is : ∀ j : Int, b.is j = true ↔ j = (i : Int) ∨ a.is j = true
  room : b.room = a.room
  len : b.len = a.len + 1
/-- A tree in an arena in which there may be more. -/
structure RepL (t : Rt) (x : Tr) : Prop where
  root : t.root = x.idx
  rep : RepT t.look x (-1)
theorem Rep.l {t : Rt} {x : Tr} (h : Rep t x) : RepL t x := ⟨h.root, h.rep⟩
/-- What was put is not in the tree yet. -/
theorem Rep.puts {t : Rt} {x : Tr} {v : Nd} {i : Nat} {b : Ag Nd} (h : Rep t x) (hp : Puts t.ar v i b) : RepL ⟨b, t.root⟩ x ∧ i ∉ x.ids := by
  have hi : i ∉ x.ids := by
    intro k
    obtain ⟨n, e⟩ := repT_in x _ h.rep i k
    have := (t.ar.look_some _ _ e).1
    rw [hp.was] at this; cases this
  refine ⟨⟨h.root, ?_⟩, hi⟩
  show RepT b.look x (-1)
  rw [hp.look]
  exact repT_congr x _ (fun k hk => upd_ne _ _ _ (natne fun e => hi (e ▸ hk))) h.rep
/-- A red leaf is hung in. -/
theorem Rep.add {t : Rt} {cx : List Fr} {g : G5} {i : Nat} {b : Ag Nd} (h : Rep t (plug cx .nil)) (hp : Puts t.ar ⟨g, 0, -1, -1, false⟩ i b) :
    Rep (((⟨b, t.root⟩ : Rt).hang i (cpi cx) (csd cx)).paint i true) (plug cx (.node true .nil i g .nil)) := by
  obtain ⟨_, hi⟩ := h.puts hp
  obtain ⟨h1, _, h3, _, _⟩ := h.parts
  rw [plug_mem] at hi
  have xi : i ∉ cids cx := fun k => hi (.inl k)
  have hL : ((⟨b, t.root⟩ : Rt).hang i (cpi cx) (csd cx)).look = hangf (upd t.look (i : Int) ⟨g, 0, -1, -1, false⟩) i (cpi cx) (csd cx) := by
    rw [Rt.hang_look _ _ _ _ hp.ok, show (⟨b, t.root⟩ : Rt).look = b.look from rfl, hp.look]
  have c0 := repC_congr (f' := upd t.look (i : Int) ⟨g, 0, -1, -1, false⟩) cx _ (fun k hk => upd_ne _ _ _ (natne fun e => xi (e ▸ hk))) h1
  have c1 := hangf_way cx _ (i : Int) c0 h3 (fun k hk => natne fun e => xi (e ▸ hk)) (csd cx) (csd_of cx)
  have i1 : hangf (upd t.look (i : Int) ⟨g, 0, -1, -1, false⟩) i (cpi cx) (csd cx) i = some ⟨g, cpi cx, -1, -1, false⟩ :=
    (hangf_j _ _ _ _ (cpi_ne cx i xi) (upd_self _ _)).trans rfl
  have hr : Rep ((⟨b, t.root⟩ : Rt).hang i (cpi cx) (csd cx)) (plug cx (Tr.mk false false .nil i g .nil)) := by
    refine ⟨Rt.hang_ok _ _ _ _ hp.ok, ?_, ?_, ?_, ?_⟩
    · rw [Rt.hang_root]
      show (if b.is (cpi cx) = true then t.root else (i : Int)) = _
      cases cx with
      | nil =>
        rw [if_neg]
        · rfl
        · intro k
          rcases (hp.is _).1 k with e | e
          · exact absurd e (by show (-1 : Int) ≠ _; omega)
          · have := (t.ar.is_iff _).1 e
            have : (0 : Int) ≤ -1 := this.2.1
            omega
      | cons y cx =>
        rw [if_pos ((hp.is _).2 (.inr (cpi_is h1)))]
        exact h.root.trans (plug_idx _ _ _ (by simp))
    · rw [hL, rep_plug]
      exact ⟨c1, i1, trivial, trivial⟩
    · rw [plug_nodup]
      refine ⟨h3, by simp [Tr.mk, Tr.ids], fun k hk => ?_⟩
      simp [Tr.mk, Tr.ids] at hk
      subst hk; exact xi
    · intro k hk
      rw [Rt.hang_is] at hk
      rw [plug_mem]
      rcases (hp.is _).1 hk with e | e
      · have : k = i := by omega
        subst this; exact .inr (by simp [Tr.mk, Tr.ids])
      · have := h.all k e
        rw [plug_mem] at this
        rcases this with e | e
        · exact .inl e
        · simp [Tr.ids] at e
  exact hr.setRed true
theorem Ag.look_drop (a : Ag Nd) (i : Nat) (j : Int) : (a.drop (i : Int)).look j = if j = (i : Int) then none else a.look j := by
  have his : (a.drop (i : Int)).is j = true ↔ j ≠ (i : Int) ∧ a.is j = true := by
    rw [Ag.is_iff, Ag.is_iff]
    show j ∉ a.free ++ [(i : Int)] ∧ 0 ≤ j ∧ j < a.ever ↔ _
    rw [List.mem_append, List.mem_singleton, not_or]
    exact ⟨fun ⟨⟨h1, h2⟩, h3⟩ => ⟨h2, h1, h3⟩, fun ⟨h2, h1, h3⟩ => ⟨⟨h1, h2⟩, h3⟩⟩
  show (if (a.drop (i : Int)).is j = true then some (a.l.getD j.toNat ndZ) else none) = if j = (i : Int) then none else (if a.is j = true then some (a.l.getD j.toNat ndZ) else none)
  by_cases e : j = (i : Int)
  · rw [if_pos e, if_neg (fun h => (his.1 h).1 e)]
  · rw [if_neg e]
    by_cases k : a.is j = true
    · rw [if_pos k, if_pos (his.2 ⟨e, k⟩)]
    · rw [if_neg k, if_neg (fun h => k (his.1 h).2)]
/-- A node with one child at most is taken out. -/
theorem Rep.out {t : Rt} {cx : List Fr} {s c : Bool} {y : Tr} {i : Nat} {g : G5} (h : Rep t (plug cx (Tr.mk s c y i g .nil))) :
    Rep ⟨(t.hang y.idx (cpi cx) (csd cx)).ar.drop (i : Int), (t.hang y.idx (cpi cx) (csd cx)).root⟩ (plug cx y) := by
  obtain ⟨h1, h2, h3, h4, h5⟩ := h.parts
  obtain ⟨fi, rY, _⟩ := (repT_mk ..).1 h2
  obtain ⟨nY, _, iY, _, _⟩ := (Tr.mk_nodup ..).1 h4
  simp only [Tr.mk_mem] at h5
  rw [Tr.mk_idx] at h1
  have xi : i ∉ cids cx := h5 i (.inl rfl)
  have xY : ∀ k ∈ y.ids, k ∉ cids cx := fun k hk => h5 k (.inr (.inl hk))
  have hL : (t.hang y.idx (cpi cx) (csd cx)).look = hangf t.look y.idx (cpi cx) (csd cx) := Rt.hang_look _ _ _ _ h.ok
  have hd : ∀ k : Nat, k ≠ i → ((t.hang y.idx (cpi cx) (csd cx)).ar.drop (i : Int)).look (k : Int) = hangf t.look y.idx (cpi cx) (csd cx) k := by
    intro k hk
    rw [Ag.look_drop, if_neg (natne hk)]
    exact congrFun hL _
  have yC : ∀ k ∈ cids cx, (k : Int) ≠ y.idx := fun k hk => idx_ne y k (fun e => xY k e hk)
  have c1 := hangf_way cx _ y.idx h1 h3 yC (csd cx) (csd_of cx)
  have hsame : (if t.ar.is (cpi cx) = true then t.root else y.idx) = (plug cx y).idx := by
    rw [cpi_is h1]
    cases cx with
    | nil => rfl
    | cons z cx => exact h.root.trans (plug_idx _ _ _ (by simp))
  have ist : t.ar.is (i : Int) = true := (t.ar.look_some _ _ fi).1
  refine ⟨Ag.drop_ok _ _ (Rt.hang_ok _ _ _ _ h.ok) (by rw [Rt.hang_is]; exact ist), ?_, ?_, ?_, ?_⟩
  · show (t.hang y.idx (cpi cx) (csd cx)).root = _
    rw [Rt.hang_root]; exact hsame
  · show RepT ((t.hang y.idx (cpi cx) (csd cx)).ar.drop (i : Int)).look _ _
    rw [rep_plug]
    refine ⟨repC_congr _ _ (fun k hk => hd k (fun e => xi (e ▸ hk))) c1, repT_congr _ _ (fun k hk => hd k (fun e => iY (e ▸ hk))) ?_⟩
    exact hangf_tree y i (cpi cx) (csd cx) rY nY (fun k hk e => cpi_ne cx k (xY k hk) e.symm)
  · rw [plug_nodup]; exact ⟨h3, nY, xY⟩
  · intro k hk
    have hk' := (Ag.is_iff _ _).1 hk
    have hki : k ≠ i := by
      rintro rfl
      exact hk'.1 (List.mem_append.2 (.inr (List.mem_singleton.2 rfl)))
    have : (t.hang y.idx (cpi cx) (csd cx)).ar.is (k : Int) = true := (Ag.is_iff _ _).2 ⟨fun e => hk'.1 (List.mem_append.2 (.inl e)), hk'.2⟩
    rw [Rt.hang_is] at this
    have := h.all k this
    simp only [plug_mem, Tr.mk_mem, Tr.ids, List.not_mem_nil, or_false] at this ⊢
    rcases this with e | e | e
    · exact .inl e
    · exact absurd e hki
    · exact .inr e
end Go.Proofs.Ytjgcdmeojjnjlaa.Bo
/- Ways down a tree, and what its row says: put, delete, the nearest ones. No Go in sight. -/
namespace Go.Proofs.Ytjgcdmeojjnjlaa.Bo
abbrev Ris (l : List G5) : Prop := l.Pairwise (fun a b => a.key < b.key)
end Go.Proofs.Ytjgcdmeojjnjlaa.Bo
/- What the tree's calls say of its row. No Go in sight. -/
namespace Go.Proofs.Ytjgcdmeojjnjlaa.Bo
theorem Ag.count {α : Type} (a : Ag α) (h : a.ok) : (((List.range a.ever.toNat).filter (fun i : Nat => a.is (i : Int))).length : Int) = a.len := by
  have he := h.ever
  have h1 := filter_in a.ever.toNat a.free h.once (fun i hi => by have := h.free i hi; omega)
  have h2 := filter_not_len (List.range a.ever.toNat) (fun i : Nat => a.free.contains (i : Int))
  have h3 : (List.range a.ever.toNat).filter (fun i : Nat => a.is (i : Int)) = (List.range a.ever.toNat).filter (fun i : Nat => !a.free.contains (i : Int)) := by
    apply List.filter_congr
    intro i hi
    have h5 : i < a.ever.toNat := List.mem_range.1 hi
    have h6 : (decide (0 ≤ (i : Int)) && decide ((i : Int) < a.ever)) = true := by simp; omega
    unfold Ag.is
    rw [h6, Bool.and_true]
  rw [List.length_range] at h2
  rw [h3]
  unfold Ag.len
  omega
theorem Rep.len {t : Rt} {x : Tr} (h : Rep t x) : t.ar.len = (x.ino.length : Int) := by
  rw [← t.ar.count h.ok, ino_len]
  have hp : ((List.range t.ar.ever.toNat).filter (fun i : Nat => t.ar.is (i : Int))).Perm x.ids := by
    rw [List.perm_ext_iff_of_nodup (List.Pairwise.filter _ List.nodup_range) h.nd]
    intro k
    rw [List.mem_filter, List.mem_range]
    constructor
    · rintro ⟨_, h2⟩; exact h.all k h2
    · intro hk
      obtain ⟨n, e⟩ := repT_in x _ h.rep k hk
      have his := (t.ar.look_some _ _ e).1
      have := (t.ar.is_iff _).1 his
      exact ⟨by omega, his⟩
  rw [hp.length_eq]
theorem Fin.len {t : Rt} {L : List G5} (h : Fin t L) : t.ar.len = (L.length : Int) := by
  obtain ⟨x, h1, _, h3⟩ := h
  rw [h1.len, h3]
theorem ris_of (l : List G5) (h : RowOk l) : Ris l := (ris_iff l).1 h.ris
/-- What is told of a node that may not be there. -/
def tl (o : Option Fr) : G5 × Bool := opt (o.map (·.g))
def getG (l : List G5) (k : Int) : G5 × Bool := if h : findG l k < l.length then (l[findG l k], true) else (g0, false)
theorem find_at (A B : List G5) (g : G5) (k : Int) (h : RowOk (A ++ g :: B)) (hk : Ky k) (hg : g.key = k) : findG (A ++ g :: B) k = A.length := by
  have hr := ris_of _ h
  unfold findG
  rw [List.findIdx_append]
  have h1 : A.findIdx (fun g => g.is k) = A.length := by
    rw [List.findIdx_eq_length]
    intro a ha
    cases e : a.is k with
    | false => rfl
    | true =>
      have := G5.is_key a k hk e
      simp only [Ris, List.pairwise_append] at hr
      have := hr.2.2 a ha g (by simp)
      omega
  rw [h1, if_neg (by omega), List.findIdx_cons]
  have : g.is k = true := by
    have := g.may_is (h.may g (by simp))
    rw [hg] at this; exact this
  rw [this]; simp
theorem find_none (l : List G5) (k : Int) (hk : Ky k) (h : ∀ g ∈ l, g.key ≠ k) : ¬ findG l k < l.length := by
  intro hf
  exact h _ (List.getElem_mem hf) (findG_key l k hk hf)
theorem insG_cut (s : G5) (A B : List G5) (hA : ∀ g ∈ A, g.key < s.key) (hB : ∀ g ∈ B, s.key < g.key) : insG s (A ++ B) = A ++ s :: B := by
  induction A with
  | nil =>
    cases B with
    | nil => rfl
    | cons b B => show insG s (b :: B) = _; unfold insG; rw [if_pos (hB b (by simp))]; rfl
  | cons a A ih =>
    show insG s (a :: (A ++ B)) = _
    unfold insG
    rw [if_neg (by have := hA a (by simp); omega), ih (fun g hg => hA g (by simp [hg]))]
    rfl
theorem putG_bad (l : List G5) (room : Int) (s : G5) (h : s.may = false) : putG l room s = (l, 1) := by unfold putG; rw [if_pos h]
/-- A segment is taken away. -/
theorem del_at (A B : List G5) (g : G5) (k : Int) (h : RowOk (A ++ g :: B)) (hk : Ky k) (hg : g.key = k) : delG (A ++ g :: B) k = (A ++ B, true) := by
  unfold delG
  rw [find_at A B g k h hk hg, if_pos (by simp)]
  congr 1
  rw [List.take_left, List.drop_append]
  simp
theorem del_none (l : List G5) (k : Int) (hk : Ky k) (h : ∀ g ∈ l, g.key ≠ k) : delG l k = (l, false) := by
  unfold delG; rw [if_neg (find_none l k hk h)]
end Go.Proofs.Ytjgcdmeojjnjlaa.Bo
/- What is asked of a B-tree, what is put and taken away, by its row. No Go in sight. -/
namespace Go.Proofs.Ytjgcdmeojjnjlaa.Bb
open Go.Proofs.Ytjgcdmeojjnjlaa.Bo
/-- A way down in a tree of the row L, to the leaf t. -/
structure Leaf (d : Nat) (f : Int → Option Kn) (n : Nat) (root : Int) (L : List G5) (fits : G5 → Bool) (cx : List BF) (t : Bt) : Prop where
  z : Zo f n root 0 cx t []
  dx : DegX d 0 cx
  dt : if cx = [] then DegR d 0 t else Deg d 0 t
  row : L = aheadR fits (cx, t) ++ behindR fits (cx, t)
  fa : ∀ g ∈ aheadR fits (cx, t), fits g = true
  fb : ∀ g ∈ behindR fits (cx, t), fits g = false
  at_ : ∀ y ∈ cx, y.l.length = fitN fits y.s
  ahead : aheadS (stepsB fits (cx, t)) = (aheadR fits (cx, t)).getLast?
  behind : behindS (stepsB fits (cx, t)) = (behindR fits (cx, t)).head?
theorem Zo.leaf {d : Nat} {f : Int → Option Kn} {n : Nat} {root : Int} {H : Nat} {x : Bt} (z : Zo f n root H [] x []) (hr : DegR d H x) (fits : G5 → Bool) (hm : Mono fits (Bt.ino H x)) :
    Leaf d f n root (Bt.ino H x) fits (dnB fits H x []).1 (dnB fits H x []).2 := by
  have w : WayB f fits H x (dnB fits H x []) := dnB_way fits H x H x [] rfl (by simp) trivial z.tree hm (fun g hg => by simp [bpre] at hg) (fun g hg => by simp [bpost] at hg) (fun y hy => by simp at hy)
  have h1 := w.aheadS
  have h2 := w.behindS
  have h3 := w.row
  have h4 := w.fitsA
  have h5 := w.fitsB hm
  obtain ⟨w1, w2, w3, w4, w5, w6, w7⟩ := w
  generalize dnB fits H x [] = w at *
  obtain ⟨cx, t⟩ := w
  dsimp only at *
  have e : 0 + cx.length = H := by omega
  have z' : Zo f n root (0 + cx.length) [] (bplug cx t) [] := by rw [e, w1]; exact z
  have z2 := Zo.unplug cx [] 0 t z'
  rw [List.append_nil] at z2
  have hd : DegR d (0 + cx.length) (bplug cx t) := by rw [e, w1]; exact hr
  obtain ⟨d1, d2⟩ := (deg_plug d cx 0 t).1 hd
  exact ⟨z2, d1, d2, h3, h4, h5, w7, h1, h2⟩
section
variable {d : Nat} {f : Int → Option Kn} {n : Nat} {root : Int} {L : List G5} {fits : G5 → Bool} {cx : List BF} {t : Bt}
theorem Leaf.filter (l : Leaf d f n root L fits cx t) : L.filter fits = aheadR fits (cx, t) ∧ L.filter (fun g => !fits g) = behindR fits (cx, t) := by
  rw [l.row, List.filter_append, List.filter_append, List.filter_eq_self.2 l.fa, List.filter_eq_nil_iff.2 (fun g hg => by rw [l.fb g hg]; simp), List.filter_eq_nil_iff.2 (fun g hg => by rw [l.fa g hg]; simp), List.filter_eq_self.2 (fun g hg => by rw [l.fb g hg]; rfl)]
  simp
/-- The one of a key: the first behind the way. -/
def foundS (k : Int) (w : List (List G5 × Nat)) : Option G5 := match behindS w with
  | some g => if g.key = k then some g else none
  | none => none
theorem Leaf.got {k : Int} (l : Leaf d f n root L (fun g => decide (g.key < k)) cx t) (hR : RowOk L) :
    (∀ g, foundS k (stepsB (fun g => decide (g.key < k)) (cx, t)) = some g → ∃ B, behindR (fun g => decide (g.key < k)) (cx, t) = g :: B ∧ g.key = k) ∧
    (foundS k (stepsB (fun g => decide (g.key < k)) (cx, t)) = none → ∀ g ∈ L, g.key ≠ k) := by
  have hb := l.behind
  have hrow := l.row
  have hfa := l.fa
  unfold foundS
  rw [hb]
  cases hB : behindR (fun g => decide (g.key < k)) (cx, t) with
  | nil =>
    refine ⟨fun g h => by simp at h, fun _ g hg e => ?_⟩
    rw [hrow, hB, List.append_nil] at hg
    have := hfa g hg
    simp at this; omega
  | cons b B =>
    simp only [List.head?]
    refine ⟨fun g h => ?_, fun h g hg e => ?_⟩
    · split at h
      · rename_i e; injection h with h; subst h; exact ⟨B, rfl, e⟩
      · cases h
    · split at h
      · cases h
      · rename_i e2
        rw [hrow, hB] at hg hR
        rcases List.mem_append.1 hg with hg | hg
        · have := hfa g hg
          simp at this; omega
        · have hb2 := l.fb b (by rw [hB]; simp)
          simp at hb2
          rcases List.mem_cons.1 hg with rfl | hg
          · exact e2 e
          · have hp := ((ris_iff _).1 hR.ris)
            rw [List.pairwise_append] at hp
            have := (List.pairwise_cons.1 hp.2.1).1 g hg
            omega
theorem Leaf.get {k : Int} (l : Leaf d f n root L (fun g => decide (g.key < k)) cx t) (hR : RowOk L) (hk : Ky k) : getG L k = opt (foundS k (stepsB (fun g => decide (g.key < k)) (cx, t))) := by
  obtain ⟨h1, h2⟩ := l.got hR
  cases e : foundS k (stepsB (fun g => decide (g.key < k)) (cx, t)) with
  | none =>
    unfold getG
    rw [dif_neg (find_none _ _ hk (h2 e))]; rfl
  | some g =>
    obtain ⟨B, hB, hg⟩ := h1 g e
    have hrow := l.row
    rw [hB] at hrow
    have hf := find_at _ _ _ _ (hrow ▸ hR) hk hg
    unfold getG
    rw [hrow]
    rw [dif_pos (by rw [hf]; simp)]
    unfold opt
    simp only [hf]
    rw [List.getElem_append_right (Nat.le_refl _)]
    simp
end
/-- A new segment is laid into a leaf: where the row takes it. -/
theorem Leaf.over {d : Nat} {f : Int → Option Kn} {n : Nat} {root : Int} {L : List G5} {fits : G5 → Bool} {cx : List BF} {t : Bt} (l : Leaf d f n root L fits cx t) (s : G5) :
    Over d (updK f (t.i : Int) (some ⟨insL t.s (fitN fits t.s) s, []⟩)) n root (aheadR fits (cx, t) ++ s :: behindR fits (cx, t)) 0 cx (.mk t.i (insL t.s (fitN fits t.s) s) []) := by
  have := over_leaf l.z l.dx l.dt (fitN fits t.s) (fitN_le fits t.s) s
  have e : bpre 0 cx ++ (insL t.s (fitN fits t.s) s ++ bpost 0 cx) = aheadR fits (cx, t) ++ s :: behindR fits (cx, t) := by
    unfold aheadR behindR insL
    simp
  rw [e] at this
  exact this
end Go.Proofs.Ytjgcdmeojjnjlaa.Bb
/- A segment is put where one of its key is; a segment is taken out. No Go in sight. -/
namespace Go.Proofs.Ytjgcdmeojjnjlaa.Bb
open Go.Proofs.Ytjgcdmeojjnjlaa.Bo
theorem bpre_append (c1 c2 : List BF) : ∀ h, bpre h (c1 ++ c2) = bpre (h + c1.length) c2 ++ bpre h c1 := by
  induction c1 with
  | nil => intro h; simp [bpre]
  | cons y c1 ih =>
    intro h
    rw [List.cons_append]
    simp only [bpre]
    rw [ih (h + 1), hsucc h y c1, List.append_assoc]
theorem bpost_append (c1 c2 : List BF) : ∀ h, bpost h (c1 ++ c2) = bpost h c1 ++ bpost (h + c1.length) c2 := by
  induction c1 with
  | nil => intro h; simp [bpost]
  | cons y c1 ih =>
    intro h
    rw [List.cons_append]
    simp only [bpost]
    rw [ih (h + 1), hsucc h y c1, List.append_assoc]
theorem bpost_full (c1 : List BF) : ∀ h, (∀ z ∈ c1, z.l.length = z.s.length) → bpost h c1 = [] := by
  induction c1 with
  | nil => intro h _; rfl
  | cons y c1 ih =>
    intro h hz
    simp only [bpost]
    rw [ih _ (fun z hm => hz z (List.mem_cons_of_mem _ hm)), hz y (List.mem_cons_self ..), List.drop_length]
    rfl
theorem degX_frame (d : Nat) (c1 c2 : List BF) (y : BF) (q : List G5) (hq : q.length = y.s.length) : ∀ h, DegX d h (c1 ++ y :: c2) → DegX d h (c1 ++ ⟨y.i, q, y.l, y.r⟩ :: c2) := by
  induction c1 with
  | nil =>
    rintro h ⟨h1, h2, h3, h4⟩
    refine ⟨h1, ?_, ?_, h4⟩
    · show q.length + 1 ≤ 2 * d
      rw [hq]; exact h2
    · show (if c2 = [] then 1 ≤ q.length else d ≤ q.length + 1)
      rw [hq]; exact h3
  | cons z c1 ih =>
    rintro h ⟨h1, h2, h3, h4⟩
    refine ⟨h1, h2, ?_, ih (h + 1) h4⟩
    have e : c1 ++ y :: c2 ≠ [] := by simp
    have e' : c1 ++ ⟨y.i, q, y.l, y.r⟩ :: c2 ≠ [] := by simp
    have h3' : (if c1 ++ y :: c2 = [] then 1 ≤ z.s.length else d ≤ z.s.length + 1) := h3
    rw [if_neg e] at h3'
    show (if c1 ++ ⟨y.i, q, y.l, y.r⟩ :: c2 = [] then 1 ≤ z.s.length else d ≤ z.s.length + 1)
    rw [if_neg e']; exact h3'
theorem set_cut {α : Type} (l : List α) (a : Nat) (s : α) (h : a < l.length) : l.set a s = l.take a ++ s :: l.drop (a + 1) := by
  rw [List.set_eq_take_append_cons_drop, if_pos h]
section
variable {d : Nat} {f : Int → Option Kn} {n : Nat} {root : Int} {L : List G5} {fits : G5 → Bool} {cx : List BF} {t : Bt}
theorem Leaf.lens (l : Leaf d f n root L fits cx t) : t.s.length + 1 ≤ 2 * d ∧ (if cx = [] then 1 ≤ t.s.length else d ≤ t.s.length + 1) ∧ t.ks = [] := by
  have h := l.dt
  refine ⟨?_, ?_, l.z.tree.2⟩
  · split at h
    · exact h.2
    · exact h.2
  · split at h
    · rename_i e; rw [if_pos e]; exact h.1
    · rename_i e; rw [if_neg e]; exact h.1
theorem Leaf.asMk (l : Leaf d f n root L fits cx t) : Zo f n root 0 cx (.mk t.i t.s []) [] := by
  have e : t = .mk t.i t.s [] := (Bt.eta t).symm.trans (by rw [l.lens.2.2])
  rw [← e]; exact l.z
/-- It stands in the leaf. -/
theorem Leaf.setLeaf (l : Leaf d f n root L fits cx t) (g s : G5) (B : List G5) (hb : behindR fits (cx, t) = g :: B) (ha : fitN fits t.s < t.s.length) :
    TreeAt d (updK f (t.i : Int) (some ⟨t.s.set (fitN fits t.s) s, []⟩)) n root (aheadR fits (cx, t) ++ s :: B) := by
  obtain ⟨h1, h2, _⟩ := l.lens
  have z := l.asMk.segs (t.s.set (fitN fits t.s) s) (.inl rfl)
  refine Over.done (h := 0) (cx := cx) (t := .mk t.i (t.s.set (fitN fits t.s) s) []) ⟨z, l.dx, ?_, ?_, trivial, ?_⟩ ?_
  · show (t.s.set _ s).length ≤ _
    rw [List.length_set]; omega
  · show (if cx = [] then 1 ≤ (t.s.set _ s).length else d ≤ (t.s.set _ s).length + 1)
    rw [List.length_set]; exact h2
  · have hB : t.s.drop (fitN fits t.s + 1) ++ bpost 0 cx = B := by
      unfold behindR at hb
      rw [List.drop_eq_getElem_cons ha] at hb
      injection hb
    show bpre 0 cx ++ (t.s.set _ s ++ bpost 0 cx) = _
    rw [set_cut _ _ _ ha, ← hB]
    unfold aheadR
    simp
  · show (t.s.set _ s).length < _
    rw [List.length_set]; omega
/-- It stands in a frame: what is told of such a frame. -/
theorem Leaf.frame (l : Leaf d f n root L fits cx t) (g s : G5) (B : List G5) (hb : behindR fits (cx, t) = g :: B) (ha : fitN fits t.s = t.s.length) (c1 c2 : List BF) (y : BF) (hc : cx = c1 ++ y :: c2) (hf : ∀ z ∈ c1, z.l.length = z.s.length) (hy : y.l.length < y.s.length) :
    f (y.i : Int) = some ⟨y.s, (y.l ++ bplug c1 t :: y.r).map Bt.idx⟩ ∧ Zo (updK f (y.i : Int) (some ⟨y.s.set y.l.length s, (y.l ++ bplug c1 t :: y.r).map Bt.idx⟩)) n root 0 (c1 ++ ⟨y.i, y.s.set y.l.length s, y.l, y.r⟩ :: c2) t [] ∧
      DegX d 0 (c1 ++ ⟨y.i, y.s.set y.l.length s, y.l, y.r⟩ :: c2) ∧ bpre 0 (c1 ++ ⟨y.i, y.s.set y.l.length s, y.l, y.r⟩ :: c2) = bpre 0 cx ∧ bpost 0 (c1 ++ ⟨y.i, y.s.set y.l.length s, y.l, y.r⟩ :: c2) = s :: B := by
  subst hc
  have hq : (y.s.set y.l.length s).length = y.s.length := List.length_set ..
  have z1 := l.z.plug c1 (y :: c2) 0 t
  have hn : f (y.i : Int) = some ⟨y.s, (y.l ++ bplug c1 t :: y.r).map Bt.idx⟩ := by
    rw [z1.ctx.1]; simp
  have hok := z1.ctx.2.1
  unfold BF.ok at hok
  refine ⟨hn, l.z.frame _ hq, degX_frame d c1 c2 y _ hq 0 l.dx, ?_, ?_⟩
  · rw [bpre_append, bpre_append]
    simp only [bpre]
    rw [set_cut _ _ _ hy, List.take_append_of_le_length (by simp; omega), List.take_take, Nat.min_self]
  · have hB : behindR fits (c1 ++ y :: c2, t) = bpost 0 (c1 ++ y :: c2) := by
      unfold behindR
      rw [List.drop_eq_nil_of_le (by show t.s.length ≤ fitN fits t.s; omega), List.nil_append]
    rw [hB, bpost_append, bpost_full c1 0 hf, List.nil_append] at hb
    rw [bpost_append, bpost_full c1 0 hf, List.nil_append]
    simp only [bpost] at hb ⊢
    have e2 : (y.s.set y.l.length s).drop y.l.length = s :: y.s.drop (y.l.length + 1) := by
      rw [set_cut _ _ _ hy, List.drop_append_of_le_length (by simp; omega)]
      simp
    rw [e2]
    rw [List.drop_eq_getElem_cons hy] at hb
    cases hr : y.r with
    | nil => rw [hr] at hok; simp at hok; omega
    | cons k r =>
      rw [hr] at hb
      simp only [List.map_cons, wr, List.cons_append] at hb ⊢
      injection hb with h1 h2
      rw [h2]
theorem Leaf.setFrame (l : Leaf d f n root L fits cx t) (g s : G5) (B : List G5) (hb : behindR fits (cx, t) = g :: B) (ha : fitN fits t.s = t.s.length) (c1 c2 : List BF) (y : BF) (hc : cx = c1 ++ y :: c2) (hf : ∀ z ∈ c1, z.l.length = z.s.length) (hy : y.l.length < y.s.length) :
    TreeAt d (updK f (y.i : Int) (some ⟨y.s.set y.l.length s, (y.l ++ bplug c1 t :: y.r).map Bt.idx⟩)) n root (aheadR fits (cx, t) ++ s :: B) := by
  obtain ⟨_, h2, h3, h4, h5⟩ := l.frame g s B hb ha c1 c2 y hc hf hy
  obtain ⟨k1, k2, k3⟩ := l.lens
  have hne : cx ≠ [] := by rw [hc]; simp
  rw [if_neg hne] at k2
  refine Over.done ⟨h2, h3, by omega, by rw [if_neg (by simp)]; exact k2, trivial, ?_⟩ (by omega)
  rw [h4, h5]
  unfold aheadR
  rw [ha, List.take_length]
  simp [Bt.ino]
theorem erase_cut {α : Type} (l : List α) (a : Nat) : l.eraseIdx a = l.take a ++ l.drop (a + 1) := List.eraseIdx_eq_take_drop_succ ..
/-- It is taken out of the leaf. -/
theorem Leaf.delLeaf (l : Leaf d f n root L fits cx t) (g : G5) (B : List G5) (hb : behindR fits (cx, t) = g :: B) (ha : fitN fits t.s < t.s.length) :
    Short d (updK f (t.i : Int) (some ⟨t.s.eraseIdx (fitN fits t.s), []⟩)) n root (aheadR fits (cx, t) ++ B) 0 cx (.mk t.i (t.s.eraseIdx (fitN fits t.s)) []) := by
  obtain ⟨h1, h2, _⟩ := l.lens
  have hl : (t.s.eraseIdx (fitN fits t.s)).length = t.s.length - 1 := List.length_eraseIdx_of_lt ha
  have z := l.asMk.segs (t.s.eraseIdx (fitN fits t.s)) (.inl rfl)
  refine ⟨z, l.dx, ?_, ?_, trivial, ?_⟩
  · show (t.s.eraseIdx _).length + 1 ≤ _
    omega
  · show (if cx = [] then True else d ≤ (t.s.eraseIdx _).length + 2)
    by_cases e : cx = []
    · rw [if_pos e]; trivial
    · rw [if_neg e] at h2 ⊢; omega
  · have hB : t.s.drop (fitN fits t.s + 1) ++ bpost 0 cx = B := by
      unfold behindR at hb
      rw [List.drop_eq_getElem_cons ha] at hb
      injection hb
    show bpre 0 cx ++ (t.s.eraseIdx _ ++ bpost 0 cx) = _
    rw [erase_cut, ← hB]
    unfold aheadR
    simp
/-- It is taken out of a frame: the one just ahead of it takes its place. -/
theorem Leaf.delFrame (l : Leaf d f n root L fits cx t) (hd : 2 ≤ d) (g m : G5) (B : List G5) (hb : behindR fits (cx, t) = g :: B) (ha : fitN fits t.s = t.s.length) (c1 c2 : List BF) (y : BF) (hc : cx = c1 ++ y :: c2) (hf : ∀ z ∈ c1, z.l.length = z.s.length) (hy : y.l.length < y.s.length)
    (hm : t.s[t.s.length - 1]? = some m) :
    0 < t.s.length ∧ y.i ≠ t.i ∧ Short d (updK (updK f (y.i : Int) (some ⟨y.s.set y.l.length m, (y.l ++ bplug c1 t :: y.r).map Bt.idx⟩)) (t.i : Int) (some ⟨t.s.eraseIdx (t.s.length - 1), []⟩)) n root (aheadR fits (cx, t) ++ B) 0 (c1 ++ ⟨y.i, y.s.set y.l.length m, y.l, y.r⟩ :: c2) (.mk t.i (t.s.eraseIdx (t.s.length - 1)) []) := by
  obtain ⟨_, h2, h3, h4, h5⟩ := l.frame g m B hb ha c1 c2 y hc hf hy
  obtain ⟨k1, k2, k3⟩ := l.lens
  have hne : cx ≠ [] := by rw [hc]; simp
  rw [if_neg hne] at k2
  have hpos : 0 < t.s.length := by omega
  have hl : (t.s.eraseIdx (t.s.length - 1)).length = t.s.length - 1 := List.length_eraseIdx_of_lt (by omega)
  have e0 : t = .mk t.i t.s [] := (Bt.eta t).symm.trans (by rw [k3])
  have h2' : Zo (updK f (y.i : Int) (some ⟨y.s.set y.l.length m, (y.l ++ bplug c1 t :: y.r).map Bt.idx⟩)) n root 0 (c1 ++ ⟨y.i, y.s.set y.l.length m, y.l, y.r⟩ :: c2) (.mk t.i t.s []) [] := by rw [← e0]; exact h2
  have z := h2'.segs (t.s.eraseIdx (t.s.length - 1)) (.inl rfl)
  have hyt : y.i ≠ t.i := by
    intro e
    have hnd := l.z.nd
    rw [hc, List.nodup_append] at hnd
    refine hnd.2.2 y.i ?_ t.i (List.mem_append.2 (.inl (Bt.i_mem 0 t))) e
    have key : ∀ (c1 : List BF) (h : Nat), y.i ∈ bcids h (c1 ++ y :: c2) := by
      intro c1
      induction c1 with
      | nil => intro h; simp [bcids]
      | cons w c1 ih => intro h; simp only [List.cons_append, bcids, List.mem_cons, List.mem_append]; exact .inr (.inr (ih (h + 1)))
    exact key c1 0
  refine ⟨hpos, hyt, z, h3, ?_, ?_, trivial, ?_⟩
  · show (t.s.eraseIdx _).length + 1 ≤ _
    omega
  · show (if _ = [] then True else d ≤ (t.s.eraseIdx _).length + 2)
    rw [if_neg (by simp)]; omega
  · show bpre 0 _ ++ (t.s.eraseIdx (t.s.length - 1) ++ bpost 0 _) = _
    rw [h4, h5, erase_cut]
    unfold aheadR
    rw [ha, List.take_length]
    have e1 : t.s.drop (t.s.length - 1 + 1) = [] := List.drop_eq_nil_of_le (by omega)
    have e2 : t.s = t.s.take (t.s.length - 1) ++ [m] := by
      have hlt : t.s.length - 1 < t.s.length := by omega
      rw [List.getElem?_eq_getElem hlt] at hm
      injection hm with hm
      have := List.take_append_drop (t.s.length - 1) t.s
      rw [List.drop_eq_getElem_cons hlt, e1, hm] at this
      exact this.symm
    rw [e1, List.append_nil]
    show bpre 0 cx ++ (t.s.take (t.s.length - 1) ++ m :: B) = bpre 0 cx ++ t.s ++ B
    conv => rhs; rw [e2]
    simp
end
end Go.Proofs.Ytjgcdmeojjnjlaa.Bb
