/- A part of the proof: contracts of the functions that the statements reach. -/
import Derived.RangeFuncNested
import Derived.RangeFuncBound
import Derived.RangeFuncCalls
import Derived.RangeFuncLeaves
import Derived.Shelf.Abstract
import Derived.Shelf.RegionOpen
import Derived.WalkKit
import Derived.OwnWalkIn
import Derived.TacticsInMore
import Derived.LoopNIn
import Derived.LoopIn
import Derived.Shelf.SlSortCmp.WholeK
import Derived.WalkSpells
import Derived.WalkLawsBesides
import Derived.Lib.Hide
import Derived.Laws.StructEq
import Derived.Shelf.SlSortCmp.QuietGrown
import Derived.Laws.EntriesVeiled
import Derived.Deep.CutRange
import Derived.RegionTactic
import Derived.Lib.QuietBelow
import Derived.BigQuiet
import Derived.OpenShut
import Derived.Deep.RegionHeld3
import Derived.Deep.QuietTactic
import Derived.Maps.AppendAt
import Derived.Laws.IdiomCopy
import Derived.Deep.AppendLies
import Derived.Deep.LoopGhost
import Derived.Deep.Upon
import Derived.StillTailTactics
import Derived.Lib.SmallJoins
import Derived.Deep.SlicePairs
import Derived.Deep.Strs
import Derived.ChangeOld
import Derived.SizedLaws
import Derived.Lib.SliceRun
import Derived.Laws.CopyRow
import Derived.Below
import Derived.Laws.CopyOwn
import Derived.Deep.RegionLaw
import Derived.IntWalk
import Derived.Test.YtjgcdmeojjnjlaaCG

/- A B-tree of a row: the ways down it, and what is told of a cut. -/
namespace Go.Proofs.Ytjgcdmeojjnjlaa.Bb
open Go.Proofs.Ytjgcdmeojjnjlaa.Bo
set_option linter.unusedVariables false
/-- Each node's segments stand in the row. -/
theorem rep_all {f : Int → Option Kn} : ∀ (h : Nat) (t : Bt), RepB f h t → ∀ k ∈ Bt.ids h t, ∃ n, f (k : Int) = some n ∧ n.segs.Sublist (Bt.ino h t) := by
  intro h
  induction h with
  | zero =>
    rintro t ⟨h1, h2⟩ k hk
    simp [Bt.ids] at hk
    subst hk
    exact ⟨_, h1, List.Sublist.refl _⟩
  | succ h ih =>
    intro t hr k hk
    simp only [Bt.ids, List.mem_cons, List.mem_flatMap] at hk
    rcases hk with rfl | ⟨c, hc, hk⟩
    · exact ⟨_, hr.1, ino_sub (h + 1) t hr⟩
    · obtain ⟨n, hn, hs⟩ := ih c (hr.2.2 c hc) k hk
      refine ⟨n, hn, hs.trans ?_⟩
      obtain ⟨i, hi, rfl⟩ := List.mem_iff_getElem.1 hc
      rw [kid_row h t hr i hi]
      exact (List.sublist_append_left _ _).trans (List.sublist_append_right _ _)
theorem TreeAt.node {d : Nat} {f : Int → Option Kn} {n : Nat} {root : Int} {L : List G5} (h : TreeAt d f n root L) (p : Int) (m : Kn) (hp : f p = some m) : m.segs.Sublist L := by
  rcases h with ⟨_, _, _, hf⟩ | ⟨H, x, z, hr, rfl⟩
  · rw [hf] at hp; cases hp
  · obtain ⟨k, hk, rfl⟩ := z.all p (by rw [hp]; simp)
    simp only [bcids, List.nil_append, List.flatMap_nil, List.append_nil] at hk
    obtain ⟨m', hm, hs⟩ := rep_all H x z.tree k hk
    rw [hp] at hm
    cases hm
    exact hs
end Go.Proofs.Ytjgcdmeojjnjlaa.Bb
namespace Go.Proofs.Ytjgcdmeojjnjlaa
open Go.RowKit Go.Sort Go.Proofs.Ytjgcdmeojjnjlaa.Bo Go.Proofs.Ytjgcdmeojjnjlaa.Bb
set_option linter.unusedVariables false
set_option maxRecDepth 100000
/-- What is told of a tree without its memory: it holds L. -/
structure BtOk (t : Bx) (d : Nat) (L : List G5) : Prop where
  dg : t.d = (d : Int)
  d2 : 2 ≤ d
  d64 : d ≤ 64
  tree : TreeAt d t.f t.n t.root L
  many : t.many = (L.length : Int)
  room : 0 ≤ t.room ∧ t.room ≤ 4096
  le : (L.length : Int) ≤ t.room
  row : RowOk L
  ok : ∀ g ∈ L, g.ok
theorem BtW.below {w w' : World} {base T A : Nat} {t : Bx} {a : Ag Rn} {S0 : Nat → Prop} (h : BtW w base T A t a S0) (hb : Go.RowKit.Below w.heap.size w w') : BtW w' base T A t a S0 :=
  h.kp (U := fun _ => False) (Kp.of_below _ hb) (fun _ _ => id)
section
variable {w : World} {base T A : Nat} {t : Bx} {a : Ag Rn} {S0 : Nat → Prop} {d : Nat} {L : List G5}
set_option maxHeartbeats 1000000 in
/-- A way in a tree without nodes. -/
theorem bway_nil (h : BtW w base T A t a S0) (hr : t.root = -1) (g : Fn) (cs ds : Array Value) :
    Calls Try.prog 54 #[aP T, .func g cs ds] w fun e w' => e = .returned (.slice none 0 0) ∧ Go.RowKit.Below w.heap.size w w' := by
  have mx := mixed
  have HH := Lib.hid h
  have HNO := Lib.hid h.noneg
  have HB0 := Lib.hid (below_new w (.cells #[.func g cs ds] 72))
  have hT := box_on h.top HB0.out
  have c1 : (w.alloc (.cells #[.func g cs ds] 72)).cell? ⟨T, 1, none⟩ = some (aP A) := (cell_of_row _ _ 1 _ _ _ hT).trans rfl
  have c2 : (w.alloc (.cells #[.func g cs ds] 72)).cell? ⟨T, 2, none⟩ = some (.int .i64 (-1)) := by rw [(cell_of_row _ _ 2 _ _ _ hT)]; simp [hr]
  clear hT h hr
  go_enter Try.func54, Try.ntmps54
  go_upto_region 2 with fail
  generalize w.alloc (.cells #[.func g cs ds] 72) = X at *
  go_wp2_with fail
  refine (bat_none (HH.out.below HB0.out) (-1) HNO.out).mono ?_
  rintro e w' ⟨rfl, rfl⟩
  have HN : Hid ((X.alloc (nbO (.pointer none))).heap[X.heap.size]? = some (nbO (.pointer none))) := heap_alloc_new _ _
  have HB1 := Lib.hid (bt HB0.out (below_new X (nbO (.pointer none))))
  clear c1 c2
  go_wp2_with fail
  go_loopw [5, 7] (fun wv bx wr => ∃ Bn, wv = .slice none 0 0 ∧ bx = .pointer (some ⟨Bn, 0, none⟩) ∧ wr.heap[Bn]? = some (nbO (.pointer none)) ∧ Go.RowKit.Below w.heap.size w wr) (fun _ _ _ => 0)
  case atStart => exact ⟨X.heap.size, rfl, rfl, HN.out, HB1.out⟩
  case round =>
    obtain ⟨Bn, rfl, rfl, hbn, hbr⟩ := hrel
    have c7 : wr.cell? ⟨Bn, 0, none⟩ = some (.pointer none) := (cell_of_row _ _ 0 _ _ _ hbn).trans rfl
    have HBR := Lib.hid hbr
    clear hbn hbr
    go_wp2_with fail
    go_ret
    exact ⟨rfl, HBR.out⟩
theorem key_mono_lt (L : List G5) (hR : RowOk L) (k : Int) : Mono (fun g => decide (g.key < k)) L := mono_of L hR (fun x => decide (x < k)) (fun a b h h1 => by simp at h1 ⊢; omega)
theorem key_mono_le (L : List G5) (hR : RowOk L) (k : Int) : Mono (fun g => decide (g.key ≤ k)) L := mono_of L hR (fun x => decide (x ≤ k)) (fun a b h h1 => by simp at h1 ⊢; omega)
/-- What is known of the steps that a question tells. -/
def WayOf (d : Nat) (t : Bx) (L : List G5) (fits : G5 → Bool) (xs : List (Int × Int)) : Prop :=
  (L = [] ∧ xs = [] ∧ ∀ p, t.f p = none) ∨ ∃ cx tl, Leaf d t.f t.n t.root L fits cx tl ∧ xs = wayRow fits (cx, tl)
theorem tree_high (ok : BtOk t d L) (H : Nat) (x : Bt) (z : Zo t.f t.n t.root H [] x []) (hr : DegR d H x) (hL : Bt.ino H x = L) : H ≤ 4096 := by
  have := degR_high d ok.d2 H x hr z.tree
  have := ok.le
  have := ok.room
  rw [hL] at *
  omega
theorem bway_any (h : BtW w base T A t a S0) (ok : BtOk t d L) (fits : G5 → Bool) (hm : Mono fits L) (fid : Nat) (s x : Int)
    (HW : ∀ (W : World) (c : Nat), Go.RowKit.Below w.heap.size w W → W.heap[c]? = some (.cells #[.int .i64 s, .int .i64 x] 34) → ∀ H (r : Bt), H ≤ 1000000 → RepB t.f H r → t.root = r.idx → Mono fits (Bt.ino H r) →
      Calls Try.prog 54 #[aP T, .func (.func fid) #[] #[.pointer (some ⟨c, 0, none⟩)]] W fun e w' => ∃ ap cap, (e = .returned (.slice ap (wayRow fits (dnB fits H r [])).length cap) ∧ w'.ownsRow W.heap.size 125 2 (.slice ap (wayRow fits (dnB fits H r [])).length cap) (wayRow fits (dnB fits H r [])).length (flat2 (wayRow fits (dnB fits H r [])))) ∧ Go.RowKit.Below W.heap.size W w') :
    ∃ xs, WayOf d t L fits xs ∧ xs.length ≤ 100000 ∧ ∀ (W : World) (c : Nat), Go.RowKit.Below w.heap.size w W → W.heap[c]? = some (.cells #[.int .i64 s, .int .i64 x] 34) →
      Calls Try.prog 54 #[aP T, .func (.func fid) #[] #[.pointer (some ⟨c, 0, none⟩)]] W fun e w' => ∃ ap n cap, (e = .returned (.slice ap n cap) ∧ n = xs.length ∧ w'.ownsRow W.heap.size 125 2 (.slice ap n cap) n (flat2 xs)) ∧ Go.RowKit.Below W.heap.size W w' := by
  rcases ok.tree with ⟨e1, e2, e3, e4⟩ | ⟨H, r, z, hr, hL⟩
  · refine ⟨[], .inl ⟨e1, rfl, e4⟩, Nat.zero_le _, fun W c hW hc => ?_⟩
    refine (bway_nil (h.below hW) e3 _ _ _).mono ?_
    rintro e w' ⟨rfl, hb⟩
    exact ⟨none, 0, 0, ⟨rfl, rfl, World.ownsRow_nil _ _ _ _⟩, hb⟩
  · have hH := tree_high ok H r z hr hL
    have hl := z.leaf hr fits (by rw [hL]; exact hm)
    rw [hL] at hl
    have hlen : (wayRow fits (dnB fits H r [])).length ≤ 100000 := by
      have w0 : WayB t.f fits H r (dnB fits H r []) := dnB_way fits H r H r [] rfl (by simp) trivial z.tree (by rw [hL]; exact hm) (fun g hg => by simp [bpre] at hg) (fun g hg => by simp [bpost] at hg) (fun y hy => by simp at hy)
      rw [wayRow_len, w0.len]; omega
    refine ⟨wayRow fits (dnB fits H r []), .inr ⟨_, _, hl, rfl⟩, hlen, fun W c hW hc => ?_⟩
    refine (HW W c hW hc H r (by omega) z.tree z.root (by rw [hL]; exact hm)).mono ?_
    rintro e w' ⟨ap, cap, ⟨rfl, ho⟩, hb⟩
    exact ⟨ap, _, cap, ⟨rfl, rfl, ho⟩, hb⟩
theorem tree_lens (ok : BtOk t d L) : (∀ p n, t.f p = some n → n.segs.length ≤ 100000) ∧ ∀ p n, t.f p = some n → ∀ y ∈ n.segs, I64 y.la := by
  refine ⟨fun p n hp => ?_, fun p n hp y hy => (ok.ok y ((ok.tree.node p n hp).subset hy)).1⟩
  have := (ok.tree.node p n hp).length_le
  have := ok.le
  have := ok.room
  omega
theorem bway_ltR (h : BtW w base T A t a S0) (ok : BtOk t d L) (s x : Int) (hx : I64 x) : ∃ xs, WayOf d t L (fun g => decide (g.key < key s x)) xs ∧ xs.length ≤ 100000 ∧ ∀ (W : World) (c : Nat), Go.RowKit.Below w.heap.size w W → W.heap[c]? = some (.cells #[.int .i64 s, .int .i64 x] 34) →
      Calls Try.prog 54 #[aP T, .func (.func 84) #[] #[.pointer (some ⟨c, 0, none⟩)]] W fun e w' => ∃ ap n cap, (e = .returned (.slice ap n cap) ∧ n = xs.length ∧ w'.ownsRow W.heap.size 125 2 (.slice ap n cap) n (flat2 xs)) ∧ Go.RowKit.Below W.heap.size W w' := by
  obtain ⟨l1, l2⟩ := tree_lens ok
  exact bway_any h ok _ (key_mono_lt L ok.row _) 84 s x (fun W c hW hc H r hH hr hroot hm => bway_lt (h.below hW) c s x hx hc H r hH hr hroot hm l1 l2)
theorem bway_leR (h : BtW w base T A t a S0) (ok : BtOk t d L) (s x : Int) (hx : I64 x) : ∃ xs, WayOf d t L (fun g => decide (g.key ≤ key s x)) xs ∧ xs.length ≤ 100000 ∧ ∀ (W : World) (c : Nat), Go.RowKit.Below w.heap.size w W → W.heap[c]? = some (.cells #[.int .i64 s, .int .i64 x] 34) →
      Calls Try.prog 54 #[aP T, .func (.func 82) #[] #[.pointer (some ⟨c, 0, none⟩)]] W fun e w' => ∃ ap n cap, (e = .returned (.slice ap n cap) ∧ n = xs.length ∧ w'.ownsRow W.heap.size 125 2 (.slice ap n cap) n (flat2 xs)) ∧ Go.RowKit.Below W.heap.size W w' := by
  obtain ⟨l1, l2⟩ := tree_lens ok
  exact bway_any h ok _ (key_mono_le L ok.row _) 82 s x (fun W c hW hc H r hH hr hroot hm => bway_le (h.below hW) c s x hx hc H r hH hr hroot hm l1 l2)
/-- Where a segment stands: the k-th of the node p. -/
def ptA (a : Ag Rn) (p : Int) (k : Nat) : Option Addr := (a.l.getD p.toNat bnZ).s.a.map fun ad => ⟨ad.block, k * 5, none⟩
theorem ptA_nat (a : Ag Rn) (p k sb : Nat) (h : (a.l.getD p bnZ).s.a = some ⟨sb, 0, none⟩) : ptA a (p : Int) k = some ⟨sb, k * 5, none⟩ := by
  unfold ptA
  rw [Int.toNat_natCast, h]
  rfl
def ptO (a : Ag Rn) : Option (Int × Nat) → Option Addr
  | none => none
  | some (p, k) => ptA a p k
theorem behI_find (f : Int → Option Kn) (l : List (Int × Int)) (h : ∀ x ∈ l, 0 ≤ x.2) : behI f l = (l.find? fun x => decide (x.2 < ((segsAt f x.1).length : Int))).map fun x => (x.1, x.2.toNat) := by
  induction l with
  | nil => rfl
  | cons x r ih =>
    have hx := h x (List.mem_cons_self ..)
    have ih := ih (fun y hy => h y (List.mem_cons_of_mem _ hy))
    unfold behI
    by_cases e : x.2 < ((segsAt f x.1).length : Int)
    · rw [if_pos (by omega), List.find?_cons_of_pos (by simpa using e)]; rfl
    · rw [if_neg (by omega), List.find?_cons_of_neg (by simpa using e)]; exact ih
theorem aheI_find (l : List (Int × Int)) : aheI l = (l.find? fun x => decide (0 < x.2)).map fun x => (x.1, x.2.toNat - 1) := by
  induction l with
  | nil => rfl
  | cons x r ih =>
    unfold aheI
    by_cases e : 0 < x.2
    · rw [if_pos e, List.find?_cons_of_pos (by simpa using e)]; rfl
    · rw [if_neg e, List.find?_cons_of_neg (by simpa using e)]; exact ih
/-- A step's node in memory. -/
theorem step_mem (h : BtW w base T A t a S0) (p : Nat) (m : Kn) (hp : t.f (p : Int) = some m) :
    ∃ g, w.cell? ⟨g, p * 3, none⟩ = some (.slice (a.l.getD p bnZ).s.a m.segs.length (a.l.getD p bnZ).s.c) ∧ (∀ W, Go.RowKit.Below w.heap.size w W → Calls Try.prog 50 #[aP A, .int .i64 (p : Int)] W fun e w' => e = .returned (.pointer (some ⟨g, p * 3, none⟩)) ∧ W = w') ∧
      ∀ k (hk : k < m.segs.length), ∃ sb, (a.l.getD p bnZ).s.a = some ⟨sb, 0, none⟩ ∧ Cells5 w sb (k * 5) m.segs[k] ∧ ∀ x, w.frozen? ⟨sb, x, none⟩ = false := by
  obtain ⟨g, _, h1, h2, h3, _⟩ := h.turnRow p m hp
  have hn := (h.node p m hp).nums.1
  have hs := (h.node p m hp).s
  refine ⟨g, by rw [h2, ← hn], h1, fun k hk => ?_⟩
  have hs' : w.ownsRow base 38 5 (.slice (a.l.getD p bnZ).s.a m.segs.length (a.l.getD p bnZ).s.c) m.segs.length (flatG m.segs) := by
    have e : (a.l.getD p bnZ).s.v = .slice (a.l.getD p bnZ).s.a m.segs.length (a.l.getD p bnZ).s.c := by rw [← hn]
    rw [← e]; exact hs
  obtain ⟨sb, e1, _, e3, e4⟩ := own_atG hs' rfl k hk
  exact ⟨sb, e1, e3, e4⟩
theorem bbehind_any {fits : G5 → Bool} (h : BtW w base T A t a S0) (ok : BtOk t d L) {xs : List (Int × Int)} (hw : WayOf d t L fits xs) (hN : xs.length ≤ 100000) (ap : Option Addr) (cap b2 : Nat)
    (ho : w.ownsRow b2 125 2 (.slice ap xs.length cap) xs.length (flat2 xs)) : Calls Try.prog 57 #[aP T, .slice ap xs.length cap] w fun e w' => e = .returned (.pointer (ptO a (behI t.f xs.reverse))) ∧ Go.RowKit.Below w.heap.size w w' := by
  have hst : ∀ x ∈ xs, ∃ (p i : Nat) (m : Kn), x = ((p : Int), (i : Int)) ∧ t.f (p : Int) = some m ∧ i ≤ m.segs.length := by
    rcases hw with ⟨_, rfl, _⟩ | ⟨cx, tl, hl, rfl⟩
    · intro x hx; simp at hx
    · intro x hx
      exact hl.steps x (by rw [wayRev_eq]; exact List.mem_reverse.2 hx)
  have hc := bbehind_core T A ap cap b2 xs t (fun x => decide (x.2 < ((segsAt t.f x.1).length : Int))) (fun x => ptA a x.1 x.2.toNat) w (Lib.hid h.top) ho (by omega) (Lib.hid fun x hx => by
    obtain ⟨p, i, m, rfl, hp, hi⟩ := hst x hx
    obtain ⟨g, h1, h2, h3⟩ := step_mem h p m hp
    have hlen := (tree_lens ok).1 _ _ hp
    have hsg : segsAt t.f (p : Int) = m.segs := by unfold segsAt; rw [hp]
    refine ⟨g, p * 3, _, m.segs.length, _, h1, h2, by simp, by omega, by rw [hsg], fun hlt => ?_⟩
    have hlt' : i < m.segs.length := by simpa using hlt
    obtain ⟨sb, e1, _⟩ := h3 i hlt'
    exact ⟨sb, e1, by show ptA a (p : Int) (i : Int).toNat = _; exact ptA_nat a p _ sb e1⟩)
  have e : ansI (fun x => decide (x.2 < ((segsAt t.f x.1).length : Int))) (fun x => ptA a x.1 x.2.toNat) xs.reverse = ptO a (behI t.f xs.reverse) := by
    unfold ansI
    rw [behI_find t.f xs.reverse (fun x hx => by obtain ⟨p, i, m, rfl, _⟩ := hst x (List.mem_reverse.1 hx); simp)]
    cases xs.reverse.find? (fun x => decide (x.2 < ((segsAt t.f x.1).length : Int))) <;> rfl
  rw [e] at hc
  exact hc
theorem bahead_any {fits : G5 → Bool} (h : BtW w base T A t a S0) (ok : BtOk t d L) {xs : List (Int × Int)} (hw : WayOf d t L fits xs) (hN : xs.length ≤ 100000) (ap : Option Addr) (cap b2 : Nat)
    (ho : w.ownsRow b2 125 2 (.slice ap xs.length cap) xs.length (flat2 xs)) : Calls Try.prog 53 #[aP T, .slice ap xs.length cap] w fun e w' => e = .returned (.pointer (ptO a (aheI xs.reverse))) ∧ Go.RowKit.Below w.heap.size w w' := by
  have hst : ∀ x ∈ xs, ∃ (p i : Nat) (m : Kn), x = ((p : Int), (i : Int)) ∧ t.f (p : Int) = some m ∧ i ≤ m.segs.length := by
    rcases hw with ⟨_, rfl, _⟩ | ⟨cx, tl, hl, rfl⟩
    · intro x hx; simp at hx
    · intro x hx
      exact hl.steps x (by rw [wayRev_eq]; exact List.mem_reverse.2 hx)
  have hc := bahead_core T A ap cap b2 xs t (fun x => decide (0 < x.2)) (fun x => ptA a x.1 (x.2.toNat - 1)) w (Lib.hid h.top) ho (by omega) (Lib.hid fun x hx => by
    obtain ⟨p, i, m, rfl, hp, hi⟩ := hst x hx
    obtain ⟨g, h1, h2, h3⟩ := step_mem h p m hp
    have hlen := (tree_lens ok).1 _ _ hp
    refine ⟨rfl, fun hlt => ?_⟩
    have hlt' : 0 < i := by simpa using hlt
    obtain ⟨sb, e1, _⟩ := h3 (i - 1) (by omega)
    exact ⟨g, p * 3, sb, m.segs.length, _, by rw [h1, e1], h2, by simpa using hi, by omega, by show ptA a (p : Int) ((i : Int).toNat - 1) = _; rw [Int.toNat_natCast]; exact ptA_nat a p _ sb e1⟩)
  have e : ansI (fun x => decide (0 < x.2)) (fun x => ptA a x.1 (x.2.toNat - 1)) xs.reverse = ptO a (aheI xs.reverse) := by
    unfold ansI
    rw [aheI_find]
    cases xs.reverse.find? (fun x => decide (0 < x.2)) <;> rfl
  rw [e] at hc
  exact hc
/-- What stands there. -/
def gAt (f : Int → Option Kn) : Option (Int × Nat) → Option G5
  | none => none
  | some (p, k) => (segsAt f p)[k]?
theorem gAt_some {f : Int → Option Kn} {p : Int} {k : Nat} {m : Kn} {g : G5} (h1 : f p = some m) (h2 : m.segs[k]? = some g) : gAt f (some (p, k)) = some g := by
  show (segsAt f p)[k]? = some g
  unfold segsAt
  rw [h1]; exact h2
theorem btold_any (h : BtW w base T A t a S0) (o : Option (Int × Nat)) (ho : o = none ∨ ∃ (p k : Nat) (m : Kn) (g : G5), o = some ((p : Int), k) ∧ t.f (p : Int) = some m ∧ m.segs[k]? = some g) :
    Calls Try.prog 52 #[.pointer (ptO a o)] w fun e w' => e = .returned (.tuple #[vG (opt (gAt t.f o)).1, .bool (opt (gAt t.f o)).2]) ∧ Go.RowKit.Below w.heap.size w w' := by
  rcases ho with rfl | ⟨p, k, m, g, rfl, hp, hg⟩
  · exact btold_no w
  · obtain ⟨gb, h1, h2, h3⟩ := step_mem h p m hp
    obtain ⟨hk, hgk⟩ := List.getElem?_eq_some_iff.1 hg
    obtain ⟨sb, e1, e2, _⟩ := h3 k hk
    have e3 : ptO a (some ((p : Int), k)) = some ⟨sb, k * 5, none⟩ := ptA_nat a p _ sb e1
    have e4 : gAt t.f (some ((p : Int), k)) = some g := gAt_some hp hg
    rw [e3, e4]
    rw [hgk] at e2
    exact btold_yes sb (k * 5) g w e2
theorem WayOf.behN {fits : G5 → Bool} {xs : List (Int × Int)} (hw : WayOf d t L fits xs) :
    (behI t.f xs.reverse = none ∨ ∃ (p k : Nat) (m : Kn) (g : G5), behI t.f xs.reverse = some ((p : Int), k) ∧ t.f (p : Int) = some m ∧ m.segs[k]? = some g) ∧ gAt t.f (behI t.f xs.reverse) = (L.filter fun g => !fits g).head? := by
  rcases hw with ⟨rfl, rfl, _⟩ | ⟨cx, tl, hl, rfl⟩
  · exact ⟨.inl rfl, rfl⟩
  · rw [← wayRev_eq]
    have hb := hl.behind
    rw [hl.filter.2]
    rcases hl.behT with ⟨k1, k2⟩ | ⟨p, k, m, g, k1, k2, k3, k4⟩
    · rw [k2] at hb
      rw [k1]
      exact ⟨.inl rfl, hb⟩
    · rw [k4] at hb
      rw [k1]
      exact ⟨.inr ⟨p, k, m, g, rfl, k2, k3⟩, by rw [← hb]; exact gAt_some k2 k3⟩
theorem WayOf.aheN {fits : G5 → Bool} {xs : List (Int × Int)} (hw : WayOf d t L fits xs) :
    (aheI xs.reverse = none ∨ ∃ (p k : Nat) (m : Kn) (g : G5), aheI xs.reverse = some ((p : Int), k) ∧ t.f (p : Int) = some m ∧ m.segs[k]? = some g) ∧ gAt t.f (aheI xs.reverse) = (L.filter fits).getLast? := by
  rcases hw with ⟨rfl, rfl, _⟩ | ⟨cx, tl, hl, rfl⟩
  · exact ⟨.inl rfl, rfl⟩
  · rw [← wayRev_eq]
    have hb := hl.ahead
    rw [hl.filter.1]
    rcases hl.ahe with ⟨k1, k2⟩ | ⟨p, k, m, g, k1, k2, k3, k4⟩
    · rw [k2] at hb
      rw [k1]
      exact ⟨.inl rfl, hb⟩
    · rw [k4] at hb
      rw [k1]
      exact ⟨.inr ⟨p, k, m, g, rfl, k2, k3⟩, by rw [← hb]; exact gAt_some k2 k3⟩
/-- The state of a call that only asks. -/
def WayRowAt (w : World) (xs : List (Int × Int)) (ap : Option Addr) (n cap : Nat) (W : World) : Prop := n = xs.length ∧ ∃ b, W.ownsRow b 125 2 (.slice ap n cap) n (flat2 xs)
theorem not_le_lt (k : Int) : (fun g : G5 => !decide (g.key ≤ k)) = fun g => decide (k < g.key) := by
  funext g; by_cases e : g.key ≤ k
  · simp [e]
  · simp [e, Int.not_le.1 e]
theorem not_lt_le (k : Int) : (fun g : G5 => !decide (g.key < k)) = fun g => decide (k ≤ g.key) := by
  funext g; by_cases e : g.key < k
  · simp [e]
  · simp [e, Int.not_lt.1 e]
theorem bfloor_any (h : BtW w base T A t a S0) (ok : BtOk t d L) (s x : Int) (hx : I64 x) : Calls Try.prog 23 #[aP T, .agg #[.int .i64 s, .int .i64 x]] w fun e w' => e = .returned (.tuple #[vG (nearG L (key s x) 0).1, .bool (nearG L (key s x) 0).2]) ∧ Go.RowKit.Below w.heap.size w w' := by
  obtain ⟨xs, hw, hN, HW⟩ := bway_leR h ok s x hx
  obtain ⟨n1, n2⟩ := hw.aheN
  rw [near0, ← n2]
  refine bfloor_core T s x (ptO a (aheI xs.reverse)) _ _ (WayRowAt w xs) w (Lib.hid fun W c hW hc => (HW W c hW hc).mono fun e w' ⟨ap, n, cap, ⟨h1, h2, h3⟩, h4⟩ => ⟨ap, n, cap, ⟨h1, h2, _, h3⟩, h4⟩) (Lib.hid ?_) (Lib.hid fun W hW => btold_any (h.below hW) _ n1)
  rintro ap n cap W ⟨rfl, b, ho⟩ hW
  exact bahead_any (h.below hW) ok hw hN ap cap b ho
theorem blower_any (h : BtW w base T A t a S0) (ok : BtOk t d L) (s x : Int) (hx : I64 x) : Calls Try.prog 24 #[aP T, .agg #[.int .i64 s, .int .i64 x]] w fun e w' => e = .returned (.tuple #[vG (nearG L (key s x) 1).1, .bool (nearG L (key s x) 1).2]) ∧ Go.RowKit.Below w.heap.size w w' := by
  obtain ⟨xs, hw, hN, HW⟩ := bway_ltR h ok s x hx
  obtain ⟨n1, n2⟩ := hw.aheN
  rw [near1, ← n2]
  refine blower_core T s x (ptO a (aheI xs.reverse)) _ _ (WayRowAt w xs) w (Lib.hid fun W c hW hc => (HW W c hW hc).mono fun e w' ⟨ap, n, cap, ⟨h1, h2, h3⟩, h4⟩ => ⟨ap, n, cap, ⟨h1, h2, _, h3⟩, h4⟩) (Lib.hid ?_) (Lib.hid fun W hW => btold_any (h.below hW) _ n1)
  rintro ap n cap W ⟨rfl, b, ho⟩ hW
  exact bahead_any (h.below hW) ok hw hN ap cap b ho
theorem bceil_any (h : BtW w base T A t a S0) (ok : BtOk t d L) (s x : Int) (hx : I64 x) : Calls Try.prog 25 #[aP T, .agg #[.int .i64 s, .int .i64 x]] w fun e w' => e = .returned (.tuple #[vG (nearG L (key s x) 2).1, .bool (nearG L (key s x) 2).2]) ∧ Go.RowKit.Below w.heap.size w w' := by
  obtain ⟨xs, hw, hN, HW⟩ := bway_ltR h ok s x hx
  obtain ⟨n1, n2⟩ := hw.behN
  rw [not_lt_le] at n2
  rw [near2, ← n2]
  refine bceil_core T s x (ptO a (behI t.f xs.reverse)) _ _ (WayRowAt w xs) w (Lib.hid fun W c hW hc => (HW W c hW hc).mono fun e w' ⟨ap, n, cap, ⟨h1, h2, h3⟩, h4⟩ => ⟨ap, n, cap, ⟨h1, h2, _, h3⟩, h4⟩) (Lib.hid ?_) (Lib.hid fun W hW => btold_any (h.below hW) _ n1)
  rintro ap n cap W ⟨rfl, b, ho⟩ hW
  exact bbehind_any (h.below hW) ok hw hN ap cap b ho
theorem bhigher_any (h : BtW w base T A t a S0) (ok : BtOk t d L) (s x : Int) (hx : I64 x) : Calls Try.prog 26 #[aP T, .agg #[.int .i64 s, .int .i64 x]] w fun e w' => e = .returned (.tuple #[vG (nearG L (key s x) 3).1, .bool (nearG L (key s x) 3).2]) ∧ Go.RowKit.Below w.heap.size w w' := by
  obtain ⟨xs, hw, hN, HW⟩ := bway_leR h ok s x hx
  obtain ⟨n1, n2⟩ := hw.behN
  rw [not_le_lt] at n2
  rw [near3, ← n2]
  refine bhigher_core T s x (ptO a (behI t.f xs.reverse)) _ _ (WayRowAt w xs) w (Lib.hid fun W c hW hc => (HW W c hW hc).mono fun e w' ⟨ap, n, cap, ⟨h1, h2, h3⟩, h4⟩ => ⟨ap, n, cap, ⟨h1, h2, _, h3⟩, h4⟩) (Lib.hid ?_) (Lib.hid fun W hW => btold_any (h.below hW) _ n1)
  rintro ap n cap W ⟨rfl, b, ho⟩ hW
  exact bbehind_any (h.below hW) ok hw hN ap cap b ho
/-- The place of the segment of a key. -/
def fndI (f : Int → Option Kn) (k : Int) (l : List (Int × Int)) : Option (Int × Nat) := match gAt f (behI f l) with
  | some g => if g.key = k then behI f l else none
  | none => none
theorem bfound_any {k : Int} (h : BtW w base T A t a S0) (ok : BtOk t d L) {xs : List (Int × Int)} (hw : WayOf d t L (fun g => decide (g.key < k)) xs) (hN : xs.length ≤ 100000) (ap : Option Addr) (cap b2 : Nat)
    (ho : w.ownsRow b2 125 2 (.slice ap xs.length cap) xs.length (flat2 xs)) (s x : Int) (hx : I64 x) (hk : k = key s x) : Calls Try.prog 59 #[aP T, .slice ap xs.length cap, .agg #[.int .i64 s, .int .i64 x]] w fun e w' => e = .returned (.pointer (ptO a (fndI t.f k xs.reverse))) ∧ Go.RowKit.Below w.heap.size w w' := by
  have hb : ∀ W, Go.RowKit.Below w.heap.size w W → Calls Try.prog 57 #[aP T, .slice ap xs.length cap] W fun e w' => e = .returned (.pointer (ptO a (behI t.f xs.reverse))) ∧ Go.RowKit.Below W.heap.size W w' := fun W hW => bbehind_any (h.below hW) ok hw hN ap cap b2 (own_on ho hW)
  unfold fndI
  rcases hw.behN.1 with e | ⟨p, i, m, g, e, hp, hg⟩
  · rw [e] at hb ⊢
    exact bfound_no T _ cap ap s x w (Lib.hid hb)
  · rw [e] at hb ⊢
    have e4 : gAt t.f (some ((p : Int), i)) = some g := gAt_some hp hg
    rw [e4]
    obtain ⟨gb, h1, h2, h3⟩ := step_mem h p m hp
    obtain ⟨hi, hgk⟩ := List.getElem?_eq_some_iff.1 hg
    obtain ⟨sb, e1, e2, _⟩ := h3 i hi
    have e3 : ptO a (some ((p : Int), i)) = some ⟨sb, i * 5, none⟩ := ptA_nat a p _ sb e1
    rw [e3] at hb
    rw [hgk] at e2
    have hgm : I64 g.la := (tree_lens ok).2 _ _ hp g (by rw [← hgk]; exact List.getElem_mem _)
    have := bfound_yes T xs.length cap sb (i * 5) ap s x g w hx hgm (Lib.hid hb) (Lib.hid e2)
    rw [hk]
    by_cases ek : g.key = key s x
    · rw [if_pos ek] at this
      dsimp only
      rw [if_pos ek, e3]; exact this
    · rw [if_neg ek] at this
      dsimp only
      rw [if_neg ek]; exact this
theorem fnd_cases {k : Int} {xs : List (Int × Int)} (hw : WayOf d t L (fun g => decide (g.key < k)) xs) :
    (fndI t.f k xs.reverse = none ∨ ∃ (p i : Nat) (m : Kn) (g : G5), fndI t.f k xs.reverse = some ((p : Int), i) ∧ t.f (p : Int) = some m ∧ m.segs[i]? = some g ∧ g.key = k) := by
  unfold fndI
  rcases hw.behN.1 with e | ⟨p, i, m, g, e, hp, hg⟩
  · rw [e]; exact .inl rfl
  · rw [e]
    have e4 : gAt t.f (some ((p : Int), i)) = some g := gAt_some hp hg
    rw [e4]
    dsimp only
    by_cases ek : g.key = k
    · rw [if_pos ek]; exact .inr ⟨p, i, m, g, rfl, hp, hg, ek⟩
    · rw [if_neg ek]; exact .inl rfl
/-- The same, told by the leaf. -/
theorem fnd_leaf {k : Int} {cx : List BF} {tl : Bt} (hl : Leaf d t.f t.n t.root L (fun g => decide (g.key < k)) cx tl) : gAt t.f (fndI t.f k (wayRev (fun g => decide (g.key < k)) (cx, tl))) = foundS k (stepsB (fun g => decide (g.key < k)) (cx, tl)) := by
  unfold fndI foundS
  rcases hl.behT with ⟨k1, k2⟩ | ⟨p, i, m, g, k1, k2, k3, k4⟩
  · rw [k1, k2]; rfl
  · rw [k1, k4]
    have e4 : gAt t.f (some ((p : Int), i)) = some g := gAt_some k2 k3
    rw [e4]
    dsimp only
    by_cases ek : g.key = k
    · rw [if_pos ek, if_pos ek, e4]
    · rw [if_neg ek, if_neg ek]; rfl
theorem bget_any (h : BtW w base T A t a S0) (ok : BtOk t d L) (s x : Int) (hx : I64 x) : Calls Try.prog 28 #[aP T, .agg #[.int .i64 s, .int .i64 x]] w fun e w' => e = .returned (.tuple #[vG (getG L (key s x)).1, .bool (getG L (key s x)).2]) ∧ Go.RowKit.Below w.heap.size w w' := by
  obtain ⟨xs, hw, hN, HW⟩ := bway_ltR h ok s x hx
  have hg : getG L (key s x) = opt (gAt t.f (fndI t.f (key s x) xs.reverse)) := by
    rcases hw with ⟨rfl, rfl, _⟩ | ⟨cx, tl, hl, rfl⟩
    · rfl
    · rw [← wayRev_eq, fnd_leaf hl]
      exact hl.get ok.row (key_ky _ _ hx)
  rw [hg]
  refine bget_core T s x (ptO a (fndI t.f (key s x) xs.reverse)) _ _ (WayRowAt w xs) w (Lib.hid fun W c hW hc => (HW W c hW hc).mono fun e w' ⟨ap, n, cap, ⟨h1, h2, h3⟩, h4⟩ => ⟨ap, n, cap, ⟨h1, h2, _, h3⟩, h4⟩) (Lib.hid ?_) (Lib.hid fun W hW => btold_any (h.below hW) _ ?_)
  · rintro ap n cap W ⟨rfl, b, ho⟩ hW
    exact bfound_any (h.below hW) ok hw hN ap cap b ho s x hx rfl
  · rcases fnd_cases hw with e | ⟨p, i, m, g, e, hp, hg, _⟩
    · exact .inl e
    · exact .inr ⟨p, i, m, g, e, hp, hg⟩
theorem bfirst_any (h : BtW w base T A t a S0) (ok : BtOk t d L) : Calls Try.prog 30 #[aP T] w fun e w' => e = .returned (.tuple #[vG (nearG L (key (-1) 0) 2).1, .bool (nearG L (key (-1) 0) 2).2]) ∧ Go.RowKit.Below w.heap.size w w' :=
  bfirst_core T _ _ w (Lib.hid fun W => (first_any W).mono fun e w' ⟨h1, h2⟩ => ⟨h1, h2.1⟩) (Lib.hid fun W hW => bceil_any (h.below hW) ok (-1) 0 (by unfold I64; omega))
theorem blast_any (h : BtW w base T A t a S0) (ok : BtOk t d L) : Calls Try.prog 31 #[aP T] w fun e w' => e = .returned (.tuple #[vG (nearG L (key 1 0) 0).1, .bool (nearG L (key 1 0) 0).2]) ∧ Go.RowKit.Below w.heap.size w w' :=
  blast_core T _ _ w (Lib.hid fun W => (last_any W).mono fun e w' ⟨h1, h2⟩ => ⟨h1, h2.1⟩) (Lib.hid fun W hW => bfloor_any (h.below hW) ok 1 0 (by unfold I64; omega))
end
end Go.Proofs.Ytjgcdmeojjnjlaa
/- A thing is put into an arena, whatever it is. No Go in sight. -/
namespace Go.Proofs.Ytjgcdmeojjnjlaa.Bo
set_option linter.unusedVariables false
variable {α : Type}
theorem bgetD_set_self (l : List α) (i : Nat) (v z : α) (h : i < l.length) : (l.set i v).getD i z = v := by
  rw [List.getD_eq_getElem?_getD, List.getElem?_set]; simp [h]
theorem bgetD_set_ne (l : List α) (i j : Nat) (v z : α) (h : i ≠ j) : (l.set i v).getD j z = l.getD j z := by
  rw [List.getD_eq_getElem?_getD, List.getD_eq_getElem?_getD, List.getElem?_set]; simp [h]
structure PutsA (z : α) (a : Ag α) (v : α) (i : Nat) (b : Ag α) : Prop where
  ok : b.ok
  was : a.is (i : Int) = false
  at_ : b.l.getD i z = v
  other : ∀ j : Nat, j ≠ i → a.is (j : Int) = true → b.l.getD j z = a.l.getD j z
  is : ∀ j : Int, b.is j = true ↔ j = (i : Int) ∨ a.is j = true
  room : b.room = a.room
  len : b.len = a.len + 1
theorem putsA_take (z : α) (a : Ag α) (fs : List Int) (f : Nat) (v : α) (h : a.ok) (hf : a.free = fs ++ [(f : Int)]) (hr : a.len < a.room) : PutsA z a v f (a.take fs f v) := by
  have hfi := h.free (f : Int) (by rw [hf]; simp)
  have hev := h.ever
  have hlt : f < a.l.length := by omega
  have hnd := h.once
  rw [hf, List.nodup_append] at hnd
  have hnot : (f : Int) ∉ fs := fun h => hnd.2.2 _ h _ (List.mem_singleton.2 rfl) rfl
  have his : ∀ j : Int, (a.take fs f v).is j = true ↔ j = (f : Int) ∨ a.is j = true := by
    intro j
    rw [Ag.is_iff, Ag.is_iff, hf]
    show j ∉ fs ∧ 0 ≤ j ∧ j < a.ever ↔ _
    rw [List.mem_append, List.mem_singleton]
    constructor
    · rintro ⟨h1, h2, h3⟩
      by_cases e : j = (f : Int)
      · exact .inl e
      · exact .inr ⟨fun k => k.elim h1 e, h2, h3⟩
    · rintro (rfl | ⟨h1, h2, h3⟩)
      · exact ⟨hnot, hfi.1, hfi.2⟩
      · exact ⟨fun k => h1 (.inl k), h2, h3⟩
  refine ⟨a.take_ok fs f v h hf hr, ?_, bgetD_set_self _ _ _ _ hlt, fun j hj _ => bgetD_set_ne _ _ _ _ _ (fun e => hj e.symm), his, rfl, ?_⟩
  · cases e : a.is (f : Int) with
    | false => rfl
    | true => exact absurd (by rw [hf]; simp) ((a.is_iff _).1 e).1
  · show a.ever - (fs.length : Int) = a.ever - (a.free.length : Int) + 1
    rw [hf]; simp; omega
theorem putsA_grow (z : α) (a : Ag α) (v : α) (h : a.ok) (hf : a.free = []) (hr : a.len < a.room) : PutsA z a v a.l.length (a.grow v) := by
  have hev := h.ever
  have his : ∀ j : Int, (a.grow v).is j = true ↔ j = (a.l.length : Int) ∨ a.is j = true := by
    intro j
    rw [Ag.is_iff, Ag.is_iff]
    show j ∉ a.free ∧ 0 ≤ j ∧ j < a.ever + 1 ↔ _
    rw [hf]
    simp only [List.not_mem_nil, not_false_eq_true, true_and]
    omega
  refine ⟨a.grow_ok v h hf hr, ?_, ?_, fun j hj k => ?_, his, rfl, ?_⟩
  · cases e : a.is (a.l.length : Int) with
    | false => rfl
    | true => have := ((a.is_iff _).1 e).2.2; omega
  · show (a.l ++ [v]).getD a.l.length z = v
    rw [List.getD_eq_getElem?_getD, List.getElem?_append_right (Nat.le_refl _)]; simp
  · have := ((a.is_iff _).1 k).2.2
    show (a.l ++ [v]).getD j z = _
    rw [List.getD_eq_getElem?_getD, List.getD_eq_getElem?_getD, List.getElem?_append_left (by omega)]
  · show a.ever + 1 - (a.free.length : Int) = a.ever - (a.free.length : Int) + 1
    omega
end Go.Proofs.Ytjgcdmeojjnjlaa.Bo
/- A node is put into the tree's arena. -/
namespace Go.Proofs.Ytjgcdmeojjnjlaa
open Go.RowKit Go.Sort Go.Proofs.Ytjgcdmeojjnjlaa.Bo Go.Proofs.Ytjgcdmeojjnjlaa.Bb
set_option linter.unusedVariables false
theorem BtW.hold_of {w w' : World} {base T A : Nat} {t : Bx} {a a' : Ag Rn} {S0 S' : Nat → Prop} {p : Nat} {r : Rn} {n : Kn} (h : BtW w base T A t a S0) (hn : NdAt w base r n) (hfar : ∀ b, rowB r b → ¬ btS T t a S0 b)
    (hp : PutsA bnZ a r p a') (hA : bnIs w' base A a' S') (hk : Kp S0 w w') (hs : ∀ b, S' b → S0 b ∨ w.heap.size ≤ b) :
    t.f (p : Int) = none ∧ BtW w' base T A { t with n := t.n + 1, f := updK t.f (p : Int) (some n) } a' S' ∧ Kp (btS T t a S0) w w' ∧ ∀ b, btS T { t with n := t.n + 1, f := updK t.f (p : Int) (some n) } a' S' b → btS T t a S0 b ∨ rowB r b ∨ w.heap.size ≤ b := by
  have hnone : t.f (p : Int) = none := by
    cases e : t.f (p : Int) with
    | none => rfl
    | some m => have := (h.is (p : Int)).2 (by rw [e]; simp); rw [hp.was] at this; cases this
  have hgd : ∀ q : Nat, q ≠ p → t.f (q : Int) ≠ none → a'.l.getD q bnZ = a.l.getD q bnZ := fun q hq hf => hp.other q hq ((h.is _).2 hf)
  have hff : ∀ q : Nat, q ≠ p → (updK t.f (p : Int) (some n) (q : Int) = t.f (q : Int)) := fun q hq => by unfold updK; rw [if_neg (by omega)]
  have hpp : updK t.f (p : Int) (some n) (p : Int) = some n := by unfold updK; rw [if_pos rfl]
  have hlt : ∀ q : Nat, t.f (q : Int) ≠ none → ∀ b, rowB (a.l.getD q bnZ) b → b < w.heap.size := fun q hq b hb => by
    obtain ⟨m, _, hm⟩ := h.isn q hq
    exact (hm.lt b hb).2
  refine ⟨hnone, { top := hk.at h.top h.notT, le := h.le, ar := hA, ok := hp.ok, room := hp.room.trans h.room, len := ?_, is := ?_, node := ?_, apart := ?_, far := ?_ }, hk.mono (fun b hb => .inr (.inl hb)), ?_⟩
  · rw [hp.len, h.len]; show _ = ((t.n + 1 : Nat) : Int); omega
  · intro i
    refine (hp.is i).trans ?_
    show _ ↔ updK t.f (p : Int) (some n) i ≠ none
    unfold updK
    by_cases e : i = p
    · rw [if_pos e]; simp [e]
    · rw [if_neg e]
      exact ⟨fun k => (h.is i).1 (k.resolve_left e), fun k => .inr ((h.is i).2 k)⟩
  · intro q n1 hq
    have hq : updK t.f (p : Int) (some n) (q : Int) = some n1 := hq
    by_cases e : q = p
    · subst e
      rw [hpp] at hq
      cases hq
      rw [hp.at_]
      exact hn.kp hk (fun b hb hb0 => hfar b hb (.inr (.inl hb0)))
    · rw [hff q e] at hq
      have hq' : t.f (q : Int) ≠ none := by rw [hq]; simp
      rw [hgd q e hq']
      exact (h.node q n1 hq).kp hk (h.far q hq')
  · intro q1 q2 g1 g2 hne b hb
    have k1 : updK t.f (p : Int) (some n) (q1 : Int) ≠ none := g1
    have k2 : updK t.f (p : Int) (some n) (q2 : Int) ≠ none := g2
    by_cases e1 : q1 = p
    · subst e1
      have e2 : q2 ≠ q1 := fun e => hne e.symm
      rw [hff q2 e2] at k2
      rw [hp.at_] at hb
      rw [hgd q2 e2 k2]
      exact fun k => hfar b hb (.inr (.inr ⟨q2, k2, k⟩))
    · rw [hff q1 e1] at k1
      rw [hgd q1 e1 k1] at hb
      by_cases e2 : q2 = p
      · subst e2
        rw [hp.at_]
        exact fun k => hfar b k (.inr (.inr ⟨q1, k1, hb⟩))
      · rw [hff q2 e2] at k2
        rw [hgd q2 e2 k2]
        exact h.apart q1 q2 k1 k2 hne b hb
  · intro q hq b hb hb'
    have hq : updK t.f (p : Int) (some n) (q : Int) ≠ none := hq
    by_cases e : q = p
    · subst e
      rw [hp.at_] at hb
      rcases hs b hb' with k | k
      · exact hfar b hb (.inr (.inl k))
      · have := (hn.lt b hb).2; omega
    · rw [hff q e] at hq
      rw [hgd q e hq] at hb
      rcases hs b hb' with k | k
      · exact h.far q hq b hb k
      · have := hlt q hq b hb; omega
  · rintro b (rfl | hb | ⟨q, hq, hb⟩)
    · exact .inl (.inl rfl)
    · rcases hs b hb with k | k
      · exact .inl (.inr (.inl k))
      · exact .inr (.inr k)
    · have hq : updK t.f (p : Int) (some n) (q : Int) ≠ none := hq
      by_cases e : q = p
      · subst e
        rw [hp.at_] at hb
        exact .inr (.inl hb)
      · rw [hff q e] at hq
        rw [hgd q e hq] at hb
        exact .inl (.inr (.inr ⟨q, hq, hb⟩))
/-- A node of its own rows takes a place. -/
theorem bput_any {w : World} {base T A : Nat} {t : Bx} {a : Ag Rn} {S0 : Nat → Prop} {r : Rn} {n : Kn} (h : BtW w base T A t a S0) (hn : NdAt w base r n) (hfar : ∀ b, rowB r b → ¬ btS T t a S0 b) (hroom : (t.n : Int) < t.room) :
    Calls Try.prog 108 #[aP A, .agg #[.slice r.s.a r.s.n r.s.c, .slice r.k.a r.k.n r.k.c]] w fun e w' => ∃ (p : Nat) (a' : Ag Rn) (S' : Nat → Prop), e = .returned (.tuple #[.int .i64 (p : Int), .int .i64 0]) ∧
      t.f (p : Int) = none ∧ BtW w' base T A { t with n := t.n + 1, f := updK t.f (p : Int) (some n) } a' S' ∧ Kp (btS T t a S0) w w' ∧ ∀ b, btS T { t with n := t.n + 1, f := updK t.f (p : Int) (some n) } a' S' b → btS T t a S0 b ∨ rowB r b ∨ w.heap.size ≤ b := by
  have hr : a.len < a.room := by rw [h.len, h.room]; exact hroom
  rcases List.eq_nil_or_concat a.free with hf | ⟨fs, f, hf⟩
  · refine (bnput_grow h.ar h.ok r hf hr).mono ?_
    rintro e w' ⟨S', ⟨rfl, hA⟩, hk, hs⟩
    refine ⟨a.l.length, a.grow r, S', by rw [h.ok.ever], h.hold_of hn hfar (putsA_grow bnZ a r h.ok hf hr) hA hk hs⟩
  · have hf' : a.free = fs ++ [f] := by rw [hf]; simp
    have hfi := h.ok.free f (by rw [hf']; simp)
    obtain ⟨m, rfl⟩ : ∃ m : Nat, f = (m : Int) := ⟨f.toNat, by omega⟩
    refine (bnput_take h.ar h.ok r fs m hf' hr).mono ?_
    rintro e w' ⟨S', ⟨rfl, hA⟩, hk, hs⟩
    exact ⟨m, a.take fs m r, S', rfl, h.hold_of hn hfar (putsA_take bnZ a fs m r h.ok hf' hr) hA hk hs⟩
end Go.Proofs.Ytjgcdmeojjnjlaa
/- A node's place is given back. -/
namespace Go.Proofs.Ytjgcdmeojjnjlaa
open Go.RowKit Go.Sort Go.Proofs.Ytjgcdmeojjnjlaa.Bo Go.Proofs.Ytjgcdmeojjnjlaa.Bb
set_option linter.unusedVariables false
theorem bfree_any {w : World} {base T A : Nat} {t : Bx} {a : Ag Rn} {S0 : Nat → Prop} (h : BtW w base T A t a S0) (p : Nat) (hp : t.f (p : Int) ≠ none) (m : Nat) (hm : t.n = m + 1) :
    Calls Try.prog 104 #[aP A, .int .i64 (p : Int)] w fun e w' => ∃ S', e = .returned (.bool true) ∧
      BtW w' base T A { t with n := m, f := updK t.f (p : Int) none } (a.drop (p : Int)) S' ∧ Kp (btS T t a S0) w w' ∧ ∀ b, btS T { t with n := m, f := updK t.f (p : Int) none } (a.drop (p : Int)) S' b → btS T t a S0 b ∨ w.heap.size ≤ b := by
  have hi := (h.is (p : Int)).2 hp
  refine (bnfree_yes h.ar h.ok p hi).mono ?_
  rintro e w' ⟨S', ⟨rfl, hA⟩, hk, hs⟩
  have hff : ∀ (q : Int) (n1 : Kn), updK t.f (p : Int) none q = some n1 → q ≠ (p : Int) ∧ t.f q = some n1 := fun q n1 hq => by
    unfold updK at hq
    by_cases e : q = (p : Int)
    · rw [if_pos e] at hq; cases hq
    · rw [if_neg e] at hq; exact ⟨e, hq⟩
  have hfn : ∀ q : Int, updK t.f (p : Int) none q ≠ none → t.f q ≠ none := fun q hq => by
    obtain ⟨n1, e⟩ := Option.ne_none_iff_exists'.1 hq
    rw [(hff q n1 e).2]; simp
  refine ⟨S', rfl, { top := hk.at h.top h.notT, le := h.le, ar := hA, ok := a.drop_ok (p : Int) h.ok hi, room := h.room, len := ?_, is := ?_, node := ?_, apart := ?_, far := ?_ }, hk.mono (fun b hb => .inr (.inl hb)), ?_⟩
  · have h1 := h.len
    rw [hm] at h1
    show a.ever - ((a.free ++ [(p : Int)]).length : Int) = (m : Int)
    have h2 : a.ever - (a.free.length : Int) = ((m + 1 : Nat) : Int) := h1
    rw [List.length_append]
    simp only [List.length_cons, List.length_nil]
    omega
  · intro i
    show (a.drop (p : Int)).is i = true ↔ updK t.f (p : Int) none i ≠ none
    rw [Ag.is_iff]
    show i ∉ a.free ++ [(p : Int)] ∧ 0 ≤ i ∧ i < a.ever ↔ _
    rw [List.mem_append, List.mem_singleton]
    unfold updK
    by_cases e : i = (p : Int)
    · rw [if_pos e]; simp [e]
    · rw [if_neg e, ← h.is i, Ag.is_iff]
      exact ⟨fun k => ⟨fun k1 => k.1 (.inl k1), k.2⟩, fun k => ⟨fun k1 => k1.elim k.1 e, k.2⟩⟩
  · intro q n1 hq
    obtain ⟨_, h2⟩ := hff q n1 hq
    exact (h.node q n1 h2).kp hk (h.far q (by rw [h2]; simp))
  · intro q1 q2 g1 g2 hne b hb
    exact h.apart q1 q2 (hfn _ g1) (hfn _ g2) hne b hb
  · intro q hq b hb hb'
    have hq := hfn _ hq
    obtain ⟨n1, _, hn1⟩ := h.isn q hq
    rcases hs b hb' with k | k
    · exact h.far q hq b hb k
    · have := (hn1.lt b hb).2; omega
  · rintro b (rfl | hb | ⟨q, hq, hb⟩)
    · exact .inl (.inl rfl)
    · rcases hs b hb with k | k
      · exact .inl (.inr (.inl k))
      · exact .inr k
    · exact .inl (.inr (.inr ⟨q, hfn _ hq, hb⟩))
end Go.Proofs.Ytjgcdmeojjnjlaa
/- The tree's own cells, and a row written within. -/
namespace Go.Proofs.Ytjgcdmeojjnjlaa
open Go.RowKit Go.Sort Go.Proofs.Ytjgcdmeojjnjlaa.Bo Go.Proofs.Ytjgcdmeojjnjlaa.Bb
set_option linter.unusedVariables false
section
variable {w w1 : World} {base T A : Nat} {t : Bx} {a : Ag Rn} {S0 : Nat → Prop}
/-- What is written within a node's rows. -/
theorem BtW.inRow (h : BtW w base T A t a S0) (p : Nat) (n n' : Kn) (hp : t.f (p : Int) = some n) (hk : Kp (rowB (a.l.getD p bnZ)) w w1) (hnd : NdAt w1 base (a.l.getD p bnZ) n') :
    BtW w1 base T A { t with f := updK t.f (p : Int) (some n') } a S0 ∧ Kp (btS T t a S0) w w1 := by
  have hne : t.f (p : Int) ≠ none := by rw [hp]; simp
  have hff : ∀ q : Nat, updK t.f (p : Int) (some n') (q : Int) ≠ none ↔ t.f (q : Int) ≠ none := by
    intro q
    unfold updK
    by_cases hq : (q : Int) = p
    · rw [if_pos hq, hq]; simp [hne]
    · rw [if_neg hq]
  refine ⟨{ top := hk.at h.top (h.rowT p hne), le := h.le, ar := h.ar.kp hk (fun b hb hr => h.far p hne b hr hb), ok := h.ok, room := h.room, len := h.len, is := ?_, node := ?_, apart := ?_, far := ?_ }, hk.mono (fun b hb => .inr (.inr ⟨p, hne, hb⟩))⟩
  · intro i
    refine (h.is i).trans ?_
    show t.f i ≠ none ↔ updK t.f (p : Int) (some n') i ≠ none
    unfold updK
    by_cases hq : i = p
    · rw [if_pos hq, hq]; simp [hne]
    · rw [if_neg hq]
  · intro q n1 hq
    have hq : updK t.f (p : Int) (some n') (q : Int) = some n1 := hq
    unfold updK at hq
    by_cases hqp : q = p
    · subst hqp
      rw [if_pos rfl] at hq
      cases hq
      exact hnd
    · rw [if_neg (by omega)] at hq
      exact (h.node q n1 hq).kp hk (h.apart q p (by rw [hq]; simp) hne hqp)
  · intro q1 q2 g1 g2 hne' b hb
    exact h.apart q1 q2 ((hff q1).1 g1) ((hff q2).1 g2) hne' b hb
  · intro q hq b hb
    exact h.far q ((hff q).1 hq) b hb
theorem BtW.setTop (h : BtW w base T A t a S0) (j : Nat) (u : Value) (t' : Bx) (hu : w.heap[T]? = some (bO A t) → (w.setCell ⟨T, j, none⟩ u).heap[T]? = some (bO A t')) (h1 : t'.f = t.f) (h2 : t'.room = t.room) (h3 : t'.n = t.n) :
    BtW (w.setCell ⟨T, j, none⟩ u) base T A t' a S0 ∧ Kp (btS T t a S0) w (w.setCell ⟨T, j, none⟩ u) := by
  have hk : Kp (fun b => b = T) w (w.setCell ⟨T, j, none⟩ u) := Kp.setCell (S := fun b => b = T) (Kp.refl _ w) ⟨T, j, none⟩ (.inl rfl) u
  refine ⟨{ top := hu h.top, le := h.le, ar := h.ar.kp hk (fun b hb e => h.notT (e ▸ hb)), ok := h.ok, room := h.room.trans h2.symm, len := by rw [h.len, h3], is := fun i => by rw [h1]; exact h.is i, node := fun p n hp => ?_, apart := fun p q hp hq => h.apart p q (by rwa [h1] at hp) (by rwa [h1] at hq), far := fun p hp => h.far p (by rwa [h1] at hp) }, hk.mono (fun b hb => .inl hb)⟩
  rw [h1] at hp
  exact (h.node p n hp).kp hk (fun b hb e => h.rowT p (by rw [hp]; simp) (e ▸ hb))
theorem BtW.setRoot (h : BtW w base T A t a S0) (i : Int) : BtW (w.setCell ⟨T, 2, none⟩ (.int .i64 i)) base T A { t with root := i } a S0 ∧ Kp (btS T t a S0) w (w.setCell ⟨T, 2, none⟩ (.int .i64 i)) :=
  h.setTop 2 _ _ (fun k => heap_setCell_same w T 2 _ _ (.int .i64 i) k) rfl rfl rfl
theorem BtW.setMany (h : BtW w base T A t a S0) (i : Int) : BtW (w.setCell ⟨T, 3, none⟩ (.int .i64 i)) base T A { t with many := i } a S0 ∧ Kp (btS T t a S0) w (w.setCell ⟨T, 3, none⟩ (.int .i64 i)) :=
  h.setTop 3 _ _ (fun k => heap_setCell_same w T 3 _ _ (.int .i64 i) k) rfl rfl rfl
end
end Go.Proofs.Ytjgcdmeojjnjlaa
/- The state of calls that turn a B-tree: the tree, what it may touch, and the call's own boxes, which stay. -/
namespace Go.Proofs.Ytjgcdmeojjnjlaa
open Go.RowKit Go.Sort Go.Proofs.Ytjgcdmeojjnjlaa.Bo Go.Proofs.Ytjgcdmeojjnjlaa.Bb
set_option linter.unusedVariables false
/-- From w0 on: the tree is t now; of what lay in w0 only S has turned; the blocks B, which came since, are none of the tree's. -/
def BtH (w0 : World) (S B : Nat → Prop) (base T A : Nat) (t : Bx) (W : World) : Prop :=
  ∃ a S0, BtW W base T A t a S0 ∧ Kp S w0 W ∧ (∀ b, btS T t a S0 b → S b ∨ w0.heap.size ≤ b) ∧ ∀ b, B b → w0.heap.size ≤ b ∧ b < W.heap.size ∧ ¬ btS T t a S0 b
section
variable {w0 W W' : World} {S B C : Nat → Prop} {base T A g : Nat} {t : Bx}
theorem btH_of {a : Ag Rn} {S0 : Nat → Prop} {w : World} (h : BtW w base T A t a S0) : BtH w (btS T t a S0) (fun _ => False) base T A t w := ⟨a, S0, h, Kp.refl _ _, fun b hb => .inl hb, fun b hb => hb.elim⟩
theorem BtH.below (h : BtH w0 S B base T A t W) (hb : Go.RowKit.Below W.heap.size W W') : BtH w0 S B base T A t W' := by
  obtain ⟨a, S0, h1, h2, h3, h4⟩ := h
  exact ⟨a, S0, h1.below hb, h2.trans (Kp.of_below S hb) (fun _ _ h => h), h3, fun b hB => ⟨(h4 b hB).1, Nat.lt_of_lt_of_le (h4 b hB).2.1 hb.size, (h4 b hB).2.2⟩⟩
theorem BtW.blt {a : Ag Rn} {S0 : Nat → Prop} {w : World} (h : BtW w base T A t a S0) : ∀ b, btS T t a S0 b → b < w.heap.size := fun b hb => (BtIs.lt ⟨a, S0, rfl, h⟩ b hb).2
/-- More blocks are kept, such as came since. -/
theorem BtH.keep (h : BtH w0 S B base T A t W) (hb : Go.RowKit.Below W.heap.size W W') (hC : ∀ b, C b → B b ∨ (W.heap.size ≤ b ∧ b < W'.heap.size)) : BtH w0 S C base T A t W' := by
  obtain ⟨a, S0, h1, h2, h3, h4⟩ := h
  refine ⟨a, S0, h1.below hb, h2.trans (Kp.of_below S hb) (fun _ _ h => h), h3, fun b hB => ?_⟩
  rcases hC b hB with k | ⟨k1, k2⟩
  · exact ⟨(h4 b k).1, Nat.lt_of_lt_of_le (h4 b k).2.1 hb.size, (h4 b k).2.2⟩
  · exact ⟨Nat.le_trans h2.size k1, k2, fun hS => by have := h1.blt b hS; omega⟩
theorem BtH.less (h : BtH w0 S B base T A t W) (hC : ∀ b, C b → B b) : BtH w0 S C base T A t W := by
  obtain ⟨a, S0, h1, h2, h3, h4⟩ := h
  exact ⟨a, S0, h1, h2, h3, fun b hB => h4 b (hC b hB)⟩
theorem BtH.kp (h : BtH w0 S B base T A t W) : Kp S w0 W := by obtain ⟨a, S0, h1, h2, h3, h4⟩ := h; exact h2
theorem BtH.size (h : BtH w0 S B base T A t W) (b : Nat) (hb : B b) : w0.heap.size ≤ b ∧ b < W.heap.size := by obtain ⟨a, S0, h1, h2, h3, h4⟩ := h; exact ⟨(h4 b hb).1, (h4 b hb).2.1⟩
theorem BtH.top (h : BtH w0 S B base T A t W) : W.heap[T]? = some (bO A t) := by obtain ⟨a, S0, h1, _⟩ := h; exact h1.top
/-- Own boxes are written. -/
theorem BtH.box (h : BtH w0 S B base T A t W) (b : Nat) (hb : B b) (j : Nat) (u : Value) : BtH w0 S B base T A t (W.setCell ⟨b, j, none⟩ u) := by
  obtain ⟨a, S0, h1, h2, h3, h4⟩ := h
  have hk : Kp (fun x => x = b) W (W.setCell ⟨b, j, none⟩ u) := Kp.setCell (S := fun x => x = b) (Kp.refl _ W) ⟨b, j, none⟩ (.inl rfl) u
  refine ⟨a, S0, h1.kp hk (fun x hx e => (h4 b hb).2.2 (e ▸ hx)), h2.setCell ⟨b, j, none⟩ (.inr (h4 b hb).1) u, h3, fun x hx => ⟨(h4 x hx).1, Nat.lt_of_lt_of_le (h4 x hx).2.1 hk.size, (h4 x hx).2.2⟩⟩
theorem PlG.below (h : PlG W A g) (hb : Go.RowKit.Below W.heap.size W W') : PlG W' A g := by
  obtain ⟨n, c, h⟩ := h
  exact ⟨n, c, (hb.cell (p := ⟨A, 1, none⟩) (World.block_lt_of_cell? W _ h)).trans h⟩
theorem BtH.boxG (h : BtH w0 S B base T A t W) (hg : PlG W A g) (b : Nat) (hb : B b) (j : Nat) (u : Value) (p : Int) (hp : t.f p ≠ none) : PlG (W.setCell ⟨b, j, none⟩ u) A g := by
  obtain ⟨a, S0, h1, h2, h3, h4⟩ := h
  obtain ⟨n, c, k⟩ := hg
  refine ⟨n, c, (World.cell?_setCell_far _ _ _ _ (fun e => ?_)).trans k⟩
  have hi := (h1.is p).2 hp
  obtain ⟨q, rfl⟩ : ∃ q : Nat, p = (q : Int) := ⟨p.toNat, by have := (a.is_in p h1.ok hi).1; omega⟩
  obtain ⟨m, hm, _⟩ := h1.isn q hp
  obtain ⟨g', _, _, _, _, _, _, _, _, hSA, _⟩ := h1.turnRow q m hm
  exact (h4 b hb).2.2 (.inr (.inl ((show b = A from e) ▸ hSA)))
theorem BtH.gOf (h : BtH w0 S B base T A t W) (p : Nat) (hp : t.f (p : Int) ≠ none) : ∃ g, PlG W A g := by
  obtain ⟨a, S0, h1, h2, h3, h4⟩ := h
  obtain ⟨m, hm, _⟩ := h1.isn p hp
  obtain ⟨g', _, _, _, _, _, _, hpl, _⟩ := h1.turnRow p m hm
  exact ⟨g', hpl⟩
/-- How a node lies, and how its rows are turned. -/
structure NdV (w0 : World) (S B : Nat → Prop) (base T A g : Nat) (t : Bx) (W : World) (p : Nat) (n : Kn) (sa ka : Option Addr) (sc kc : Nat) : Prop where
  cs : W.cell? ⟨g, p * 3, none⟩ = some (.slice sa n.segs.length sc)
  ck : W.cell? ⟨g, p * 3 + 1, none⟩ = some (.slice ka n.kids.length kc)
  fz : ∀ j, W.frozen? ⟨g, j, none⟩ = false
  os : W.ownsRow base 38 5 (.slice sa n.segs.length sc) n.segs.length (flatG n.segs)
  ok : W.ownsRow base 3 1 (.slice ka n.kids.length kc) n.kids.length (n.kids.map nv)
  le : base ≤ W.heap.size
  gb : g < W.heap.size
  gB : ∀ b, B b → g ≠ b
  gs : ∀ b, (Value.slice sa n.segs.length sc).ownBlock = some b → g ≠ b
  gk : ∀ b, (Value.slice ka n.kids.length kc).ownBlock = some b → g ≠ b
  sB : ∀ b, (Value.slice sa n.segs.length sc).ownBlock = some b → ¬ B b
  kB : ∀ b, (Value.slice ka n.kids.length kc).ownBlock = some b → ¬ B b
  at_ : ∀ X, Go.RowKit.Below W.heap.size W X → Calls Try.prog 50 #[aP A, .int .i64 (p : Int)] X fun e w' => e = .returned (.pointer (some ⟨g, p * 3, none⟩)) ∧ X = w'
  setS : ∀ (w1 : World) (a' : Option Addr) (c' : Nat) (m : List G5), W.grownBy w1 (Value.slice sa n.segs.length sc).ownBlock → w1.ownsRow base 38 5 (.slice a' m.length c') m.length (flatG m) →
    (∀ b, (Value.slice a' m.length c').ownBlock = some b → (Value.slice sa n.segs.length sc).ownBlock = some b ∨ (W.heap.size ≤ b ∧ b < w1.heap.size ∧ ¬ B b)) →
    BtH w0 S B base T A { t with f := updK t.f (p : Int) (some ⟨m, n.kids⟩) } (w1.setCell ⟨g, p * 3, none⟩ (.slice a' m.length c')) ∧ PlG (w1.setCell ⟨g, p * 3, none⟩ (.slice a' m.length c')) A g ∧ ∀ b, B b → (w1.setCell ⟨g, p * 3, none⟩ (.slice a' m.length c')).heap[b]? = W.heap[b]?
  setK : ∀ (w1 : World) (a' : Option Addr) (c' : Nat) (m : List Int), W.grownBy w1 (Value.slice ka n.kids.length kc).ownBlock → w1.ownsRow base 3 1 (.slice a' m.length c') m.length (m.map nv) →
    (∀ b, (Value.slice a' m.length c').ownBlock = some b → (Value.slice ka n.kids.length kc).ownBlock = some b ∨ (W.heap.size ≤ b ∧ b < w1.heap.size ∧ ¬ B b)) →
    BtH w0 S B base T A { t with f := updK t.f (p : Int) (some ⟨n.segs, m⟩) } (w1.setCell ⟨g, p * 3 + 1, none⟩ (.slice a' m.length c')) ∧ PlG (w1.setCell ⟨g, p * 3 + 1, none⟩ (.slice a' m.length c')) A g ∧ ∀ b, B b → (w1.setCell ⟨g, p * 3 + 1, none⟩ (.slice a' m.length c')).heap[b]? = W.heap[b]?
theorem BtH.node (h : BtH w0 S B base T A t W) (hg : PlG W A g) (p : Nat) (n : Kn) (hp : t.f (p : Int) = some n) : ∃ sa ka sc kc, NdV w0 S B base T A g t W p n sa ka sc kc := by
  obtain ⟨a, S0, h1, h2, h3, h4⟩ := h
  obtain ⟨g', hSg, hat, hcs, hck, hfz, hturn, hpl, hgA, hSA, cur, hgt⟩ := h1.turnRow p n hp
  obtain rfl := hg.uniq hpl
  have hnd := h1.node p n hp
  have hne : t.f (p : Int) ≠ none := by rw [hp]; simp
  obtain ⟨en, ek⟩ := hnd.nums
  have es : (a.l.getD p bnZ).s.v = .slice (a.l.getD p bnZ).s.a n.segs.length (a.l.getD p bnZ).s.c := by rw [← en]
  have ek' : (a.l.getD p bnZ).k.v = .slice (a.l.getD p bnZ).k.a n.kids.length (a.l.getD p bnZ).k.c := by rw [← ek]
  have hs := hnd.s
  have hk := hnd.k
  rw [es] at hs hcs
  rw [ek'] at hk hck
  have sin : ∀ b, (Value.slice (a.l.getD p bnZ).s.a n.segs.length (a.l.getD p bnZ).s.c).ownBlock = some b → rowB (a.l.getD p bnZ) b := fun b hb => .inl (by rw [es]; exact hb)
  have kin : ∀ b, (Value.slice (a.l.getD p bnZ).k.a n.kids.length (a.l.getD p bnZ).k.c).ownBlock = some b → rowB (a.l.getD p bnZ) b := fun b hb => .inr (by rw [ek']; exact hb)
  have rT : ∀ b, rowB (a.l.getD p bnZ) b → btS T t a S0 b := fun b hb => .inr (.inr ⟨p, hne, hb⟩)
  have gT : ∀ b, B b → g ≠ b := fun b hb e => (h4 b hb).2.2 (e ▸ .inr (.inl hSg))
  have sk : ∀ b c, (Value.slice (a.l.getD p bnZ).s.a n.segs.length (a.l.getD p bnZ).s.c).ownBlock = some b → (Value.slice (a.l.getD p bnZ).k.a n.kids.length (a.l.getD p bnZ).k.c).ownBlock = some c → b ≠ c := fun b c hb hc => by
    obtain ⟨c1, q1⟩ := own_type hs hb
    obtain ⟨c2, q2⟩ := own_type hk hc
    exact type_ne q1 q2 (by decide)
  have gs : ∀ b, (Value.slice (a.l.getD p bnZ).s.a n.segs.length (a.l.getD p bnZ).s.c).ownBlock = some b → g ≠ b := fun b hb => by
    obtain ⟨c1, q1⟩ := own_type hs hb
    exact type_ne hgt q1 (by decide)
  have gk : ∀ b, (Value.slice (a.l.getD p bnZ).k.a n.kids.length (a.l.getD p bnZ).k.c).ownBlock = some b → g ≠ b := fun b hb => by
    obtain ⟨c1, q1⟩ := own_type hk hb
    exact type_ne hgt q1 (by decide)
  -- what a turned row leaves
  have fin : ∀ (w1 : World) (j : Nat) (u : Value) (r' : Rn) (n' : Kn), j < 2 → (bnE.e (a.l.getD p bnZ)).set j u = bnE.e r' → Kp (rowB (a.l.getD p bnZ)) W w1 → NdAt w1 base r' n' → (∀ b, rowB r' b → rowB (a.l.getD p bnZ) b ∨ (W.heap.size ≤ b ∧ b < w1.heap.size ∧ ¬ B b)) →
      BtH w0 S B base T A { t with f := updK t.f (p : Int) (some n') } (w1.setCell ⟨g, p * 3 + j, none⟩ u) ∧ PlG (w1.setCell ⟨g, p * 3 + j, none⟩ u) A g ∧ ∀ b, B b → (w1.setCell ⟨g, p * 3 + j, none⟩ u).heap[b]? = W.heap[b]? := by
    intro w1 j u r' n' hj hu hkp hnd' hnew
    obtain ⟨k1, k2, k3⟩ := hturn w1 j u r' n' hj hu hkp hnd' (fun b hb => (hnew b hb).imp id (fun q => q.1))
    have hBk : ∀ b, B b → (w1.setCell ⟨g, p * 3 + j, none⟩ u).heap[b]? = W.heap[b]? := fun b hb => k2.block b (h4 b hb).2.1 (h4 b hb).2.2
    refine ⟨⟨a.set p r', S0, k1, h2.trans k2 (fun b hb hS => (h3 b hS).resolve_right (by omega)), fun b hb => ?_, fun b hb => ⟨(h4 b hb).1, Nat.lt_of_lt_of_le (h4 b hb).2.1 k2.size, fun hS => ?_⟩⟩, ?_, hBk⟩
    · rcases k3 b hb with q | q
      · exact h3 b q
      · exact .inr (Nat.le_trans h2.size q)
    · rcases k3 b hS with q | q
      · exact (h4 b hb).2.2 q
      · have := (h4 b hb).2.1; omega
    · obtain ⟨nn, cc, hpc⟩ := hg
      have hA : A < W.heap.size := World.block_lt_of_cell? W _ hpc
      refine ⟨nn, cc, (World.cell?_setCell_far _ _ _ _ (fun e => hgA e)).trans ?_⟩
      have hAr : ¬ rowB (a.l.getD p bnZ) A := fun hr => h1.far p hne A hr hSA
      exact (World.cell?_of_block (hkp.block A hA hAr)).trans hpc
  refine ⟨(a.l.getD p bnZ).s.a, (a.l.getD p bnZ).k.a, (a.l.getD p bnZ).s.c, (a.l.getD p bnZ).k.c, ⟨hcs, hck, hfz, hs, hk, (BtIs.base_le ⟨a, S0, rfl, h1⟩), lt_of_block hgt, gT, gs, gk, fun b hb hB => (h4 b hB).2.2 (rT b (sin b hb)), fun b hb hB => (h4 b hB).2.2 (rT b (kin b hb)), hat, ?_, ?_⟩⟩
  · intro w1 a' c' m hgr hown hnew
    have hkp : Kp (rowB (a.l.getD p bnZ)) W w1 := (Kp.refl _ W).grown hgr (fun k hk' => .inl (sin k hk'))
    have hko : w1.ownsRow base 3 1 (.slice (a.l.getD p bnZ).k.a n.kids.length (a.l.getD p bnZ).k.c) n.kids.length (n.kids.map nv) := hk.kept hgr (by
      rcases hko : (Value.slice (a.l.getD p bnZ).k.a n.kids.length (a.l.getD p bnZ).k.c).ownBlock with _ | b
      · exact .inl rfl
      · exact .inr (fun e => sk b b e.symm hko rfl))
    have := fin w1 0 (.slice a' m.length c') ⟨⟨a', m.length, c'⟩, ⟨(a.l.getD p bnZ).k.a, n.kids.length, (a.l.getD p bnZ).k.c⟩⟩ ⟨m, n.kids⟩ (by omega) (by show [_, _].set 0 _ = [_, _]; rw [← ek]; rfl) hkp ⟨hown, hko⟩ (fun b hb => ?_)
    · exact this
    · rcases hb with hb | hb
      · exact (hnew b hb).imp (sin b) id
      · exact .inl (kin b hb)
  · intro w1 a' c' m hgr hown hnew
    have hkp : Kp (rowB (a.l.getD p bnZ)) W w1 := (Kp.refl _ W).grown hgr (fun k hk' => .inl (kin k hk'))
    have hso : w1.ownsRow base 38 5 (.slice (a.l.getD p bnZ).s.a n.segs.length (a.l.getD p bnZ).s.c) n.segs.length (flatG n.segs) := hs.kept hgr (by
      rcases hso : (Value.slice (a.l.getD p bnZ).s.a n.segs.length (a.l.getD p bnZ).s.c).ownBlock with _ | b
      · exact .inl rfl
      · exact .inr (fun e => sk b b hso e.symm rfl))
    have := fin w1 1 (.slice a' m.length c') ⟨⟨(a.l.getD p bnZ).s.a, n.segs.length, (a.l.getD p bnZ).s.c⟩, ⟨a', m.length, c'⟩⟩ ⟨n.segs, m⟩ (by omega) (by show [_, _].set 1 _ = [_, _]; rw [← en]; rfl) hkp ⟨hso, hown⟩ (fun b hb => ?_)
    · exact this
    · rcases hb with hb | hb
      · exact .inl (sin b hb)
      · exact (hnew b hb).imp (kin b) id
/-- The root, the number. -/
theorem BtH.setTop (h : BtH w0 S B base T A t W) (j : Nat) (u : Value) (t' : Bx) (hj : (∀ X : World, X.heap[T]? = some (bO A t) → (X.setCell ⟨T, j, none⟩ u).heap[T]? = some (bO A t'))) (h1 : t'.f = t.f) (h2 : t'.room = t.room) (h3 : t'.n = t.n) :
    BtH w0 S B base T A t' (W.setCell ⟨T, j, none⟩ u) ∧ ∀ b, B b → (W.setCell ⟨T, j, none⟩ u).heap[b]? = W.heap[b]? := by
  obtain ⟨a, S0, g1, g2, g3, g4⟩ := h
  obtain ⟨k1, k2⟩ := g1.setTop j u t' (hj W) h1 h2 h3
  have hS : ∀ b, btS T t' a S0 b → btS T t a S0 b := fun b hb => by
    rcases hb with hb | hb | ⟨p, hp, hb⟩
    · exact .inl hb
    · exact .inr (.inl hb)
    · exact .inr (.inr ⟨p, by rwa [h1] at hp, hb⟩)
  exact ⟨⟨a, S0, k1, g2.trans k2 (fun b hb hs => (g3 b hs).resolve_right (by omega)), fun b hb => g3 b (hS b hb), fun b hb => ⟨(g4 b hb).1, Nat.lt_of_lt_of_le (g4 b hb).2.1 k2.size, fun q => (g4 b hb).2.2 (hS b q)⟩⟩, fun b hb => k2.block b (g4 b hb).2.1 (g4 b hb).2.2⟩
theorem BtH.setRoot (h : BtH w0 S B base T A t W) (i : Int) : BtH w0 S B base T A { t with root := i } (W.setCell ⟨T, 2, none⟩ (.int .i64 i)) ∧ ∀ b, B b → (W.setCell ⟨T, 2, none⟩ (.int .i64 i)).heap[b]? = W.heap[b]? :=
  h.setTop 2 _ _ (fun X k => heap_setCell_same X T 2 _ _ (.int .i64 i) k) rfl rfl rfl
theorem BtH.setMany (h : BtH w0 S B base T A t W) (i : Int) : BtH w0 S B base T A { t with many := i } (W.setCell ⟨T, 3, none⟩ (.int .i64 i)) ∧ ∀ b, B b → (W.setCell ⟨T, 3, none⟩ (.int .i64 i)).heap[b]? = W.heap[b]? :=
  h.setTop 3 _ _ (fun X k => heap_setCell_same X T 3 _ _ (.int .i64 i) k) rfl rfl rfl
/-- A node of rows that came since takes a place. -/
theorem BtH.put (h : BtH w0 S B base T A t W) (r : Rn) (n : Kn) (hn : NdAt W base r n) (hnew : ∀ b, rowB r b → w0.heap.size ≤ b ∧ B b) (hroom : (t.n : Int) < t.room) (hC : ∀ b, C b → B b ∧ ¬ rowB r b) :
    Calls Try.prog 108 #[aP A, .agg #[.slice r.s.a r.s.n r.s.c, .slice r.k.a r.k.n r.k.c]] W fun e w' => ∃ (p : Nat), e = .returned (.tuple #[.int .i64 (p : Int), .int .i64 0]) ∧
      t.f (p : Int) = none ∧ BtH w0 S C base T A { t with n := t.n + 1, f := updK t.f (p : Int) (some n) } w' ∧ ∀ b, B b → w'.heap[b]? = W.heap[b]? := by
  obtain ⟨a, S0, h1, h2, h3, h4⟩ := h
  refine (bput_any h1 hn (fun b hb => (h4 b (hnew b hb).2).2.2) hroom).mono ?_
  rintro e w' ⟨p, a', S', rfl, hno, k1, k2, k3⟩
  refine ⟨p, rfl, hno, ⟨a', S', k1, h2.trans k2 (fun b hb hS => (h3 b hS).resolve_right (by omega)), fun b hb => ?_, fun b hb => ⟨(h4 b (hC b hb).1).1, Nat.lt_of_lt_of_le (h4 b (hC b hb).1).2.1 k2.size, fun hS => ?_⟩⟩, fun b hb => k2.block b (h4 b hb).2.1 (h4 b hb).2.2⟩
  · rcases k3 b hb with q | q | q
    · exact h3 b q
    · exact .inr (hnew b q).1
    · exact .inr (Nat.le_trans h2.size q)
  · rcases k3 b hS with q | q | q
    · exact (h4 b (hC b hb).1).2.2 q
    · exact (hC b hb).2 q
    · have := (h4 b (hC b hb).1).2.1; omega
theorem BtH.free (h : BtH w0 S B base T A t W) (p : Nat) (hp : t.f (p : Int) ≠ none) (m : Nat) (hm : t.n = m + 1) :
    Calls Try.prog 104 #[aP A, .int .i64 (p : Int)] W fun e w' => e = .returned (.bool true) ∧ BtH w0 S B base T A { t with n := m, f := updK t.f (p : Int) none } w' ∧ ∀ b, B b → w'.heap[b]? = W.heap[b]? := by
  obtain ⟨a, S0, h1, h2, h3, h4⟩ := h
  refine (bfree_any h1 p hp m hm).mono ?_
  rintro e w' ⟨S', rfl, k1, k2, k3⟩
  refine ⟨rfl, ⟨_, S', k1, h2.trans k2 (fun b hb hS => (h3 b hS).resolve_right (by omega)), fun b hb => ?_, fun b hb => ⟨(h4 b hb).1, Nat.lt_of_lt_of_le (h4 b hb).2.1 k2.size, fun hS => ?_⟩⟩, fun b hb => k2.block b (h4 b hb).2.1 (h4 b hb).2.2⟩
  · rcases k3 b hb with q | q
    · exact h3 b q
    · exact .inr (Nat.le_trans h2.size q)
  · rcases k3 b hS with q | q
    · exact (h4 b hb).2.2 q
    · have := (h4 b hb).2.1; omega
end
end Go.Proofs.Ytjgcdmeojjnjlaa
/- hold, grow: a node takes a place; a new root. -/
namespace Go.Proofs.Ytjgcdmeojjnjlaa
open Go.RowKit Go.Sort Go.Proofs.Ytjgcdmeojjnjlaa.Bo Go.Proofs.Ytjgcdmeojjnjlaa.Bb
set_option linter.unusedVariables false
set_option maxRecDepth 100000
abbrev ndO (r : Rn) : Obj := .cells #[.slice r.s.a r.s.n r.s.c, .slice r.k.a r.k.n r.k.c] 80 (0, 0)
abbrev vNd (r : Rn) : Value := .agg #[.slice r.s.a r.s.n r.s.c, .slice r.k.a r.k.n r.k.c]
theorem nd_cells {W : World} {b : Nat} {r : Rn} (h : W.heap[b]? = some (ndO r)) : W.cell? ⟨b, 0, none⟩ = some (.slice r.s.a r.s.n r.s.c) ∧ W.cell? ⟨b, 1, none⟩ = some (.slice r.k.a r.k.n r.k.c) := ⟨(cell_of_row _ _ 0 _ _ _ h).trans rfl, (cell_of_row _ _ 1 _ _ _ h).trans rfl⟩
theorem kp_box {B : Nat → Prop} {W W' : World} (h : ∀ b, B b → W'.heap[b]? = W.heap[b]?) {b : Nat} (hb : B b) {o : Obj} (ho : W.heap[b]? = some o) : W'.heap[b]? = some o := (h b hb).trans ho
set_option maxHeartbeats 2000000 in
theorem bhold_core (T A : Nat) (r : Rn) (t : Bx) (PF : Nat → World → Prop) (W : World) (HT : Hid (W.heap[T]? = some (bO A t)))
    (HP : Hid (∀ X, Go.RowKit.Below W.heap.size W X → X.heap[W.heap.size]? = some (ndO r) → Calls Try.prog 108 #[aP A, vNd r] X fun e w' => ∃ p : Nat, (e = .returned (.tuple #[.int .i64 (p : Int), .int .i64 0]) ∧ PF p w') ∧ w'.cell? ⟨T, 1, none⟩ = some (aP A) ∧ w'.heap[W.heap.size]? = some (ndO r))) :
    Calls Try.prog 102 #[aP T, vNd r] W fun e w' => ∃ p : Nat, e = .returned (.int .i64 (p : Int)) ∧ PF p w' := by
  have mx := mixed
  have HN0 := Lib.hid (heap_alloc_new W (ndO r))
  have HB0 := Lib.hid (below_new W (ndO r))
  have HT0 := Lib.hid (box_on HT.out HB0.out)
  go_enter Try.func102, Try.ntmps102
  go_upto_region 1 with fail
  generalize W.alloc (ndO r) = X at *
  have HS1 : Hid (X.drew.cell? ⟨T, 1, none⟩ = some (aP A) ∧ X.drew.cell? ⟨W.heap.size, 0, none⟩ = some (.slice r.s.a r.s.n r.s.c) ∧ X.drew.cell? ⟨W.heap.size, 1, none⟩ = some (.slice r.k.a r.k.n r.k.c)) := ⟨(cell_of_row _ _ 1 _ _ _ HT0.out).trans rfl, (nd_cells HN0.out).1, (nd_cells HN0.out).2⟩
  have HBD : Hid (Go.RowKit.Below W.heap.size W X.drew) := HB0.out.drew
  have HND : Hid (X.drew.heap[W.heap.size]? = some (ndO r)) := HN0.out
  go_region_held3 (fun w' => w'.cell? ⟨T, 1, none⟩ = some (aP A) ∧ w'.cell? ⟨W.heap.size, 0, none⟩ = some (.slice r.s.a r.s.n r.s.c) ∧ w'.cell? ⟨W.heap.size, 1, none⟩ = some (.slice r.k.a r.k.n r.k.c))
    (with_reducible first | exact HS1.out | exact HS2.out)
    (first
      | (go_at_call 108; refine (HP.out _ HBD.out HND.out).mono ?_; rintro e y ⟨p, ⟨rfl, hp⟩, h1, h2⟩; have HPF := Lib.hid hp; have HS2 := Lib.hid (And.intro h1 (nd_cells h2)); clear hp h1 h2))
  all_goals
    go_wp2_with fail
    go_ret
    exact ⟨p, rfl, HPF.out⟩
theorem BtH.hold {w0 W : World} {S B C : Nat → Prop} {base T A : Nat} {t : Bx} (h : BtH w0 S B base T A t W) (r : Rn) (n : Kn) (hn : NdAt W base r n) (hnew : ∀ b, rowB r b → w0.heap.size ≤ b ∧ B b) (hroom : (t.n : Int) < t.room) (hC : ∀ b, C b → B b ∧ ¬ rowB r b) :
    Calls Try.prog 102 #[aP T, vNd r] W fun e w' => ∃ p : Nat, e = .returned (.int .i64 (p : Int)) ∧ (t.f (p : Int) = none ∧ BtH w0 S C base T A { t with n := t.n + 1, f := updK t.f (p : Int) (some n) } w' ∧ ∀ b, B b → w'.heap[b]? = W.heap[b]?) := by
  have hrn : ∀ b, rowB r b → b < W.heap.size := fun b hb => (hn.lt b hb).2
  refine bhold_core T A r t (fun p w' => t.f (p : Int) = none ∧ BtH w0 S C base T A { t with n := t.n + 1, f := updK t.f (p : Int) (some n) } w' ∧ ∀ b, B b → w'.heap[b]? = W.heap[b]?) W (Lib.hid h.top) (Lib.hid fun X hX hbx => ?_)
  have hlt := lt_of_block hbx
  have h2 := h.keep (C := fun b => B b ∨ b = W.heap.size) hX (fun b hb => hb.imp id (fun e => by subst e; exact ⟨Nat.le_refl _, hlt⟩))
  refine (h2.put (C := fun b => C b ∨ b = W.heap.size) r n (hn.below hX) (fun b hb => ⟨(hnew b hb).1, .inl (hnew b hb).2⟩) hroom (fun b hb => ?_)).mono ?_
  · rcases hb with hb | rfl
    · exact ⟨.inl (hC b hb).1, (hC b hb).2⟩
    · exact ⟨.inr rfl, fun hr => by have := hrn _ hr; omega⟩
  · rintro e w' ⟨p, rfl, k1, k2, k3⟩
    refine ⟨p, ⟨rfl, k1, k2.less (fun b hb => .inl hb), fun b hb => (k3 b (.inl hb)).trans (hX.block b (h.size b hb).2)⟩, (cell_of_row _ _ 1 _ _ _ k2.top).trans rfl, kp_box k3 (.inr rfl) hbx⟩
end Go.Proofs.Ytjgcdmeojjnjlaa
/- slices.Delete of one, and slices.Clone, of the rows of a node: segments. -/
namespace Go.Proofs.Ytjgcdmeojjnjlaa
open Go.RowKit Go.Sort Go.Proofs.Ytjgcdmeojjnjlaa.Bo
set_option linter.unusedVariables false
set_option maxRecDepth 100000 in
set_option maxHeartbeats 2000000 in
theorem sdelG_any {base n cap i : Nat} {a : Option Addr} {l : List G5} {w : World} (ho : w.ownsRow base 38 5 (.slice a n cap) n (flatG l)) (hn : n = l.length) (hi : i < n) (hl : n ≤ 100000) (hb : base ≤ w.heap.size) :
    Calls Try.prog 95 #[.slice a n cap, .int .i64 (i : Int), .int .i64 ((i : Int) + 1)] w (OPost w base 38 5 (.slice a n cap) (n - 1) (flatG (l.take i ++ l.drop (i + 1)))) := by
  obtain ⟨i0, hi0, hz0, hz1, hz2⟩ := info_parts Try.infoSeg
  obtain ⟨g, rfl⟩ : ∃ g, a = some ⟨g, 0, none⟩ := by
    cases a with
    | none => exact absurd (own_none ho).1 (by omega)
    | some x => obtain ⟨g, rfl⟩ := own_some ho; exact ⟨g, rfl⟩
  have hcap := own_cap ho
  have HO := Lib.hid ho
  have HN := Lib.hid hn
  have HPRE := Lib.hid (Bs.own_pre ho i (by omega))
  have HLI : Hid (Bs.Lies w (some (if cap = i + 1 then ⟨g, 0, none⟩ else ⟨g, (i + 1) * 5, none⟩)) ((flatG l).drop ((i + 1) * 5))) := by
    have h := Bs.Lies.drop (k := i + 1) (cap := cap) (size := 5) (Bs.Lies.of_own ho) (by rw [flatG_len, ← hn]; omega)
    rw [Nat.zero_add] at h
    show Bs.Lies _ _ _
    by_cases hc : cap = i + 1
    · rw [if_pos hc] at h ⊢; exact h
    · rw [if_neg hc] at h ⊢; exact h
  have HD1 : Hid (∀ u ∈ (flatG l).drop ((i + 1) * 5), u.oneCell' = true) := fun u hu => flatG_one l u (List.mem_of_mem_drop hu)
  have HNL : Hid (((flatG l).drop ((i + 1) * 5)).length = (n - (i + 1)) * 5) := by show _ = _; rw [List.length_drop, flatG_len, ← hn]; omega
  have i1 : (0 : Int) ≤ (i : Int) := by omega
  have i2 : (i : Int) ≤ (i : Int) + 1 := by omega
  have i3 : (0 : Int) ≤ (i : Int) + 1 := by omega
  have i4 : (i : Int) + 1 ≤ (n : Int) := by omega
  have i5 : ((i : Int) + 1).toNat = i + 1 := by omega
  have i7 : (i : Int) ≤ (cap : Int) := by omega
  have i8 : (n : Int) ≤ (cap : Int) := by omega
  have i9 : ((i : Int) == (i : Int) + 1) = false := by simp; omega
  have i10 : ¬ ((i : Int) = (i : Int) + 1) := by omega
  clear ho hn
  go_enter Try.func95, Try.ntmps95
  go_upto_region 5 with fail
  go_region_law (refine Bs.step_append_fits _ rfl (.tmp 22) (.tmp 25) 32 rfl base 38 i0 5 Try.underlying32 hi0 hz1 g i cap ((flatG l).take (i * 5)) (by rfl) HPRE.out _ (if cap = i + 1 then ⟨g, 0, none⟩ else ⟨g, (i + 1) * 5, none⟩) (n - (i + 1)) _ ((flatG l).drop ((i + 1) * 5)) (by rfl) (by split <;> rfl) HNL.out HLI.out HD1.out (by omega) ?_; intro w2 hown2 hgrow2)
  obtain ⟨k, hk⟩ : ∃ k, i + (n - (i + 1)) = k := ⟨_, rfl⟩
  rw [hk] at hown2 ⊢
  have HK := Lib.hid hk
  have k1 : (k : Int) ≤ (n : Int) := by omega
  have k2 : (0 : Int) ≤ (k : Int) := by omega
  have k3 : ¬ cap = k := by omega
  have HO2 := Lib.hid hown2
  have HG2 : Hid (w.grownBy w2 (some g)) := ⟨hgrow2.os, hgrow2.tape, hgrow2.output, hgrow2.size, hgrow2.block⟩
  have hm : k + (n - k) ≤ cap := by omega
  have HZ1 : Hid (∀ u ∈ (Value.agg #[.int .i64 0, .int .i64 0, .int .i64 0, .int .i64 0, .int .i64 0]).cells, u.oneCell' = true) := fun u hu => by
    simp [Value.cells] at hu
    subst hu
    rfl
  clear hk hown2 hgrow2 i2 i3 i4 i5 i9 i10 HLI HPRE HO HNL
  generalize (if cap = i + 1 then some (⟨g, 0, none⟩ : Addr) else some ⟨g, (i + 1) * 5, none⟩) = z1
  obtain ⟨w3, hrun3, hown3, hgrow3⟩ := Bs.run_clear_own (P := Try.prog) (w := w2) (size := 5) 32 0 i0 _ Try.underlying32 hi0 hz0 rfl HZ1.out HO2.out (n - k) (cap - k) hm
  have HO3 := Lib.hid hown3
  have HG3 := Lib.hid hgrow3
  clear hown3 hgrow3
  go_wp2_with fail
  go_ret
  have e1 : n - 1 = k := by have := HK.out; omega
  refine ⟨some ⟨g, 0, none⟩, cap, ⟨?_, ?_⟩, Bs.grown_trans HG2.out HG3.out, fun b hb' => .inl hb'⟩
  · rw [e1]; rfl
  · rw [e1, flatG_append, ← flatG_take, ← flatG_drop]; exact HO3.out
set_option maxRecDepth 100000 in
set_option maxHeartbeats 1000000 in
theorem scloneG_any {w : World} {n cap : Nat} {a : Option Addr} {l : List G5} (h : Bs.Lies w a (flatG l)) (hn : n = l.length) (hl : n ≤ 100000) :
    Calls Try.prog 72 #[.slice a n cap] w (ClPost w 38 5 n (flatG l)) := by
  obtain ⟨i0, hi, hz0, hz1, hz2⟩ := info_parts Try.infoSeg
  have q22 : ∀ (w : World) (a : Option Addr) (n c n' c' : Nat), (binOp .eql 32 (.slice a n c) (.slice none n' c')).run Try.prog w = .ok (.bool a.isNone) w := fun w a n c n' c' => Lib.run_eql_slice_nil w _ _ a n c n' c' Try.underlying32
  cases a with
  | none =>
    obtain rfl : l = [] := by
      cases l with
      | nil => rfl
      | cons g t =>
        obtain ⟨b, off, e, _⟩ := h (by rw [flatG_len]; simp)
        cases e
    obtain rfl : n = 0 := hn
    clear h
    go_enter Try.func72, Try.ntmps72
    go_wp2_with fail
    go_ret
    exact ⟨none, 0, ⟨rfl, World.ownsRow_nil _ _ _ _⟩, Go.RowKit.Below.refl _ _⟩
  | some x =>
    have HO := Lib.hid (h.below (below_new w (.cells #[] 38)))
    have HE := Lib.hid (own_empty' w 38 5)
    have HB := Lib.hid (below_new w (.cells #[] 38))
    have HL := Lib.hid (show (flatG l).length = n * 5 by rw [flatG_len, hn])
    clear h hn
    go_enter Try.func72, Try.ntmps72
    go_wp2_with (at_builtin; refine Bs.wpList_append_row _ rfl _ _ 32 rfl w.heap.size 38 i0 _ 5 40 Try.underlying32 hi hz0 hz1 hz2 rfl (by omega) _ 0 [] (by rfl) HE.out _ n _ (flatG l) (by rfl) HL.out HO.out (flatG_one l) (by simp only [maxLen]; omega) (by omega) (by simp) ?_; intro a1 cap1 w1 hown1 hgrow1 hat1; rw [Nat.zero_add, List.nil_append] at hown1; have HO1 := Lib.hid hown1; have HB1 : Hid (Go.RowKit.Below w.heap.size w w1) := HB.out.grown hgrow1 (by simp) (fun k hk => (HE.out.lt k hk).1); clear hown1 hgrow1 hat1)
    go_ret
    refine ⟨a1, cap1, ⟨?_, HO1.out⟩, HB1.out⟩
    first | rfl | rw [Nat.zero_add]
end Go.Proofs.Ytjgcdmeojjnjlaa
/- slices.Delete of one, and slices.Clone, of the rows of a node: places. -/
namespace Go.Proofs.Ytjgcdmeojjnjlaa
open Go.RowKit Go.Sort Go.Proofs.Ytjgcdmeojjnjlaa.Bo
set_option linter.unusedVariables false
set_option maxRecDepth 100000 in
set_option maxHeartbeats 2000000 in
theorem sdelI_any {base n cap i : Nat} {a : Option Addr} {l : List Int} {w : World} (ho : w.ownsRow base 3 1 (.slice a n cap) n (l.map nv)) (hn : n = l.length) (hi : i < n) (hl : n ≤ 100000) (hb : base ≤ w.heap.size) :
    Calls Try.prog 114 #[.slice a n cap, .int .i64 (i : Int), .int .i64 ((i : Int) + 1)] w (OPost w base 3 1 (.slice a n cap) (n - 1) ((l.take i ++ l.drop (i + 1)).map nv)) := by
  obtain ⟨i0, hi0, hz0, hz1, hz2⟩ := info_parts Try.infoInt
  obtain ⟨g, rfl⟩ : ∃ g, a = some ⟨g, 0, none⟩ := by
    cases a with
    | none => exact absurd (own_none ho).1 (by omega)
    | some x => obtain ⟨g, rfl⟩ := own_some ho; exact ⟨g, rfl⟩
  have hcap := own_cap ho
  have HO := Lib.hid ho
  have HN := Lib.hid hn
  have HPRE := Lib.hid (Bs.own_pre ho i (by omega))
  have HLI : Hid (Bs.Lies w (some (if cap = i + 1 then ⟨g, 0, none⟩ else ⟨g, i + 1, none⟩)) ((l.map nv).drop ((i + 1) * 1))) := by
    have h := Bs.Lies.drop (k := i + 1) (cap := cap) (size := 1) (Bs.Lies.of_own ho) (by rw [List.length_map, ← hn]; omega)
    rw [Nat.zero_add] at h
    simp only [Nat.mul_one] at h ⊢
    show Bs.Lies _ _ _
    by_cases hc : cap = i + 1
    · rw [if_pos hc] at h ⊢; exact h
    · rw [if_neg hc] at h ⊢; exact h
  have HD1 : Hid (∀ u ∈ (l.map nv).drop ((i + 1) * 1), u.oneCell' = true) := fun u hu => nv_one l u (List.mem_of_mem_drop hu)
  have HNL : Hid (((l.map nv).drop ((i + 1) * 1)).length = (n - (i + 1)) * 1) := by show _ = _; rw [List.length_drop, List.length_map, ← hn]; omega
  have i1 : (0 : Int) ≤ (i : Int) := by omega
  have i2 : (i : Int) ≤ (i : Int) + 1 := by omega
  have i3 : (0 : Int) ≤ (i : Int) + 1 := by omega
  have i4 : (i : Int) + 1 ≤ (n : Int) := by omega
  have i5 : ((i : Int) + 1).toNat = i + 1 := by omega
  have i7 : (i : Int) ≤ (cap : Int) := by omega
  have i8 : (n : Int) ≤ (cap : Int) := by omega
  have i9 : ((i : Int) == (i : Int) + 1) = false := by simp; omega
  have i10 : ¬ ((i : Int) = (i : Int) + 1) := by omega
  clear ho hn
  go_enter Try.func114, Try.ntmps114
  go_upto_region 5 with fail
  go_region_law (refine Bs.step_append_fits _ rfl (.tmp 22) (.tmp 25) 78 rfl base 3 i0 1 Try.underlying78 hi0 hz1 g i cap ((l.map nv).take (i * 1)) (by rfl) HPRE.out _ (if cap = i + 1 then ⟨g, 0, none⟩ else ⟨g, i + 1, none⟩) (n - (i + 1)) _ ((l.map nv).drop ((i + 1) * 1)) (by rfl) (by split <;> rfl) HNL.out HLI.out HD1.out (by omega) ?_; intro w2 hown2 hgrow2)
  obtain ⟨k, hk⟩ : ∃ k, i + (n - (i + 1)) = k := ⟨_, rfl⟩
  rw [hk] at hown2 ⊢
  have HK := Lib.hid hk
  have k1 : (k : Int) ≤ (n : Int) := by omega
  have k2 : (0 : Int) ≤ (k : Int) := by omega
  have k3 : ¬ cap = k := by omega
  have HO2 := Lib.hid hown2
  have HG2 : Hid (w.grownBy w2 (some g)) := ⟨hgrow2.os, hgrow2.tape, hgrow2.output, hgrow2.size, hgrow2.block⟩
  have hm : k + (n - k) ≤ cap := by omega
  have HZ1 : Hid (∀ u ∈ (Value.int .i64 0).cells, u.oneCell' = true) := fun u hu => by
    simp [Value.cells] at hu
    subst hu
    rfl
  clear hk hown2 hgrow2 i2 i3 i4 i5 i9 i10 HLI HPRE HO HNL
  generalize (if cap = i + 1 then some (⟨g, 0, none⟩ : Addr) else some ⟨g, i + 1, none⟩) = z1
  obtain ⟨w3, hrun3, hown3, hgrow3⟩ := Bs.run_clear_own (P := Try.prog) (w := w2) (size := 1) 78 0 i0 _ Try.underlying78 hi0 hz0 rfl HZ1.out HO2.out (n - k) (cap - k) hm
  rw [Nat.mul_one] at hrun3
  have HO3 := Lib.hid hown3
  have HG3 := Lib.hid hgrow3
  clear hown3 hgrow3
  go_wp2_with fail
  go_ret
  have e1 : n - 1 = k := by have := HK.out; omega
  refine ⟨some ⟨g, 0, none⟩, cap, ⟨?_, ?_⟩, Bs.grown_trans HG2.out HG3.out, fun b hb' => .inl hb'⟩
  · rw [e1]; rfl
  · have h4 := HO3.out; simp only [Nat.mul_one, ← List.map_take, ← List.map_drop, ← List.map_append] at h4; rw [e1]; exact h4
set_option maxRecDepth 100000 in
set_option maxHeartbeats 1000000 in
theorem scloneI_any {w : World} {n cap : Nat} {a : Option Addr} {l : List Int} (h : Bs.Lies w a (l.map nv)) (hn : n = l.length) (hl : n ≤ 100000) :
    Calls Try.prog 73 #[.slice a n cap] w (ClPost w 3 1 n (l.map nv)) := by
  obtain ⟨i0, hi, hz0, hz1, hz2⟩ := info_parts Try.infoInt
  have q22 : ∀ (w : World) (a : Option Addr) (n c n' c' : Nat), (binOp .eql 78 (.slice a n c) (.slice none n' c')).run Try.prog w = .ok (.bool a.isNone) w := fun w a n c n' c' => Lib.run_eql_slice_nil w _ _ a n c n' c' Try.underlying78
  cases a with
  | none =>
    obtain rfl : l = [] := by
      cases l with
      | nil => rfl
      | cons g t =>
        obtain ⟨b, off, e, _⟩ := h (by simp)
        cases e
    obtain rfl : n = 0 := hn
    clear h
    go_enter Try.func73, Try.ntmps73
    go_wp2_with fail
    go_ret
    exact ⟨none, 0, ⟨rfl, World.ownsRow_nil _ _ _ _⟩, Go.RowKit.Below.refl _ _⟩
  | some x =>
    have HO := Lib.hid (h.below (below_new w (.cells #[] 3)))
    have HE := Lib.hid (own_empty' w 3 1)
    have HB := Lib.hid (below_new w (.cells #[] 3))
    have HL := Lib.hid (show (l.map nv).length = n * 1 by rw [List.length_map, hn, Nat.mul_one])
    clear h hn
    go_enter Try.func73, Try.ntmps73
    go_wp2_with (at_builtin; refine Bs.wpList_append_row _ rfl _ _ 78 rfl w.heap.size 3 i0 _ 1 8 Try.underlying78 hi hz0 hz1 hz2 rfl (by omega) _ 0 [] (by rfl) HE.out _ n _ (l.map nv) (by rfl) HL.out HO.out (nv_one l) (by simp only [maxLen]; omega) (by omega) (by simp) ?_; intro a1 cap1 w1 hown1 hgrow1 hat1; rw [Nat.zero_add, List.nil_append] at hown1; have HO1 := Lib.hid hown1; have HB1 : Hid (Go.RowKit.Below w.heap.size w w1) := HB.out.grown hgrow1 (by simp) (fun k hk => (HE.out.lt k hk).1); clear hown1 hgrow1 hat1)
    go_ret
    refine ⟨a1, cap1, ⟨?_, HO1.out⟩, HB1.out⟩
    first | rfl | rw [Nat.zero_add]
end Go.Proofs.Ytjgcdmeojjnjlaa
/- split: a node's middle segment is taken out, those behind it go to a new node. -/
namespace Go.Proofs.Ytjgcdmeojjnjlaa
open Go.RowKit Go.Sort Go.Proofs.Ytjgcdmeojjnjlaa.Bo Go.Proofs.Ytjgcdmeojjnjlaa.Bb
set_option linter.unusedVariables false
set_option maxRecDepth 100000
theorem updK_same {f : Int → Option Kn} {i : Int} {v w : Option Kn} : updK (updK f i v) i w = updK f i w := by
  funext j
  unfold updK
  split <;> rfl
theorem grown_refl (W : World) (row : Option Nat) : W.grownBy W row := ⟨rfl, rfl, rfl, Nat.le_refl _, fun _ _ _ => rfl⟩
theorem map_take_nv (l : List Int) (k : Nat) : (l.map nv).take (k * 1) = (l.take k).map nv := by rw [Nat.mul_one, List.map_take]
theorem map_drop_nv (l : List Int) (k : Nat) : (l.map nv).drop (k * 1) = (l.drop k).map nv := by rw [Nat.mul_one, List.map_drop]
/-- A row's head, as it lies. -/
theorem own_take5 {W : World} {base : Nat} {a : Option Addr} {n c : Nat} {l : List G5} (h : W.ownsRow base 38 5 (.slice a n c) n (flatG l)) (hn : n = l.length) (k : Nat) (hk : k ≤ n) : W.ownsRow base 38 5 (.slice a (l.take k).length c) (l.take k).length (flatG (l.take k)) := by
  have := Bs.own_pre h k hk
  rw [flatG_take] at this
  rw [show (l.take k).length = k by rw [List.length_take]; omega]
  exact this
theorem own_take1 {W : World} {base : Nat} {a : Option Addr} {n c : Nat} {l : List Int} (h : W.ownsRow base 3 1 (.slice a n c) n (l.map nv)) (hn : n = l.length) (k : Nat) (hk : k ≤ n) : W.ownsRow base 3 1 (.slice a (l.take k).length c) (l.take k).length ((l.take k).map nv) := by
  have := Bs.own_pre h k hk
  rw [map_take_nv] at this
  rw [show (l.take k).length = k by rw [List.length_take]; omega]
  exact this
theorem ownBlk (a : Option Addr) (n n' c c' : Nat) : (Value.slice a n c).ownBlock = (Value.slice a n' c').ownBlock := by cases a <;> rfl
set_option maxHeartbeats 8000000 in
theorem BtH.splitL {w0 W : World} {S B : Nat → Prop} {base T A : Nat} {t : Bx} (h : BtH w0 S B base T A t W) (p : Nat) (n : Kn) (hp : t.f (p : Int) = some n) (d : Nat) (hd : t.d = (d : Int)) (hd1 : 1 ≤ d) (hd2 : d ≤ 64) (hl : n.segs.length = 2 * d) (hk : n.kids = []) (hroom : (t.n : Int) < t.room) (mid : G5) (hmid : n.segs[d]? = some mid) :
    Calls Try.prog 91 #[aP T, .int .i64 (p : Int)] W fun e w' => ∃ q : Nat, e = .returned (.tuple #[vG mid, .int .i64 (q : Int)]) ∧ (t.f (q : Int) = none ∧ q ≠ p ∧ BtH w0 S B base T A { t with n := t.n + 1, f := updK (updK t.f (p : Int) (some ⟨n.segs.take d, n.kids⟩)) (q : Int) (some ⟨n.segs.drop (d + 1), []⟩) } w' ∧ ∀ b, B b → w'.heap[b]? = W.heap[b]?) := by
  have mx := mixed
  obtain ⟨g, hg⟩ := h.gOf p (by rw [hp]; simp)
  have HP := Lib.hid hp
  -- the result's box
  have HR0 : Hid ((W.alloc zG).heap[W.heap.size]? = some zG) := heap_alloc_new W zG
  have HB0 : Hid (Go.RowKit.Below W.heap.size W (W.alloc zG)) := below_new W zG
  have HSZ0 : Hid (W.heap.size < (W.alloc zG).heap.size) := lt_of_block HR0.out
  have H0 := Lib.hid (h.keep (C := fun b => B b ∨ b = W.heap.size) HB0.out (fun b hb => hb.imp id (fun e => by subst e; exact ⟨Nat.le_refl _, HSZ0.out⟩)))
  have HG0 := Lib.hid (hg.below HB0.out)
  have HKB0 : Hid (∀ b, B b → (W.alloc zG).heap[b]? = W.heap[b]?) := fun b hb => HB0.out.block b (h.size b hb).2
  obtain ⟨sa0, ka0, sc0, kc0, v0⟩ := H0.out.node HG0.out p n hp
  have HAT := Lib.hid v0.at_
  have p1 := cell_regrown ((cell_of_row _ _ 1 _ _ _ H0.out.top).trans rfl : (W.alloc zG).cell? ⟨T, 1, none⟩ = some (aP A))
  have p2 := cell_regrown ((cell_of_row _ _ 0 _ _ _ H0.out.top).trans rfl : (W.alloc zG).cell? ⟨T, 0, none⟩ = some (.int .i64 t.d))
  rw [hd] at p2
  have HW := Lib.hid h
  clear v0 hg h
  go_enter Try.func91, Try.ntmps91
  go_upto_region 1 with fail
  generalize W.alloc zG = X0 at *
  refine wp_region_quiet_below (by assumption) (by kernel_rfl) ?_
  repeat (go_big_quiet_step (first | (go_at_call 50; exact Calls.regrown_of ((HAT.out _ (below_regrown _ _ _)).mono fun e w' q => ⟨q.1, q.2 ▸ Go.RowKit.Below.refl _ _⟩))))
  refine wpQuiet_nil ?_
  intro _ hw'
  obtain ⟨⟨nq, osq⟩, hw''⟩ := hw'
  subst hw''
  have hbY := below_regrown X0 nq osq
  show Exit.then _ _ Exit.normal _ (grow (redrawn X0 nq) osq)
  generalize grow (redrawn X0 nq) osq = Y at *
  have H1 := Lib.hid (H0.out.below hbY)
  have HG1 := Lib.hid (HG0.out.below hbY)
  have HR1 := Lib.hid (box_on HR0.out hbY)
  have HKB1 : Hid (∀ b, B b → Y.heap[b]? = W.heap[b]?) := fun b hb => (hbY.block b (H0.out.size b (.inl hb)).2).trans (HKB0.out b hb)
  have HSZ1 : Hid (W.heap.size < Y.heap.size) := Nat.lt_of_lt_of_le HSZ0.out hbY.size
  obtain ⟨sa, ka, sc, kc, v1⟩ := H1.out.node HG1.out p n HP.out
  have V1 := Lib.hid v1
  have hos := v1.os
  rw [hl] at hos
  obtain ⟨gb, rfl, _, hx, _⟩ := own_atG hos hl.symm d (by omega)
  have e1 : n.segs[d]'(by omega) = mid := by
    rw [List.getElem?_eq_getElem (by omega)] at hmid; exact Option.some.inj hmid
  rw [e1] at hx
  obtain ⟨x1, x2, x3, x4, x5⟩ := hx
  have hcs := v1.cs
  rw [hl] at hcs
  have hcl : 2 * d ≤ sc := by
    rcases hos.2 with ⟨q, _⟩ | ⟨g', c', cur, q, _, _, q2, _⟩
    · cases q
    · injection q with _ _ q; omega
  have hcm : sc ≤ 1000000000 ∨ True := .inr trivial
  clear p1 p2 hbY v1 H0 HG0 HR0 HKB0 HB0 HSZ0 HAT
  have i0 : (0 : Int) ≤ (d : Int) := by omega
  have i1 : (d : Int) < ((2 * d : Nat) : Int) := by omega
  go_upto_region 3 with fail
  -- the middle one's box
  have HM2 : Hid ((Y.alloc (oG mid)).heap[Y.heap.size]? = some (oG mid)) := heap_alloc_new Y (oG mid)
  have HB2 : Hid (Go.RowKit.Below Y.heap.size Y (Y.alloc (oG mid))) := below_new Y (oG mid)
  have HSZ2 : Hid (Y.heap.size < (Y.alloc (oG mid)).heap.size) := lt_of_block HM2.out
  have H2 := Lib.hid (H1.out.keep (C := fun b => (B b ∨ b = W.heap.size) ∨ b = Y.heap.size) HB2.out (fun b hb => hb.imp id (fun e => by subst e; exact ⟨Nat.le_refl _, HSZ2.out⟩)))
  have HG2 := Lib.hid (HG1.out.below HB2.out)
  have HR2 := Lib.hid (box_on HR1.out HB2.out)
  have HKB2 : Hid (∀ b, B b → (Y.alloc (oG mid)).heap[b]? = W.heap[b]?) := fun b hb => (HB2.out.block b (H1.out.size b (.inl hb)).2).trans (HKB1.out b hb)
  have hcs2 : (Y.alloc (oG mid)).cell? ⟨g, p * 3, none⟩ = some (.slice (some ⟨gb, 0, none⟩) (2 * d) sc) := (HB2.out.cell (p := ⟨g, p * 3, none⟩) V1.out.gb).trans hcs
  have HOS2 := Lib.hid (own_on hos HB2.out)
  clear hcs x1 x2 x3 x4 x5 hos
  generalize Y.alloc (oG mid) = Y2 at *
  have HLY := Lib.hid ((Bs.Lies.of_own HOS2.out).drop (k := d + 1) (size := 5) (cap := sc) (by rw [flatG_len, hl]; omega))
  rw [flatG_drop] at HLY
  have hdl : (n.segs.drop (d + 1)).length = d - 1 := by rw [List.length_drop]; omega
  obtain ⟨dl, hdl2⟩ : ∃ dl, dl = 2 * d - (d + 1) := ⟨_, rfl⟩
  have HDL : Hid (dl = (n.segs.drop (d + 1)).length) := by show _ = _; rw [hdl2, List.length_drop]; omega
  have HCL : Hid (∀ ad k, ad = (if sc = d + 1 then some (⟨gb, 0, none⟩ : Addr) else some ⟨gb, 0 + (d + 1) * 5, none⟩) → Calls Try.prog 72 #[.slice ad (2 * d - (d + 1)) k] Y2 (ClPost Y2 38 5 (2 * d - (d + 1)) (flatG (n.segs.drop (d + 1))))) := by
    rintro ad k rfl
    exact scloneG_any HLY.out (by rw [← hdl2, HDL.out]) (by omega)
  have i2 : IntKind.i64.wrap ((d : Int) + 1) = (d : Int) + 1 := IntWalk.i64_in _ (by omega)
  have i3 : (0 : Int) ≤ (d : Int) + 1 := by omega
  have i4 : (d : Int) + 1 ≤ ((2 * d : Nat) : Int) := by omega
  have i5 : (d : Int) + 1 ≤ (sc : Int) := by omega
  go_cut [9] from 10 to 35 (fun s9 wx => ∃ b3 a2 c2, s9 = .pointer (some ⟨b3, 0, none⟩) ∧ wx.heap[b3]? = some (ndO ⟨⟨a2, dl, c2⟩, ⟨none, 0, 0⟩⟩) ∧ wx.ownsRow Y2.heap.size 38 5 (.slice a2 dl c2) dl (flatG (n.segs.drop (d + 1))) ∧ Go.RowKit.Below Y2.heap.size Y2 wx ∧ Y2.heap.size ≤ b3 ∧ ∀ b, (Value.slice a2 dl c2).ownBlock = some b → b ≠ b3)
  case first =>
    have b80 : ∀ (W : World) (a : Option Addr) (m c : Nat), (Instr.build 80 #[(0, .slice a m c)]).run Try.prog W = .ok (.agg #[.slice a m c, .slice none 0 0]) W := fun W a m c => run_build W _ _ _ (by kernel_rfl)
    have HL2 := Lib.hid hdl2
    clear H2 HG2 HR2 HKB2 HM2 H1 HG1 HR1 HKB1 HW V1 hdl hdl2
    go_wp2_with fail
    all_goals
      refine (HCL.out _ _ (by first | (rw [if_pos (by assumption)]; done) | (rw [if_neg (by assumption), Nat.zero_add]; done))).mono ?_
      rintro e y ⟨a2, c2, ⟨rfl, ho⟩, hb⟩
      have HO := Lib.hid ho
      have HB := Lib.hid hb
      clear ho hb
      go_wp2_with fail
      go_meet
      refine ⟨_, a2, c2, rfl, ?_, ?_, bt HB.out (below_new _ _), HB.out.size, fun b hb => ?_⟩
      · rw [HL2.out]; exact heap_alloc_new _ _
      · rw [HL2.out]; exact own_on HO.out (below_new _ _)
      · have := (HO.out.lt b (by rw [← hb]; exact ownBlk _ _ _ _ _)).2; omega
  case rest =>
    obtain ⟨b3, a2, c2, rfl, h1, h2, h3, h4, h5⟩ := hcut
    have hb3 := lt_of_block h1
    have hr2 := fun b hb => h2.lt b hb
    have HN3 := Lib.hid h1
    have HO3 := Lib.hid h2
    have HB3 := Lib.hid h3
    have HL3 := Lib.hid h4
    have HD3 := Lib.hid h5
    have H3 := Lib.hid (H2.out.keep (C := fun b => ((B b ∨ b = W.heap.size) ∨ b = Y.heap.size) ∨ (b = b3 ∨ (Value.slice a2 dl c2).ownBlock = some b)) h3 (fun b hb => hb.imp id (fun e => by
      rcases e with rfl | e
      · exact ⟨h4, hb3⟩
      · exact hr2 b e)))
    have HG3 := Lib.hid (HG2.out.below h3)
    have HR3 := Lib.hid (box_on HR2.out h3)
    have HM3 := Lib.hid (box_on HM2.out h3)
    have HKB3 : Hid (∀ b, B b → wc.heap[b]? = W.heap[b]?) := fun b hb => (h3.block b (H2.out.size b (.inl (.inl hb))).2).trans (HKB2.out b hb)
    clear h1 h2 h3 h4 h5 hb3 hr2 hcs2 HCL HLY i2 i3 i4 i5 hdl hdl2
    -- the head stays
    obtain ⟨sa3, ka3, sc3, kc3, v3⟩ := H3.out.node HG3.out p n HP.out
    have hset := v3.setS wc sa3 sc3 (n.segs.take d) (grown_refl _ _) (own_take5 v3.os rfl d (by omega)) (fun b hb => .inl (by rw [← hb]; exact ownBlk _ _ _ _ _))
    have htl : (n.segs.take d).length = d := by rw [List.length_take]; omega
    rw [htl] at hset
    have H4 := Lib.hid hset.1
    have HG4 := Lib.hid hset.2.1
    have HKC4 := Lib.hid hset.2.2
    have c1 := v3.cs
    rw [hl] at c1
    have f1 := v3.fz (p * 3)
    have hcl3 : d ≤ sc3 := by
      rcases v3.os.2 with ⟨q, q2⟩ | ⟨g', c', cur, q, _, _, q2, _⟩
      · omega
      · injection q with _ _ q; omega
    have i0' : (0 : Int) ≤ (d : Int) := by omega
    have i1' : (d : Int) ≤ (sc3 : Int) := by omega
    clear v3 hset
    generalize hW4 : wc.setCell ⟨g, p * 3, none⟩ (.slice sa3 d sc3) = Y4 at H4 HG4 HKC4
    have HW4 := Lib.hid hW4
    clear hW4
    go_upto_region 5 with fail
    rw [HW4.out]
    have HP4 : Hid (updK t.f (p : Int) (some ⟨n.segs.take d, n.kids⟩) (p : Int) = some ⟨n.segs.take d, n.kids⟩) := updK_self _ _ _
    obtain ⟨sa4, ka4, sc4, kc4, v4⟩ := H4.out.node HG4.out p _ HP4.out
    have ck4 := v4.ck
    rw [show (⟨n.segs.take d, n.kids⟩ : Kn).kids.length = 0 by show n.kids.length = 0; rw [hk]; rfl] at ck4
    have HN4 := Lib.hid (kp_box HKC4.out (.inr (.inl rfl)) HN3.out)
    have HO4 := Lib.hid (own_kpQ HO3.out (fun b hb => HKC4.out b (.inr (.inr hb))))
    have HR4 := Lib.hid (kp_box HKC4.out (.inl (.inl (.inr rfl))) HR3.out)
    have HM4 := Lib.hid (kp_box HKC4.out (.inl (.inr rfl)) HM3.out)
    have HKB4 : Hid (∀ b, B b → Y4.heap[b]? = W.heap[b]?) := fun b hb => (HKC4.out b (.inl (.inl (.inl hb)))).trans (HKB3.out b hb)
    have HNA : Hid (NdAt Y4 base ⟨⟨a2, dl, c2⟩, ⟨none, 0, 0⟩⟩ ⟨n.segs.drop (d + 1), []⟩) := ⟨(show Y4.ownsRow base 38 5 (.slice a2 dl c2) (n.segs.drop (d + 1)).length (flatG (n.segs.drop (d + 1))) from HDL.out ▸ own_base HO4.out (by have := V1.out.le; have := HSZ2.out; omega)), World.ownsRow_nil _ _ _ _⟩
    have HRB : Hid (∀ b, rowB ⟨⟨a2, dl, c2⟩, ⟨none, 0, 0⟩⟩ b → (Value.slice a2 dl c2).ownBlock = some b) := fun b hb => hb.elim id (fun q => by cases q)
    clear v4
    go_upto_region 8 with fail
    have hRBlt : ∀ b, rowB ⟨⟨a2, dl, c2⟩, ⟨none, 0, 0⟩⟩ b → Y2.heap.size ≤ b := fun b hb => (HO3.out.lt b (HRB.out b hb)).1
    have HRL := Lib.hid hRBlt
    clear hRBlt
    have HDR : Hid (Go.RowKit.Below Y4.heap.size Y4 Y4.drew) := (Go.RowKit.Below.refl _ _).drew
    have HH := Lib.hid ((H4.out.below HDR.out).hold (C := fun b => ((B b ∨ b = W.heap.size) ∨ b = Y.heap.size) ∨ b = b3) ⟨⟨a2, dl, c2⟩, ⟨none, 0, 0⟩⟩ ⟨n.segs.drop (d + 1), []⟩ (HNA.out.below HDR.out) (fun b hb => ⟨by have := HRL.out b hb; have := (H2.out.size Y.heap.size (.inr rfl)).1; have := HSZ2.out; omega, .inr (.inr (HRB.out b hb))⟩) hroom (fun b hb => ⟨hb.imp id .inl, fun hr => by
      have h1 := HRL.out b hr
      rcases hb with ((hb | rfl) | rfl) | rfl
      · have := (H2.out.size b (.inl (.inl hb))).2; omega
      · have := HSZ1.out; have := HSZ2.out; omega
      · have := HSZ2.out; omega
      · exact (HD3.out b (HRB.out b hr)) rfl⟩))
    have HS1 : Hid (Cells5 Y4.drew Y.heap.size 0 mid ∧ Y4.drew.cell? ⟨b3, 0, none⟩ = some (.slice a2 dl c2) ∧ Y4.drew.cell? ⟨b3, 1, none⟩ = some (.slice none 0 0)) := ⟨five_cells HM4.out, (nd_cells HN4.out).1, (nd_cells HN4.out).2⟩
    have HKD : Hid (∀ b, B b → Y4.drew.heap[b]? = W.heap[b]?) := HKB4.out
    obtain ⟨q1, q2, q3, q4, q5⟩ := HS1.out.1
    simp only [Nat.zero_add] at q1 q2 q3 q4 q5
    have HSS : Hid (Y4.drew.cell? ⟨Y.heap.size, 0, none⟩ = some (.int .i64 mid.ls) ∧ Y4.drew.cell? ⟨Y.heap.size, 1, none⟩ = some (.int .i64 mid.la) ∧ Y4.drew.cell? ⟨Y.heap.size, 2, none⟩ = some (.int .i64 mid.hs) ∧ Y4.drew.cell? ⟨Y.heap.size, 3, none⟩ = some (.int .i64 mid.ha) ∧ Y4.drew.cell? ⟨Y.heap.size, 4, none⟩ = some (.int .i64 mid.v) ∧ Y4.drew.cell? ⟨b3, 0, none⟩ = some (.slice a2 dl c2) ∧ Y4.drew.cell? ⟨b3, 1, none⟩ = some (.slice none 0 0)) := ⟨q1, q2, q3, q4, q5, HS1.out.2⟩
    clear q1 q2 q3 q4 q5
    go_region_held3 (fun w' => w'.cell? ⟨Y.heap.size, 0, none⟩ = some (.int .i64 mid.ls) ∧ w'.cell? ⟨Y.heap.size, 1, none⟩ = some (.int .i64 mid.la) ∧ w'.cell? ⟨Y.heap.size, 2, none⟩ = some (.int .i64 mid.hs) ∧ w'.cell? ⟨Y.heap.size, 3, none⟩ = some (.int .i64 mid.ha) ∧ w'.cell? ⟨Y.heap.size, 4, none⟩ = some (.int .i64 mid.v) ∧ w'.cell? ⟨b3, 0, none⟩ = some (.slice a2 dl c2) ∧ w'.cell? ⟨b3, 1, none⟩ = some (.slice none 0 0))
      (with_reducible first | exact HSS.out | exact HS5.out | exact HS6.out)
      (first
        | (go_at_call 102; refine HH.out.mono ?_; rintro e y ⟨q, rfl, hno, hst, hkb⟩; have HNO := Lib.hid hno; have HST := Lib.hid hst; have HKY := Lib.hid hkb; have hMy := kp_box hkb (.inl (.inr rfl)) (show Y4.drew.heap[Y.heap.size]? = some (oG mid) from HM4.out); have hNy := kp_box hkb (.inr (.inl rfl)) (show Y4.drew.heap[b3]? = some (ndO ⟨⟨a2, dl, c2⟩, ⟨none, 0, 0⟩⟩) from HN4.out); have hRy := kp_box hkb (.inl (.inl (.inr rfl))) (show Y4.drew.heap[W.heap.size]? = some zG from HR4.out); have HRY := Lib.hid hRy
           have HS5 : Hid (y.cell? ⟨Y.heap.size, 0, none⟩ = some (.int .i64 mid.ls) ∧ y.cell? ⟨Y.heap.size, 1, none⟩ = some (.int .i64 mid.la) ∧ y.cell? ⟨Y.heap.size, 2, none⟩ = some (.int .i64 mid.hs) ∧ y.cell? ⟨Y.heap.size, 3, none⟩ = some (.int .i64 mid.ha) ∧ y.cell? ⟨Y.heap.size, 4, none⟩ = some (.int .i64 mid.v) ∧ y.cell? ⟨b3, 0, none⟩ = some (.slice a2 dl c2) ∧ y.cell? ⟨b3, 1, none⟩ = some (.slice none 0 0)) := (by obtain ⟨q1, q2, q3, q4, q5⟩ := five_cells hMy; simp only [Nat.zero_add] at q1 q2 q3 q4 q5; exact ⟨q1, q2, q3, q4, q5, nd_cells hNy⟩)
           have HS6 : Hid ((seg5 y W.heap.size mid).cell? ⟨Y.heap.size, 0, none⟩ = some (.int .i64 mid.ls) ∧ (seg5 y W.heap.size mid).cell? ⟨Y.heap.size, 1, none⟩ = some (.int .i64 mid.la) ∧ (seg5 y W.heap.size mid).cell? ⟨Y.heap.size, 2, none⟩ = some (.int .i64 mid.hs) ∧ (seg5 y W.heap.size mid).cell? ⟨Y.heap.size, 3, none⟩ = some (.int .i64 mid.ha) ∧ (seg5 y W.heap.size mid).cell? ⟨Y.heap.size, 4, none⟩ = some (.int .i64 mid.v) ∧ (seg5 y W.heap.size mid).cell? ⟨b3, 0, none⟩ = some (.slice a2 dl c2) ∧ (seg5 y W.heap.size mid).cell? ⟨b3, 1, none⟩ = some (.slice none 0 0)) := (by obtain ⟨q1, q2, q3, q4, q5⟩ := five_cells (five_far hMy (by have := HSZ1.out; omega : Y.heap.size ≠ W.heap.size) mid); simp only [Nat.zero_add] at q1 q2 q3 q4 q5; exact ⟨q1, q2, q3, q4, q5, nd_cells (five_far hNy (by have := HSZ1.out; have := HSZ2.out; have := HL3.out; omega : b3 ≠ W.heap.size) mid)⟩)
           obtain ⟨d0, d1, d2, d3, d4⟩ := five_cells (g := g0) hRy; have z0 := five_frozen (g := g0) hRy 0; have z1 := five_frozen (g := g0) hRy 1; have z2 := five_frozen (g := g0) hRy 2; have z3 := five_frozen (g := g0) hRy 3; have z4 := five_frozen (g := g0) hRy 4; simp only [Nat.zero_add] at d1 d2 d3 d4; clear hno hst hkb hMy hNy hRy))
    all_goals
      obtain ⟨q0, q1, q2, q3, q4⟩ := five_cells (five_put (g := g0) HRY.out mid)
      simp only [Nat.zero_add] at q1 q2 q3 q4
      go_wp2_with fail
      refine bodyPost_ret (v := .tuple #[vG mid, .int .i64 (q : Int)]) (by simp [results, Try.results91, go_sem, q0, q1, q2, q3, q4]) rfl ?_
      have hqp : q ≠ p := fun e => by
        have := HNO.out
        rw [e] at this
        rw [updK_self] at this; cases this
      have hqn : t.f (q : Int) = none := by
        have := HNO.out
        rw [updK_nat _ _ _ _ hqp] at this; exact this
      refine ⟨q, rfl, hqn, hqp, ?_, fun b hb => ?_⟩
      · exact (((((HST.out.box _ (.inl (.inl (.inr rfl))) 0 _).box _ (.inl (.inl (.inr rfl))) 1 _).box _ (.inl (.inl (.inr rfl))) 2 _).box _ (.inl (.inl (.inr rfl))) 3 _).box _ (.inl (.inl (.inr rfl))) 4 _).less (fun b hb => .inl (.inl (.inl hb)))
      · have hlt := (HW.out.size b hb).2
        obtain ⟨o, ho⟩ : ∃ o, W.heap[b]? = some o := ⟨_, Array.getElem?_eq_getElem hlt⟩
        rw [ho]
        exact five_far ((HKY.out b (.inl (.inl (.inl hb)))).trans ((HKD.out b hb).trans ho)) (by omega) mid
end Go.Proofs.Ytjgcdmeojjnjlaa
