/- A part of the proof: contracts of the functions that the statements reach. -/
import Derived.RangeFuncNested
import Derived.RangeFuncBound
import Derived.RangeFuncCalls
import Derived.RangeFuncLeaves
import Derived.Shelf.Abstract
import Derived.Shelf.RegionOpen
import Derived.WalkKit
import Derived.OwnWalkIn
import Derived.TacticsInMore
import Derived.LoopNIn
import Derived.LoopIn
import Derived.Shelf.SlSortCmp.WholeK
import Derived.WalkSpells
import Derived.WalkLawsBesides
import Derived.Lib.Hide
import Derived.Laws.StructEq
import Derived.Shelf.SlSortCmp.QuietGrown
import Derived.Laws.EntriesVeiled
import Derived.Deep.CutRange
import Derived.RegionTactic
import Derived.Lib.QuietBelow
import Derived.BigQuiet
import Derived.OpenShut
import Derived.Deep.RegionHeld3
import Derived.Deep.QuietTactic
import Derived.Maps.AppendAt
import Derived.Laws.IdiomCopy
import Derived.Deep.AppendLies
import Derived.Deep.LoopGhost
import Derived.Deep.Upon
import Derived.StillTailTactics
import Derived.Lib.SmallJoins
import Derived.Deep.SlicePairs
import Derived.Deep.Strs
import Derived.ChangeOld
import Derived.SizedLaws
import Derived.Lib.SliceRun
import Derived.Laws.CopyRow
import Derived.Below
import Derived.Laws.CopyOwn
import Derived.Deep.RegionLaw
import Derived.Test.YtjgcdmeojjnjlaaCC

/- The way down in a B-tree that a question tells. No Go in sight. -/
namespace Go.Proofs.Ytjgcdmeojjnjlaa.Bb
open Go.Proofs.Ytjgcdmeojjnjlaa.Bo
/-- How many segments of a node fit, the first ones. -/
def fitN (fits : G5 → Bool) (s : List G5) : Nat := (s.takeWhile fits).length
theorem fitN_le (fits : G5 → Bool) (s : List G5) : fitN fits s ≤ s.length := by
  unfold fitN
  have := (List.takeWhile_sublist fits (l := s)).length_le
  exact this
theorem fitN_take (fits : G5 → Bool) (s : List G5) : s.take (fitN fits s) = s.takeWhile fits := by
  unfold fitN
  induction s with
  | nil => rfl
  | cons x s ih =>
    by_cases h : fits x = true
    · rw [List.takeWhile_cons_of_pos h, List.length_cons, List.take_succ_cons, ih]
    · rw [List.takeWhile_cons_of_neg h]; rfl
theorem fitN_fits (fits : G5 → Bool) (s : List G5) : ∀ g ∈ s.take (fitN fits s), fits g = true := by
  rw [fitN_take]
  intro g hg
  induction s with
  | nil => simp at hg
  | cons x s ih =>
    by_cases h : fits x = true
    · rw [List.takeWhile_cons_of_pos h] at hg
      rcases List.mem_cons.1 hg with rfl | hg
      · exact h
      · exact ih hg
    · rw [List.takeWhile_cons_of_neg h] at hg; simp at hg
theorem fitN_next (fits : G5 → Bool) (s : List G5) (h : fitN fits s < s.length) : fits s[fitN fits s] = false := by
  unfold fitN at h ⊢
  induction s with
  | nil => simp at h
  | cons x s ih =>
    by_cases e : fits x = true
    · simp only [List.takeWhile_cons_of_pos e, List.length_cons] at h ⊢
      have := ih (by omega)
      simpa using this
    · simp only [List.takeWhile_cons_of_neg e, List.length_nil] at h ⊢
      simpa using e
/-- Those that fit stand ahead of the others. -/
def Mono (fits : G5 → Bool) (l : List G5) : Prop := l.Pairwise (fun a b => fits b = true → fits a = true)
theorem Mono.left {fits : G5 → Bool} {a b : List G5} (h : Mono fits (a ++ b)) : Mono fits a := (List.pairwise_append.1 h).1
theorem Mono.right {fits : G5 → Bool} {a b : List G5} (h : Mono fits (a ++ b)) : Mono fits b := (List.pairwise_append.1 h).2.1
theorem Mono.ahead {fits : G5 → Bool} {a b : List G5} {x : G5} (h : Mono fits (a ++ x :: b)) (hx : fits x = true) : ∀ g ∈ a, fits g = true := fun g hg => (List.pairwise_append.1 h).2.2 g hg x (List.mem_cons_self ..) hx
theorem Mono.behind {fits : G5 → Bool} {b : List G5} {x : G5} (h : Mono fits (x :: b)) (hx : fits x = false) : ∀ g ∈ x :: b, fits g = false := by
  intro g hg
  rcases List.mem_cons.1 hg with rfl | hg
  · exact hx
  · cases e : fits g with
    | false => rfl
    | true => rw [(List.pairwise_cons.1 h).1 g hg e] at hx; cases hx
theorem wl_fits (fits : G5 → Bool) : ∀ (xs : List G5) (rs : List (List G5)), Mono fits (wl rs xs) → (∀ x ∈ xs, fits x = true) → ∀ g ∈ wl rs xs, fits g = true := by
  intro xs
  induction xs with
  | nil => intro rs _ _ g hg; rw [wl_nil] at hg; simp at hg
  | cons x xs ih =>
    intro rs hm hx g hg
    cases rs with
    | nil => simp [wl] at hg
    | cons r rs =>
      simp only [wl] at hm hg
      have h1 := hx x (List.mem_cons_self ..)
      rcases List.mem_append.1 hg with hg | hg
      · exact hm.ahead h1 g hg
      · rcases List.mem_cons.1 hg with rfl | hg
        · exact h1
        · exact ih rs (List.pairwise_cons.1 hm.right).2 (fun z hz => hx z (List.mem_cons_of_mem _ hz)) g hg
theorem wr_fits (fits : G5 → Bool) (xs : List G5) (rs : List (List G5)) (hm : Mono fits (wr xs rs)) (hx : ∀ h : 0 < xs.length, fits xs[0] = false) : ∀ g ∈ wr xs rs, fits g = false := by
  cases xs with
  | nil => intro g hg; simp [wr] at hg
  | cons x xs => cases rs with
    | nil => intro g hg; simp [wr] at hg
    | cons r rs => exact hm.behind (hx (by simp))
/-- Down from t, with cx above it: to a node without children. -/
def dnB (fits : G5 → Bool) : Nat → Bt → List BF → List BF × Bt
  | 0, t, cx => (cx, t)
  | h + 1, t, cx => match t.ks.drop (fitN fits t.s) with
    | [] => (cx, t)
    | c :: r => dnB fits h c (⟨t.i, t.s, t.ks.take (fitN fits t.s), r⟩ :: cx)
/-- What is known of such a way. -/
structure WayB (f : Int → Option Kn) (fits : G5 → Bool) (H : Nat) (x : Bt) (w : List BF × Bt) : Prop where
  plug : bplug w.1 w.2 = x
  len : w.1.length = H
  ctx : RepX f 0 w.1 w.2.idx
  leaf : RepB f 0 w.2
  pre : ∀ g ∈ bpre 0 w.1, fits g = true
  post : ∀ g ∈ bpost 0 w.1, fits g = false
  at_ : ∀ y ∈ w.1, y.l.length = fitN fits y.s
theorem dnB_way {f : Int → Option Kn} (fits : G5 → Bool) (H : Nat) (x : Bt) : ∀ (h : Nat) (t : Bt) (cx : List BF), bplug cx t = x → cx.length + h = H → RepX f h cx t.idx → RepB f h t → Mono fits (Bt.ino h t) →
    (∀ g ∈ bpre h cx, fits g = true) → (∀ g ∈ bpost h cx, fits g = false) → (∀ y ∈ cx, y.l.length = fitN fits y.s) → WayB f fits H x (dnB fits h t cx) := by
  intro h
  induction h with
  | zero => intro t cx h1 h2 h3 h4 _ h6 h7 h8; exact ⟨h1, by simpa [dnB] using h2, h3, h4, h6, h7, h8⟩
  | succ h ih =>
    intro t cx h1 h2 h3 h4 h5 h6 h7 h8
    obtain ⟨k1, k2, k3⟩ := h4
    have hle := fitN_le fits t.s
    have hlt : fitN fits t.s < t.ks.length := by omega
    have hd : t.ks.drop (fitN fits t.s) = t.ks[fitN fits t.s] :: t.ks.drop (fitN fits t.s + 1) := List.drop_eq_getElem_cons hlt
    have hks : t.ks = t.ks.take (fitN fits t.s) ++ t.ks[fitN fits t.s] :: t.ks.drop (fitN fits t.s + 1) := by rw [← hd, List.take_append_drop]
    have hlen : (t.ks.take (fitN fits t.s)).length = fitN fits t.s := by rw [List.length_take]; omega
    have hyok : (⟨t.i, t.s, t.ks.take (fitN fits t.s), t.ks.drop (fitN fits t.s + 1)⟩ : BF).ok := by
      show t.s.length = (t.ks.take (fitN fits t.s)).length + (t.ks.drop (fitN fits t.s + 1)).length
      rw [hlen, List.length_drop]; omega
    unfold dnB
    rw [hd]
    dsimp only
    generalize hc : t.ks[fitN fits t.s] = c at *
    have hino : Bt.ino (h + 1) t = wl ((t.ks.take (fitN fits t.s)).map (Bt.ino h)) (t.s.take (t.ks.take (fitN fits t.s)).length) ++ (Bt.ino h c ++ wr (t.s.drop (t.ks.take (fitN fits t.s)).length) ((t.ks.drop (fitN fits t.s + 1)).map (Bt.ino h))) := by
      have := Bt.ino_split h t.i (t.ks.take (fitN fits t.s)) c (t.ks.drop (fitN fits t.s + 1)) t.s hyok
      rw [← hks, Bt.eta] at this
      exact this
    rw [hino] at h5
    refine ih c _ ?_ (by simp; omega) ⟨?_, hyok, fun k hk => k3 k ?_, h3⟩ (k3 c (by rw [hks]; simp)) h5.right.left ?_ ?_ ?_
    · show bplug cx (.mk t.i t.s (t.ks.take (fitN fits t.s) ++ c :: t.ks.drop (fitN fits t.s + 1))) = x
      rw [← hks, Bt.eta]; exact h1
    · show f (t.i : Int) = some ⟨t.s, (t.ks.take (fitN fits t.s)).map Bt.idx ++ c.idx :: (t.ks.drop (fitN fits t.s + 1)).map Bt.idx⟩
      rw [← List.map_cons, ← List.map_append, ← hks]
      exact k1
    · rcases List.mem_append.1 hk with hk | hk
      · exact List.mem_of_mem_take hk
      · exact List.mem_of_mem_drop hk
    · intro g hg
      rcases List.mem_append.1 hg with hg | hg
      · exact h6 g hg
      · refine wl_fits fits _ _ h5.left (fun z hz => ?_) g hg
        rw [hlen] at hz
        exact fitN_fits fits t.s z hz
    · intro g hg
      rcases List.mem_append.1 hg with hg | hg
      · refine wr_fits fits _ _ h5.right.right (fun hp => ?_) g hg
        rw [hlen, List.length_drop] at hp
        have := fitN_next fits t.s (by omega)
        simp only [hlen, List.getElem_drop, Nat.add_zero]
        exact this
      · exact h7 g hg
    · intro y hy
      rcases List.mem_cons.1 hy with rfl | hy
      · exact hlen
      · exact h8 y hy
/-- The steps of a way, the innermost first: each node's segments, and how many stand ahead. -/
def stepsB (fits : G5 → Bool) (w : List BF × Bt) : List (List G5 × Nat) := (w.2.s, fitN fits w.2.s) :: w.1.map (fun y => (y.s, y.l.length))
/-- The last one ahead of the way, the first one behind it. -/
def aheadS : List (List G5 × Nat) → Option G5
  | [] => none
  | (s, a) :: w => if 0 < a then s[a - 1]? else aheadS w
def behindS : List (List G5 × Nat) → Option G5
  | [] => none
  | (s, a) :: w => if a < s.length then s[a]? else behindS w
theorem wl_last : ∀ (xs : List G5) (rs : List (List G5)), xs.length = rs.length → (wl rs xs).getLast? = xs.getLast? := by
  intro xs
  induction xs with
  | nil => intro rs _; rw [wl_nil]
  | cons x xs ih =>
    intro rs h
    cases rs with
    | nil => simp at h
    | cons r rs =>
      simp only [wl]
      rw [List.getLast?_append, List.getLast?_cons, List.getLast?_cons, ih rs (by simpa using h)]
      cases xs.getLast? <;> rfl
theorem take_last (s : List G5) (a : Nat) (h : 0 < a) (ha : a ≤ s.length) : (s.take a).getLast? = s[a - 1]? := by
  rw [List.getLast?_eq_getElem?, List.length_take, Nat.min_eq_left ha, List.getElem?_take, if_pos (by omega)]
theorem aheadS_ctx (cx : List BF) : ∀ (h : Nat), (∀ y ∈ cx, y.ok) → aheadS (cx.map (fun y => (y.s, y.l.length))) = (bpre h cx).getLast? := by
  induction cx with
  | nil => intro h _; rfl
  | cons y cx ih =>
    intro h hok
    have hy := hok y (List.mem_cons_self ..)
    unfold BF.ok at hy
    have hl : (y.s.take y.l.length).length = (y.l.map (Bt.ino h)).length := by rw [List.length_take, List.length_map]; omega
    simp only [List.map_cons, aheadS, bpre]
    rw [List.getLast?_append, wl_last _ _ hl]
    by_cases e : 0 < y.l.length
    · rw [if_pos e, take_last _ _ e (by omega)]
      rw [List.getElem?_eq_getElem (by omega)]; rfl
    · rw [if_neg e, ih (h + 1) (fun z hz => hok z (List.mem_cons_of_mem _ hz))]
      have : y.l.length = 0 := by omega
      rw [this]; simp
theorem behindS_ctx (cx : List BF) : ∀ (h : Nat), (∀ y ∈ cx, y.ok) → behindS (cx.map (fun y => (y.s, y.l.length))) = (bpost h cx).head? := by
  induction cx with
  | nil => intro h _; rfl
  | cons y cx ih =>
    intro h hok
    have hy := hok y (List.mem_cons_self ..)
    unfold BF.ok at hy
    simp only [List.map_cons, behindS, bpost]
    by_cases e : y.l.length < y.s.length
    · have hd := List.drop_eq_getElem_cons e
      cases hr : y.r with
      | nil => rw [hr] at hy; simp at hy; omega
      | cons k r => rw [if_pos e, List.getElem?_eq_getElem e, hd]; rfl
    · rw [if_neg e, ih (h + 1) (fun z hz => hok z (List.mem_cons_of_mem _ hz))]
      rw [List.drop_eq_nil_of_le (by omega)]; simp [wr]
section
variable {f : Int → Option Kn} {fits : G5 → Bool} {H : Nat} {x : Bt} {w : List BF × Bt}
/-- The row ahead of a way, and behind it. -/
def aheadR (fits : G5 → Bool) (w : List BF × Bt) : List G5 := bpre 0 w.1 ++ w.2.s.take (fitN fits w.2.s)
def behindR (fits : G5 → Bool) (w : List BF × Bt) : List G5 := w.2.s.drop (fitN fits w.2.s) ++ bpost 0 w.1
theorem WayB.row (h : WayB f fits H x w) : Bt.ino H x = aheadR fits w ++ behindR fits w := by
  have h1 := ino_plug w.1 0 w.2 (repX_ok _ _ _ h.ctx)
  rw [Nat.zero_add, h.len, h.plug] at h1
  rw [h1]
  unfold aheadR behindR
  rw [List.append_assoc, ← List.append_assoc (w.2.s.take _), List.take_append_drop]
  rfl
theorem WayB.aheadS (h : WayB f fits H x w) : aheadS (stepsB fits w) = (aheadR fits w).getLast? := by
  unfold stepsB aheadR
  rw [List.getLast?_append]
  have hle := fitN_le fits w.2.s
  have h1 := aheadS_ctx w.1 0 (repX_ok _ _ _ h.ctx)
  show (if 0 < fitN fits w.2.s then _ else _) = _
  by_cases e : 0 < fitN fits w.2.s
  · rw [if_pos e, take_last _ _ e hle, List.getElem?_eq_getElem (by omega)]; rfl
  · rw [if_neg e]
    have : fitN fits w.2.s = 0 := by omega
    rw [this, h1]; simp
theorem WayB.behindS (h : WayB f fits H x w) : behindS (stepsB fits w) = (behindR fits w).head? := by
  unfold stepsB behindR
  have h1 := behindS_ctx w.1 0 (repX_ok _ _ _ h.ctx)
  show (if fitN fits w.2.s < w.2.s.length then _ else _) = _
  by_cases e : fitN fits w.2.s < w.2.s.length
  · have hd := List.drop_eq_getElem_cons e
    rw [if_pos e, List.getElem?_eq_getElem e, hd]; rfl
  · rw [if_neg e, List.drop_eq_nil_of_le (by omega), h1]; simp
theorem WayB.fitsA (h : WayB f fits H x w) : ∀ g ∈ aheadR fits w, fits g = true := by
  intro g hg
  rcases List.mem_append.1 hg with hg | hg
  · exact h.pre g hg
  · exact fitN_fits fits _ g hg
theorem WayB.fitsB (h : WayB f fits H x w) (hm : Mono fits (Bt.ino H x)) : ∀ g ∈ behindR fits w, fits g = false := by
  rw [h.row] at hm
  intro g hg
  rcases List.mem_append.1 hg with hg | hg
  · have hm2 : Mono fits (w.2.s.drop (fitN fits w.2.s)) := hm.right.left
    by_cases e : fitN fits w.2.s < w.2.s.length
    · rw [List.drop_eq_getElem_cons e] at hg hm2
      exact hm2.behind (fitN_next fits _ e) g hg
    · rw [List.drop_eq_nil_of_le (by omega)] at hg; simp at hg
  · exact h.post g hg
theorem WayB.filter (h : WayB f fits H x w) (hm : Mono fits (Bt.ino H x)) : (Bt.ino H x).filter fits = aheadR fits w ∧ (Bt.ino H x).filter (fun g => !fits g) = behindR fits w := by
  have h1 := h.fitsA
  have h2 := h.fitsB hm
  rw [h.row, List.filter_append, List.filter_append, List.filter_eq_self.2 h1, List.filter_eq_nil_iff.2 (fun g hg => by rw [h2 g hg]; simp), List.filter_eq_nil_iff.2 (fun g hg => by rw [h1 g hg]; simp), List.filter_eq_self.2 (fun g hg => by rw [h2 g hg]; rfl)]
  simp
end
theorem mono_of (l : List G5) (h : RowOk l) (q : Int → Bool) (hq : ∀ a b, a < b → q b = true → q a = true) : Mono (fun g => q g.key) l :=
  ((ris_iff l).1 h.ris).imp (fun {a b} hab => hq a.key b.key hab)
end Go.Proofs.Ytjgcdmeojjnjlaa.Bb
/- A segment is laid into a B-tree: nodes are split from the leaf on. No Go in sight. -/
namespace Go.Proofs.Ytjgcdmeojjnjlaa.Bb
open Go.Proofs.Ytjgcdmeojjnjlaa.Bo
def updK (f : Int → Option Kn) (i : Int) (v : Option Kn) : Int → Option Kn := fun j => if j = i then v else f j
theorem updK_self (f : Int → Option Kn) (i : Int) (v : Option Kn) : updK f i v i = v := if_pos rfl
theorem updK_ne (f : Int → Option Kn) (i j : Int) (v : Option Kn) (h : j ≠ i) : updK f i v j = f j := if_neg h
theorem updK_nat (f : Int → Option Kn) (i j : Nat) (v : Option Kn) (h : j ≠ i) : updK f (i : Int) v (j : Int) = f (j : Int) := updK_ne _ _ _ _ (by omega)
/-- A tree t of the height h in the way cx, and trees that hang nowhere yet: there are no other nodes; how many there are; where the root is. -/
structure Zo (f : Int → Option Kn) (n : Nat) (root : Int) (h : Nat) (cx : List BF) (t : Bt) (fl : List Bt) : Prop where
  ctx : RepX f h cx t.idx
  tree : RepB f h t
  loose : ∀ k ∈ fl, RepB f h k
  nd : (bcids h cx ++ (Bt.ids h t ++ fl.flatMap (Bt.ids h))).Nodup
  all : ∀ k : Int, f k ≠ none → ∃ m ∈ bcids h cx ++ (Bt.ids h t ++ fl.flatMap (Bt.ids h)), k = (m : Int)
  cnt : n = (bcids h cx ++ (Bt.ids h t ++ fl.flatMap (Bt.ids h))).length
  root : root = (bplug cx t).idx
theorem bplug_i (cx : List BF) (t u : Bt) (h : t.i = u.i) : (bplug cx t).i = (bplug cx u).i := by
  induction cx generalizing t u with
  | nil => exact h
  | cons y cx ih => exact ih _ _ rfl
theorem bplug_idx (cx : List BF) (t u : Bt) (h : t.i = u.i) : (bplug cx t).idx = (bplug cx u).idx := by unfold Bt.idx; rw [bplug_i cx t u h]
theorem Zo.mem {f : Int → Option Kn} {n : Nat} {root : Int} {h : Nat} {cx : List BF} {t : Bt} {fl : List Bt} (z : Zo f n root h cx t fl) (j : Nat) (hj : f (j : Int) = none) : j ∉ bcids h cx ∧ j ∉ Bt.ids h t ∧ j ∉ fl.flatMap (Bt.ids h) := by
  have inT : ∀ (h : Nat) (t : Bt), RepB f h t → j ∉ Bt.ids h t := by
    intro h
    induction h with
    | zero => rintro t ⟨h1, _⟩ hm; simp [Bt.ids] at hm; subst hm; rw [h1] at hj; cases hj
    | succ h ih =>
      rintro t ⟨h1, _, h3⟩ hm
      simp only [Bt.ids, List.mem_cons, List.mem_flatMap] at hm
      rcases hm with rfl | ⟨k, hk, hm⟩
      · rw [h1] at hj; cases hj
      · exact ih k (h3 k hk) hm
  have inX : ∀ (cx : List BF) (h : Nat) (c : Int), RepX f h cx c → j ∉ bcids h cx := by
    intro cx
    induction cx with
    | nil => intro h c _ hm; simp [bcids] at hm
    | cons y cx ih =>
      rintro h c ⟨h1, _, h3, h4⟩ hm
      simp only [bcids, List.mem_cons, List.mem_append, List.mem_flatMap] at hm
      rcases hm with rfl | (⟨k, hk, hm⟩ | ⟨k, hk, hm⟩) | hm
      · rw [h1] at hj; cases hj
      · exact inT h k (h3 k (by simp [hk])) hm
      · exact inT h k (h3 k (by simp [hk])) hm
      · exact ih _ _ h4 hm
  refine ⟨inX _ _ _ z.ctx, inT _ _ z.tree, fun hm => ?_⟩
  obtain ⟨k, hk, hm⟩ := List.mem_flatMap.1 hm
  exact inT _ _ (z.loose k hk) hm
/-- The context stays where what it speaks of stays. -/
theorem Zo.ctx_keep {f g : Int → Option Kn} {n : Nat} {root : Int} {h : Nat} {cx : List BF} {t : Bt} {fl : List Bt} (z : Zo f n root h cx t fl) (hf : ∀ k ∈ bcids h cx, g (k : Int) = f (k : Int)) : RepX g h cx t.idx := repX_congr _ _ _ hf z.ctx
/-- What stands in the way's hole is replaced. -/
theorem Zo.repl {f g : Int → Option Kn} {n m : Nat} {root : Int} {h : Nat} {cx : List BF} {t u : Bt} {fl gl : List Bt} (z : Zo f n root h cx t fl) (hi : u.i = t.i) (hf : ∀ k ∈ bcids h cx, g (k : Int) = f (k : Int)) (hu : RepB g h u) (hg : ∀ k ∈ gl, RepB g h k)
    (hnd : (Bt.ids h u ++ gl.flatMap (Bt.ids h)).Nodup) (hdis : ∀ k ∈ Bt.ids h u ++ gl.flatMap (Bt.ids h), k ∉ bcids h cx) (hall : ∀ k : Int, g k ≠ none → (∃ m ∈ Bt.ids h u ++ gl.flatMap (Bt.ids h), k = (m : Int)) ∨ f k ≠ none ∧ ∀ m ∈ Bt.ids h t ++ fl.flatMap (Bt.ids h), k ≠ (m : Int))
    (hm : m + (Bt.ids h t ++ fl.flatMap (Bt.ids h)).length = n + (Bt.ids h u ++ gl.flatMap (Bt.ids h)).length) : Zo g m root h cx u gl := by
  have hidx : u.idx = t.idx := by unfold Bt.idx; rw [hi]
  refine ⟨hidx ▸ z.ctx_keep hf, hu, hg, ?_, ?_, ?_, by rw [z.root]; exact bplug_idx cx t u hi.symm⟩
  · rw [List.nodup_append]
    exact ⟨(List.nodup_append.1 z.nd).1, hnd, fun a ha b hb e => hdis b hb (e ▸ ha)⟩
  · intro k hk
    rcases hall k hk with ⟨j, hj, e⟩ | ⟨h1, h2⟩
    · exact ⟨j, List.mem_append.2 (.inr hj), e⟩
    · obtain ⟨j, hj, e⟩ := z.all k h1
      rcases List.mem_append.1 hj with hj | hj
      · exact ⟨j, List.mem_append.2 (.inl hj), e⟩
      · exact absurd e (h2 j hj)
  · have := z.cnt
    simp only [List.length_append] at this hm ⊢
    omega
/-- A frame is taken into the hole, or one of the hole's node is made a frame. -/
theorem Zo.fold {f : Int → Option Kn} {n : Nat} {root : Int} {h : Nat} {y : BF} {cx : List BF} {t : Bt} (z : Zo f n root h (y :: cx) t []) : Zo f n root (h + 1) cx (.mk y.i y.s (y.l ++ t :: y.r)) [] := by
  obtain ⟨⟨h1, h2, h3, h4⟩, hb, _, hnd, hall, hcnt, hroot⟩ := z
  have hp : (bcids (h + 1) cx ++ (Bt.ids (h + 1) (.mk y.i y.s (y.l ++ t :: y.r)) ++ [].flatMap (Bt.ids (h + 1)))).Perm (bcids h (y :: cx) ++ (Bt.ids h t ++ [].flatMap (Bt.ids h))) := by
    simp only [List.flatMap_nil, List.append_nil]
    have e1 := ids_plug cx (h + 1) (.mk y.i y.s (y.l ++ t :: y.r))
    have e2 := ids_plug (y :: cx) h t
    rw [hsucc h y cx] at e1
    exact e1.symm.trans e2
  refine ⟨h4, ⟨by show f (y.i : Int) = some ⟨y.s, (y.l ++ t :: y.r).map Bt.idx⟩; rw [h1]; simp, by unfold BF.ok at h2; simp [Bt.ks, Bt.s]; omega, fun k hk => ?_⟩, fun k hk => by simp at hk, hp.nodup_iff.2 hnd, fun k hk => ?_, hcnt.trans hp.length_eq.symm, hroot⟩
  · simp [Bt.ks] at hk
    rcases hk with hk | rfl | hk
    · exact h3 k (by simp [hk])
    · exact hb
    · exact h3 k (by simp [hk])
  · obtain ⟨m, hm, e⟩ := hall k hk
    exact ⟨m, hp.mem_iff.2 hm, e⟩
theorem Zo.unfold {f : Int → Option Kn} {n : Nat} {root : Int} {h i : Nat} {s : List G5} {l r : List Bt} {cx : List BF} {t : Bt} (z : Zo f n root (h + 1) cx (.mk i s (l ++ t :: r)) []) : Zo f n root h (⟨i, s, l, r⟩ :: cx) t [] := by
  obtain ⟨hc, ⟨h1, h2, h3⟩, _, hnd, hall, hcnt, hroot⟩ := z
  have hp : (bcids (h + 1) cx ++ (Bt.ids (h + 1) (.mk i s (l ++ t :: r)) ++ [].flatMap (Bt.ids (h + 1)))).Perm (bcids h (⟨i, s, l, r⟩ :: cx) ++ (Bt.ids h t ++ [].flatMap (Bt.ids h))) := by
    simp only [List.flatMap_nil, List.append_nil]
    have e1 := ids_plug cx (h + 1) (.mk i s (l ++ t :: r))
    have e2 := ids_plug (⟨i, s, l, r⟩ :: cx) h t
    rw [hsucc h ⟨i, s, l, r⟩ cx] at e1
    exact e1.symm.trans e2
  have h1' : f (i : Int) = some ⟨s, l.map Bt.idx ++ t.idx :: r.map Bt.idx⟩ := by have : f (i : Int) = some ⟨s, (l ++ t :: r).map Bt.idx⟩ := h1; rw [this]; simp
  refine ⟨⟨h1', by unfold BF.ok; simp [Bt.ks, Bt.s] at h2 ⊢; omega, fun k hk => h3 k (by simp [Bt.ks] at hk ⊢; rcases hk with hk | hk; exact .inl hk; exact .inr (.inr hk)), hc⟩, h3 t (by simp [Bt.ks]), fun k hk => by simp at hk, hp.nodup_iff.1 hnd, fun k hk => ?_, hcnt.trans hp.length_eq, hroot⟩
  obtain ⟨m, hm, e⟩ := hall k hk
  exact ⟨m, hp.mem_iff.1 hm, e⟩
def insL {α : Type} (l : List α) (i : Nat) (v : α) : List α := l.take i ++ v :: l.drop i
theorem insL_len {α : Type} (l : List α) (i : Nat) (v : α) (h : i ≤ l.length) : (insL l i v).length = l.length + 1 := by unfold insL; simp; omega
theorem insL_at {α : Type} (a b : List α) (v : α) : insL (a ++ b) a.length v = a ++ v :: b := by unfold insL; simp
/-- A frame takes the segment s, and the tree u behind the one in its hole. -/
theorem Zo.lay {f : Int → Option Kn} {n : Nat} {root : Int} {h : Nat} {y : BF} {cx : List BF} {t u : Bt} (z : Zo f n root h (y :: cx) t [u]) (s : G5) :
    Zo (updK f (y.i : Int) (some ⟨insL y.s y.l.length s, insL (y.l.map Bt.idx ++ t.idx :: y.r.map Bt.idx) (y.l.length + 1) u.idx⟩)) n root (h + 1) cx (.mk y.i (insL y.s y.l.length s) (y.l ++ t :: u :: y.r)) [] := by
  obtain ⟨⟨h1, h2, h3, h4⟩, hb, hl, hnd, hall, hcnt, hroot⟩ := z
  have hu := hl u (by simp)
  unfold BF.ok at h2
  have hk : insL (y.l.map Bt.idx ++ t.idx :: y.r.map Bt.idx) (y.l.length + 1) u.idx = (y.l ++ t :: u :: y.r).map Bt.idx := by
    have := insL_at (y.l.map Bt.idx ++ [t.idx]) (y.r.map Bt.idx) u.idx
    simp only [List.append_assoc, List.cons_append, List.nil_append, List.length_append, List.length_map, List.length_cons, List.length_nil, Nat.zero_add] at this
    rw [this]; simp
  have hp : (bcids (h + 1) cx ++ (Bt.ids (h + 1) (.mk y.i (insL y.s y.l.length s) (y.l ++ t :: u :: y.r)) ++ [].flatMap (Bt.ids (h + 1)))).Perm (bcids h (y :: cx) ++ (Bt.ids h t ++ [u].flatMap (Bt.ids h))) := by
    simp only [List.flatMap_nil, List.append_nil, List.flatMap_cons, Bt.ids, Bt.i, Bt.ks, bcids, List.flatMap_append]
    refine List.perm_middle.trans (List.Perm.cons _ ?_)
    have p1 : (bcids (h + 1) cx ++ (y.l.flatMap (Bt.ids h) ++ (Bt.ids h t ++ (Bt.ids h u ++ y.r.flatMap (Bt.ids h))))).Perm ((y.l.flatMap (Bt.ids h) ++ (Bt.ids h t ++ (Bt.ids h u ++ y.r.flatMap (Bt.ids h)))) ++ bcids (h + 1) cx) := List.perm_append_comm
    refine p1.trans ?_
    have p2 : (Bt.ids h t ++ (Bt.ids h u ++ y.r.flatMap (Bt.ids h))).Perm (y.r.flatMap (Bt.ids h) ++ (Bt.ids h t ++ Bt.ids h u)) := by
      rw [← List.append_assoc]; exact List.perm_append_comm
    have p3 : ((y.l.flatMap (Bt.ids h) ++ (y.r.flatMap (Bt.ids h) ++ (Bt.ids h t ++ Bt.ids h u))) ++ bcids (h + 1) cx).Perm (y.l.flatMap (Bt.ids h) ++ y.r.flatMap (Bt.ids h) ++ bcids (h + 1) cx ++ (Bt.ids h t ++ Bt.ids h u)) := by
      simp only [List.append_assoc]
      have : (Bt.ids h t ++ (Bt.ids h u ++ bcids (h + 1) cx)).Perm (bcids (h + 1) cx ++ (Bt.ids h t ++ Bt.ids h u)) := by rw [← List.append_assoc]; exact List.perm_append_comm
      exact (this.append_left _).append_left _
    exact ((p2.append_left _).append_right _).trans p3
  have hy : y.i ∉ bcids (h + 1) cx ∧ (∀ k ∈ y.l ++ t :: u :: y.r, y.i ∉ Bt.ids h k) := by
    have := hp.nodup_iff.2 hnd
    simp only [List.flatMap_nil, List.append_nil, Bt.ids, Bt.i, Bt.ks] at this
    rw [List.nodup_append] at this
    obtain ⟨_, q2, q3⟩ := this
    rw [List.nodup_cons] at q2
    exact ⟨fun hm => q3 _ hm _ (List.mem_cons_self ..) rfl, fun k hk hm => q2.1 (List.mem_flatMap.2 ⟨k, hk, hm⟩)⟩
  refine ⟨repX_congr _ _ _ (fun k hk => updK_nat _ _ _ _ (fun e => hy.1 (e ▸ hk))) h4, ⟨?_, ?_, fun k hk => ?_⟩, fun k hk => by simp at hk, hp.nodup_iff.2 hnd, fun k hk => ?_, hcnt.trans hp.length_eq.symm, hroot.trans (bplug_idx cx _ _ rfl)⟩
  · exact (updK_self _ _ _).trans (by rw [hk]; rfl)
  · simp only [Bt.ks, Bt.s]; rw [insL_len _ _ _ (by omega)]; simp; omega
  · simp only [Bt.ks] at hk
    refine repB_congr h k (fun j hj => updK_nat _ _ _ _ (fun e => hy.2 k hk (e ▸ hj))) ?_
    simp at hk
    rcases hk with hk | rfl | rfl | hk
    · exact h3 k (by simp [hk])
    · exact hb
    · exact hu
    · exact h3 k (by simp [hk])
  · have : f k ≠ none := by
      by_cases e : k = (y.i : Int)
      · subst e; rw [h1]; simp
      · rw [updK_ne _ _ _ _ e] at hk; exact hk
    obtain ⟨m, hm, e⟩ := hall k this
    exact ⟨m, hp.mem_iff.2 hm, e⟩
end Go.Proofs.Ytjgcdmeojjnjlaa.Bb
/- A node is split, a root is laid, segments are replaced; degrees; the whole tree. No Go in sight. -/
namespace Go.Proofs.Ytjgcdmeojjnjlaa.Bb
open Go.Proofs.Ytjgcdmeojjnjlaa.Bo
/-- The places below a node's children. -/
def idsK : Nat → List Bt → List Nat
  | 0, _ => []
  | h + 1, ks => ks.flatMap (Bt.ids h)
theorem ids_eq (h : Nat) (t : Bt) : Bt.ids h t = t.i :: idsK h t.ks := by cases h <;> rfl
theorem ids_mk (h i : Nat) (s : List G5) (ks : List Bt) : Bt.ids h (.mk i s ks) = i :: idsK h ks := ids_eq h _
theorem idsK_append (h : Nat) (a b : List Bt) : idsK h (a ++ b) = idsK h a ++ idsK h b := by cases h <;> simp [idsK]
def KidsOk (f : Int → Option Kn) : Nat → Nat → List Bt → Prop
  | 0, _, ks => ks = []
  | h + 1, m, ks => ks.length = m + 1 ∧ ∀ k ∈ ks, RepB f h k
theorem repB_eq {f : Int → Option Kn} (h : Nat) (t : Bt) : RepB f h t ↔ nodeAt f t ∧ KidsOk f h t.s.length t.ks := by cases h <;> exact Iff.rfl
theorem kidsOk_congr {f g : Int → Option Kn} (h m : Nat) (ks : List Bt) (hk : ∀ j ∈ idsK h ks, g (j : Int) = f (j : Int)) (r : KidsOk f h m ks) : KidsOk g h m ks := by
  cases h with
  | zero => exact r
  | succ h => exact ⟨r.1, fun k hm => repB_congr h k (fun j hj => hk j (List.mem_flatMap.2 ⟨k, hm, hj⟩)) (r.2 k hm)⟩
/-- How a node's children may be parted where it is split. -/
def Parts (h : Nat) (a b : List G5) (ka kb : List Bt) : Prop := (h = 0 ∧ ka = [] ∧ kb = []) ∨ (0 < h ∧ ka.length = a.length + 1 ∧ kb.length = b.length + 1)
theorem row_parts (h i j k : Nat) (a b : List G5) (m : G5) (ka kb : List Bt) (hp : Parts h a b ka kb) : Bt.ino h (.mk i (a ++ m :: b) (ka ++ kb)) = Bt.ino h (.mk j a ka) ++ m :: Bt.ino h (.mk k b kb) := by
  rcases hp with ⟨rfl, rfl, rfl⟩ | ⟨h0, h1, h2⟩
  · rfl
  · obtain ⟨h, rfl⟩ : ∃ q, h = q + 1 := ⟨h - 1, by omega⟩
    cases ka with
    | nil => simp at h1
    | cons k0 ka => cases kb with
      | nil => simp at h2
      | cons q0 kb =>
        have e := wr_append a (m :: b) (ka.map (Bt.ino h)) ((q0 :: kb).map (Bt.ino h)) (by simp at h1 ⊢; omega)
        simp only [Bt.ino, Bt.ks, Bt.s, List.cons_append, List.map_append, e]
        simp [wr]
theorem Zo.split {f : Int → Option Kn} {n : Nat} {root : Int} {h i : Nat} {a b : List G5} {m : G5} {ka kb : List Bt} {cx : List BF} (z : Zo f n root h cx (.mk i (a ++ m :: b) (ka ++ kb)) []) (hp : Parts h a b ka kb) (j : Nat) (hj : f (j : Int) = none) :
    Zo (updK (updK f (i : Int) (some ⟨a, ka.map Bt.idx⟩)) (j : Int) (some ⟨b, kb.map Bt.idx⟩)) (n + 1) root h cx (.mk i a ka) [.mk j b kb] := by
  obtain ⟨n1, n2, _⟩ := z.mem j hj
  have hnd := z.nd
  have htree := (repB_eq h _).1 z.tree
  simp only [List.flatMap_nil, List.append_nil] at hnd
  rw [ids_mk] at hnd n2
  rw [List.nodup_append] at hnd
  obtain ⟨d1, d2, d3⟩ := hnd
  rw [List.nodup_cons, idsK_append, List.nodup_append] at d2
  obtain ⟨d4, d5, d6, d7⟩ := d2
  rw [idsK_append] at n2 d3
  simp only [List.mem_cons, List.mem_append, not_or] at n2 d4
  have hij : i ≠ j := fun e => n2.1 e.symm
  have hids : Bt.ids h (.mk i a ka) ++ [Bt.mk j b kb].flatMap (Bt.ids h) = i :: idsK h ka ++ (j :: idsK h kb) := by simp [ids_mk]
  have keep : ∀ k : Nat, k ≠ i → k ≠ j → updK (updK f (i : Int) (some ⟨a, ka.map Bt.idx⟩)) (j : Int) (some ⟨b, kb.map Bt.idx⟩) (k : Int) = f (k : Int) := fun k h1 h2 => by rw [updK_nat _ _ _ _ h2, updK_nat _ _ _ _ h1]
  have hka : KidsOk f h a.length ka ∧ KidsOk f h b.length kb := by
    have := htree.2
    rcases hp with ⟨rfl, rfl, rfl⟩ | ⟨h0, h1, h2⟩
    · exact ⟨rfl, rfl⟩
    · obtain ⟨h, rfl⟩ : ∃ q, h = q + 1 := ⟨h - 1, by omega⟩
      exact ⟨⟨h1, fun k hk => this.2 k (List.mem_append.2 (.inl hk))⟩, ⟨h2, fun k hk => this.2 k (List.mem_append.2 (.inr hk))⟩⟩
  refine z.repl rfl (fun k hk => keep k (fun e => d3 k hk i (List.mem_cons_self ..) e) (fun e => n1 (e ▸ hk))) ?_ ?_ ?_ ?_ ?_ ?_
  · refine (repB_eq h _).2 ⟨?_, kidsOk_congr h _ _ (fun k hk => keep k (fun e => d4.1 (e ▸ hk)) (fun e => n2.2.1 (e ▸ hk))) hka.1⟩
    exact (updK_nat _ _ _ _ hij).trans (updK_self _ _ _)
  · intro k hk
    rw [List.mem_singleton] at hk
    subst hk
    exact (repB_eq h _).2 ⟨updK_self _ _ _, kidsOk_congr h _ _ (fun k hk => keep k (fun e => d4.2 (e ▸ hk)) (fun e => n2.2.2 (e ▸ hk))) hka.2⟩
  · rw [hids, List.nodup_append, List.nodup_cons, List.nodup_cons]
    refine ⟨⟨d4.1, d5⟩, ⟨n2.2.2, d6⟩, fun x hx y hy e => ?_⟩
    subst e
    rcases List.mem_cons.1 hx with rfl | hx
    · rcases List.mem_cons.1 hy with e | hy
      · exact hij e
      · exact d4.2 hy
    · rcases List.mem_cons.1 hy with e | hy
      · exact n2.2.1 (e ▸ hx)
      · exact d7 x hx x hy rfl
  · rw [hids]
    intro k hk hc
    simp only [List.mem_append, List.mem_cons] at hk
    rcases hk with (rfl | hk) | (rfl | hk)
    · exact d3 k hc k (List.mem_cons_self ..) rfl
    · exact d3 k hc k (List.mem_cons_of_mem _ (List.mem_append.2 (.inl hk))) rfl
    · exact n1 hc
    · exact d3 k hc k (List.mem_cons_of_mem _ (List.mem_append.2 (.inr hk))) rfl
  · intro k hk
    rw [hids]
    by_cases e1 : k = (j : Int)
    · exact .inl ⟨j, by simp, e1⟩
    · rw [updK_ne _ _ _ _ e1] at hk
      by_cases e2 : k = (i : Int)
      · exact .inl ⟨i, by simp, e2⟩
      · rw [updK_ne _ _ _ _ e2] at hk
        by_cases e3 : ∃ m ∈ idsK h (ka ++ kb), k = (m : Int)
        · obtain ⟨m, hm, rfl⟩ := e3
          rw [idsK_append] at hm
          refine .inl ⟨m, ?_, rfl⟩
          simp only [List.mem_append, List.mem_cons] at hm ⊢
          rcases hm with hm | hm
          · exact .inl (.inr hm)
          · exact .inr (.inr hm)
        · refine .inr ⟨hk, fun m hm e => ?_⟩
          simp only [List.flatMap_nil, List.append_nil, ids_mk] at hm
          rcases List.mem_cons.1 hm with rfl | hm
          · exact e2 e
          · exact e3 ⟨m, hm, e⟩
  · rw [hids]; simp only [List.flatMap_nil, List.append_nil, ids_mk, idsK_append, List.length_append, List.length_cons]; omega
/-- A new root of one segment. -/
theorem Zo.grow {f : Int → Option Kn} {n : Nat} {root : Int} {h : Nat} {t u : Bt} (z : Zo f n root h [] t [u]) (s : G5) (j : Nat) (hj : f (j : Int) = none) : Zo (updK f (j : Int) (some ⟨[s], [t.idx, u.idx]⟩)) (n + 1) (j : Int) (h + 1) [] (.mk j [s] [t, u]) [] := by
  obtain ⟨n1, n2, n3⟩ := z.mem j hj
  obtain ⟨_, hb, hl, hnd, hall, hcnt, hroot⟩ := z
  have keep : ∀ (t : Bt), j ∉ Bt.ids h t → RepB f h t → RepB (updK f (j : Int) (some ⟨[s], [t.idx, u.idx]⟩)) h t := fun t hn hr => repB_congr h t (fun k hk => updK_nat _ _ _ _ (fun e => hn (e ▸ hk))) hr
  simp only [bcids, List.nil_append, List.flatMap_cons, List.flatMap_nil, List.append_nil] at hnd hall hcnt n3
  have e : bcids (h + 1) [] ++ (Bt.ids (h + 1) (.mk j [s] [t, u]) ++ [].flatMap (Bt.ids (h + 1))) = j :: (Bt.ids h t ++ Bt.ids h u) := by simp [bcids, Bt.ids, Bt.i, Bt.ks]
  refine ⟨trivial, ⟨updK_self _ _ _, rfl, fun k hk => ?_⟩, fun k hk => by simp at hk, by rw [e, List.nodup_cons]; exact ⟨by simp [n2, n3], hnd⟩, fun k hk => ?_, by rw [e, hcnt]; simp, rfl⟩
  · simp [Bt.ks] at hk
    rcases hk with rfl | rfl
    · exact repB_congr h _ (fun k hk => updK_nat _ _ _ _ (fun e => n2 (e ▸ hk))) hb
    · exact repB_congr h _ (fun k hk => updK_nat _ _ _ _ (fun e => n3 (e ▸ hk))) (hl _ (by simp))
  · rw [e]
    by_cases e1 : k = (j : Int)
    · exact ⟨j, by simp, e1⟩
    · rw [updK_ne _ _ _ _ e1] at hk
      obtain ⟨m, hm, e2⟩ := hall k hk
      exact ⟨m, List.mem_cons_of_mem _ hm, e2⟩
theorem Zo.first (f : Int → Option Kn) (hf : ∀ k, f k = none) (s : G5) (j : Nat) : Zo (updK f (j : Int) (some ⟨[s], []⟩)) 1 (j : Int) 0 [] (.mk j [s] []) [] := by
  refine ⟨trivial, ⟨updK_self _ _ _, rfl⟩, fun k hk => by simp at hk, by simp [bcids, Bt.ids], fun k hk => ?_, by simp [bcids, Bt.ids], rfl⟩
  by_cases e1 : k = (j : Int)
  · exact ⟨j, by simp [Bt.ids, Bt.i], e1⟩
  · rw [updK_ne _ _ _ _ e1, hf] at hk; exact absurd rfl hk
/-- A node's segments are other ones. -/
theorem Zo.segs {f : Int → Option Kn} {n : Nat} {root : Int} {h i : Nat} {s : List G5} {ks : List Bt} {cx : List BF} (z : Zo f n root h cx (.mk i s ks) []) (q : List G5) (hl : h = 0 ∨ q.length = s.length) :
    Zo (updK f (i : Int) (some ⟨q, ks.map Bt.idx⟩)) n root h cx (.mk i q ks) [] := by
  have hnd := z.nd
  have htree := (repB_eq h _).1 z.tree
  simp only [List.flatMap_nil, List.append_nil, ids_mk] at hnd
  rw [List.nodup_append, List.nodup_cons] at hnd
  obtain ⟨d1, ⟨d2, d3⟩, d4⟩ := hnd
  refine z.repl rfl (fun k hk => updK_nat _ _ _ _ (fun e => d4 k hk i (List.mem_cons_self ..) e)) ((repB_eq h _).2 ⟨updK_self _ _ _, ?_⟩) (fun k hk => by simp at hk) ?_ ?_ ?_ (by simp [ids_mk])
  · have h1 := kidsOk_congr (g := updK f (i : Int) (some ⟨q, ks.map Bt.idx⟩)) h s.length ks (fun k hk => updK_nat _ _ _ _ (fun e => d2 (e ▸ hk))) htree.2
    rcases hl with rfl | hl
    · exact h1
    · rw [show (Bt.mk i q ks).s.length = s.length from hl]; exact h1
  · simp only [List.flatMap_nil, List.append_nil, ids_mk, List.nodup_cons]; exact ⟨d2, d3⟩
  · intro k hk hc
    simp only [List.flatMap_nil, List.append_nil, ids_mk] at hk
    exact d4 k hc k hk rfl
  · intro k hk
    simp only [List.flatMap_nil, List.append_nil, ids_mk]
    by_cases e1 : k = (i : Int)
    · exact .inl ⟨i, by simp, e1⟩
    · rw [updK_ne _ _ _ _ e1] at hk
      by_cases e3 : ∃ m ∈ i :: idsK h ks, k = (m : Int)
      · exact .inl e3
      · exact .inr ⟨hk, fun m hm e => e3 ⟨m, hm, e⟩⟩
/-- The whole tree, from a node in its way. -/
theorem Zo.whole {f : Int → Option Kn} {n : Nat} {root : Int} (cx : List BF) : ∀ (h : Nat) (t : Bt), Zo f n root h cx t [] → Zo f n root (h + cx.length) [] (bplug cx t) [] := by
  induction cx with
  | nil => intro h t z; exact z
  | cons y cx ih =>
    intro h t z
    have := ih (h + 1) _ z.fold
    rw [hsucc h y cx] at this
    exact this
theorem deg_ge (d : Nat) (hd : 2 ≤ d) : ∀ (h : Nat) (t : Bt), Deg d h t → (∀ f, RepB f h t → (Bt.ids h t).length ≤ (Bt.ino h t).length) := by
  have wrlen : ∀ (xs : List G5) (rs : List (List G5)), xs.length = rs.length → (wr xs rs).length = xs.length + (rs.map List.length).sum := by
    intro xs
    induction xs with
    | nil => intro rs h; cases rs; rfl; simp at h
    | cons x xs ih => intro rs h; cases rs with
      | nil => simp at h
      | cons r rs => simp only [wr, List.length_cons, List.length_append, List.map_cons, List.sum_cons, ih rs (by simpa using h)]; omega
  intro h
  induction h with
  | zero => intro t ht f _; simp [Bt.ids, Bt.ino]; have := ht.1; omega
  | succ h ih =>
    rintro t ⟨h1, h2⟩ f ⟨_, r2, r3⟩
    simp only [Bt.ids, Bt.ino, List.length_cons]
    cases hk : t.ks with
    | nil => rw [hk] at r2; simp at r2
    | cons k ks =>
      simp only [List.flatMap_cons, List.length_append]
      rw [hk] at r2 r3 h2
      rw [wrlen _ _ (by simp at r2 ⊢; omega)]
      have hs : ∀ (l : List Bt), (∀ k ∈ l, (Bt.ids h k).length ≤ (Bt.ino h k).length) → (l.flatMap (Bt.ids h)).length ≤ ((l.map (Bt.ino h)).map List.length).sum := by
        intro l
        induction l with
        | nil => intro _; simp
        | cons q l ihl =>
          intro hq
          simp only [List.flatMap_cons, List.length_append, List.map_cons, List.sum_cons]
          have := hq q (by simp)
          have := ihl (fun k hk => hq k (by simp [hk]))
          omega
      have a1 := ih k (h2 k (by simp)) f (r3 k (by simp))
      have a2 := hs ks (fun q hq => ih q (h2 q (by simp [hq])) f (r3 q (by simp [hq])))
      omega
end Go.Proofs.Ytjgcdmeojjnjlaa.Bb
/- A segment is laid in, from the leaf on: what holds between two steps. No Go in sight. -/
namespace Go.Proofs.Ytjgcdmeojjnjlaa.Bb
open Go.Proofs.Ytjgcdmeojjnjlaa.Bo
/-- The arena holds just a tree of the row L. -/
def TreeAt (d : Nat) (f : Int → Option Kn) (n : Nat) (root : Int) (L : List G5) : Prop :=
  (L = [] ∧ n = 0 ∧ root = -1 ∧ ∀ k, f k = none) ∨ ∃ H x, Zo f n root H [] x [] ∧ DegR d H x ∧ Bt.ino H x = L
def DegK (d : Nat) : Nat → List Bt → Prop
  | 0, _ => True
  | h + 1, ks => ∀ k ∈ ks, Deg d h k
theorem deg_eq (d h : Nat) (t : Bt) : Deg d h t ↔ (d ≤ t.s.length + 1 ∧ t.s.length + 1 ≤ 2 * d) ∧ DegK d h t.ks := by cases h <;> simp [Deg, DegK]
theorem degR_eq (d h : Nat) (t : Bt) : DegR d h t ↔ (1 ≤ t.s.length ∧ t.s.length + 1 ≤ 2 * d) ∧ DegK d h t.ks := by cases h <;> simp [DegR, DegK]
theorem degK_append (d h : Nat) (a b : List Bt) : DegK d h (a ++ b) ↔ DegK d h a ∧ DegK d h b := by
  cases h with
  | zero => simp [DegK]
  | succ h =>
    simp only [DegK, List.mem_append]
    exact ⟨fun q => ⟨fun k hk => q k (.inl hk), fun k hk => q k (.inr hk)⟩, fun ⟨q1, q2⟩ k hk => hk.elim (q1 k) (q2 k)⟩
/-- A node in its way that may have one segment more than it may. -/
structure Over (d : Nat) (f : Int → Option Kn) (n : Nat) (root : Int) (L : List G5) (h : Nat) (cx : List BF) (t : Bt) : Prop where
  z : Zo f n root h cx t []
  dx : DegX d h cx
  hi : t.s.length ≤ 2 * d
  lo : if cx = [] then 1 ≤ t.s.length else d ≤ t.s.length + 1
  dk : DegK d h t.ks
  row : bpre h cx ++ (Bt.ino h t ++ bpost h cx) = L
/-- It has not: the tree is as it must be. -/
theorem Over.done {d : Nat} {f : Int → Option Kn} {n : Nat} {root : Int} {L : List G5} {h : Nat} {cx : List BF} {t : Bt} (o : Over d f n root L h cx t) (hl : t.s.length < 2 * d) : TreeAt d f n root L := by
  refine .inr ⟨h + cx.length, bplug cx t, o.z.whole, (deg_plug d cx h t).2 ⟨o.dx, ?_⟩, ?_⟩
  · have := o.lo
    split
    · rename_i e; rw [if_pos e] at this; exact (degR_eq d h t).2 ⟨⟨this, by omega⟩, o.dk⟩
    · rename_i e; rw [if_neg e] at this; exact (deg_eq d h t).2 ⟨⟨this, by omega⟩, o.dk⟩
  · rw [ino_plug cx h t (repX_ok _ _ _ o.z.ctx)]; exact o.row
/-- A segment and a tree are still to be laid into the way cx. -/
structure LayAt (d : Nat) (f : Int → Option Kn) (n : Nat) (root : Int) (L : List G5) (h : Nat) (cx : List BF) (s : G5) (t u : Bt) : Prop where
  z : Zo f n root h cx t [u]
  dx : DegX d h cx
  dt : Deg d h t
  du : Deg d h u
  row : bpre h cx ++ ((Bt.ino h t ++ s :: Bt.ino h u) ++ bpost h cx) = L
/-- How a node that has too many is split. -/
theorem Over.parts {d : Nat} {f : Int → Option Kn} {n : Nat} {root : Int} {L : List G5} {h : Nat} {cx : List BF} {t : Bt} (o : Over d f n root L h cx t) (hd : 1 ≤ d) (hl : t.s.length = 2 * d) :
    ∃ m, t.s[d]? = some m ∧ t.s = t.s.take d ++ m :: t.s.drop (d + 1) ∧ t.ks = t.ks.take (d + 1) ++ t.ks.drop (d + 1) ∧ Parts h (t.s.take d) (t.s.drop (d + 1)) (t.ks.take (d + 1)) (t.ks.drop (d + 1)) := by
  have hlt : d < t.s.length := by omega
  refine ⟨t.s[d], List.getElem?_eq_getElem hlt, ?_, (List.take_append_drop _ _).symm, ?_⟩
  · rw [← List.drop_eq_getElem_cons hlt, List.take_append_drop]
  · have := ((repB_eq h t).1 o.z.tree).2
    cases h with
    | zero =>
      have e : t.ks = [] := this
      exact .inl ⟨rfl, by rw [e]; rfl, by rw [e]; rfl⟩
    | succ h =>
      have e := this.1
      refine .inr ⟨by omega, ?_, ?_⟩
      · simp only [List.length_take]; omega
      · simp only [List.length_drop]; omega
theorem Over.split {d : Nat} {f : Int → Option Kn} {n : Nat} {root : Int} {L : List G5} {h : Nat} {cx : List BF} {t : Bt} (o : Over d f n root L h cx t) (hd : 1 ≤ d) (hl : t.s.length = 2 * d) (m : G5) (hm : t.s[d]? = some m) (j : Nat) (hj : f (j : Int) = none) :
    LayAt d (updK (updK f (t.i : Int) (some ⟨t.s.take d, (t.ks.take (d + 1)).map Bt.idx⟩)) (j : Int) (some ⟨t.s.drop (d + 1), (t.ks.drop (d + 1)).map Bt.idx⟩)) (n + 1) root L h cx m (.mk t.i (t.s.take d) (t.ks.take (d + 1))) (.mk j (t.s.drop (d + 1)) (t.ks.drop (d + 1))) := by
  obtain ⟨m', h1, h2, h3, h4⟩ := o.parts hd hl
  rw [h1] at hm
  injection hm with hm
  subst hm
  have e : t = .mk t.i (t.s.take d ++ m' :: t.s.drop (d + 1)) (t.ks.take (d + 1) ++ t.ks.drop (d + 1)) := by rw [← h2, ← h3, Bt.eta]
  have z := o.z
  have hrow := o.row
  have hk := o.dk
  rw [e] at z hrow
  rw [h3, degK_append] at hk
  rw [row_parts h t.i t.i j _ _ m' _ _ h4] at hrow
  refine ⟨z.split h4 j hj, o.dx, (deg_eq d h _).2 ⟨?_, hk.1⟩, (deg_eq d h _).2 ⟨?_, hk.2⟩, hrow⟩
  · show d ≤ (t.s.take d).length + 1 ∧ (t.s.take d).length + 1 ≤ 2 * d
    rw [List.length_take]; omega
  · show d ≤ (t.s.drop (d + 1)).length + 1 ∧ (t.s.drop (d + 1)).length + 1 ≤ 2 * d
    rw [List.length_drop]; omega
/-- The leaf takes the segment. -/
theorem over_leaf {d : Nat} {f : Int → Option Kn} {n : Nat} {root : Int} {cx : List BF} {t : Bt} (z : Zo f n root 0 cx t []) (dx : DegX d 0 cx) (dt : if cx = [] then DegR d 0 t else Deg d 0 t) (a : Nat) (ha : a ≤ t.s.length) (s : G5) :
    Over d (updK f (t.i : Int) (some ⟨insL t.s a s, []⟩)) n root (bpre 0 cx ++ (insL t.s a s ++ bpost 0 cx)) 0 cx (.mk t.i (insL t.s a s) []) := by
  have hks : t.ks = [] := z.tree.2
  have hlen := insL_len t.s a s ha
  have e0 : t = .mk t.i t.s [] := (Bt.eta t).symm.trans (by rw [hks])
  have z' : Zo f n root 0 cx (.mk t.i t.s []) [] := by rw [← e0]; exact z
  have z2 := z'.segs (insL t.s a s) (.inl rfl)
  refine ⟨z2, dx, ?_, ?_, trivial, rfl⟩
  · show (insL t.s a s).length ≤ 2 * d
    rw [hlen]
    by_cases e : cx = []
    · rw [if_pos e] at dt; have := dt.2; omega
    · rw [if_neg e] at dt; have := dt.2; omega
  · show (if cx = [] then 1 ≤ (insL t.s a s).length else d ≤ (insL t.s a s).length + 1)
    rw [hlen]
    by_cases e : cx = []
    · rw [if_pos e]; omega
    · rw [if_neg e] at dt ⊢; have := dt.1; omega
/-- A frame takes what is pending. -/
theorem LayAt.over {d : Nat} {f : Int → Option Kn} {n : Nat} {root : Int} {L : List G5} {h : Nat} {y : BF} {cx : List BF} {s : G5} {t u : Bt} (l : LayAt d f n root L h (y :: cx) s t u) :
    Over d (updK f (y.i : Int) (some ⟨insL y.s y.l.length s, insL (y.l.map Bt.idx ++ t.idx :: y.r.map Bt.idx) (y.l.length + 1) u.idx⟩)) n root L (h + 1) cx (.mk y.i (insL y.s y.l.length s) (y.l ++ t :: u :: y.r)) := by
  have hok := repX_ok _ _ _ l.z.ctx y (List.mem_cons_self ..)
  unfold BF.ok at hok
  obtain ⟨k1, k2, k3, k4⟩ := l.dx
  have hlen := insL_len y.s y.l.length s (by omega)
  refine ⟨l.z.lay s, k4, ?_, ?_, fun k hk => ?_, ?_⟩
  · simp only [Bt.s]; omega
  · simp only [Bt.s]; rw [hlen]
    by_cases e : cx = []
    · rw [if_pos e]; omega
    · rw [if_neg e] at k3 ⊢; omega
  · simp [Bt.ks] at hk
    rcases hk with hk | rfl | rfl | hk
    · exact k1 k (by simp [hk])
    · exact l.dt
    · exact l.du
    · exact k1 k (by simp [hk])
  · have hr := l.row
    simp only [bpre, bpost] at hr
    rw [← hr]
    have hs : (insL y.s y.l.length s).length = y.l.length + (u :: y.r).length := by rw [hlen]; simp; omega
    rw [Bt.ino_split h y.i y.l t (u :: y.r) _ hs]
    have e1 : (insL y.s y.l.length s).take y.l.length = y.s.take y.l.length := by unfold insL; rw [List.take_append_of_le_length (by simp; omega), List.take_take]; simp
    have e2 : (insL y.s y.l.length s).drop y.l.length = s :: y.s.drop y.l.length := by unfold insL; rw [List.drop_append_of_le_length (by simp; omega)]; simp
    rw [e1, e2]
    simp [wr]
/-- No step is left: a new root. -/
theorem LayAt.grow {d : Nat} {f : Int → Option Kn} {n : Nat} {root : Int} {L : List G5} {h : Nat} {s : G5} {t u : Bt} (l : LayAt d f n root L h [] s t u) (hd : 2 ≤ d) (j : Nat) (hj : f (j : Int) = none) : TreeAt d (updK f (j : Int) (some ⟨[s], [t.idx, u.idx]⟩)) (n + 1) (j : Int) L := by
  refine .inr ⟨h + 1, _, l.z.grow s j hj, ⟨⟨by simp [Bt.s], by simp [Bt.s]; omega⟩, fun k hk => ?_⟩, ?_⟩
  · simp [Bt.ks] at hk
    rcases hk with rfl | rfl
    · exact l.dt
    · exact l.du
  · have := l.row
    simp [bpre, bpost] at this
    rw [← this]
    simp [Bt.ino, Bt.ks, Bt.s, wr]
/-- The first segment of all. -/
theorem treeAt_first {d : Nat} {f : Int → Option Kn} (hd : 2 ≤ d) (hf : ∀ k, f k = none) (s : G5) (j : Nat) : TreeAt d (updK f (j : Int) (some ⟨[s], []⟩)) 1 (j : Int) [s] :=
  .inr ⟨0, _, Zo.first f hf s j, ⟨by simp [Bt.s], by simp [Bt.s]; omega⟩, rfl⟩
/-- There are no more nodes than segments. -/
theorem TreeAt.le {d : Nat} {f : Int → Option Kn} {n : Nat} {root : Int} {L : List G5} (t : TreeAt d f n root L) (hd : 2 ≤ d) : n ≤ L.length := by
  rcases t with ⟨rfl, rfl, _⟩ | ⟨H, x, z, hr, rfl⟩
  · exact Nat.le_refl _
  · have hc := z.cnt
    simp only [bcids, List.nil_append, List.flatMap_nil, List.append_nil] at hc
    rw [hc]
    cases H with
    | zero => simp [Bt.ids, Bt.ino]; have := hr.1; omega
    | succ H =>
      obtain ⟨⟨r1, r2⟩, r3⟩ := hr
      obtain ⟨_, q2, q3⟩ := z.tree
      have hk : ∀ k ∈ x.ks, (Bt.ids H k).length ≤ (Bt.ino H k).length := fun k hk => deg_ge d hd H k (r3 k hk) f (q3 k hk)
      have wrlen : ∀ (xs : List G5) (rs : List (List G5)), xs.length = rs.length → (wr xs rs).length = xs.length + (rs.map List.length).sum := by
        intro xs
        induction xs with
        | nil => intro rs h; cases rs; rfl; simp at h
        | cons x xs ih => intro rs h; cases rs with
          | nil => simp at h
          | cons r rs => simp only [wr, List.length_cons, List.length_append, List.map_cons, List.sum_cons, ih rs (by simpa using h)]; omega
      have hs : ∀ (l : List Bt), (∀ k ∈ l, (Bt.ids H k).length ≤ (Bt.ino H k).length) → (l.flatMap (Bt.ids H)).length ≤ ((l.map (Bt.ino H)).map List.length).sum := by
        intro l
        induction l with
        | nil => intro _; simp
        | cons q l ihl =>
          intro hq
          simp only [List.flatMap_cons, List.length_append, List.map_cons, List.sum_cons]
          have := hq q (by simp)
          have := ihl (fun k hk => hq k (by simp [hk]))
          omega
      simp only [Bt.ids, Bt.ino, List.length_cons]
      cases hks : x.ks with
      | nil => rw [hks] at q2; simp at q2
      | cons k ks =>
        rw [hks] at q2 hk
        simp only [List.flatMap_cons, List.length_append]
        rw [wrlen _ _ (by simp at q2 ⊢; omega)]
        have a1 := hk k (by simp)
        have a2 := hs ks (fun q hq => hk q (by simp [hq]))
        omega
end Go.Proofs.Ytjgcdmeojjnjlaa.Bb
/- A node that is short is mended: a segment is turned over, or two nodes are joined. No Go in sight. -/
namespace Go.Proofs.Ytjgcdmeojjnjlaa.Bb
open Go.Proofs.Ytjgcdmeojjnjlaa.Bo
theorem row_two (h i : Nat) (sa sb : List G5) (x : G5) (la lb : List Bt) (p q : Bt) (hl : la.length = sa.length) (hb : sb.length = lb.length) :
    Bt.ino (h + 1) (.mk i (sa ++ x :: sb) (la ++ p :: q :: lb)) = wl (la.map (Bt.ino h)) sa ++ ((Bt.ino h p ++ x :: Bt.ino h q) ++ wr sb (lb.map (Bt.ino h))) := by
  rw [Bt.ino_split h i la p (q :: lb) (sa ++ x :: sb) (by simp; omega), hl, List.take_left', List.drop_left'] <;> simp [wr]
theorem row_one (h i : Nat) (sa sb : List G5) (la lb : List Bt) (p : Bt) (hl : la.length = sa.length) (hb : sb.length = lb.length) :
    Bt.ino (h + 1) (.mk i (sa ++ sb) (la ++ p :: lb)) = wl (la.map (Bt.ino h)) sa ++ (Bt.ino h p ++ wr sb (lb.map (Bt.ino h))) := by
  rw [Bt.ino_split h i la p lb (sa ++ sb) (by simp; omega), hl, List.take_left', List.drop_left'] <;> rfl
/-- The shape of a node. -/
def Shape (h : Nat) (t : Bt) : Prop := (h = 0 ∧ t.ks = []) ∨ (0 < h ∧ t.ks.length = t.s.length + 1)
theorem RepB.shape {f : Int → Option Kn} {h : Nat} {t : Bt} (r : RepB f h t) : Shape h t := by
  cases h with
  | zero => exact .inl ⟨rfl, r.2⟩
  | succ h => exact .inr ⟨by omega, r.2.1⟩
theorem kidsOk_of {f : Int → Option Kn} {h : Nat} {t : Bt} (hs : Shape h t) (hk : ∀ q, h = q + 1 → ∀ k ∈ t.ks, RepB f q k) : KidsOk f h t.s.length t.ks := by
  cases h with
  | zero => rcases hs with ⟨_, e⟩ | ⟨e, _⟩; exact e; omega
  | succ h => rcases hs with ⟨e, _⟩ | ⟨_, e⟩; omega; exact ⟨e, hk h rfl⟩
theorem RepB.kids {f : Int → Option Kn} {h : Nat} {t : Bt} (r : RepB f h t) : ∀ q, h = q + 1 → ∀ k ∈ t.ks, RepB f q k := by
  rintro q rfl
  exact r.2.2
/-- What is told of the places of a node with two children beside each other. -/
theorem ids_two (h i : Nat) (s : List G5) (la lb : List Bt) (p q : Bt) : Bt.ids (h + 1) (.mk i s (la ++ p :: q :: lb)) = i :: (la.flatMap (Bt.ids h) ++ ((p.i :: idsK h p.ks) ++ ((q.i :: idsK h q.ks) ++ lb.flatMap (Bt.ids h)))) := by
  simp [Bt.ids, Bt.i, Bt.ks, ids_eq]
theorem ids_two_perm (h i : Nat) (s : List G5) (la lb : List Bt) (p q : Bt) : (Bt.ids (h + 1) (.mk i s (la ++ p :: q :: lb))).Perm (i :: p.i :: q.i :: (la.flatMap (Bt.ids h) ++ (idsK h (p.ks ++ q.ks) ++ lb.flatMap (Bt.ids h)))) := by
  rw [ids_two, idsK_append]
  refine List.Perm.cons _ ?_
  refine List.perm_middle.trans (List.Perm.cons _ ?_)
  have e : la.flatMap (Bt.ids h) ++ (idsK h p.ks ++ ((q.i :: idsK h q.ks) ++ lb.flatMap (Bt.ids h))) = (la.flatMap (Bt.ids h) ++ idsK h p.ks) ++ q.i :: (idsK h q.ks ++ lb.flatMap (Bt.ids h)) := by simp
  show (la.flatMap (Bt.ids h) ++ (idsK h p.ks ++ ((q.i :: idsK h q.ks) ++ lb.flatMap (Bt.ids h)))).Perm _
  rw [e]
  refine List.perm_middle.trans (List.Perm.cons _ ?_)
  simp
/-- Two children that stand beside each other, and the segment between them, are other ones: with the same children of their own. -/
theorem Zo.turn {f g : Int → Option Kn} {n : Nat} {root : Int} {h i : Nat} {sa sb : List G5} {x y : G5} {la lb : List Bt} {p q p' q' : Bt} {cx : List BF} (z : Zo f n root (h + 1) cx (.mk i (sa ++ x :: sb) (la ++ p :: q :: lb)) [])
    (hp : p'.i = p.i) (hq : q'.i = q.i) (hks : p'.ks ++ q'.ks = p.ks ++ q.ks) (sp : Shape h p') (sq : Shape h q')
    (g1 : g (i : Int) = some ⟨sa ++ y :: sb, (la ++ p :: q :: lb).map Bt.idx⟩) (g2 : nodeAt g p') (g3 : nodeAt g q') (gk : ∀ k : Int, k ≠ (i : Int) → k ≠ (p.i : Int) → k ≠ (q.i : Int) → g k = f k) :
    Zo g n root (h + 1) cx (.mk i (sa ++ y :: sb) (la ++ p' :: q' :: lb)) [] := by
  have hnd := z.nd
  obtain ⟨_, zl, zk⟩ := z.tree
  simp only [List.flatMap_nil, List.append_nil] at hnd
  have hP := ids_two_perm h i (sa ++ x :: sb) la lb p q
  have hP' := ids_two_perm h i (sa ++ y :: sb) la lb p' q'
  rw [hks, hp, hq] at hP'
  rw [List.nodup_append] at hnd
  obtain ⟨d1, d2, d3⟩ := hnd
  have d4 := hP.nodup_iff.1 d2
  have mem : ∀ k, k ∈ Bt.ids (h + 1) (.mk i (sa ++ y :: sb) (la ++ p' :: q' :: lb)) ↔ k ∈ Bt.ids (h + 1) (.mk i (sa ++ x :: sb) (la ++ p :: q :: lb)) := fun k => (hP'.mem_iff).trans hP.mem_iff.symm
  have keep : ∀ (u : Bt), (∀ k ∈ Bt.ids h u, k ∈ la.flatMap (Bt.ids h) ++ (idsK h (p.ks ++ q.ks) ++ lb.flatMap (Bt.ids h))) → ∀ k ∈ Bt.ids h u, g (k : Int) = f (k : Int) := by
    intro u hu k hk
    have hm := hu k hk
    simp only [List.nodup_cons, List.mem_cons, not_or] at d4
    exact gk _ (fun e => d4.1.2.2 (by have : k = i := by omega
                                      exact this ▸ hm)) (fun e => d4.2.1.2 (by have : k = p.i := by omega
                                                                               exact this ▸ hm)) (fun e => d4.2.2.1 (by have : k = q.i := by omega
                                                                                                                        exact this ▸ hm))
  have keepK : ∀ k ∈ idsK h (p.ks ++ q.ks), g (k : Int) = f (k : Int) := by
    intro k hk
    have hm : k ∈ la.flatMap (Bt.ids h) ++ (idsK h (p.ks ++ q.ks) ++ lb.flatMap (Bt.ids h)) := by simp [hk]
    simp only [List.nodup_cons, List.mem_cons, not_or] at d4
    exact gk _ (fun e => d4.1.2.2 (by have : k = i := by omega
                                      exact this ▸ hm)) (fun e => d4.2.1.2 (by have : k = p.i := by omega
                                                                               exact this ▸ hm)) (fun e => d4.2.2.1 (by have : k = q.i := by omega
                                                                                                                        exact this ▸ hm))
  have rp := zk p (by simp [Bt.ks])
  have rq := zk q (by simp [Bt.ks])
  have kk : ∀ qh, h = qh + 1 → ∀ k ∈ p.ks ++ q.ks, RepB g qh k := by
    rintro qh rfl k hk
    have hr : RepB f qh k := by
      rcases List.mem_append.1 hk with hk | hk
      · exact rp.kids qh rfl k hk
      · exact rq.kids qh rfl k hk
    exact repB_congr qh k (fun j hj => keepK j (List.mem_flatMap.2 ⟨k, hk, hj⟩)) hr
  refine z.repl rfl (fun k hk => ?_) ⟨?_, ?_, fun k hk => ?_⟩ (fun k hk => by simp at hk) ?_ ?_ ?_ ?_
  · have hi : ∀ j ∈ Bt.ids (h + 1) (.mk i (sa ++ x :: sb) (la ++ p :: q :: lb)), k ≠ j := fun j hj => d3 k hk j hj
    refine gk _ (fun e => hi i (hP.mem_iff.2 (by simp)) (by omega)) (fun e => hi p.i (hP.mem_iff.2 (by simp)) (by omega)) (fun e => hi q.i (hP.mem_iff.2 (by simp)) (by omega))
  · show g (i : Int) = some ⟨sa ++ y :: sb, (la ++ p' :: q' :: lb).map Bt.idx⟩
    rw [g1]; simp [Bt.idx, hp, hq]
  · simp [Bt.ks, Bt.s] at zl ⊢; omega
  · simp only [Bt.ks, List.mem_append, List.mem_cons] at hk
    rcases hk with hk | rfl | rfl | hk
    · exact repB_congr h k (keep k (fun j hj => List.mem_append.2 (.inl (List.mem_flatMap.2 ⟨k, hk, hj⟩)))) (zk k (by simp [Bt.ks, hk]))
    · exact (repB_eq h _).2 ⟨g2, kidsOk_of sp (fun qh e k hk => kk qh e k (by rw [← hks]; exact List.mem_append.2 (.inl hk)))⟩
    · exact (repB_eq h _).2 ⟨g3, kidsOk_of sq (fun qh e k hk => kk qh e k (by rw [← hks]; exact List.mem_append.2 (.inr hk)))⟩
    · exact repB_congr h k (keep k (fun j hj => List.mem_append.2 (.inr (List.mem_append.2 (.inr (List.mem_flatMap.2 ⟨k, hk, hj⟩)))))) (zk k (by simp [Bt.ks, hk]))
  · simp only [List.flatMap_nil, List.append_nil]
    exact hP'.nodup_iff.2 d4
  · intro k hk hc
    simp only [List.flatMap_nil, List.append_nil] at hk
    exact d3 k hc k ((mem k).1 hk) rfl
  · intro k hk
    simp only [List.flatMap_nil, List.append_nil]
    by_cases e : ∃ m ∈ Bt.ids (h + 1) (.mk i (sa ++ x :: sb) (la ++ p :: q :: lb)), k = (m : Int)
    · obtain ⟨m, hm, e⟩ := e
      exact .inl ⟨m, (mem m).2 hm, e⟩
    · have hn : ∀ m ∈ Bt.ids (h + 1) (.mk i (sa ++ x :: sb) (la ++ p :: q :: lb)), k ≠ (m : Int) := fun m hm e2 => e ⟨m, hm, e2⟩
      rw [gk k (hn i (hP.mem_iff.2 (by simp))) (hn p.i (hP.mem_iff.2 (by simp))) (hn q.i (hP.mem_iff.2 (by simp)))] at hk
      exact .inr ⟨hk, hn⟩
  · simp only [List.flatMap_nil, List.append_nil]
    rw [hP'.length_eq, hP.length_eq]
/-- Two children that stand beside each other are joined, with the segment between them. -/
theorem Zo.join {f g : Int → Option Kn} {n : Nat} {root : Int} {h i : Nat} {sa sb : List G5} {x : G5} {la lb : List Bt} {p q : Bt} {cx : List BF} (z : Zo f (n + 1) root (h + 1) cx (.mk i (sa ++ x :: sb) (la ++ p :: q :: lb)) [])
    (g1 : g (i : Int) = some ⟨sa ++ sb, (la ++ p :: lb).map Bt.idx⟩) (g2 : g (p.i : Int) = some ⟨p.s ++ x :: q.s, (p.ks ++ q.ks).map Bt.idx⟩) (g3 : g (q.i : Int) = none) (gk : ∀ k : Int, k ≠ (i : Int) → k ≠ (p.i : Int) → k ≠ (q.i : Int) → g k = f k) :
    Zo g n root (h + 1) cx (.mk i (sa ++ sb) (la ++ .mk p.i (p.s ++ x :: q.s) (p.ks ++ q.ks) :: lb)) [] := by
  have hnd := z.nd
  obtain ⟨_, zl, zk⟩ := z.tree
  simp only [List.flatMap_nil, List.append_nil] at hnd
  have hP := ids_two_perm h i (sa ++ x :: sb) la lb p q
  have hI : (Bt.ids (h + 1) (.mk i (sa ++ sb) (la ++ .mk p.i (p.s ++ x :: q.s) (p.ks ++ q.ks) :: lb))).Perm (i :: p.i :: (la.flatMap (Bt.ids h) ++ (idsK h (p.ks ++ q.ks) ++ lb.flatMap (Bt.ids h)))) := by
    have : Bt.ids (h + 1) (.mk i (sa ++ sb) (la ++ .mk p.i (p.s ++ x :: q.s) (p.ks ++ q.ks) :: lb)) = i :: (la.flatMap (Bt.ids h) ++ p.i :: (idsK h (p.ks ++ q.ks) ++ lb.flatMap (Bt.ids h))) := by
      simp [Bt.ids, Bt.i, Bt.ks, ids_mk]
    rw [this]
    exact List.Perm.cons _ List.perm_middle
  rw [List.nodup_append] at hnd
  obtain ⟨d1, d2, d3⟩ := hnd
  have d4 := hP.nodup_iff.1 d2
  have d4' := d4
  simp only [List.nodup_cons, List.mem_cons, not_or] at d4
  have sub : ∀ k, k ∈ Bt.ids (h + 1) (.mk i (sa ++ sb) (la ++ .mk p.i (p.s ++ x :: q.s) (p.ks ++ q.ks) :: lb)) → k ∈ Bt.ids (h + 1) (.mk i (sa ++ x :: sb) (la ++ p :: q :: lb)) := by
    intro k hk
    have := hI.mem_iff.1 hk
    refine hP.mem_iff.2 ?_
    simp only [List.mem_cons] at this ⊢
    rcases this with e | e | e
    · exact .inl e
    · exact .inr (.inl e)
    · exact .inr (.inr (.inr e))
  have keepM : ∀ k ∈ la.flatMap (Bt.ids h) ++ (idsK h (p.ks ++ q.ks) ++ lb.flatMap (Bt.ids h)), g (k : Int) = f (k : Int) := by
    intro k hm
    exact gk _ (fun e => d4.1.2.2 (by have : k = i := by omega
                                      exact this ▸ hm)) (fun e => d4.2.1.2 (by have : k = p.i := by omega
                                                                               exact this ▸ hm)) (fun e => d4.2.2.1 (by have : k = q.i := by omega
                                                                                                                        exact this ▸ hm))
  have rp := zk p (by simp [Bt.ks])
  have rq := zk q (by simp [Bt.ks])
  have kk : ∀ qh, h = qh + 1 → ∀ k ∈ p.ks ++ q.ks, RepB g qh k := by
    rintro qh rfl k hk
    have hr : RepB f qh k := by
      rcases List.mem_append.1 hk with hk | hk
      · exact rp.kids qh rfl k hk
      · exact rq.kids qh rfl k hk
    refine repB_congr qh k (fun j hj => keepM j ?_) hr
    have : j ∈ idsK (qh + 1) (p.ks ++ q.ks) := List.mem_flatMap.2 ⟨k, hk, hj⟩
    simp [this]
  have sh : Shape h (.mk p.i (p.s ++ x :: q.s) (p.ks ++ q.ks)) := by
    rcases rp.shape with ⟨e1, e2⟩ | ⟨e1, e2⟩
    · rcases rq.shape with ⟨e3, e4⟩ | ⟨e3, e4⟩
      · exact .inl ⟨e1, by simp [Bt.ks] at e2 e4 ⊢; exact ⟨e2, e4⟩⟩
      · omega
    · rcases rq.shape with ⟨e3, e4⟩ | ⟨e3, e4⟩
      · omega
      · refine .inr ⟨e1, ?_⟩
        show (p.ks ++ q.ks).length = (p.s ++ x :: q.s).length + 1
        simp; omega
  refine z.repl rfl (fun k hk => ?_) ⟨?_, ?_, fun k hk => ?_⟩ (fun k hk => by simp at hk) ?_ ?_ ?_ ?_
  · have hi : ∀ j ∈ Bt.ids (h + 1) (.mk i (sa ++ x :: sb) (la ++ p :: q :: lb)), k ≠ j := fun j hj => d3 k hk j hj
    refine gk _ (fun e => hi i (hP.mem_iff.2 (by simp)) (by omega)) (fun e => hi p.i (hP.mem_iff.2 (by simp)) (by omega)) (fun e => hi q.i (hP.mem_iff.2 (by simp)) (by omega))
  · show g (i : Int) = some ⟨sa ++ sb, (la ++ Bt.mk p.i (p.s ++ x :: q.s) (p.ks ++ q.ks) :: lb).map Bt.idx⟩
    rw [g1]; simp [Bt.idx, Bt.i]
  · simp [Bt.ks, Bt.s] at zl ⊢; omega
  · simp only [Bt.ks, List.mem_append, List.mem_cons] at hk
    rcases hk with hk | rfl | hk
    · exact repB_congr h k (fun j hj => keepM j (List.mem_append.2 (.inl (List.mem_flatMap.2 ⟨k, hk, hj⟩)))) (zk k (by simp [Bt.ks, hk]))
    · exact (repB_eq h _).2 ⟨g2, kidsOk_of sh kk⟩
    · exact repB_congr h k (fun j hj => keepM j (List.mem_append.2 (.inr (List.mem_append.2 (.inr (List.mem_flatMap.2 ⟨k, hk, hj⟩)))))) (zk k (by simp [Bt.ks, hk]))
  · simp only [List.flatMap_nil, List.append_nil]
    refine hI.nodup_iff.2 ?_
    simp only [List.nodup_cons, List.mem_cons, not_or]
    exact ⟨⟨d4.1.1, d4.1.2.2⟩, d4.2.1.2, d4.2.2.2⟩
  · intro k hk hc
    simp only [List.flatMap_nil, List.append_nil] at hk
    exact d3 k hc k (sub k hk) rfl
  · intro k hk
    simp only [List.flatMap_nil, List.append_nil]
    by_cases e : ∃ m ∈ Bt.ids (h + 1) (.mk i (sa ++ x :: sb) (la ++ p :: q :: lb)), k = (m : Int)
    · obtain ⟨m, hm, rfl⟩ := e
      refine .inl ⟨m, hI.mem_iff.2 ?_, rfl⟩
      have hm' := hP.mem_iff.1 hm
      simp only [List.mem_cons] at hm' ⊢
      rcases hm' with e | e | e | e
      · exact .inl e
      · exact .inr (.inl e)
      · subst e; exact absurd g3 hk
      · exact .inr (.inr e)
    · have hn : ∀ m ∈ Bt.ids (h + 1) (.mk i (sa ++ x :: sb) (la ++ p :: q :: lb)), k ≠ (m : Int) := fun m hm e2 => e ⟨m, hm, e2⟩
      rw [gk k (hn i (hP.mem_iff.2 (by simp))) (hn p.i (hP.mem_iff.2 (by simp))) (hn q.i (hP.mem_iff.2 (by simp)))] at hk
      exact .inr ⟨hk, hn⟩
  · simp only [List.flatMap_nil, List.append_nil]
    rw [hI.length_eq, hP.length_eq]
    simp; omega
end Go.Proofs.Ytjgcdmeojjnjlaa.Bb
/- Taking a segment out of a B-tree: what holds between two steps. No Go in sight. -/
namespace Go.Proofs.Ytjgcdmeojjnjlaa.Bb
open Go.Proofs.Ytjgcdmeojjnjlaa.Bo
/-- A node in its way that may have one segment fewer than it must. -/
structure Short (d : Nat) (f : Int → Option Kn) (n : Nat) (root : Int) (L : List G5) (h : Nat) (cx : List BF) (t : Bt) : Prop where
  z : Zo f n root h cx t []
  dx : DegX d h cx
  hi : t.s.length + 1 ≤ 2 * d
  lo : if cx = [] then True else d ≤ t.s.length + 2
  dk : DegK d h t.ks
  row : bpre h cx ++ (Bt.ino h t ++ bpost h cx) = L
/-- It has not: the tree is as it must be. -/
theorem Short.done {d : Nat} {f : Int → Option Kn} {n : Nat} {root : Int} {L : List G5} {h : Nat} {cx : List BF} {t : Bt} (o : Short d f n root L h cx t) (hl : if cx = [] then 1 ≤ t.s.length else d ≤ t.s.length + 1) : TreeAt d f n root L := by
  have hh := o.hi
  refine .inr ⟨h + cx.length, bplug cx t, o.z.whole, (deg_plug d cx h t).2 ⟨o.dx, ?_⟩, ?_⟩
  · split
    · rename_i e; rw [if_pos e] at hl; exact (degR_eq d h t).2 ⟨⟨hl, by omega⟩, o.dk⟩
    · rename_i e; rw [if_neg e] at hl; exact (deg_eq d h t).2 ⟨⟨hl, by omega⟩, o.dk⟩
  · rw [ino_plug cx h t (repX_ok _ _ _ o.z.ctx)]; exact o.row
/-- Where the first child stands; -1: there is none. -/
def kid0 : List Bt → Int
  | [] => -1
  | c :: _ => c.idx
/-- The root has no segment left: what hangs below it is the tree. -/
theorem Short.root {d : Nat} (hd : 2 ≤ d) {f g : Int → Option Kn} {n : Nat} {root : Int} {L : List G5} {h : Nat} {t : Bt} (o : Short d f (n + 1) root L h [] t) (hs : t.s = []) (g1 : g (t.i : Int) = none) (gk : ∀ k : Int, k ≠ (t.i : Int) → g k = f k) :
    TreeAt d g n (kid0 t.ks) L := by
  have hrow := o.row
  have hnd := o.z.nd
  have hcnt := o.z.cnt
  have hall := o.z.all
  have hdk := o.dk
  simp only [bpre, bpost, List.nil_append, List.append_nil] at hrow
  simp only [bcids, List.nil_append, List.flatMap_nil, List.append_nil] at hnd hcnt hall
  have htree := o.z.tree
  cases h with
  | zero =>
    have e : t.ks = [] := htree.2
    rw [e]
    simp only [Bt.ids] at hcnt hall
    refine .inl ⟨by rw [← hrow]; show t.s = []; exact hs, by simp at hcnt; exact hcnt, rfl, fun k => ?_⟩
    by_cases e1 : k = (t.i : Int)
    · subst e1; exact g1
    · rw [gk k e1]
      cases e2 : f k with
      | none => rfl
      | some v =>
        obtain ⟨m, hm, e3⟩ := hall k (by rw [e2]; simp)
        simp at hm; subst hm; exact absurd e3 e1
  | succ h =>
    obtain ⟨h1, h2, h3⟩ := htree
    rw [hs] at h2
    cases hk : t.ks with
    | nil => rw [hk] at h2; simp at h2
    | cons c r =>
      have hr : r = [] := by rw [hk] at h2; simp at h2; exact h2
      subst hr
      have hids : Bt.ids (h + 1) t = t.i :: Bt.ids h c := by simp [Bt.ids, hk]
      rw [hids] at hnd hcnt hall
      rw [List.nodup_cons] at hnd
      have hc := h3 c (by rw [hk]; simp)
      have hdc : Deg d h c := hdk c (by rw [hk]; simp)
      have hne : ∀ k ∈ Bt.ids h c, (k : Int) ≠ (t.i : Int) := by
        intro k hkm e
        have e2 : k = t.i := by omega
        exact hnd.1 (e2 ▸ hkm)
      show TreeAt d g n c.idx L
      refine .inr ⟨h, c, ⟨trivial, repB_congr h c (fun k hkm => gk _ (hne k hkm)) hc, fun k hk => by simp at hk, by simp [bcids]; exact hnd.2, fun k hkn => ?_, by simp [bcids]; simp at hcnt; omega, rfl⟩, ?_, ?_⟩
      · have e1 : k ≠ (t.i : Int) := fun e => by subst e; exact hkn g1
        rw [gk k e1] at hkn
        obtain ⟨m, hm, e2⟩ := hall k hkn
        rcases List.mem_cons.1 hm with rfl | hm
        · exact absurd e2 e1
        · exact ⟨m, by simp [bcids, hm], e2⟩
      · have := (deg_eq d h c).1 hdc
        exact (degR_eq d h c).2 ⟨⟨by omega, this.1.2⟩, this.2⟩
      · rw [← hrow]; simp [Bt.ino, hk, hs, wr]
/-- The child ahead gives a segment: f is what it becomes. -/
theorem Short.back {d : Nat} {f g : Int → Option Kn} {n : Nat} {root : Int} {L : List G5} {h : Nat} {y : BF} {cx : List BF} {t p : Bt} {l : List Bt} {x m : G5} {sa sb ps : List G5} {pk ck : List Bt} (o : Short d f n root L h (y :: cx) t) (hl : y.l = l ++ [p]) (hs : y.s = sa ++ x :: sb) (hla : l.length = sa.length)
    (hp : p.s = ps ++ [m]) (hpk : p.ks = pk ++ ck) (hck : (h = 0 ∧ pk = [] ∧ ck = []) ∨ (0 < h ∧ pk.length = ps.length + 1 ∧ ck.length = 1)) (hge : d ≤ p.s.length) (hsh : t.s.length + 2 ≤ 2 * d)
    (g1 : g (y.i : Int) = some ⟨sa ++ m :: sb, (y.l ++ t :: y.r).map Bt.idx⟩) (g2 : g (p.i : Int) = some ⟨ps, pk.map Bt.idx⟩) (g3 : g (t.i : Int) = some ⟨x :: t.s, (ck ++ t.ks).map Bt.idx⟩) (gk : ∀ k : Int, k ≠ (y.i : Int) → k ≠ (p.i : Int) → k ≠ (t.i : Int) → g k = f k) :
    Short d g n root L (h + 1) cx (.mk y.i (sa ++ m :: sb) (l ++ .mk p.i ps pk :: .mk t.i (x :: t.s) (ck ++ t.ks) :: y.r)) := by
  have hok := repX_ok _ _ _ o.z.ctx y (List.mem_cons_self ..)
  unfold BF.ok at hok
  have hlen : sb.length = y.r.length := by rw [hl, hs] at hok; simp at hok; omega
  obtain ⟨k1, k2, k3, k4⟩ := o.dx
  have dp := (deg_eq d h p).1 (k1 p (by simp [hl]))
  have hlo : d ≤ t.s.length + 2 := by have := o.lo; simpa using this
  have z := o.z.fold
  have e : y.l ++ t :: y.r = l ++ p :: t :: y.r := by rw [hl]; simp
  rw [hs, e] at z
  have pt := o.z.tree.shape
  have dpk := dp.2
  rw [hpk, degK_append] at dpk
  have q1 : Parts h ps [] pk ck := by
    rcases hck with ⟨e1, e2, e3⟩ | ⟨e1, e2, e3⟩
    · exact .inl ⟨e1, e2, e3⟩
    · exact .inr ⟨e1, e2, by simpa using e3⟩
  have q2 : Parts h [] t.s ck t.ks := by
    rcases hck with ⟨e1, e2, e3⟩ | ⟨e1, e2, e3⟩
    · rcases pt with ⟨_, e4⟩ | ⟨e4, _⟩
      · exact .inl ⟨e1, e3, e4⟩
      · omega
    · rcases pt with ⟨e4, _⟩ | ⟨_, e4⟩
      · omega
      · exact .inr ⟨e1, by simpa using e3, e4⟩
  have sh1 : Shape h (.mk p.i ps pk) := by
    rcases q1 with ⟨e1, e2, _⟩ | ⟨e1, e2, _⟩
    · exact .inl ⟨e1, e2⟩
    · exact .inr ⟨e1, e2⟩
  have sh2 : Shape h (.mk t.i (x :: t.s) (ck ++ t.ks)) := by
    rcases q2 with ⟨e1, e2, e3⟩ | ⟨e1, e2, e3⟩
    · exact .inl ⟨e1, by show ck ++ t.ks = []; rw [e2, e3]; rfl⟩
    · refine .inr ⟨e1, ?_⟩
      show (ck ++ t.ks).length = (x :: t.s).length + 1
      simp at e2 ⊢; omega
  have z2 := z.turn (p' := .mk p.i ps pk) (q' := .mk t.i (x :: t.s) (ck ++ t.ks)) rfl rfl (by rw [hpk]; simp [Bt.ks]) sh1 sh2 (by rw [g1, e]) g2 g3 gk
  refine ⟨z2, k4, ?_, ?_, fun k hk => ?_, ?_⟩
  · rw [hs] at k2; simp [Bt.s] at k2 ⊢; omega
  · by_cases e1 : cx = []
    · rw [if_pos e1]; trivial
    · rw [if_neg e1] at k3 ⊢
      rw [hs] at k3; simp [Bt.s] at k3 ⊢; omega
  · simp only [Bt.ks, List.mem_append, List.mem_cons] at hk
    rcases hk with hk | rfl | rfl | hk
    · exact k1 k (by simp [hl, hk])
    · refine (deg_eq d h _).2 ⟨?_, dpk.1⟩
      show d ≤ ps.length + 1 ∧ ps.length + 1 ≤ 2 * d
      rw [hp] at hge dp; simp at hge dp; omega
    · refine (deg_eq d h _).2 ⟨?_, (degK_append d h _ _).2 ⟨dpk.2, o.dk⟩⟩
      show d ≤ (x :: t.s).length + 1 ∧ (x :: t.s).length + 1 ≤ 2 * d
      simp; omega
    · exact k1 k (by simp [hk])
  · have hr := o.row
    rw [← hr]
    have e1 : bpre h (y :: cx) ++ (Bt.ino h t ++ bpost h (y :: cx)) = bpre (h + 1) cx ++ (Bt.ino (h + 1) (.mk y.i y.s (y.l ++ t :: y.r)) ++ bpost (h + 1) cx) := by
      rw [Bt.ino_split h y.i y.l t y.r y.s hok]
      simp [bpre, bpost]
    rw [e1, e, hs, row_two h y.i sa sb m l y.r _ _ hla hlen, row_two h y.i sa sb x l y.r p t hla hlen]
    have r1 := row_parts h p.i p.i 0 ps [] m pk ck q1
    have r2 := row_parts h t.i 0 t.i [] t.s x ck t.ks q2
    rw [show Bt.mk p.i (ps ++ m :: []) (pk ++ ck) = p from by rw [← hp, ← hpk, Bt.eta]] at r1
    rw [Bt.eta] at r2
    rw [show (Bt.mk t.i (x :: t.s) (ck ++ t.ks)) = Bt.mk t.i ([] ++ x :: t.s) (ck ++ t.ks) from rfl, r1, r2]
    simp
/-- The child behind gives a segment. -/
theorem Short.on {d : Nat} {f g : Int → Option Kn} {n : Nat} {root : Int} {L : List G5} {h : Nat} {y : BF} {cx : List BF} {t q : Bt} {r : List Bt} {x m : G5} {sa sb qs : List G5} {qk ck : List Bt} (o : Short d f n root L h (y :: cx) t) (hr : y.r = q :: r) (hs : y.s = sa ++ x :: sb) (hla : y.l.length = sa.length)
    (hq : q.s = m :: qs) (hqk : q.ks = ck ++ qk) (hck : (h = 0 ∧ qk = [] ∧ ck = []) ∨ (0 < h ∧ qk.length = qs.length + 1 ∧ ck.length = 1)) (hge : d ≤ q.s.length) (hsh : t.s.length + 2 ≤ 2 * d)
    (g1 : g (y.i : Int) = some ⟨sa ++ m :: sb, (y.l ++ t :: y.r).map Bt.idx⟩) (g2 : g (t.i : Int) = some ⟨t.s ++ [x], (t.ks ++ ck).map Bt.idx⟩) (g3 : g (q.i : Int) = some ⟨qs, qk.map Bt.idx⟩) (gk : ∀ k : Int, k ≠ (y.i : Int) → k ≠ (t.i : Int) → k ≠ (q.i : Int) → g k = f k) :
    Short d g n root L (h + 1) cx (.mk y.i (sa ++ m :: sb) (y.l ++ .mk t.i (t.s ++ [x]) (t.ks ++ ck) :: .mk q.i qs qk :: r)) := by
  have hok := repX_ok _ _ _ o.z.ctx y (List.mem_cons_self ..)
  unfold BF.ok at hok
  have hlen : sb.length = r.length := by rw [hr, hs] at hok; simp at hok; omega
  obtain ⟨k1, k2, k3, k4⟩ := o.dx
  have dq := (deg_eq d h q).1 (k1 q (by simp [hr]))
  have hlo : d ≤ t.s.length + 2 := by have := o.lo; simpa using this
  have z := o.z.fold
  rw [hs, hr] at z
  have pt := o.z.tree.shape
  have dqk := dq.2
  rw [hqk, degK_append] at dqk
  have q1 : Parts h [] qs ck qk := by
    rcases hck with ⟨e1, e2, e3⟩ | ⟨e1, e2, e3⟩
    · exact .inl ⟨e1, e3, e2⟩
    · exact .inr ⟨e1, by simpa using e3, e2⟩
  have q2 : Parts h t.s [] t.ks ck := by
    rcases hck with ⟨e1, e2, e3⟩ | ⟨e1, e2, e3⟩
    · rcases pt with ⟨_, e4⟩ | ⟨e4, _⟩
      · exact .inl ⟨e1, e4, e3⟩
      · omega
    · rcases pt with ⟨e4, _⟩ | ⟨_, e4⟩
      · omega
      · exact .inr ⟨e1, e4, by simpa using e3⟩
  have sh1 : Shape h (.mk q.i qs qk) := by
    rcases q1 with ⟨e1, _, e2⟩ | ⟨e1, _, e2⟩
    · exact .inl ⟨e1, e2⟩
    · exact .inr ⟨e1, e2⟩
  have sh2 : Shape h (.mk t.i (t.s ++ [x]) (t.ks ++ ck)) := by
    rcases q2 with ⟨e1, e2, e3⟩ | ⟨e1, e2, e3⟩
    · exact .inl ⟨e1, by show t.ks ++ ck = []; rw [e2, e3]; rfl⟩
    · refine .inr ⟨e1, ?_⟩
      show (t.ks ++ ck).length = (t.s ++ [x]).length + 1
      simp at e3 ⊢; omega
  have z2 := z.turn (p' := .mk t.i (t.s ++ [x]) (t.ks ++ ck)) (q' := .mk q.i qs qk) rfl rfl (by rw [hqk]; simp [Bt.ks]) sh2 sh1 (by rw [g1, hr]) g2 g3 gk
  refine ⟨z2, k4, ?_, ?_, fun k hk => ?_, ?_⟩
  · rw [hs] at k2; simp [Bt.s] at k2 ⊢; omega
  · by_cases e1 : cx = []
    · rw [if_pos e1]; trivial
    · rw [if_neg e1] at k3 ⊢
      rw [hs] at k3; simp [Bt.s] at k3 ⊢; omega
  · simp only [Bt.ks, List.mem_append, List.mem_cons] at hk
    rcases hk with hk | rfl | rfl | hk
    · exact k1 k (by simp [hk])
    · refine (deg_eq d h _).2 ⟨?_, (degK_append d h _ _).2 ⟨o.dk, dqk.1⟩⟩
      show d ≤ (t.s ++ [x]).length + 1 ∧ (t.s ++ [x]).length + 1 ≤ 2 * d
      simp; omega
    · refine (deg_eq d h _).2 ⟨?_, dqk.2⟩
      show d ≤ qs.length + 1 ∧ qs.length + 1 ≤ 2 * d
      rw [hq] at hge dq; simp at hge dq; omega
    · exact k1 k (by simp [hr, hk])
  · have hrow := o.row
    rw [← hrow]
    have e1 : bpre h (y :: cx) ++ (Bt.ino h t ++ bpost h (y :: cx)) = bpre (h + 1) cx ++ (Bt.ino (h + 1) (.mk y.i y.s (y.l ++ t :: y.r)) ++ bpost (h + 1) cx) := by
      rw [Bt.ino_split h y.i y.l t y.r y.s hok]
      simp [bpre, bpost]
    rw [e1, hr, hs, row_two h y.i sa sb m y.l r _ _ hla hlen, row_two h y.i sa sb x y.l r t q hla hlen]
    have r1 := row_parts h q.i 0 q.i [] qs m ck qk q1
    have r2 := row_parts h t.i t.i 0 t.s [] x t.ks ck q2
    rw [show Bt.mk q.i ([] ++ m :: qs) (ck ++ qk) = q from by rw [List.nil_append, ← hq, ← hqk, Bt.eta]] at r1
    rw [Bt.eta] at r2
    rw [show (Bt.mk t.i (t.s ++ [x]) (t.ks ++ ck)) = Bt.mk t.i (t.s ++ x :: []) (t.ks ++ ck) from rfl, r1, r2]
    simp
/-- Two children are joined: p is the one ahead, q the one behind; one of them is short. -/
theorem Short.join {d : Nat} {f g : Int → Option Kn} {n : Nat} {root : Int} {L : List G5} {h : Nat} {y : BF} {cx : List BF} {t p q : Bt} {la lb : List Bt} {x : G5} {sa sb : List G5} (o : Short d f (n + 1) root L h (y :: cx) t) (hks : y.l ++ t :: y.r = la ++ p :: q :: lb) (hs : y.s = sa ++ x :: sb) (hla : la.length = sa.length)
    (hsum : p.s.length + q.s.length + 2 ≤ 2 * d) (hsum2 : d ≤ p.s.length + q.s.length + 2) (dkp : DegK d h p.ks) (dkq : DegK d h q.ks)
    (g1 : g (y.i : Int) = some ⟨sa ++ sb, (la ++ p :: lb).map Bt.idx⟩) (g2 : g (p.i : Int) = some ⟨p.s ++ x :: q.s, (p.ks ++ q.ks).map Bt.idx⟩) (g3 : g (q.i : Int) = none) (gk : ∀ k : Int, k ≠ (y.i : Int) → k ≠ (p.i : Int) → k ≠ (q.i : Int) → g k = f k)
    (dko : ∀ k ∈ la ++ lb, Deg d h k) :
    Short d g n root L (h + 1) cx (.mk y.i (sa ++ sb) (la ++ .mk p.i (p.s ++ x :: q.s) (p.ks ++ q.ks) :: lb)) := by
  have hok := repX_ok _ _ _ o.z.ctx y (List.mem_cons_self ..)
  unfold BF.ok at hok
  have hlen : sb.length = lb.length := by
    have := congrArg List.length hks
    rw [hs] at hok; simp at this hok; omega
  obtain ⟨k1, k2, k3, k4⟩ := o.dx
  have z := o.z.fold
  rw [hs, hks] at z
  have sp := (z.tree.2.2 p (by simp [Bt.ks])).shape
  have sq := (z.tree.2.2 q (by simp [Bt.ks])).shape
  have pp : Parts h p.s q.s p.ks q.ks := by
    rcases sp with ⟨e1, e2⟩ | ⟨e1, e2⟩
    · rcases sq with ⟨_, e4⟩ | ⟨e3, _⟩
      · exact .inl ⟨e1, e2, e4⟩
      · omega
    · rcases sq with ⟨e3, _⟩ | ⟨_, e4⟩
      · omega
      · exact .inr ⟨e1, e2, e4⟩
  refine ⟨z.join g1 g2 g3 gk, k4, ?_, ?_, fun k hk => ?_, ?_⟩
  · rw [hs] at k2; simp [Bt.s] at k2 ⊢; omega
  · by_cases e1 : cx = []
    · rw [if_pos e1]; trivial
    · rw [if_neg e1] at k3 ⊢
      rw [hs] at k3; simp [Bt.s] at k3 ⊢; omega
  · simp only [Bt.ks, List.mem_append, List.mem_cons] at hk
    rcases hk with hk | rfl | hk
    · exact dko k (by simp [hk])
    · refine (deg_eq d h _).2 ⟨?_, (degK_append d h _ _).2 ⟨dkp, dkq⟩⟩
      show d ≤ (p.s ++ x :: q.s).length + 1 ∧ (p.s ++ x :: q.s).length + 1 ≤ 2 * d
      simp; omega
    · exact dko k (by simp [hk])
  · have hrow := o.row
    rw [← hrow]
    have e1 : bpre h (y :: cx) ++ (Bt.ino h t ++ bpost h (y :: cx)) = bpre (h + 1) cx ++ (Bt.ino (h + 1) (.mk y.i y.s (y.l ++ t :: y.r)) ++ bpost (h + 1) cx) := by
      rw [Bt.ino_split h y.i y.l t y.r y.s hok]
      simp [bpre, bpost]
    rw [e1, hks, hs, row_one h y.i sa sb la lb _ hla hlen, row_two h y.i sa sb x la lb p q hla hlen]
    have r1 := row_parts h p.i p.i q.i p.s q.s x p.ks q.ks pp
    rw [Bt.eta, Bt.eta] at r1
    rw [r1]
/-- A way may be taken into the hole as far as one likes. -/
theorem Zo.plug {f : Int → Option Kn} {n : Nat} {root : Int} (c1 c2 : List BF) : ∀ (h : Nat) (t : Bt), Zo f n root h (c1 ++ c2) t [] → Zo f n root (h + c1.length) c2 (bplug c1 t) [] := by
  induction c1 with
  | nil => intro h t z; exact z
  | cons y c1 ih =>
    intro h t z
    have := ih (h + 1) _ z.fold
    rw [hsucc h y c1] at this
    exact this
theorem Zo.unplug {f : Int → Option Kn} {n : Nat} {root : Int} (c1 c2 : List BF) : ∀ (h : Nat) (t : Bt), Zo f n root (h + c1.length) c2 (bplug c1 t) [] → Zo f n root h (c1 ++ c2) t [] := by
  induction c1 with
  | nil => intro h t z; exact z
  | cons y c1 ih =>
    intro h t z
    rw [← hsucc h y c1] at z
    have := ih (h + 1) _ z
    exact this.unfold
/-- A frame's segments are other ones, as many. -/
theorem Zo.frame {f : Int → Option Kn} {n : Nat} {root : Int} {h : Nat} {c1 c2 : List BF} {y : BF} {t : Bt} (z : Zo f n root h (c1 ++ y :: c2) t []) (q : List G5) (hq : q.length = y.s.length) :
    Zo (updK f (y.i : Int) (some ⟨q, (y.l ++ bplug c1 t :: y.r).map Bt.idx⟩)) n root h (c1 ++ ⟨y.i, q, y.l, y.r⟩ :: c2) t [] := by
  have z1 := z.plug c1 (y :: c2) h t
  have z2 := z1.fold.segs q (.inr hq)
  exact (Zo.unplug c1 _ h t z2.unfold)
end Go.Proofs.Ytjgcdmeojjnjlaa.Bb
/- Trees of segments whose nodes stand in places; ways down to them; how they lie in an arena. No Go in sight. -/
namespace Go.Proofs.Ytjgcdmeojjnjlaa.Bo
/-- A node: its segment, the place of its parent, of its children, its colour. -/
structure Nd where
  g : G5
  pa : Int
  c0 : Int
  c1 : Int
  red : Bool
/-- Sides: false is left. -/
def Nd.ch (n : Nd) (s : Bool) : Int := if s then n.c1 else n.c0
def Nd.setRed (n : Nd) (b : Bool) : Nd := { n with red := b }
/-- The node whose child on the side s is a, on the other one b. -/
def ndk (s : Bool) (g : G5) (p a b : Int) (c : Bool) : Nd := if s then ⟨g, p, b, a, c⟩ else ⟨g, p, a, b, c⟩
theorem ndk_ch (s : Bool) (g : G5) (p a b : Int) (c : Bool) : (ndk s g p a b c).ch s = a := by cases s <;> rfl
theorem ndk_setRed (s : Bool) (g : G5) (p a b : Int) (c d : Bool) : (ndk s g p a b c).setRed d = ndk s g p a b d := by cases s <;> rfl
theorem ndk_pa (s : Bool) (g : G5) (p a b : Int) (c : Bool) : (ndk s g p a b c).pa = p := by cases s <;> rfl
def ndZ : Nd := ⟨⟨0, 0, 0, 0, 0⟩, 0, 0, 0, false⟩
inductive Tr where
  | nil : Tr
  | node (c : Bool) (l : Tr) (i : Nat) (g : G5) (r : Tr) : Tr
namespace Tr
/-- Where it stands; -1: there is none. -/
def idx : Tr → Int
  | nil => -1
  | node _ _ i _ _ => (i : Int)
def ids : Tr → List Nat
  | nil => []
  | node _ l i _ r => l.ids ++ i :: r.ids
def ino : Tr → List G5
  | nil => []
  | node _ l _ g r => l.ino ++ g :: r.ino
def isRed : Tr → Bool
  | nil => false
  | node c _ _ _ _ => c
def paint (b : Bool) : Tr → Tr
  | nil => nil
  | node _ l i g r => node b l i g r
/-- The node that has a on the side s, and b on the other one. -/
def mk (s : Bool) (c : Bool) (a : Tr) (i : Nat) (g : G5) (b : Tr) : Tr := if s then node c b i g a else node c a i g b
theorem mk_idx (s c : Bool) (a : Tr) (i : Nat) (g : G5) (b : Tr) : (mk s c a i g b).idx = (i : Int) := by cases s <;> rfl
theorem mk_mem (s c : Bool) (a : Tr) (i : Nat) (g : G5) (b : Tr) (k : Nat) : k ∈ (mk s c a i g b).ids ↔ k = i ∨ k ∈ a.ids ∨ k ∈ b.ids := by
  cases s <;> simp [mk, ids, or_assoc, or_comm, or_left_comm]
theorem mk_nodup (s c : Bool) (a : Tr) (i : Nat) (g : G5) (b : Tr) : (mk s c a i g b).ids.Nodup ↔ a.ids.Nodup ∧ b.ids.Nodup ∧ i ∉ a.ids ∧ i ∉ b.ids ∧ ∀ k ∈ a.ids, k ∉ b.ids := by
  cases s
  · simp only [mk, ids, List.nodup_append, List.nodup_cons, Bool.false_eq_true, if_false]
    constructor
    · rintro ⟨h1, ⟨h2, h3⟩, h4⟩
      exact ⟨h1, h3, fun h => h4 i h i (by simp) rfl, h2, fun k h h' => h4 k h k (List.mem_cons_of_mem _ h') rfl⟩
    · rintro ⟨h1, h2, h3, h4, h5⟩
      refine ⟨h1, ⟨h4, h2⟩, fun x hx y hy e => ?_⟩
      subst e
      rcases List.mem_cons.1 hy with rfl | hy
      · exact h3 hx
      · exact h5 x hx hy
  · simp only [mk, ids, List.nodup_append, List.nodup_cons, if_true]
    constructor
    · rintro ⟨h1, ⟨h2, h3⟩, h4⟩
      exact ⟨h3, h1, h2, fun h => h4 i h i (by simp) rfl, fun k h h' => h4 k h' k (List.mem_cons_of_mem _ h) rfl⟩
    · rintro ⟨h1, h2, h3, h4, h5⟩
      refine ⟨h2, ⟨h3, h1⟩, fun x hx y hy e => ?_⟩
      subst e
      rcases List.mem_cons.1 hy with rfl | hy
      · exact h4 hx
      · exact h5 x hy hx
theorem of_red (t : Tr) (h : t.isRed = true) (s : Bool) : ∃ a i g b, t = mk s true a i g b := by
  cases t with
  | nil => cases h
  | node c l i g r =>
    simp only [isRed] at h; subst h
    cases s; exact ⟨l, i, g, r, rfl⟩; exact ⟨r, i, g, l, rfl⟩
theorem idx_mem (t : Tr) (k : Nat) (h : t.idx = (k : Int)) : k ∈ t.ids := by
  cases t with
  | nil => simp only [idx] at h; omega
  | node c l i g r =>
    simp only [idx] at h
    have : i = k := by omega
    subst this; simp [ids]
theorem paint_ids (t : Tr) (b : Bool) : (t.paint b).ids = t.ids := by cases t <;> rfl
theorem paint_ino (t : Tr) (b : Bool) : (t.paint b).ino = t.ino := by cases t <;> rfl
theorem paint_idx (t : Tr) (b : Bool) : (t.paint b).idx = t.idx := by cases t <;> rfl
end Tr
/-- A step of a way down: the node, on which side the way goes on, what is on the other one. -/
structure Fr where
  s : Bool
  c : Bool
  i : Nat
  g : G5
  o : Tr
def Fr.fill (f : Fr) (t : Tr) : Tr := Tr.mk f.s f.c t f.i f.g f.o
/-- What stands around a place: the innermost step first. -/
def plug : List Fr → Tr → Tr
  | [], t => t
  | f :: cx, t => plug cx (f.fill t)
def cpi : List Fr → Int
  | [] => -1
  | f :: _ => (f.i : Int)
def cids : List Fr → List Nat
  | [] => []
  | f :: cx => f.i :: f.o.ids ++ cids cx
/-- How a tree lies. -/
def RepT (f : Int → Option Nd) : Tr → Int → Prop
  | .nil, _ => True
  | .node c l i g r, p => f i = some ⟨g, p, l.idx, r.idx, c⟩ ∧ RepT f l i ∧ RepT f r i
def RepC (f : Int → Option Nd) : List Fr → Int → Prop
  | [], _ => True
  | k :: cx, h => f k.i = some (ndk k.s k.g (cpi cx) h k.o.idx k.c) ∧ RepT f k.o k.i ∧ RepC f cx k.i
variable {f f' : Int → Option Nd}
theorem repT_mk (s c : Bool) (a : Tr) (i : Nat) (g : G5) (b : Tr) (p : Int) : RepT f (Tr.mk s c a i g b) p ↔ f i = some (ndk s g p a.idx b.idx c) ∧ RepT f a i ∧ RepT f b i := by
  cases s
  · exact Iff.rfl
  · show (_ ∧ _ ∧ _) ↔ _
    exact ⟨fun ⟨h1, h2, h3⟩ => ⟨h1, h3, h2⟩, fun ⟨h1, h2, h3⟩ => ⟨h1, h3, h2⟩⟩
theorem repT_congr (t : Tr) : ∀ (p : Int), (∀ k ∈ t.ids, f' (k : Int) = f k) → RepT f t p → RepT f' t p := by
  induction t with
  | nil => intro p _ _; trivial
  | node c l i g r ih1 ih2 =>
    rintro p hk ⟨h1, h2, h3⟩
    exact ⟨(hk i (by simp [Tr.ids])).trans h1, ih1 _ (fun k h => hk k (by simp [Tr.ids, h])) h2, ih2 _ (fun k h => hk k (by simp [Tr.ids, h])) h3⟩
theorem repC_congr (cx : List Fr) : ∀ (h : Int), (∀ k ∈ cids cx, f' (k : Int) = f k) → RepC f cx h → RepC f' cx h := by
  induction cx with
  | nil => intro h _ _; trivial
  | cons x cx ih =>
    rintro h hk ⟨h1, h2, h3⟩
    exact ⟨(hk x.i (by simp [cids])).trans h1, repT_congr _ _ (fun k h => hk k (by simp [cids, h])) h2, ih _ (fun k h => hk k (by simp [cids, h])) h3⟩
theorem rep_plug (cx : List Fr) : ∀ t : Tr, RepT f (plug cx t) (-1) ↔ RepC f cx t.idx ∧ RepT f t (cpi cx) := by
  induction cx with
  | nil => intro t; exact ⟨fun h => ⟨trivial, h⟩, fun h => h.2⟩
  | cons x cx ih =>
    intro t
    show RepT f (plug cx (x.fill t)) (-1) ↔ _
    rw [ih]
    show RepC f cx (x.fill t).idx ∧ RepT f (Tr.mk x.s x.c t x.i x.g x.o) (cpi cx) ↔ (f x.i = some (ndk x.s x.g (cpi cx) t.idx x.o.idx x.c) ∧ RepT f x.o x.i ∧ RepC f cx x.i) ∧ RepT f t x.i
    rw [repT_mk, show (x.fill t).idx = (x.i : Int) from Tr.mk_idx ..]
    exact ⟨fun ⟨h1, h2, h3, h4⟩ => ⟨⟨h2, h4, h1⟩, h3⟩, fun ⟨⟨h1, h2, h3⟩, h4⟩ => ⟨h3, h1, h4, h2⟩⟩
theorem plug_mem (cx : List Fr) (k : Nat) : ∀ t : Tr, k ∈ (plug cx t).ids ↔ k ∈ cids cx ∨ k ∈ t.ids := by
  induction cx with
  | nil => intro t; simp [plug, cids]
  | cons x cx ih =>
    intro t
    show k ∈ (plug cx (x.fill t)).ids ↔ _
    rw [ih, show (k ∈ (x.fill t).ids ↔ _) from Tr.mk_mem ..]
    simp only [cids, List.cons_append, List.mem_cons, List.mem_append]
    constructor
    · rintro (h | h | h | h)
      · exact .inl (.inr (.inr h))
      · exact .inl (.inl h)
      · exact .inr h
      · exact .inl (.inr (.inl h))
    · rintro ((h | h | h) | h)
      · exact .inr (.inl h)
      · exact .inr (.inr (.inr h))
      · exact .inl h
      · exact .inr (.inr (.inl h))
theorem plug_nodup (cx : List Fr) : ∀ t : Tr, (plug cx t).ids.Nodup ↔ (cids cx).Nodup ∧ t.ids.Nodup ∧ ∀ k ∈ t.ids, k ∉ cids cx := by
  induction cx with
  | nil => intro t; simp [plug, cids]
  | cons x cx ih =>
    intro t
    show (plug cx (x.fill t)).ids.Nodup ↔ _
    rw [ih, show ((x.fill t).ids.Nodup ↔ _) from Tr.mk_nodup ..]
    simp only [cids, List.cons_append, List.nodup_cons, List.nodup_append, List.mem_append, List.mem_cons]
    constructor
    · rintro ⟨h1, ⟨h2, h3, h4, h5, h6⟩, h7⟩
      have m : ∀ k, k ∈ (x.fill t).ids ↔ k = x.i ∨ k ∈ t.ids ∨ k ∈ x.o.ids := fun k => Tr.mk_mem ..
      refine ⟨⟨fun h => ?_, h3, h1, fun a ha b hb e => ?_⟩, h2, fun k hk h => ?_⟩
      · rcases h with h | h
        · exact h5 h
        · exact h7 x.i ((m _).2 (.inl rfl)) h
      · subst e; exact h7 a ((m _).2 (.inr (.inr ha))) hb
      · rcases h with rfl | h | h
        · exact h4 hk
        · exact h6 k hk h
        · exact h7 k ((m _).2 (.inr (.inl hk))) h
    · rintro ⟨⟨h1, h2, h3, h4⟩, h5, h6⟩
      have m : ∀ k, k ∈ (x.fill t).ids ↔ k = x.i ∨ k ∈ t.ids ∨ k ∈ x.o.ids := fun k => Tr.mk_mem ..
      refine ⟨h3, ⟨h5, h2, fun h => h6 _ h (.inl rfl), fun h => h1 (.inl h), fun k hk h => h6 k hk (.inr (.inl h))⟩, fun k hk h => ?_⟩
      rcases (m k).1 hk with rfl | hk | hk
      · exact h1 (.inr h)
      · exact h6 k hk (.inr (.inr h))
      · exact h4 k hk k h rfl
/-- One node is another one. -/
def upd (f : Int → Option Nd) (i : Int) (v : Nd) : Int → Option Nd := fun j => if j = i then some v else f j
/-- One node is turned, if it is there. -/
def tw (f : Int → Option Nd) (i : Int) (t : Nd → Nd) : Int → Option Nd := fun j => if j = i then (f j).map t else f j
theorem tw_self (i : Int) (t : Nd → Nd) (n : Nd) (h : f i = some n) : tw f i t i = some (t n) := by unfold tw; rw [if_pos rfl, h]; rfl
theorem tw_ne (i j : Int) (t : Nd → Nd) (h : j ≠ i) : tw f i t j = f j := if_neg h
theorem tw_none (i : Int) (t : Nd → Nd) (h : f i = none) : tw f i t = f := by
  funext j; unfold tw
  split
  · rename_i e; subst e; rw [h]; rfl
  · rfl
theorem tw_some (i : Int) (t : Nd → Nd) (n : Nd) (h : f i = some n) : tw f i t = upd f i (t n) := by
  funext j; unfold tw upd
  split
  · rename_i e; subst e; rw [h]; rfl
  · rfl
end Go.Proofs.Ytjgcdmeojjnjlaa.Bo
/- A tree in an arena: hanging, turning, painting. No Go in sight. -/
namespace Go.Proofs.Ytjgcdmeojjnjlaa.Bo
/-- What stands where in an arena of nodes. -/
def Ag.look (a : Ag Nd) (i : Int) : Option Nd := if a.is i = true then some (a.l.getD i.toNat ndZ) else none
theorem Ag.look_some (a : Ag Nd) (i : Int) (n : Nd) (h : a.look i = some n) : a.is i = true ∧ a.l.getD i.toNat ndZ = n := by
  unfold Ag.look at h
  split at h
  · rename_i k; injection h with h; exact ⟨k, h⟩
  · cases h
theorem Ag.look_none (a : Ag Nd) (i : Int) : a.look i = none ↔ a.is i = false := by
  unfold Ag.look
  split
  · rename_i h; simp [h]
  · rename_i h; simp at h; simp [h]
theorem Ag.is_set {α : Type} (a : Ag α) (n : Nat) (v : α) (i : Int) : (a.set n v).is i = a.is i := rfl
theorem Ag.look_set (a : Ag Nd) (n : Nat) (v : Nd) (hok : a.ok) (hn : a.is (n : Int) = true) : (a.set n v).look = upd a.look (n : Int) v := by
  obtain ⟨_, _, h3, _⟩ := a.is_in n hok hn
  rw [Int.toNat_natCast] at h3
  funext i
  show (if (a.set n v).is i = true then some ((a.set n v).l.getD i.toNat ndZ) else none) = if i = (n : Int) then some v else (if a.is i = true then some (a.l.getD i.toNat ndZ) else none)
  rw [Ag.is_set]
  by_cases hi : i = (n : Int)
  · subst hi
    rw [if_pos hn, if_pos rfl]
    show some ((a.l.set n v).getD _ ndZ) = _
    rw [Int.toNat_natCast, agetD_set_self _ _ _ _ h3]
  · rw [if_neg hi]
    split
    · rename_i h
      have := (a.is_iff i).1 h
      show some ((a.l.set n v).getD _ ndZ) = _
      rw [agetD_set_ne _ _ _ _ _ (by omega)]
    · rfl
/-- The tree's own: the arena, and where the root is. -/
structure Rt where
  ar : Ag Nd
  root : Int
namespace Rt
abbrev look (t : Rt) : Int → Option Nd := t.ar.look
def tw (t : Rt) (i : Int) (h : Nd → Nd) : Rt := if t.ar.is i = true then { t with ar := t.ar.set i.toNat (h (t.ar.l.getD i.toNat ndZ)) } else t
theorem tw_is (t : Rt) (i : Int) (h : Nd → Nd) (j : Int) : (t.tw i h).ar.is j = t.ar.is j := by unfold tw; split <;> rfl
theorem tw_root (t : Rt) (i : Int) (h : Nd → Nd) : (t.tw i h).root = t.root := by unfold tw; split <;> rfl
theorem tw_ok (t : Rt) (i : Int) (h : Nd → Nd) (hok : t.ar.ok) : (t.tw i h).ar.ok := by unfold tw; split; exact t.ar.set_ok _ _ hok; exact hok
theorem tw_look (t : Rt) (i : Int) (h : Nd → Nd) (hok : t.ar.ok) : (t.tw i h).look = Bo.tw t.look i h := by
  unfold tw
  split
  · rename_i k
    have hk := (t.ar.is_iff i).1 k
    obtain ⟨n, rfl⟩ : ∃ n : Nat, i = (n : Int) := ⟨i.toNat, by omega⟩
    rw [Int.toNat_natCast]
    refine (t.ar.look_set n _ hok k).trans (tw_some _ _ _ ?_).symm
    show Ag.look _ _ = _
    unfold Ag.look
    rw [if_pos k, Int.toNat_natCast]
  · rename_i k
    exact (tw_none _ _ ((t.ar.look_none i).2 (by simpa using k))).symm
def pa (t : Rt) (i : Int) : Int := (t.ar.l.getD i.toNat ndZ).pa
def ch (t : Rt) (i : Int) (s : Bool) : Int := (t.ar.l.getD i.toNat ndZ).ch s
def sd (t : Rt) (i : Int) : Bool := t.ar.is (t.pa i) && (t.ch (t.pa i) true == i)
def red (t : Rt) (i : Int) : Bool := t.ar.is i && (t.ar.l.getD i.toNat ndZ).red
def paint (t : Rt) (i : Int) (b : Bool) : Rt := t.tw i (·.setRed b)
theorem pa_of (t : Rt) (i : Int) (n : Nd) (h : t.look i = some n) : t.pa i = n.pa := by unfold pa; rw [(t.ar.look_some i n h).2]
theorem ch_of (t : Rt) (i : Int) (n : Nd) (s : Bool) (h : t.look i = some n) : t.ch i s = n.ch s := by unfold ch; rw [(t.ar.look_some i n h).2]
theorem red_of (t : Rt) (i : Int) (n : Nd) (h : t.look i = some n) : t.red i = n.red := by unfold red; rw [(t.ar.look_some i n h).1, (t.ar.look_some i n h).2]; rfl
theorem red_no (t : Rt) (i : Int) (h : t.look i = none) : t.red i = false := by unfold red; rw [(t.ar.look_none i).1 h]; rfl
end Rt
/-- The arena holds just that tree. -/
structure Rep (t : Rt) (x : Tr) : Prop where
  ok : t.ar.ok
  root : t.root = x.idx
  rep : RepT t.look x (-1)
  nd : x.ids.Nodup
  all : ∀ k : Nat, t.ar.is (k : Int) = true → k ∈ x.ids
theorem Ag.look_neg (a : Ag Nd) : a.look (-1) = none := by
  rw [Ag.look_none]
  cases h : a.is (-1) with
  | false => rfl
  | true => have := (a.is_iff (-1)).1 h; omega
theorem idx_ne (x : Tr) (k : Nat) (h : k ∉ x.ids) : (k : Int) ≠ x.idx := fun e => h (x.idx_mem k e.symm)
theorem Rep.parts {t : Rt} {cx : List Fr} {x : Tr} (h : Rep t (plug cx x)) : RepC t.look cx x.idx ∧ RepT t.look x (cpi cx) ∧ (cids cx).Nodup ∧ x.ids.Nodup ∧ ∀ k ∈ x.ids, k ∉ cids cx := by
  have h1 := (rep_plug cx x).1 h.rep
  have h2 := (plug_nodup cx x).1 h.nd
  exact ⟨h1.1, h1.2, h2.1, h2.2.1, h2.2.2⟩
theorem plug_idx (cx : List Fr) (x y : Tr) (h : cx ≠ []) : (plug cx x).idx = (plug cx y).idx := by
  induction cx generalizing x y with
  | nil => exact absurd rfl h
  | cons z cx ih =>
    cases cx with
    | nil => show (Tr.mk ..).idx = (Tr.mk ..).idx; rw [Tr.mk_idx, Tr.mk_idx]
    | cons z2 cx => exact ih _ _ (by simp)
/-- A node is painted. -/
theorem Rep.paint {t : Rt} {cx : List Fr} {x : Tr} (h : Rep t (plug cx x)) (b : Bool) : Rep (t.paint x.idx b) (plug cx (x.paint b)) := by
  obtain ⟨h1, h2, h3, h4, h5⟩ := h.parts
  have hat := t.tw_look x.idx (·.setRed b) h.ok
  refine ⟨t.tw_ok _ _ h.ok, ?_, ?_, ?_, ?_⟩
  · show (t.tw _ _).root = _
    rw [t.tw_root, h.root]
    cases cx with
    | nil => exact (x.paint_idx b).symm
    | cons y cx => exact plug_idx _ _ _ (by simp)
  · show RepT (t.tw _ _).look _ _
    rw [hat, rep_plug, x.paint_idx]
    refine ⟨repC_congr _ _ (fun k hk => tw_ne _ _ _ (idx_ne x k (fun hx => h5 k hx hk))) h1, ?_⟩
    cases x with
    | nil => trivial
    | node c l i g r =>
      obtain ⟨g1, g2, g3⟩ := h2
      have hn := (Tr.mk_nodup false c l i g r).1 h4
      refine ⟨(tw_self _ _ _ g1).trans rfl, repT_congr _ _ (fun k hk => tw_ne _ _ _ ?_) g2, repT_congr _ _ (fun k hk => tw_ne _ _ _ ?_) g3⟩
      · intro e
        have : k = i := by simp only [Tr.idx] at e; omega
        subst this; exact hn.2.2.1 hk
      · intro e
        have : k = i := by simp only [Tr.idx] at e; omega
        subst this; exact hn.2.2.2.1 hk
  · rw [plug_nodup, x.paint_ids]; exact ⟨h3, h4, h5⟩
  · intro k hk
    have := h.all k (by rw [← hk]; exact (t.tw_is _ _ _).symm)
    rw [plug_mem] at this ⊢
    rw [x.paint_ids]; exact this
end Go.Proofs.Ytjgcdmeojjnjlaa.Bo
/- A tree in an arena: turning a node down. No Go in sight. -/
namespace Go.Proofs.Ytjgcdmeojjnjlaa.Bo
theorem natne {a b : Nat} (h : a ≠ b) : (a : Int) ≠ (b : Int) := fun e => h (by omega)
end Go.Proofs.Ytjgcdmeojjnjlaa.Bo
