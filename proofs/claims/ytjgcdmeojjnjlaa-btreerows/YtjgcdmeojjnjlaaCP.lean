/- A part of the proof: contracts of the functions that the statements reach. -/
import Derived.RangeFuncNested
import Derived.RangeFuncBound
import Derived.RangeFuncCalls
import Derived.RangeFuncLeaves
import Derived.Shelf.Abstract
import Derived.Shelf.RegionOpen
import Derived.WalkKit
import Derived.OwnWalkIn
import Derived.TacticsInMore
import Derived.LoopNIn
import Derived.LoopIn
import Derived.Shelf.SlSortCmp.WholeK
import Derived.WalkSpells
import Derived.WalkLawsBesides
import Derived.Lib.Hide
import Derived.Laws.StructEq
import Derived.Shelf.SlSortCmp.QuietGrown
import Derived.Laws.EntriesVeiled
import Derived.Deep.CutRange
import Derived.RegionTactic
import Derived.Lib.QuietBelow
import Derived.BigQuiet
import Derived.OpenShut
import Derived.Deep.RegionHeld3
import Derived.Deep.QuietTactic
import Derived.Maps.AppendAt
import Derived.Laws.IdiomCopy
import Derived.Deep.AppendLies
import Derived.Deep.LoopGhost
import Derived.Deep.Upon
import Derived.StillTailTactics
import Derived.Lib.SmallJoins
import Derived.Deep.SlicePairs
import Derived.Deep.Strs
import Derived.ChangeOld
import Derived.SizedLaws
import Derived.Lib.SliceRun
import Derived.Laws.CopyRow
import Derived.Below
import Derived.Laws.CopyOwn
import Derived.Deep.RegionLaw
import Derived.IntWalk
import Derived.Lib.MinMax
import Derived.Test.YtjgcdmeojjnjlaaCO

/- Copy: a tree of its own, just so. -/
namespace Go.Proofs.Ytjgcdmeojjnjlaa
open Go.RowKit Go.Sort Go.Shelf Go.Proofs.Ytjgcdmeojjnjlaa.Bo Go.Proofs.Ytjgcdmeojjnjlaa.Bb Go.Proofs.Ytjgcdmeojjnjlaa.Rf
set_option linter.unusedVariables false
set_option linter.unusedSimpArgs false
set_option maxRecDepth 100000
attribute [local go_sem] Oper.semAt_some
/-- A copy under way: the places of D have rows of their own. -/
structure CpW (W : World) (X0 O C : Nat) (t : Bx) (b : Ag Rn) (S2 : Nat → Prop) (D : List Nat) : Prop where
  top : W.heap[O]? = some (bO C t)
  le : X0 ≤ O
  ar : bnIs W X0 C b S2
  ok : b.ok
  room : b.room = t.room
  len : b.len = (t.n : Int)
  is : ∀ i : Int, b.is i = true ↔ t.f i ≠ none
  node : ∀ (p : Nat) (n : Kn), p ∈ D → t.f (p : Int) = some n → NdAt W X0 (b.l.getD p bnZ) n
  apart : ∀ p q : Nat, p ∈ D → q ∈ D → t.f (p : Int) ≠ none → t.f (q : Int) ≠ none → p ≠ q → ∀ x, rowB (b.l.getD p bnZ) x → ¬ rowB (b.l.getD q bnZ) x
  far : ∀ p : Nat, p ∈ D → t.f (p : Int) ≠ none → ∀ x, rowB (b.l.getD p bnZ) x → ¬ S2 x
/-- Its blocks. -/
def cpS (O : Nat) (t : Bx) (b : Ag Rn) (S2 : Nat → Prop) (D : List Nat) (x : Nat) : Prop := x = O ∨ S2 x ∨ ∃ p ∈ D, t.f ((p : Nat) : Int) ≠ none ∧ rowB (b.l.getD p bnZ) x
section
variable {W W' W1 W2 : World} {X0 O C : Nat} {t : Bx} {b : Ag Rn} {S2 S3 : Nat → Prop} {D : List Nat}
theorem CpW.notT (h : CpW W X0 O C t b S2 D) : ¬ S2 O := by
  intro hs
  have := h.ar.type O hs h.top
  revert this
  decide
theorem CpW.cells (h : CpW W X0 O C t b S2 D) (x : Nat) (hx : cpS O t b S2 D x) (o : Obj) (ho : W.heap[x]? = some o) : o.isCells = true := by
  have fin : ∀ o' : Obj, W.heap[x]? = some o' → o'.isCells = true → o.isCells = true := fun o' h1 h2 => by
    rw [ho] at h1; cases h1; exact h2
  have row : ∀ {base : Nat} {e : TypeId} {size : Nat} {v : Value} {n : Nat} {xs : List Value}, W.ownsRow base e size v n xs → v.ownBlock = some x → o.isCells = true := fun h1 h2 => by
    obtain ⟨cur, h3⟩ := own_type h1 h2
    exact fin _ h3 rfl
  rcases hx with rfl | hb | ⟨p, hD, hp, hb⟩
  · exact fin _ h.top rfl
  · obtain ⟨pv, fv, rfl, hg⟩ := h.ar
    rcases hb with rfl | hb | hb
    · exact fin _ hg.box rfl
    · exact row hg.prow hb
    · exact row hg.frow hb
  · obtain ⟨n, hn⟩ := Option.ne_none_iff_exists'.1 hp
    have hnd := h.node p n hD hn
    rcases hb with hb | hb
    · exact row hnd.s hb
    · exact row hnd.k hb
theorem CpW.kp {U : Nat → Prop} (h : CpW W X0 O C t b S2 D) (hk : Kp U W W') (hn : ∀ x, cpS O t b S2 D x → ¬ U x) : CpW W' X0 O C t b S2 D :=
  { top := hk.at h.top (hn O (.inl rfl)), le := h.le, ar := h.ar.kp hk (fun x hx => hn x (.inr (.inl hx))), ok := h.ok, room := h.room, len := h.len, is := h.is,
    node := fun p n hD hp => (h.node p n hD hp).kp hk (fun x hx => hn x (.inr (.inr ⟨p, hD, by rw [hp]; simp, hx⟩))), apart := h.apart, far := h.far }
theorem CpW.below (h : CpW W X0 O C t b S2 D) (hb : Go.RowKit.Below W.heap.size W W') : CpW W' X0 O C t b S2 D := h.kp (U := fun _ => False) (Kp.of_below _ hb) (fun _ _ => id)
theorem CpW.grown (h : CpW W X0 O C t b S2 D) {row : Option Nat} (hg : W.grownBy W' row) (hr : ∀ r, row = some r → ∃ o : Obj, W.heap[r]? = some o ∧ o.isCells = false) : CpW W' X0 O C t b S2 D := by
  have hk : Kp (fun x => row = some x) W W' := (Kp.refl _ W).grown hg (fun k hk => .inl hk)
  refine h.kp hk (fun x hx e => ?_)
  obtain ⟨o, k1, k2⟩ := hr x e
  rw [h.cells x hx o k1] at k2; cases k2
theorem CpW.lt (h : CpW W X0 O C t b S2 D) (x : Nat) (hx : cpS O t b S2 D x) : X0 ≤ x ∧ x < W.heap.size := by
  rcases hx with rfl | hb | ⟨p, hD, hp, hb⟩
  · exact ⟨h.le, lt_of_block h.top⟩
  · exact h.ar.lt x hb
  · obtain ⟨n, hn⟩ := Option.ne_none_iff_exists'.1 hp
    exact (h.node p n hD hn).lt x hb
/-- A node's rows are new ones, and go into its place. -/
theorem CpW.step (h : CpW W X0 O C t b S2 D) (p : Nat) (n : Kn) (r : Rn) (hp : t.f (p : Int) = some n) (hb : Go.RowKit.Below W.heap.size W W1) (hnd : NdAt W1 W.heap.size r n)
    (har : bnIs W2 X0 C (b.set p r) S3) (hk : Kp S2 W1 W2) (hS : ∀ x, S3 x → S2 x ∨ W1.heap.size ≤ x) : CpW W2 X0 O C t (b.set p r) S3 (D ++ [p]) ∧ ∀ x, cpS O t (b.set p r) S3 (D ++ [p]) x → cpS O t b S2 D x ∨ W.heap.size ≤ x := by
  have hi : b.is (p : Int) = true := (h.is _).2 (by rw [hp]; simp)
  have h3 : p < b.l.length := by have := (b.is_in p h.ok hi).2.2.1; rwa [Int.toNat_natCast] at this
  have h1 := h.below hb
  have hws := hb.size
  have hX0 : X0 ≤ W.heap.size := Nat.le_trans h.le (Nat.le_of_lt (lt_of_block h.top))
  have hgd : ∀ q : Nat, (b.set p r).l.getD q bnZ = if q = p then r else b.l.getD q bnZ := by
    intro q
    show (b.l.set p r).getD q bnZ = _
    rw [List.getD_eq_getElem?_getD, List.getD_eq_getElem?_getD, List.getElem?_set]
    by_cases hq : q = p
    · subst hq; simp [h3]
    · rw [if_neg hq, if_neg (fun e => hq e.symm)]
  have new : ∀ x, rowB r x → W.heap.size ≤ x ∧ x < W1.heap.size := fun x hx => hnd.lt x hx
  have old : ∀ q, q ∈ D → t.f ((q : Nat) : Int) ≠ none → ∀ x, rowB (b.l.getD q bnZ) x → x < W.heap.size := fun q hq hf x hx => (h.lt x (.inr (.inr ⟨q, hq, hf, hx⟩))).2
  have inD : ∀ q, q ∈ D ++ [p] → q ≠ p → q ∈ D := fun q hq hne => by
    rcases List.mem_append.1 hq with k | k
    · exact k
    · exact absurd (List.mem_singleton.1 k) hne
  have newS : ∀ x, rowB r x → ¬ S2 x := fun x hx hs => by have := (new x hx).1; have := (h.ar.lt x hs).2; omega
  have newS3 : ∀ x, rowB r x → ¬ S3 x := fun x hx hs => by
    rcases hS x hs with k | k
    · exact newS x hx k
    · have := (new x hx).2; omega
  refine ⟨{ top := hk.at h1.top h.notT, le := h.le, ar := har, ok := b.set_ok p r h.ok, room := h.room, len := h.len, is := h.is, node := ?_, apart := ?_, far := ?_ }, ?_⟩
  · intro q m hq hm
    rw [hgd]
    by_cases hqp : q = p
    · subst hqp
      rw [if_pos rfl]
      obtain rfl : n = m := by rw [hp] at hm; exact Option.some.inj hm
      have := hnd.kp hk newS
      exact ⟨own_base this.s hX0, own_base this.k hX0⟩
    · rw [if_neg hqp]
      exact (h1.node q m (inD q hq hqp) hm).kp hk (h.far q (inD q hq hqp) (by rw [hm]; simp))
  · intro q1 q2 m1 m2 f1 f2 hne x hx
    rw [hgd] at hx ⊢
    by_cases e1 : q1 = p
    · rw [if_pos e1] at hx
      rw [if_neg (fun e => hne (e1.trans e.symm))]
      intro hx2
      have := (new x hx).1
      have := old q2 (inD q2 m2 (fun e => hne (e1.trans e.symm))) f2 x hx2
      omega
    · rw [if_neg e1] at hx
      by_cases e2 : q2 = p
      · rw [if_pos e2]
        intro hx2
        have := (new x hx2).1
        have := old q1 (inD q1 m1 e1) f1 x hx
        omega
      · rw [if_neg e2]
        exact h.apart q1 q2 (inD q1 m1 e1) (inD q2 m2 e2) f1 f2 hne x hx
  · intro q hq hf x hx
    rw [hgd] at hx
    by_cases e1 : q = p
    · rw [if_pos e1] at hx; exact newS3 x hx
    · rw [if_neg e1] at hx
      intro hs
      rcases hS x hs with k | k
      · exact h.far q (inD q hq e1) hf x hx k
      · have := old q (inD q hq e1) hf x hx; omega
  · rintro x (rfl | hb' | ⟨q, hq, hf, hx⟩)
    · exact .inl (.inl rfl)
    · rcases hS x hb' with k | k
      · exact .inl (.inr (.inl k))
      · exact .inr (by omega)
    · rw [hgd] at hx
      by_cases e1 : q = p
      · rw [if_pos e1] at hx; exact .inr (new x hx).1
      · rw [if_neg e1] at hx; exact .inl (.inr (.inr ⟨q, inD q hq e1, hf, hx⟩))
/-- All places have theirs: it is a tree. -/
theorem CpW.done (h : CpW W X0 O C t b S2 D) (hD : ∀ p : Nat, t.f (p : Int) ≠ none → p ∈ D) : BtW W X0 O C t b S2 :=
  { top := h.top, le := h.le, ar := h.ar, ok := h.ok, room := h.room, len := h.len, is := h.is, node := fun p n hp => h.node p n (hD p (by rw [hp]; simp)) hp,
    apart := fun p q hp hq => h.apart p q (hD p hp) (hD q hq) hp hq, far := fun p hp => h.far p (hD p hp) hp }
end
/-- Between two rounds of Copy. -/
def CpI (w W0 : World) (O C Bn : Nat) (t : Bx) (a : Ag Rn) (j : Nat) (V : World) : Prop :=
  ∃ b S2, (CpW V w.heap.size O C t b S2 ((a.upTo a.l.length).take j) ∧ ¬ S2 Bn) ∧ Go.RowKit.Below w.heap.size w V ∧ V.heap[Bn]? = W0.heap[Bn]? ∧ W0.heap.size ≤ V.heap.size
theorem cpI_own (w W0 : World) (O C Bn : Nat) (t : Bx) (a : Ag Rn) (B : Nat) (h1 : w.heap.size ≤ B) (hB : Bn < B) (hB2 : Bn < W0.heap.size) : OwnFrom B (CpI w W0 O C Bn t a) := by
  rintro j X Y row ⟨b, S2, ⟨k1, k2⟩, k3, k4, k5⟩ hg hr
  exact ⟨b, S2, ⟨k1.grown hg (fun r e => (hr r e).2), k2⟩, k3.grown hg k3.size (fun j e => by have := (hr j e).1; omega), (hg.block Bn (by omega) (fun e => by have := (hr Bn e.symm).1; omega)).trans k4, Nat.le_trans k5 hg.size⟩
abbrev bxO (x : Rn) : Obj := .cells #[.slice x.s.a x.s.n x.s.c, .slice x.k.a x.k.n x.k.c] 80 (0, 0)
/-- What a round of Copy asks. -/
structure CpR (V : World) (x : Rn) (nd : Kn) : Prop where
  sn : x.s.n = nd.segs.length
  kn : x.k.n = nd.kids.length
  s : ∀ W, Go.RowKit.Below V.heap.size V W → Calls Try.prog 72 #[.slice x.s.a x.s.n x.s.c] W (ClPost W 38 5 x.s.n (flatG nd.segs))
  k : ∀ W, Go.RowKit.Below V.heap.size V W → Calls Try.prog 73 #[.slice x.k.a x.k.n x.k.c] W (ClPost W 3 1 x.k.n (nd.kids.map nv))
theorem NdAt.cpR {V : World} {base : Nat} {x : Rn} {nd : Kn} (h : NdAt V base x nd) (hs : nd.segs.length ≤ 1000) (hk : nd.kids.length ≤ 1000) : CpR V x nd := by
  obtain ⟨a1, c1, e1, _⟩ := own_slice h.s
  obtain ⟨a2, c2, e2, _⟩ := own_slice h.k
  have n1 : x.s.n = nd.segs.length := by injection e1
  have n2 : x.k.n = nd.kids.length := by injection e2
  refine ⟨n1, n2, fun W hW => ?_, fun W hW => ?_⟩
  · exact scloneG_any ((Bs.Lies.of_own (a := x.s.a) (cap := x.s.c) (n := nd.segs.length) (by have := h.s; rw [SV.v, n1] at this; exact this)).below hW) n1 (by omega)
  · exact scloneI_any ((Bs.Lies.of_own (a := x.k.a) (cap := x.k.c) (n := nd.kids.length) (by have := h.k; rw [SV.v, n2] at this; exact this)).below hW) n2 (by omega)
set_option maxHeartbeats 8000000 in
theorem bcopy_core (T A base : Nat) (t : Bx) (a : Ag Rn) (S0 : Nat → Prop) (w : World) (h : BtW w base T A t a S0) (hl : ∀ (p : Nat) (n : Kn), t.f (p : Int) = some n → n.segs.length ≤ 1000 ∧ n.kids.length ≤ 1000) :
    Calls Try.prog 39 #[aP T] w fun e w' => ∃ O C b S2, (e = .returned (aP O) ∧ BtW w' w.heap.size O C t b S2) ∧ Go.RowKit.Below w.heap.size w w' := by
  have mx := mixed
  have H := Lib.hid h
  have HL := Lib.hid hl
  have HT := Lib.hid h.top
  have hTl : T < w.heap.size := lt_of_block HT.out
  have HC : Hid (∀ W, Go.RowKit.Below w.heap.size w W → Calls Try.prog 69 #[aP A] W (bnCpPost W a)) := fun W hW => bncopy_any (h.ar.below hW) h.ok
  have HX0 : Hid ((w.alloc (bO A t)).heap[w.heap.size]? = some (bO A t)) := heap_alloc_new w _
  have HB0 := Lib.hid (below_new w (bO A t))
  have c0 : w.cell? ⟨T, 0, none⟩ = some (.int .i64 t.d) := (cell_of_row _ _ 0 _ _ _ HT.out).trans rfl
  have c1 : w.cell? ⟨T, 1, none⟩ = some (aP A) := (cell_of_row _ _ 1 _ _ _ HT.out).trans rfl
  have c2 : w.cell? ⟨T, 2, none⟩ = some (.int .i64 t.root) := (cell_of_row _ _ 2 _ _ _ HT.out).trans rfl
  have c3 : w.cell? ⟨T, 3, none⟩ = some (.int .i64 t.many) := (cell_of_row _ _ 3 _ _ _ HT.out).trans rfl
  clear hl h
  refine (callsIn_wide (n := 6)).1 ?_
  refine callsIn_of_wp_marks Try.func39 rfl trivial ?_ rfl
  simp only [Try.ntmps39, List.size_toArray, List.length_cons, List.length_nil, Nat.reduceAdd, Nat.reduceSub, Array.replicate_succ, Array.replicate_zero, List.push_toArray, List.append_toArray, List.nil_append, List.cons_append]
  gi_wp2_with (refine ⟨trivial, ?_⟩; gi_at_call 69; refine (callsIn_wide.2 (HC.out _ HB0.out)).mono ?_; clear c0 c1 c2 c3; rintro e y1 ⟨C, S2, ⟨rfl, har⟩, hb1⟩; have HAR := Lib.hid har; have HB1 := Lib.hid (bt HB0.out hb1); have HX1 := Lib.hid (box_on HX0.out hb1); have x1 : y1.cell? ⟨w.heap.size, 1, none⟩ = some (aP A) := (cell_of_row _ _ 1 _ _ _ HX1.out).trans rfl; have xf : y1.frozen? ⟨w.heap.size, 1, none⟩ = false := frozen_of_row _ _ 1 _ _ HX1.out; have d1 : y1.cell? ⟨T, 1, none⟩ = some (aP A) := (cell_of_row _ _ 1 _ _ _ (box_on HT.out HB1.out)).trans rfl; clear har hb1)
  refine ⟨trivial, ?_⟩
  gi_at_call 70
  refine (callsIn_wide.2 (beach_any A _)).mono ?_
  clear x1 xf d1
  rintro e w' ⟨rfl, rfl⟩
  have hZ := heap_setCell_same y1 w.heap.size 1 _ _ (aP C) HX1.out
  have hnS : ¬ S2 w.heap.size := fun hs => by have := (HAR.out.lt _ hs).1; simp at this; omega
  have hbN := below_new (y1.setCell ⟨w.heap.size, 1, none⟩ (aP C)) (.cells #[aP A] 75)
  have hAR1 := HAR.out.kp ((Kp.refl (fun b => b = w.heap.size) y1).setCell (p := ⟨w.heap.size, 1, none⟩) (.inl rfl) (aP C)) (fun b hb e => hnS (e ▸ hb))
  have hAR2 := hAR1.below hbN
  have hlow : w.heap.size ≤ (w.alloc (bO A t)).heap.size := HB0.out.size
  have HCP : Hid (CpW ((y1.setCell ⟨w.heap.size, 1, none⟩ (aP C)).alloc (.cells #[aP A] 75)) w.heap.size w.heap.size C t a S2 []) := by
    obtain ⟨pv, fv, hS, k⟩ := hAR2
    exact { top := box_on hZ hbN, le := Nat.le_refl _, ar := ⟨pv, fv, hS, ⟨k.box, own_base k.prow hlow, own_base k.frow hlow, Nat.le_trans hlow k.le, k.ty⟩⟩, ok := H.out.ok, room := H.out.room, len := H.out.len, is := H.out.is, node := fun p n hp => absurd hp (by simp), apart := fun p q hp => absurd hp (by simp), far := fun p hp => absurd hp (by simp) }
  have HBN := Lib.hid (heap_alloc_new (y1.setCell ⟨w.heap.size, 1, none⟩ (aP C)) (.cells #[aP A] 75))
  have HBE := Lib.hid (bt (HB1.out.setCell (p := ⟨w.heap.size, 1, none⟩) (by simp) (aP C)) hbN)
  have HNS : Hid (¬ S2 (y1.setCell ⟨w.heap.size, 1, none⟩ (aP C)).heap.size) := fun hs => by have := (hAR1.lt _ hs).2; omega
  clear hZ hnS hbN hAR1 hAR2 hlow HX1 HAR HB1 HC HX0 HB0
  generalize (y1.setCell ⟨w.heap.size, 1, none⟩ (aP C)).heap.size = Bn at *
  generalize (y1.setCell ⟨w.heap.size, 1, none⟩ (aP C)).alloc (.cells #[aP A] 75) = W0 at *
  have hBn : Bn < W0.heap.size := lt_of_block HBN.out
  have hw0 : w.heap.size ≤ W0.heap.size := HBE.out.size
  have hdd : ∀ m : Nat, (Fence.wide.depth.isSome = true → 1 ≤ m) := fun m h => by cases h
  gi_wp2
  refine wpIn_rangeN (gf := 94) (lb := #[.pointer (some ⟨Bn, 0, none⟩)]) rfl (enters_of Try.func94 (by kernel_rfl) rfl)
    (beach_seq A Bn w.heap.size base S0 a W0 (H.out.ar.below HBE.out) H.out.ok (fun b hb => (H.out.ar.lt b hb).2) hw0 HBN.out) KpN.trans (kpN_b hw0 hBn) (Go.RowKit.Below.refl _ _) (fun _ => rfl)
    (CpI w W0 w.heap.size C Bn t a) (fun _ _ _ => False) (cpI_own w W0 w.heap.size C Bn t a _ hw0 hBn hBn) (fun c s X Y row hs => hs.elim)
    ⟨a, S2, ⟨HCP.out, HNS.out⟩, HBE.out, rfl, Nat.le_refl _⟩ ?round ?done ?stop
  case stop => rintro D j c W hD hj hx; exact hx.elim
  case done =>
    rintro D W hD hI hK
    have HI := Lib.hid hI
    have HK := Lib.hid hK
    clear hI hK HCP
    gi_wp2
    refine ⟨by simp, .inl ⟨_, _, rfl, run_takeDeferred HK.out, ?_⟩⟩
    refine ⟨aP w.heap.size, by simp [results, Try.results39, go_sem], ?_⟩
    obtain ⟨b, S3, ⟨k1, k2⟩, k3, k4, k5⟩ := (cpI_own w W0 w.heap.size C Bn t a _ hw0 hBn hBn).putObj (.deferred none) HI.out hD HK.out rfl
    refine ⟨w.heap.size, C, b, S3, ⟨rfl, k1.done (fun p hp => ?_)⟩, k3⟩
    have hi := (H.out.is p).2 hp
    rw [List.take_length, upTo_mem]
    have := (a.is_in p H.out.ok hi).2.2.1
    rw [Int.toNat_natCast] at this
    exact ⟨this, hi⟩
  case round =>
    rintro l j W K hj hI hK
    obtain ⟨p, hp⟩ : ∃ p, (a.upTo a.l.length).getD j 0 = p := ⟨_, rfl⟩
    have hpm : p ∈ a.upTo a.l.length := by
      rw [← hp, List.getD_eq_getElem?_getD, List.getElem?_eq_getElem hj]; exact List.getElem_mem _
    have htk : (a.upTo a.l.length).take (j + 1) = (a.upTo a.l.length).take j ++ [p] := by
      rw [List.take_succ_eq_append_getElem hj, ← hp, List.getD_eq_getElem?_getD, List.getElem?_eq_getElem hj]; rfl
    have hip : a.is (p : Int) = true := ((upTo_mem a _ p).1 hpm).2
    obtain ⟨nd, hnd⟩ := Option.ne_none_iff_exists'.1 ((H.out.is p).1 hip)
    have HTK := Lib.hid htk
    have HND := Lib.hid hnd
    have HNA := Lib.hid (H.out.node p nd hnd)
    have HLN := Lib.hid (HL.out p nd hnd)
    have HI := Lib.hid hI
    rw [hp]
    clear hp hpm htk hip hnd hI
    show Code.wpIn (Fence.wide.inRound l) _ _ _ _ { tmps := _, defers := _ } _
    unfold encN
    generalize a.l.getD p bnZ = x at *
    gi_wp2
    have hb6 := below_new W (bxO x)
    have hWw : Bn < W.heap.size := by obtain ⟨_, _, _, _, _, h5⟩ := HI.out; omega
    have hww : w.heap.size ≤ W.heap.size := by obtain ⟨_, _, _, _, _, h5⟩ := HI.out; omega
    refine hK _ _ ((KeepsOthers.alloc _ _).from _) (KpN.of_below hb6 hww hWw) ⟨fun i V => (CpI w W0 w.heap.size C Bn t a i V ∧ V.heap[W.heap.size]? = some (bxO x)) ∧ W.heap.size < V.heap.size, ?_, ⟨⟨own_after (cpI_own w W0 w.heap.size C Bn t a _ hw0 hBn hBn) HI.out hb6, heap_alloc_new W (bxO x)⟩, by simp⟩, ?_⟩
    · exact fun s X Y row hs hg hr => ⟨⟨cpI_own w W0 w.heap.size C Bn t a _ hw0 hBn hBn s X Y row hs.1.1 hg hr, own_from_box rfl hs.1.2 hg hr⟩, Nat.lt_of_lt_of_le hs.2 hg.size⟩
    rintro V ⟨⟨hI, hS⟩, hWV⟩
    have HWS := Lib.hid (show W0.heap.size ≤ W.heap.size by obtain ⟨_, _, _, _, _, h5⟩ := HI.out; exact h5)
    clear HI hb6
    generalize W.heap.size = BX at *
    obtain ⟨b, S2', ⟨k1, k2⟩, k3, k4, k5⟩ := hI
    have hi : b.is (p : Int) = true := (k1.is p).2 (by rw [HND.out]; simp)
    have HCR := Lib.hid ((HNA.out.kp (U := fun _ => False) (Kp.of_below _ k3) (fun _ _ => id)).cpR HLN.out.1 HLN.out.2)
    have HSET : Hid (∀ W (r : Rn), Go.RowKit.Below V.heap.size V W → Calls Try.prog 71 #[aP C, .int .i64 (p : Int), .agg #[.slice r.s.a r.s.n r.s.c, .slice r.k.a r.k.n r.k.c]] W (bnPost W w.heap.size C S2' (b.set p r) (.bool true))) := fun W r hW => bnset_yes (k1.below hW).ar k1.ok p hi r
    have hBX : ¬ S2' BX := fun hs => by
      have := k1.ar.type BX hs hS
      revert this
      decide
    obtain ⟨S, hSd⟩ : ∃ S : World → Prop, S = fun w' => w'.cell? ⟨w.heap.size, 1, none⟩ = some (aP C) ∧ w'.cell? ⟨BX, 0, none⟩ = some (.slice x.s.a x.s.n x.s.c) ∧ w'.cell? ⟨BX, 1, none⟩ = some (.slice x.k.a x.k.n x.k.c) := ⟨_, rfl⟩
    have hSof : ∀ W, W.heap[w.heap.size]? = some (bO C t) → W.heap[BX]? = some (bxO x) → S W := fun W h1 h2 => by
      rw [hSd]
      exact ⟨(cell_of_row _ _ 1 _ _ _ h1).trans rfl, (cell_of_row _ _ 0 _ _ _ h2).trans rfl, (cell_of_row _ _ 1 _ _ _ h2).trans rfl⟩
    have HSS : Hid (∀ W, Go.RowKit.Below V.heap.size V W → S W) := fun W hW => hSof W (box_on k1.top hW) (box_on hS hW)
    have HSK : Hid (∀ W Y, Go.RowKit.Below V.heap.size V W → Kp S2' W Y → S Y) := fun W Y hW hk => hSof Y (hk.at (box_on k1.top hW) k1.notT) (hk.at (box_on hS hW) hBX)
    have HB0 : Hid (Go.RowKit.Below V.heap.size V V.drew) := (Go.RowKit.Below.refl _ V).drew
    have HS0 := Lib.hid (HSS.out _ HB0.out)
    have HVV : Hid (CpW V w.heap.size w.heap.size C t b S2' (List.take j (a.upTo a.l.length)) ∧ ¬ S2' Bn ∧ Go.RowKit.Below w.heap.size w V ∧ V.heap[Bn]? = W0.heap[Bn]? ∧ W0.heap.size ≤ V.heap.size ∧ Bn < V.heap.size) := ⟨k1, k2, k3, k4, k5, by omega⟩
    clear hi hBX hSof k1 k2 k3 k4 k5 hS HNA HLN
    gi_wp2
    refine wpIn_round_held (S := S) mx (by kernel_rfl) HS0.out (fun _ _ h => h) (fun hHeld => ?_)
    subst hSd
    refine wpAnyH_take (i := 0) (v := ?_) rfl (by kernel_rfl) (by kernel_rfl) (by kernel_rfl) (fun _ _ _ h => h) (Or.inl ⟨by rfl, ?_⟩) (by assumption) ?_
    rotate_left
    · intro w0 hSw; (try dsimp only at hSw); go_simp; all_goals (with_reducible rfl)
    try simp only [Act.put, List.setIfInBounds_toArray, List.set_cons_zero, List.set_cons_succ]
    refine wpAnyH_take (i := 1) (v := ?_) rfl (by kernel_rfl) (by kernel_rfl) (by kernel_rfl) (fun _ _ _ h => h) (Or.inl ⟨by rfl, ?_⟩) (by assumption) ?_
    rotate_left
    · intro w0 hSw; (try dsimp only at hSw); go_simp; all_goals (with_reducible rfl)
    try simp only [Act.put, List.setIfInBounds_toArray, List.set_cons_zero, List.set_cons_succ]
    refine wpAnyH_take (i := 2) (v := ?_) rfl (by kernel_rfl) (by kernel_rfl) (by kernel_rfl) (fun _ _ _ h => h) (Or.inl ⟨by rfl, ?_⟩) (by assumption) ?_
    rotate_left
    · intro w0 hSw; (try dsimp only at hSw); go_simp; all_goals (with_reducible rfl)
    try simp only [Act.put, List.setIfInBounds_toArray, List.set_cons_zero, List.set_cons_succ]
    refine wpAnyH_take (i := 3) (v := ?_) rfl (by kernel_rfl) (by kernel_rfl) (by kernel_rfl) (fun _ _ _ h => h) (Or.inl ⟨by rfl, ?_⟩) (by assumption) ?_
    rotate_left
    · intro w0 hSw; (try dsimp only at hSw); go_simp; all_goals (with_reducible rfl)
    try simp only [Act.put, List.setIfInBounds_toArray, List.set_cons_zero, List.set_cons_succ]
    refine wpAnyH_take (i := 4) (v := ?_) rfl (by kernel_rfl) (by kernel_rfl) (by kernel_rfl) (fun _ _ _ h => h) (Or.inl ⟨by rfl, ?_⟩) (by assumption) ?_
    rotate_left
    · intro w0 hSw; (try dsimp only at hSw); go_simp; all_goals (with_reducible rfl)
    try simp only [Act.put, List.setIfInBounds_toArray, List.set_cons_zero, List.set_cons_succ]
    refine wpAnyH_take (i := 6) (v := ?_) rfl (by kernel_rfl) (by kernel_rfl) (by kernel_rfl) (fun _ _ _ h => h) (Or.inl ⟨by rfl, ?_⟩) (by assumption) ?_
    rotate_left
    · intro w0 hSw; (try dsimp only at hSw); go_simp; all_goals (with_reducible rfl)
    try simp only [Act.put, List.setIfInBounds_toArray, List.set_cons_zero, List.set_cons_succ]
    refine wpAnyH_take (i := 7) (v := ?_) rfl (by kernel_rfl) (by kernel_rfl) (by kernel_rfl) (fun _ _ _ h => h) (Or.inl ⟨by rfl, ?_⟩) (by assumption) ?_
    rotate_left
    · intro w0 hSw; (try dsimp only at hSw); go_simp; all_goals (with_reducible rfl)
    try simp only [Act.put, List.setIfInBounds_toArray, List.set_cons_zero, List.set_cons_succ]
    refine wpAnyH_ready (rs := [5]) (by kernel_rfl) (by simp) ?_
    refine AllReadyH.cons rfl (fun K0 hK0 => ?_) AllReadyH.nil
    go_simp
    refine (HCR.out.s _ HB0.out).mono ?_
    rintro e y1 ⟨a1, kk1, ⟨rfl, ho1⟩, hb1⟩
    have HO1 := Lib.hid ho1
    have HB1 := Lib.hid (bt HB0.out hb1)
    have HBA := Lib.hid hb1
    have HS1 := Lib.hid (HSS.out _ HB1.out)
    clear ho1 hb1
    try dsimp only
    refine hK0.out _ _ ?_ (fun hHeld => ?_)
    · (with_reducible first | exact HS1.out | exact HS2.out | exact HS3.out)
    clear hK0 K0
    try simp only [Act.put, List.setIfInBounds_toArray, List.set_cons_zero, List.set_cons_succ]
    refine wpAnyH_ready (rs := [8]) (by kernel_rfl) (by simp) ?_
    refine AllReadyH.cons rfl (fun K0 hK0 => ?_) AllReadyH.nil
    go_simp
    refine (HCR.out.k _ HB1.out).mono ?_
    rintro e y2 ⟨a2, kk2, ⟨rfl, ho2⟩, hb2⟩
    have HO2 := Lib.hid ho2
    have HB2 := Lib.hid (bt HB1.out hb2)
    have HBB := Lib.hid hb2
    have HS2 := Lib.hid (HSS.out _ HB2.out)
    clear ho2 hb2
    try dsimp only
    refine hK0.out _ _ ?_ (fun hHeld => ?_)
    · (with_reducible first | exact HS1.out | exact HS2.out | exact HS3.out)
    clear hK0 K0
    try simp only [Act.put, List.setIfInBounds_toArray, List.set_cons_zero, List.set_cons_succ]
    refine wpAnyH_take (i := 9) (v := ?_) rfl (by kernel_rfl) (by kernel_rfl) (by kernel_rfl) (fun _ _ _ h => h) (Or.inl ⟨by rfl, ?_⟩) (by assumption) ?_
    rotate_left
    · intro w0 hSw; (try dsimp only at hSw); go_simp; all_goals (with_reducible rfl)
    try simp only [Act.put, List.setIfInBounds_toArray, List.set_cons_zero, List.set_cons_succ]
    refine wpAnyH_ready (rs := [10]) (by kernel_rfl) (by simp) ?_
    refine AllReadyH.cons rfl (fun K0 hK0 => ?_) AllReadyH.nil
    go_simp
    refine (HSET.out _ ⟨⟨a1, x.s.n, kk1⟩, ⟨a2, x.k.n, kk2⟩⟩ HB2.out).mono ?_
    rintro e y3 ⟨S3, ⟨rfl, hs3⟩, hk3, hn3⟩
    have HN3 := Lib.hid (⟨hs3, hk3, hn3⟩ : bnIs y3 w.heap.size C (b.set p ⟨⟨a1, x.s.n, kk1⟩, ⟨a2, x.k.n, kk2⟩⟩) S3 ∧ Kp S2' y2 y3 ∧ ∀ x, S3 x → S2' x ∨ y2.heap.size ≤ x)
    have HS3 := Lib.hid (HSK.out _ _ HB2.out hk3)
    clear hs3 hk3 hn3
    try dsimp only
    refine hK0.out _ _ ?_ (fun hHeld => ?_)
    · (with_reducible first | exact HS1.out | exact HS2.out | exact HS3.out)
    clear hK0 K0
    try simp only [Act.put, List.setIfInBounds_toArray, List.set_cons_zero, List.set_cons_succ]
    refine wpAnyH_done (by kernel_rfl) ?_ _
    simp only [onlyN]
    gi_wp2
    obtain ⟨k1, k2, k3, k4, k5, k6⟩ := HVV.out
    obtain ⟨n1, n2, n3⟩ := HN3.out
    have z1 := HB1.out.size
    have z2 := HB2.out.size
    have hnd : NdAt y2 V.heap.size ⟨⟨a1, x.s.n, kk1⟩, ⟨a2, x.k.n, kk2⟩⟩ nd := by
      have q1 := own_on HO1.out HBB.out
      have q2 := own_base HO2.out z1
      refine ⟨?_, ?_⟩
      · have e := HCR.out.sn
        show y2.ownsRow _ _ _ (.slice a1 x.s.n kk1) _ _
        rw [e] at q1 ⊢
        exact q1
      · have e := HCR.out.kn
        show y2.ownsRow _ _ _ (.slice a2 x.k.n kk2) _ _
        rw [e] at q2 ⊢
        exact q2
    obtain ⟨s1, s2⟩ := k1.step p nd _ HND.out HB2.out hnd n1 n2 n3
    refine ⟨⟨by have := n2.size; omega, fun k o hB hk' ho => ?_⟩, ⟨(HB2.out.mono k3.size).trans (n2.to_below _ (by have := k3.size; omega) (fun b hb => (k1.ar.lt b hb).1)), (n2.block Bn (by omega) k2).trans (HB2.out.block Bn k6)⟩, b.set p _, S3, ⟨by rw [HTK.out]; exact s1, fun hs => ?_⟩, k3.trans ((HB2.out.mono k3.size).trans (n2.to_below _ (by have := k3.size; omega) (fun b hb => (k1.ar.lt b hb).1))), ((n2.block Bn (by omega) k2).trans (HB2.out.block Bn k6)).trans k4, by have := n2.size; omega⟩
    · have hkl := lt_of_block hk'
      refine (n2.block k (by omega) (fun hs => ?_)).trans ((HB2.out.block k hkl).trans hk')
      rw [k1.cells k (.inr (.inl hs)) o hk'] at ho
      cases ho
    · rcases n3 Bn hs with k | k
      · exact k2 k
      · omega
theorem rep_len (f : Int → Option Kn) (d : Nat) : ∀ (h : Nat) (t : Bt), RepB f h t → t.s.length + 1 ≤ 2 * d → DegK d h t.ks → ∀ m ∈ Bt.ids h t, ∀ n, f (m : Int) = some n → n.segs.length ≤ 2 * d ∧ n.kids.length ≤ 2 * d := by
  intro h
  induction h with
  | zero =>
    intro t r h1 h2 m hm n hn
    obtain rfl : m = t.i := by simpa [Bt.ids] using hm
    have e : n = ⟨t.s, t.ks.map Bt.idx⟩ := by have := r.node; unfold nodeAt at this; rw [this] at hn; exact (Option.some.inj hn).symm
    have hk : t.ks = [] := r.2
    subst e
    exact ⟨by show t.s.length ≤ _; omega, by show (t.ks.map Bt.idx).length ≤ _; rw [hk]; simp⟩
  | succ h ih =>
    intro t r h1 h2 m hm n hn
    rcases List.mem_cons.1 (show m ∈ t.i :: t.ks.flatMap (Bt.ids h) from hm) with e | hm
    · subst e
      have e : n = ⟨t.s, t.ks.map Bt.idx⟩ := by have := r.node; unfold nodeAt at this; rw [this] at hn; exact (Option.some.inj hn).symm
      subst e
      have := r.2.1
      exact ⟨by show t.s.length ≤ _; omega, by show (t.ks.map Bt.idx).length ≤ _; rw [List.length_map]; omega⟩
    · obtain ⟨k, hk, hm⟩ := List.mem_flatMap.1 hm
      have g := h2 k hk
      rw [deg_eq] at g
      exact ih k (r.2.2 k hk) g.1.2 g.2 m hm n hn
theorem BtOk.lens {t : Bx} {d : Nat} {L : List G5} (ok : BtOk t d L) (p : Nat) (n : Kn) (h : t.f (p : Int) = some n) : n.segs.length ≤ 1000 ∧ n.kids.length ≤ 1000 := by
  have h64 := ok.d64
  rcases ok.tree with ⟨_, _, _, hn⟩ | ⟨H, x, z, hr, _⟩
  · rw [hn] at h; cases h
  · rw [degR_eq] at hr
    obtain ⟨m, hm, e⟩ := z.all p (by rw [h]; simp)
    have e' : p = m := by omega
    subst e'
    have hm2 : p ∈ Bt.ids H x := by simpa [bcids] using hm
    have := rep_len t.f d H x z.tree hr.1.2 hr.2 p hm2 n h
    omega
/-- A tree of a call's own whose blocks are all in K. -/
structure CpK (w : World) (O C d : Nat) (R : Int) (L : List G5) (K : Nat → Prop) (W : World) : Prop where
  tr : ∃ t a S0, (∀ b, btS O t a S0 b → K b) ∧ BtW W w.heap.size O C t a S0 ∧ BtOk t d L ∧ t.room = R
  klt : ∀ b, K b → b < W.heap.size
  be : Go.RowKit.Below w.heap.size w W
theorem CpK.stay {w W W' : World} {O C d : Nat} {R : Int} {L : List G5} {K : Nat → Prop} (h : CpK w O C d R L K W) (hk : ∀ b, K b → W'.heap[b]? = W.heap[b]?) (hb : Go.RowKit.Below w.heap.size w W') (hs : W.heap.size ≤ W'.heap.size) : CpK w O C d R L K W' := by
  obtain ⟨t, a, S0, h1, h2, h3, h4⟩ := h.tr
  refine ⟨⟨t, a, S0, h1, h2.kp (U := fun b => ¬ K b) ⟨hb.os.trans h.be.os.symm, hb.tape.trans h.be.tape.symm, hb.output.trans h.be.output.symm, hs, fun k _ hn => hk k (Classical.not_not.1 hn)⟩ (fun b hb' e => e (h1 b hb')), h3, h4⟩, fun b hb' => Nat.lt_of_lt_of_le (h.klt b hb') hs, hb⟩
theorem CpK.on {w W W' : World} {O C d : Nat} {R : Int} {L : List G5} {K : Nat → Prop} (h : CpK w O C d R L K W) (hb : Go.RowKit.Below W.heap.size W W') : CpK w O C d R L K W' :=
  h.stay (fun b hk => hb.block b (h.klt b hk)) (bt h.be hb) hb.size
theorem CpK.bk {w W : World} {O C d : Nat} {R : Int} {L : List G5} {K : Nat → Prop} (h : CpK w O C d R L K W) : BkK w O C d R L (fun _ => False) W := by
  obtain ⟨t, a, S0, h1, h2, h3, h4⟩ := h.tr
  exact ⟨⟨t, a, S0, h2, h3, h4, fun b hb => hb.elim⟩, h.be⟩
/-- Copy beside the document's row: what the copy is, and the row as it was, are kept from there on. -/
theorem MdB.copy {w W : World} {T A d : Nat} {R : Int} {L : List G5} {a : Option Addr} {cap : Nat} (h : MdB w T A d R L L a cap noB W) :
    Calls Try.prog 39 #[aP T] W fun e w' => ∃ O C K, e = .returned (aP O) ∧ MdB w T A d R L L a cap (fun b => K b ∨ GBb a L b) w' ∧ CpK w O C d R L K w' := by
  obtain ⟨t, a0, S0, h1, h2, h3, h7⟩ := h.tk.tr
  refine (bcopy_core T A w.heap.size t a0 S0 W h1 h2.lens).mono ?_
  rintro e w' ⟨O, C, b, S2, ⟨rfl, k1⟩, hb⟩
  have hlt : ∀ x, btS O t b S2 x → W.heap.size ≤ x ∧ x < w'.heap.size := fun x hx => BtIs.lt ⟨b, S2, rfl, k1⟩ x hx
  refine ⟨O, C, btS O t b S2, rfl, ⟨h.tk.keep hb (fun x hx => ?_), h.row.below hb, h.cap⟩, ⟨t, b, S2, fun x hx => hx, k1.lower h.be.size, h2, h3⟩, fun x hx => (hlt x hx).2, bt h.be hb⟩
  rcases hx with hx | hx | hx
  · exact ⟨Nat.lt_of_lt_of_le (h.row.ltb x hx) hb.size, .inr (.inl hx)⟩
  · exact ⟨(hlt x hx).2, .inl (hlt x hx).1⟩
  · exact ⟨Nat.lt_of_lt_of_le (h.row.ltb x hx) hb.size, .inr (.inl hx)⟩
section
variable {w W w' : World} {T A d : Nat} {R : Int} {L M : List G5} {a a' : Option Addr} {cap cap' : Nat} {K : Nat → Prop}
theorem MdB.mid (h : MdB w T A d R L L a cap K W) (hg : GRow w' a' M) (hc : M.length ≤ cap') (hn : NewOr W.heap.size a L a' M) (hb : Go.RowKit.Below W.heap.size W w') : MdB w T A d R L M a' cap' K w' := by
  refine h.turn hg hc ?_ hb
  rcases hn with ⟨rfl, e⟩ | hn
  · exact .inl ⟨rfl, e⟩
  · exact .inr (fun b off _ e => hn _ e)
theorem MdB.putR (h : MdB w T A d R L L a cap K W) (s : G5) (hs : s.ok) (hl : L.length ≤ 9999) :
    Calls Try.prog 36 #[.slice a L.length cap, .int .i64 R, vG s] W fun e w' => ∃ a' cap', e = .returned (.tuple #[.slice a' (putG L R s).1.length cap', .int .i64 (putG L R s).2]) ∧ MdB w T A d R L (putG L R s).1 a' cap' K w' ∧ Go.RowKit.Below W.heap.size W w' := by
  refine (rputG_any a cap L R s W hs h.tk.ok h.row h.cap hl).mono ?_
  rintro e w' ⟨a', cap', ⟨rfl, hg, hc, hn⟩, hb⟩
  exact ⟨a', cap', rfl, h.mid hg hc hn hb, hb⟩
theorem MdB.delR (h : MdB w T A d R L L a cap K W) (s x : Int) (hx : I64 x) (hl : L.length ≤ 9999) :
    Calls Try.prog 40 #[.slice a L.length cap, .agg #[.int .i64 s, .int .i64 x]] W fun e w' => ∃ a' cap', e = .returned (.tuple #[.slice a' (delG L (key s x)).1.length cap', .bool (delG L (key s x)).2]) ∧ MdB w T A d R L (delG L (key s x)).1 a' cap' K w' ∧ Go.RowKit.Below W.heap.size W w' := by
  refine (rdelG_any a cap L s x W hx h.row h.cap hl).mono ?_
  rintro e w' ⟨a', cap', ⟨rfl, hg, hc, hn⟩, hb⟩
  exact ⟨a', cap', rfl, h.mid hg hc hn hb, hb⟩
theorem BkK.callS {B : Nat → Prop} {f : Nat} {args : Array Value} {v : Value} (h : BkK w T A d R L B W)
    (hc : ∀ t a S0, BtW W w.heap.size T A t a S0 → BtOk t d L → t.room = R → RdB f args v (BtT W (btS T t a S0) (fun _ => False) w.heap.size T A d R M) W) : Calls Try.prog f args W fun e w' => e = .returned v ∧ BkK w T A d R M B w' ∧ (∀ b, B b → w'.heap[b]? = W.heap[b]?) ∧ W.heap.size ≤ w'.heap.size := by
  obtain ⟨⟨t, a, S0, h1, h2, h3, h7⟩, h4⟩ := h
  refine (hc t a S0 h1 h2 h3).mono ?_
  rintro e w' ⟨rfl, t', ⟨a', S0', k1, k2, k3, _⟩, k4, k5⟩
  refine ⟨rfl, ⟨⟨t', a', S0', k1, k4, k5, fun b hb => ⟨fun hS => ?_, Nat.lt_of_lt_of_le (h7 b hb).2 k2.size⟩⟩, h4.trans (k2.to_below _ h4.size (fun b hb => (BtIs.lt ⟨a, S0, rfl, h1⟩ b hb).1))⟩, fun b hb => k2.block b (h7 b hb).2 (h7 b hb).1, k2.size⟩
  rcases k3 b hS with e | e
  · exact (h7 b hb).1 e
  · have := (h7 b hb).2; omega
theorem MdB.delS (h : MdB w T A d R L M a cap K W) (s x : Int) (hx : I64 x) :
    Calls Try.prog 41 #[aP T, .agg #[.int .i64 s, .int .i64 x]] W fun e w' => e = .returned (.bool (delG L (key s x)).2) ∧ MdB w T A d R (delG L (key s x)).1 M a cap K w' ∧ (∀ b, K b → w'.heap[b]? = W.heap[b]?) ∧ W.heap.size ≤ w'.heap.size := by
  have hc := BkK.callS (M := (delG L (key s x)).1) (v := .bool (delG L (key s x)).2) (f := 41) (args := #[aP T, .agg #[.int .i64 s, .int .i64 x]]) h.tk (fun t a S0 h1 h2 h3 => by
    have := btdel_any h1 h2 s x hx
    rw [h3] at this
    exact this)
  refine hc.mono ?_
  rintro e w' ⟨rfl, hk, hB, hs⟩
  exact ⟨rfl, ⟨hk, h.row.keptBb (fun b hb => hB b (.inl hb)), h.cap⟩, fun b hb => hB b (.inr hb), hs⟩
end
end Go.Proofs.Ytjgcdmeojjnjlaa
/- Slices of whole numbers as arguments. -/
namespace Go.Proofs.Ytjgcdmeojjnjlaa
open Go.ChangeShapes Go.WideShapes Go.ChangeAt Go.RowKit Go.Sort Go.Joins Go.Proofs.Ytjgcdmeojjnjlaa.Bo
set_option linter.unusedVariables false
/-- A slice of whole numbers that holds l. -/
def IRow (w : World) (a : Option Addr) (l : List Int) : Prop := 0 < l.length → ∃ b off, a = some ⟨b, off, none⟩ ∧ ∀ (j : Nat) (h : j < l.length), w.cell? ⟨b, off + j, none⟩ = some (.int .i64 l[j])
theorem IRow.below {w w' : World} {a : Option Addr} {l : List Int} (h : IRow w a l) (hb : Go.RowKit.Below w.heap.size w w') : IRow w' a l := by
  intro hp
  obtain ⟨b, off, e, hc⟩ := h hp
  exact ⟨b, off, e, fun j hj => (hb.cell (World.block_lt_of_cell? w _ (hc j hj))).trans (hc j hj)⟩
def IsInts (w : World) (a : Option Addr) (len : Nat) (l : List Int) : Prop := len = l.length ∧ (∀ n ∈ l, I64 n) ∧ IRow w a l
theorem isInts_nil (w : World) : IsInts w none 0 [] := ⟨rfl, by simp, fun h => by simp at h⟩
theorem isInts_of (w : World) (x : Addr) (len m : Nat) (hlm : len ≤ m) (hi : ∀ i, i < m → ∃ n : Int, w.cell? (x.add i) = some (.int .i64 n) ∧ I64 n) : ∃ l, IsInts w (some x) len l := by
  have h' : ∀ i, ∃ n : Int, i < m → w.cell? (x.add i) = some (.int .i64 n) ∧ I64 n := by
    intro i
    by_cases h : i < m
    · obtain ⟨o, h1⟩ := hi i h
      exact ⟨o, fun _ => h1⟩
    · exact ⟨0, fun h2 => absurd h2 h⟩
  obtain ⟨f, hf⟩ := Classical.axiomOfChoice h'
  refine ⟨(List.range len).map f, by simp, ?_, ?_⟩
  · intro c hc
    obtain ⟨i, hi2, rfl⟩ := List.mem_map.1 hc
    exact (hf i (by have := List.mem_range.1 hi2; omega)).2
  · intro hp
    have hp' : 0 < len := by simpa using hp
    obtain ⟨b, off, spot⟩ := x
    have hspot : spot = none := by simpa [Addr.add] using World.cell?_spot ((hf 0 (by omega)).1)
    subst hspot
    refine ⟨b, off, rfl, fun j hj => ?_⟩
    have hj' : j < len := by simpa using hj
    have h1 := (hf j (by omega)).1
    simp only [List.getElem_map, List.getElem_range]
    rw [Addr.add_lit] at h1
    exact h1
set_option maxRecDepth 100000 in
theorem open_irow {H : Type} {enc : TypeId × Value → H} {w : World} {base : Nat} {spare : Nat → Bool} {held : Bool} {a : Option Addr} {len cap : Nat} {d : DataW H} {p : List MemPlace} (h : DataW.Trod enc Try.prog w base spare held 64 (.slice a len cap) d p) : ∃ l, IsInts w a len l := by
  obtain ⟨fuel, hf⟩ := h
  rcases Go.Deep.open_slice Try.underlying64 hf with ⟨hcs, _⟩ | ⟨x, l, c, m, n, D, Pl, hcs, _, hl, hm, hmm, _, hc⟩
  · simp [Value.cells] at hcs
    obtain ⟨rfl, rfl, rfl⟩ := hcs
    exact ⟨[], isInts_nil w⟩
  · simp [Value.cells] at hcs
    obtain ⟨rfl, rfl, rfl⟩ := hcs
    have hlm : len ≤ m := by rw [hmm]; split <;> omega
    refine isInts_of w x _ m hlm fun i hi => ?_
    obtain ⟨cs', h1, h2⟩ := hc i hi
    obtain ⟨v, ev, _, wv⟩ := DataW.trod_int Try.underlying2 h2
    rw [show Try.prog.cellsOf 2 = 1 by kernel_rfl] at h1
    obtain ⟨_, hlen, hcell⟩ := World.cells?_some h1
    refine ⟨v, ?_, i64_of_wf2 wv⟩
    have e0 := hcell 0 (by omega)
    rw [Nat.mul_one] at e0
    rw [ev] at e0
    simpa [Addr.add] using e0
theorem datum_ints {H : Type} {enc : TypeId × Value → H} {w : World} {base : Nat} {spare : Nat → Bool} {held : Bool} {a : Option Addr} {len cap : Nat} {d : DataW H} {p : List MemPlace} (h : DataW.Trod enc Try.prog w base spare held 64 (.slice a len cap) d p) : len = 0 ∨ ∃ es sp, d = .slice es sp ∧ es.length = len := by
  obtain ⟨fuel, hf⟩ := h
  rcases Go.Deep.open_slice Try.underlying64 hf with ⟨hcs, _⟩ | ⟨x, l, c, m, n, D, Pl, hcs, _, hl, hm, hmm, hx, hc⟩
  · simp [Value.cells] at hcs
    exact .inl hcs.2.1
  · simp [Value.cells] at hcs
    obtain ⟨rfl, rfl, rfl⟩ := hcs
    simp only [Prod.mk.injEq] at hx
    exact .inr ⟨_, _, hx.1, by simp⟩
theorem bytes_i64 : Try.prog.bytesOf 2 = 8 := by kernel_rfl
/-- No slice of numbers that comes in is longer than its bytes allow. -/
theorem short_ints {H : Type} {enc : TypeId × Value → H} {w : World} {base : Nat} {spare : Nat → Bool} {held : Bool} {a : Option Addr} {len cap : Nat} {d : DataW H} {p : List MemPlace} {ts : List TypeId} {ds : List (DataW H)} {j : Nat} (h : DataW.Trod enc Try.prog w base spare held 64 (.slice a len cap) d p)
    (hsz : (DataW.weightsEach Try.prog ts ds).all (· ≤ reachBytes) = true) (ht : ts[j]? = some 64) (hd : ds[j]? = some d) : len * 8 ≤ 140737488351232 := by
  rcases datum_ints h with rfl | ⟨es, sp, rfl, rfl⟩
  · omega
  · have := sized_slice hsz ht hd Try.underlying64
    rw [bytes_i64] at this
    simp only [reachBytes] at this
    omega
end Go.Proofs.Ytjgcdmeojjnjlaa
