/- A part of the proof: contracts of the functions that the statements reach. -/
import Derived.RangeFuncNested
import Derived.RangeFuncBound
import Derived.RangeFuncCalls
import Derived.RangeFuncLeaves
import Derived.Shelf.Abstract
import Derived.Shelf.RegionOpen
import Derived.WalkKit
import Derived.OwnWalkIn
import Derived.TacticsInMore
import Derived.LoopNIn
import Derived.LoopIn
import Derived.Shelf.SlSortCmp.WholeK
import Derived.WalkSpells
import Derived.WalkLawsBesides
import Derived.Lib.Hide
import Derived.Laws.StructEq
import Derived.Shelf.SlSortCmp.QuietGrown
import Derived.Laws.EntriesVeiled
import Derived.Deep.CutRange
import Derived.RegionTactic
import Derived.Lib.QuietBelow
import Derived.BigQuiet
import Derived.OpenShut
import Derived.Deep.RegionHeld3
import Derived.Deep.QuietTactic
import Derived.Maps.AppendAt
import Derived.Laws.IdiomCopy
import Derived.Deep.AppendLies
import Derived.Deep.LoopGhost
import Derived.Deep.Upon
import Derived.StillTailTactics
import Derived.Lib.SmallJoins
import Derived.Deep.SlicePairs
import Derived.Deep.Strs
import Derived.ChangeOld
import Derived.SizedLaws
import Derived.Lib.SliceRun
import Derived.Laws.CopyRow
import Derived.Below
import Derived.Laws.CopyOwn
import Derived.Deep.RegionLaw
import Derived.IntWalk
import Derived.Test.YtjgcdmeojjnjlaaCI

/- layIn: a segment is laid in at the end of its way; a node that has too many by that is split. -/
namespace Go.Proofs.Ytjgcdmeojjnjlaa
open Go.RowKit Go.Sort Go.Shelf Go.Proofs.Ytjgcdmeojjnjlaa.Bo Go.Proofs.Ytjgcdmeojjnjlaa.Bb Go.Proofs.Ytjgcdmeojjnjlaa.Rf
set_option linter.unusedVariables false
set_option linter.unusedSimpArgs false
set_option maxRecDepth 100000
attribute [local go_sem] Oper.semAt_some
abbrev inO (i : Int) : Obj := .cells #[.int .i64 i] 3
/-- What is left in the end. -/
def LayFin (w W : World) (S B : Nat → Prop) (base T A : Nat) (t : Bx) (d : Nat) (L : List G5) (Y : World) : Prop :=
  ∃ f n r, TreeAt d f n r L ∧ BtH w S B base T A { t with f := f, n := n, root := r } Y ∧ ∀ b, B b → Y.heap[b]? = W.heap[b]?
abbrev StP := Nat → (Int → Option Kn) → Nat → G5 → Int → Prop
/-- What a round does to the node p. -/
structure LayN (d : Nat) (L : List G5) (root : Int) (St : StP) (j : Nat) (f : Int → Option Kn) (n : Nat) (s : G5) (beh : Int) (p a : Nat) (nd : Kn) : Prop where
  at_ : f (p : Int) = some nd
  le : a ≤ nd.segs.length
  hi : nd.segs.length + 1 ≤ 2 * d
  kids : (beh = -1 ∧ nd.kids = []) ∨ (beh ≠ -1 ∧ a + 1 ≤ nd.kids.length ∧ nd.kids.length = nd.segs.length + 1)
  done : nd.segs.length + 1 < 2 * d → TreeAt d (updK f (p : Int) (some ⟨insL nd.segs a s, kidsB nd.kids a beh⟩)) n root L
  over : nd.segs.length + 1 = 2 * d → n + 2 * d ≤ L.length + 1 ∧ ∃ mid, (insL nd.segs a s)[d]? = some mid ∧ ∀ q : Nat, updK f (p : Int) (some ⟨insL nd.segs a s, kidsB nd.kids a beh⟩) (q : Int) = none →
    St (j + 1) (updK (updK (updK f (p : Int) (some ⟨insL nd.segs a s, kidsB nd.kids a beh⟩)) (p : Int) (some ⟨(insL nd.segs a s).take d, (kidsB nd.kids a beh).take (d + 1)⟩)) (q : Int) (some ⟨(insL nd.segs a s).drop (d + 1), (kidsB nd.kids a beh).drop (d + 1)⟩)) (n + 1) mid (q : Int)
/-- The four boxes of a call of layIn (at b0 and on), the tree, what is still to be laid in. -/
def LayB (w W : World) (S B : Nat → Prop) (base T A : Nat) (t : Bx) (b0 : Nat) (s : G5) (beh : Int) (V : World) : Prop :=
  BtH w S B base T A t V ∧ V.heap[b0]? = some (tbO T) ∧ V.heap[b0 + 1]? = some (oG s) ∧ V.heap[b0 + 2]? = some (inO beh)
/-- Between two rounds. -/
def LayI (w W W0 : World) (S B B1 : Nat → Prop) (base T A : Nat) (t : Bx) (b0 : Nat) (St : StP) (j : Nat) (V : World) : Prop :=
  ∃ f n s beh, St j f n s beh ∧ LayB w W S B1 base T A { t with f := f, n := n } b0 s beh V ∧ (∀ b, B b → V.heap[b]? = W.heap[b]?) ∧ W0.heap.size ≤ V.heap.size
theorem layB_grown {w W X Y : World} {S B : Nat → Prop} {base T A : Nat} {t : Bx} {b0 : Nat} {s : G5} {beh : Int} {row : Option Nat} (h : LayB w W S B base T A t b0 s beh X) (hg : X.grownBy Y row) (hr : ∀ r, row = some r → w.heap.size ≤ r ∧ ∃ o : Obj, X.heap[r]? = some o ∧ o.isCells = false) : LayB w W S B base T A t b0 s beh Y :=
  ⟨h.1.grown hg hr, grown_cells hg (fun r e => (hr r e).2) rfl h.2.1, grown_cells hg (fun r e => (hr r e).2) rfl h.2.2.1, grown_cells hg (fun r e => (hr r e).2) rfl h.2.2.2⟩
theorem layI_own (w W W0 : World) (S B B1 : Nat → Prop) (base T A : Nat) (t : Bx) (b0 : Nat) (St : StP) (D : Nat) (h1 : w.heap.size ≤ D) (hB : ∀ b, B b → b < D) (hB2 : ∀ b, B b → b < W0.heap.size) : OwnFrom D (LayI w W W0 S B B1 base T A t b0 St) := by
  rintro j X Y row ⟨f, n, s, beh, k1, k2, k3, k4⟩ hg hr
  refine ⟨f, n, s, beh, k1, layB_grown k2 hg (fun r e => ⟨Nat.le_trans h1 (hr r e).1, (hr r e).2⟩), fun b hb => ?_, Nat.le_trans k4 hg.size⟩
  exact (hg.block b (Nat.lt_of_lt_of_le (hB2 b hb) k4) (fun e => by have := (hr b e.symm).1; have := hB b hb; omega)).trans (k3 b hb)
def LayX (w W : World) (S B : Nat → Prop) (base T A : Nat) (t : Bx) (d : Nat) (L : List G5) (m : Nat) (c : Code) (j : Nat) (V : World) : Prop := c = .ret ∧ LayFin w W S B base T A t d L V ∧ m ≤ V.heap.size
theorem layX_own (w W : World) (S B : Nat → Prop) (base T A : Nat) (t : Bx) (d : Nat) (L : List G5) (m : Nat) (c : Code) (D : Nat) (h1 : w.heap.size ≤ D) (hB : ∀ b, B b → b < D) (hB2 : ∀ b, B b → b < m) : OwnFrom D (LayX w W S B base T A t d L m c) := by
  rintro j X Y row ⟨rfl, ⟨f, n, r, k1, k2, k3⟩, k4⟩ hg hr
  refine ⟨rfl, ⟨f, n, r, k1, k2.grown hg (fun r e => ⟨Nat.le_trans h1 (hr r e).1, (hr r e).2⟩), fun b hb => ?_⟩, Nat.le_trans k4 hg.size⟩
  exact (hg.block b (Nat.lt_of_lt_of_le (hB2 b hb) k4) (fun e => by have := (hr b e.symm).1; have := hB b hb; omega)).trans (k3 b hb)
theorem lay_store {w W Y : World} {S C : Nat → Prop} {base T A : Nat} {t : Bx} {b0 : Nat} {s mid : G5} {beh q : Int} (h : LayB w W S C base T A t b0 s beh Y) (h1 : C (b0 + 1)) (h2 : C (b0 + 2)) :
    LayB w W S C base T A t b0 mid q ((set5 Y (b0 + 1) 0 mid).setCell ⟨b0 + 2, 0, none⟩ (.int .i64 q)) ∧ KeepsOthers Y ((set5 Y (b0 + 1) 0 mid).setCell ⟨b0 + 2, 0, none⟩ (.int .i64 q)) ∧
      ∀ b, b ≠ b0 + 1 → b ≠ b0 + 2 → ((set5 Y (b0 + 1) 0 mid).setCell ⟨b0 + 2, 0, none⟩ (.int .i64 q)).heap[b]? = Y.heap[b]? := by
  obtain ⟨k1, k2, k3, k4⟩ := h
  have far : ∀ b, b ≠ b0 + 1 → b ≠ b0 + 2 → ((set5 Y (b0 + 1) 0 mid).setCell ⟨b0 + 2, 0, none⟩ (.int .i64 q)).heap[b]? = Y.heap[b]? := fun b e1 e2 => by
    have f : ∀ (X : World) (c i : Nat) (v : Value), b ≠ c → (X.setCell ⟨c, i, none⟩ v).heap[b]? = X.heap[b]? := fun X c i v hne => heap_setCell_other _ _ _ _ (by simpa using hne)
    rw [f _ _ _ _ e2]
    unfold set5
    rw [f _ _ _ _ e1, f _ _ _ _ e1, f _ _ _ _ e1, f _ _ _ _ e1, f _ _ _ _ e1]
  refine ⟨⟨(((((k1.box _ h1 _ _).box _ h1 _ _).box _ h1 _ _).box _ h1 _ _).box _ h1 _ _).box _ h2 _ _, (far b0 (by omega) (by omega)).trans k2, ?_, ?_⟩, ?_, far⟩
  · exact set_far (heap_setCell_same _ _ _ _ _ _ (heap_setCell_same _ _ _ _ _ _ (heap_setCell_same _ _ _ _ _ _ (heap_setCell_same _ _ _ _ _ _ (heap_setCell_same _ _ _ _ _ _ k3))))) (by omega)
  · refine heap_setCell_same _ _ _ _ _ _ (?_ : _ = some (inO beh))
    unfold set5
    exact set_far (set_far (set_far (set_far (set_far k4 (by omega)) (by omega)) (by omega)) (by omega)) (by omega)
  · exact ((((((KeepsOthers.setCell Y _ _).trans (KeepsOthers.setCell _ _ _)).trans (KeepsOthers.setCell _ _ _)).trans (KeepsOthers.setCell _ _ _)).trans (KeepsOthers.setCell _ _ _)).trans (KeepsOthers.setCell _ _ _))
set_option maxHeartbeats 8000000 in
theorem blayIn_core {w W : World} {S B : Nat → Prop} {base T A : Nat} {t : Bx} (h : BtH w S B base T A t W) (d : Nat) (hd : t.d = (d : Int)) (hd1 : 1 ≤ d) (hd2 : d ≤ 64) (xs : List (Int × Int)) (ap : Option Addr) (cap bb : Nat) (s : G5) (L : List G5) (St : StP)
    (ho : W.ownsRow bb 125 2 (.slice ap xs.length cap) xs.length (flat2 xs)) (hB : ∀ b, (Value.slice ap xs.length cap).ownBlock = some b → B b) (hN : xs.length ≤ 100000) (hroom : (L.length : Int) ≤ t.room)
    (hS : St 0 t.f t.n s (-1)) (HR : Hid (∀ j f n s beh, j < xs.length → St j f n s beh → ∃ (p a : Nat) (nd : Kn), xs.getD (xs.length - 1 - j) (0, 0) = ((p : Int), (a : Int)) ∧ LayN d L t.root St j f n s beh p a nd))
    (HE : Hid (∀ f n s beh V, St xs.length f n s beh → BtH w S B base T A { t with f := f, n := n } V → (∀ b, B b → V.heap[b]? = W.heap[b]?) → Calls Try.prog 92 #[aP T, vG s, .int .i64 beh] V fun e w' => e = .returned (.tuple #[]) ∧ LayFin w W S B base T A t d L w' ∧ KeepsOthers V w')) :
    Calls Try.prog 68 #[aP T, .slice ap xs.length cap, vG s] W fun e w' => e = .returned (.tuple #[]) ∧ LayFin w W S B base T A t d L w' := by
  have mx := mixed
  obtain ⟨b0, hb0⟩ : ∃ b0, b0 = W.heap.size := ⟨_, rfl⟩
  obtain ⟨W0, hW0⟩ : ∃ X, X = ((((W.alloc (tbO T)).alloc (oG s)).alloc (inO (-1))).alloc (.cells #[.slice ap xs.length cap] 95)) := ⟨_, rfl⟩
  have z3 : W0.heap.size = b0 + 4 := by rw [hW0, hb0]; simp
  have B3 : Go.RowKit.Below W.heap.size W W0 := by rw [hW0]; exact bt (bt (bt (below_new _ _) (below_new _ _)) (below_new _ _)) (below_new _ _)
  have HM0 : Hid (W0.heap[b0]? = some (tbO T)) := by show _ = _; rw [hW0, hb0]; exact box_on (box_on (box_on (heap_alloc_new _ _) (below_new _ _)) (below_new _ _)) (below_new _ _)
  have HM1 : Hid (W0.heap[b0 + 1]? = some (oG s)) := by show _ = _; rw [hW0, hb0]; exact box_on (box_on (new_at' _ (by simp)) (below_new _ _)) (below_new _ _)
  have HM2 : Hid (W0.heap[b0 + 2]? = some (inO (-1))) := by show _ = _; rw [hW0, hb0]; exact box_on (new_at' _ (by simp)) (below_new _ _)
  have HM3 : Hid (W0.heap[b0 + 3]? = some (.cells #[.slice ap xs.length cap] 95 (0, 0))) := by show _ = _; rw [hW0, hb0]; exact new_at' _ (by simp)
  have H3 := Lib.hid (h.keep (C := fun b => B b ∨ (b0 ≤ b ∧ b < b0 + 4)) B3 (fun b hb => hb.imp id (fun q => by omega)))
  have HBL : Hid (∀ b, B b → w.heap.size ≤ b ∧ b < b0) := fun b hb => by have := h.size b hb; omega
  have HMB : Hid (∀ b, b < b0 → W0.heap[b]? = W.heap[b]?) := fun b hb => B3.block b (by omega)
  have HOW := Lib.hid (own_kpQ ho (fun b hb => HMB.out b (HBL.out b (hB b hb)).2))
  have HZ : Hid (W0.heap.size = b0 + 4) := z3
  have HB := Lib.hid hB
  have HW0 := Lib.hid hW0
  have Hb0 := Lib.hid hb0
  have hwb : w.heap.size ≤ b0 := by rw [hb0]; exact h.kp.size
  have HWB := Lib.hid hwb
  have HS := Lib.hid hS
  clear hB ho B3 z3 hW0 h hwb hS hb0
  refine (callsIn_wide (n := 6)).1 ?_
  refine callsIn_of_wp_marks Try.func68 rfl trivial ?_ rfl
  simp only [Try.ntmps68, List.size_toArray, List.length_cons, List.length_nil, Nat.reduceAdd, Nat.reduceSub, Array.replicate_succ, Array.replicate_zero, List.push_toArray, List.append_toArray, List.nil_append, List.cons_append]
  gi_wp2_with (refine ⟨trivial, ?_⟩; gi_at_call 79; refine (callsIn_wide.2 (bback_any ap xs.length cap _)).mono ?_; rintro e w' ⟨rfl, rfl⟩)
  simp only [← Hb0.out, Nat.add_assoc, Nat.reduceAdd]
  rw [← HW0.out]
  obtain ⟨Q, HQ⟩ : ∃ Q : Nat → Prop, Hid (Q = fun b => b = b0 + 3 ∨ (Value.slice ap xs.length cap).ownBlock = some b) := ⟨_, rfl⟩
  have HQ1 : Hid (∀ b, Q b → (B b ∨ (b0 ≤ b ∧ b < b0 + 4)) ∧ b ≠ b0 ∧ b ≠ b0 + 1 ∧ b ≠ b0 + 2 ∧ b < b0 + 4) := fun b hb => by
    rw [HQ.out] at hb
    rcases hb with rfl | hb
    · exact ⟨.inr ⟨by omega, by omega⟩, by omega, by omega, by omega, by omega⟩
    · have h1 := HB.out b hb
      have := (HBL.out b h1).2
      exact ⟨.inl h1, by omega, by omega, by omega, by omega⟩
  have hsz : W0.heap.size = b0 + 4 := HZ.out
  have hwb : w.heap.size ≤ b0 := HWB.out
  have hQlt : ∀ b, Q b → b < W0.heap.size := fun b hb => by have := (HQ1.out b hb).2.2.2.2; omega
  have hB1 : ∀ b, B b → b < W0.heap.size := fun b hb => by have := (HBL.out b hb).2; omega
  refine wpIn_rangeN (gf := 98) (lb := #[.pointer (some ⟨b0 + 3, 0, none⟩)]) rfl (enters_of Try.func98 (by kernel_rfl) rfl)
    (bback_seq (b0 + 3) ap cap bb xs Q W0 HM3.out HOW.out (by rw [HQ.out]; exact .inl rfl) (fun b hb => by rw [HQ.out]; exact .inr hb) (by omega)) kpQ.trans (kpQ_b hQlt) (Go.RowKit.Below.refl _ _) (fun _ => rfl)
    (LayI w W W0 S B (fun b => B b ∨ (b0 ≤ b ∧ b < b0 + 4)) base T A t b0 St) (LayX w W S B base T A t d L W0.heap.size) (layI_own w W W0 S B _ base T A t b0 St _ (by omega) hB1 hB1) (fun c => layX_own w W S B base T A t d L _ c _ (by omega) hB1 hB1)
    ⟨t.f, t.n, s, -1, HS.out, ⟨H3.out, HM0.out, HM1.out, HM2.out⟩, fun b hb => HMB.out b (HBL.out b hb).2, Nat.le_refl _⟩ ?round ?done ?stop
  case round =>
    rintro l j V0 K hj ⟨f, n, s1, beh, k1, k2, k3, k4⟩ hK
    obtain ⟨p, a, nd, ex, hr⟩ := HR.out j f n s1 beh hj k1
    rw [ex]
    have HL := Lib.hid hr
    have HK2 := Lib.hid k2
    have HK3 := Lib.hid k3
    have HK4 := Lib.hid k4
    clear k1 k2 k3 k4 ex hr
    gi_wp2
    have hb6 := below_new V0 (stO ((p : Int), (a : Int)))
    have hn6 : (V0.alloc (stO ((p : Int), (a : Int)))).heap[V0.heap.size]? = some (stO ((p : Int), (a : Int))) := heap_alloc_new _ _
    have hlt6 := lt_of_block hn6
    refine hK _ _ ((KeepsOthers.alloc _ _).from _) (fun b hb => hb6.block b (Nat.lt_of_lt_of_le (hQlt b hb) HK4.out)) ⟨fun i V => (LayB w W S (fun b => (B b ∨ (b0 ≤ b ∧ b < b0 + 4)) ∨ b = V0.heap.size) base T A { t with f := f, n := n } b0 s1 beh V ∧ V.heap[V0.heap.size]? = some (stO ((p : Int), (a : Int)))) ∧ (∀ b, B b → V.heap[b]? = W.heap[b]?) ∧ V0.heap.size < V.heap.size, ?_, ⟨⟨⟨HK2.out.1.keep hb6 (fun b hb => hb.imp id (fun e => by subst e; exact ⟨Nat.le_refl _, hlt6⟩)), box_on HK2.out.2.1 hb6, box_on HK2.out.2.2.1 hb6, box_on HK2.out.2.2.2 hb6⟩, hn6⟩, fun b hb => (hb6.block b (Nat.lt_of_lt_of_le (hB1 b hb) HK4.out)).trans (HK3.out b hb), hlt6⟩, ?_⟩
    · rintro i X Y row ⟨⟨g1, g2⟩, g3, g4⟩ hg hr
      refine ⟨⟨layB_grown g1 hg (fun r e => ⟨by have := (hr r e).1; omega, (hr r e).2⟩), grown_cells hg (fun r e => (hr r e).2) rfl g2⟩, fun b hb => ?_, Nat.lt_of_lt_of_le g4 hg.size⟩
      have := hB1 b hb
      have := HK4.out
      exact (hg.block b (by omega) (fun e => by have := (hr b e.symm).1; omega)).trans (g3 b hb)
    rintro V ⟨⟨g1, g2⟩, g3, g4⟩
    have hbx : b0 + 4 ≤ V0.heap.size := by have := HK4.out; omega
    clear hb6 hn6 hlt6 HK2 HK3 HK4
    generalize V0.heap.size = BX at *
    obtain ⟨S1, h5, h6⟩ := g1.1.rebase
    have H := Lib.hid h5
    have HRB := Lib.hid h6
    have HVB := Lib.hid g3
    have HBOX : Hid (∀ (t' : Bx) Y, BtH V S1 (fun _ => False) base T A t' Y → (Y.heap[b0]? = some (tbO T) ∧ Y.heap[b0 + 1]? = some (oG s1) ∧ Y.heap[b0 + 2]? = some (inO beh)) ∧ Y.heap[BX]? = some (stO ((p : Int), (a : Int)))) := fun t' Y hY => by
      have e := (h6 t' Y hY).2.2
      exact ⟨⟨(e _ (.inl (.inr (by omega)))).trans g1.2.1, (e _ (.inl (.inr (by omega)))).trans g1.2.2.1, (e _ (.inl (.inr (by omega)))).trans g1.2.2.2⟩, (e _ (.inr rfl)).trans g2⟩
    clear g1 g2 g3 h6
    obtain ⟨g, hg⟩ := h5.gOf p (by show f (p : Int) ≠ none; rw [HL.out.at_]; simp)
    obtain ⟨sa, ka, sc, kc, v⟩ := h5.node hg p nd HL.out.at_
    have HG := Lib.hid hg
    have HAT := Lib.hid v.at_
    have p1 := cell_regrown ((cell_of_row _ _ 0 _ _ _ (HBOX.out _ _ h5).1.1).trans rfl : V.cell? ⟨b0, 0, none⟩ = some (aP T))
    have p2 := cell_regrown ((cell_of_row _ _ 1 _ _ _ h5.top).trans rfl : V.cell? ⟨T, 1, none⟩ = some (aP A))
    have p4 := cell_regrown ((cell_of_row _ _ 0 _ _ _ (HBOX.out _ _ h5).2).trans rfl : V.cell? ⟨BX, 0, none⟩ = some (.int .i64 (p : Int)))
    clear h5 hg v
    gi_wp2
    clear mx
    have mx := mixed
    refine wpIn_round_quiet_below (by assumption) (by kernel_rfl) (by kernel_rfl) ?_
    repeat (go_big_quiet_step (first | (go_at_call 50; exact Calls.regrown_of ((HAT.out _ (below_regrown _ _ _)).mono fun e w' h => ⟨h.1, h.2 ▸ Go.RowKit.Below.refl _ _⟩))))
    refine wpQuiet_nil ?_
    intro _ hw'
    obtain ⟨⟨nq, osq⟩, hw''⟩ := hw'
    subst hw''
    have hb4 := below_regrown V nq osq
    generalize grow (redrawn V nq) osq = Y at *
    clear p1 p2 p4
    have HD := Lib.hid ((H.out.below hb4).below (Go.RowKit.Below.refl _ _).drew)
    have HGD := Lib.hid ((HG.out.below hb4).below (Go.RowKit.Below.refl _ _).drew)
    have HKO4 : Hid (KeepsOthers V Y.drew) := (HRB.out _ _ HD.out).2.1
    clear hb4 HAT HG
    obtain ⟨sa, ka, sc, kc, v⟩ := HD.out.node HGD.out p nd HL.out.at_
    obtain ⟨m1, hm1⟩ : ∃ m1, m1 = nd.segs.length + 1 := ⟨_, rfl⟩
    obtain ⟨m0, hm0⟩ : ∃ m0, m0 = nd.segs.length := ⟨_, rfl⟩
    have HM1 := Lib.hid hm1
    have HMM := Lib.hid hm0
    have hlen : (insL nd.segs a s1).length = m1 := by rw [insL_len _ _ _ HL.out.le, hm1]
    have HLEN := Lib.hid hlen
    have HLG := Lib.hid (laidG_any (i := a) (s := s1) v.os rfl HL.out.le (by have := HL.out.hi; omega) v.le)
    rw [← hm1, ← hm0] at HLG
    have HV := Lib.hid v
    have c1 := v.cs
    rw [← hm0] at c1
    have c2 : Y.drew.cell? ⟨BX, 1, none⟩ = some (.int .i64 (a : Int)) := (cell_of_row _ _ 1 _ _ _ (HBOX.out _ _ HD.out).2).trans rfl
    obtain ⟨q1, q2, q3, q4, q5⟩ := five_cells (HBOX.out _ _ HD.out).1.2.1
    simp only [Nat.zero_add] at q1 q2 q3 q4 q5
    obtain ⟨S5, hS5⟩ : ∃ S5 : World → Prop, S5 = fun w' => w'.cell? ⟨g, p * 3, none⟩ = some (.slice sa m0 sc) ∧ w'.cell? ⟨BX, 1, none⟩ = some (.int .i64 (a : Int)) ∧ w'.cell? ⟨b0 + 1, 0, none⟩ = some (.int .i64 s1.ls) ∧ w'.cell? ⟨b0 + 1, 1, none⟩ = some (.int .i64 s1.la) ∧ w'.cell? ⟨b0 + 1, 2, none⟩ = some (.int .i64 s1.hs) ∧ w'.cell? ⟨b0 + 1, 3, none⟩ = some (.int .i64 s1.ha) ∧ w'.cell? ⟨b0 + 1, 4, none⟩ = some (.int .i64 s1.v) := ⟨_, rfl⟩
    have HS1 : Hid (S5 Y.drew) := by show S5 _; rw [hS5]; exact ⟨c1, c2, q1, q2, q3, q4, q5⟩
    have HGF : Hid (∀ y, Y.drew.grownBy y (Value.slice sa m0 sc).ownBlock → y.cell? ⟨g, p * 3, none⟩ = some (.slice sa m0 sc) ∧ y.frozen? ⟨g, p * 3, none⟩ = false) := fun y hy => by
      have hne : some g ≠ (Value.slice sa m0 sc).ownBlock := fun e => v.gs g (by rw [← hm0]; exact e.symm) rfl
      exact ⟨(hy.cell_far ⟨g, p * 3, none⟩ v.gb hne).trans c1, (hy.frozen_far ⟨g, p * 3, none⟩ v.gb hne).trans (v.fz _)⟩
    clear v c1 c2 q1 q2 q3 q4 q5 hm1 hm0 hlen
    gi_wp2
    clear mx
    have mx := mixed
    refine wpIn_round_T S5 8 mx (by kernel_rfl) HS1.out (fun _ _ h => h) (fun hHeld => ?_)
    subst hS5
    refine wpAnyT_pure (i := 0) (v := ?_) (by kernel_rfl) rfl (by kernel_rfl) (by kernel_rfl) (by kernel_rfl) (fun _ _ _ h => h) (Or.inl ⟨by rfl, ?_⟩) (by assumption) ?_
    rotate_left
    · intro w0; go_simp; all_goals (with_reducible rfl)
    try simp only [Act.put, List.setIfInBounds_toArray, List.set_cons_zero, List.set_cons_succ]
    refine wpAnyT_pure (i := 1) (v := ?_) (by kernel_rfl) rfl (by kernel_rfl) (by kernel_rfl) (by kernel_rfl) (fun _ _ _ h => h) (Or.inl ⟨by rfl, ?_⟩) (by assumption) ?_
    rotate_left
    · intro w0; go_simp; all_goals (with_reducible rfl)
    try simp only [Act.put, List.setIfInBounds_toArray, List.set_cons_zero, List.set_cons_succ]
    refine wpAnyT_pure (i := 2) (v := ?_) (by kernel_rfl) rfl (by kernel_rfl) (by kernel_rfl) (by kernel_rfl) (fun _ _ _ h => h) (Or.inl ⟨by rfl, ?_⟩) (by assumption) ?_
    rotate_left
    · intro w0; go_simp; all_goals (with_reducible rfl)
    try simp only [Act.put, List.setIfInBounds_toArray, List.set_cons_zero, List.set_cons_succ]
    refine wpAnyT_pure (i := 3) (v := ?_) (by kernel_rfl) rfl (by kernel_rfl) (by kernel_rfl) (by kernel_rfl) (fun _ _ _ h => h) (Or.inl ⟨by rfl, ?_⟩) (by assumption) ?_
    rotate_left
    · intro w0; go_simp; all_goals (with_reducible rfl)
    try simp only [Act.put, List.setIfInBounds_toArray, List.set_cons_zero, List.set_cons_succ]
    refine wpAnyT_take (i := 4) (v := ?_) [8, 9, 10, 11] (by kernel_rfl) (by kernel_rfl) (by kernel_rfl) rfl (by kernel_rfl) (by kernel_rfl) (by kernel_rfl) (fun _ _ _ h => h) (Or.inl ⟨by rfl, ?_⟩) (by assumption) ?_
    rotate_left
    · intro w0 hSw; (try dsimp only at hSw); go_simp; all_goals (with_reducible rfl)
    try simp only [Act.put, List.setIfInBounds_toArray, List.set_cons_zero, List.set_cons_succ]
    refine wpAnyT_pure (i := 5) (v := ?_) (by kernel_rfl) rfl (by kernel_rfl) (by kernel_rfl) (by kernel_rfl) (fun _ _ _ h => h) (Or.inl ⟨by rfl, ?_⟩) (by assumption) ?_
    rotate_left
    · intro w0; go_simp; all_goals (with_reducible rfl)
    try simp only [Act.put, List.setIfInBounds_toArray, List.set_cons_zero, List.set_cons_succ]
    refine wpAnyT_take (i := 6) (v := ?_) [8, 9, 10, 11] (by kernel_rfl) (by kernel_rfl) (by kernel_rfl) rfl (by kernel_rfl) (by kernel_rfl) (by kernel_rfl) (fun _ _ _ h => h) (Or.inl ⟨by rfl, ?_⟩) (by assumption) ?_
    rotate_left
    · intro w0 hSw; (try dsimp only at hSw); go_simp; all_goals (with_reducible rfl)
    try simp only [Act.put, List.setIfInBounds_toArray, List.set_cons_zero, List.set_cons_succ]
    refine wpAnyT_take (i := 7) (v := ?_) [8, 9, 10, 11] (by kernel_rfl) (by kernel_rfl) (by kernel_rfl) rfl (by kernel_rfl) (by kernel_rfl) (by kernel_rfl) (fun _ _ _ h => h) (Or.inl ⟨by rfl, ?_⟩) (by assumption) ?_
    rotate_left
    · intro w0 hSw; (try dsimp only at hSw); go_simp; all_goals (with_reducible rfl)
    try simp only [Act.put, List.setIfInBounds_toArray, List.set_cons_zero, List.set_cons_succ]
    refine wpAnyT_stop (by kernel_rfl) rfl (fun K0 hK0 => ?_)
    go_simp
    refine HLG.out.mono ?_
    rintro e y1 ⟨a1, c1, ⟨rfl, ho1⟩, hg1, hn1⟩
    obtain ⟨y5, y6⟩ := HGF.out y1 hg1
    have HO1 := Lib.hid ho1
    have HG1 := Lib.hid hg1
    have HN1 := Lib.hid hn1
    clear ho1 hg1 hn1
    try dsimp only
    refine hK0.out _ _ ?_
    clear hK0 K0
    try simp only [Act.put, List.setIfInBounds_toArray, List.set_cons_zero, List.set_cons_succ]
    refine wpAny_take (i := 9) (v := ?_) rfl (by kernel_rfl) (by kernel_rfl) (by kernel_rfl) (fun _ _ _ h => h) (Or.inl ⟨by rfl, ?_⟩) ?_
    rotate_left
    · intro w0; go_simp; all_goals (with_reducible rfl)
    try simp only [Act.put, List.setIfInBounds_toArray, List.set_cons_zero, List.set_cons_succ]
    refine wpAny_take (i := 10) (v := ?_) rfl (by kernel_rfl) (by kernel_rfl) (by kernel_rfl) (fun _ _ _ h => h) (Or.inl ⟨by rfl, ?_⟩) ?_
    rotate_left
    · intro w0; go_simp; all_goals (with_reducible rfl)
    try simp only [Act.put, List.setIfInBounds_toArray, List.set_cons_zero, List.set_cons_succ]
    refine wpAny_one (i := 11) (by kernel_rfl) rfl (fun K0 hK0 => ?_)
    go_simp
    refine hK0.out _ _ ?_
    clear hK0 K0
    try simp only [Act.put, List.setIfInBounds_toArray, List.set_cons_zero, List.set_cons_succ]
    refine wpAny_end (by kernel_rfl) ?_ _
    simp only [onlyN]
    have hset := HV.out.setS y1 a1 c1 (insL nd.segs a s1) (by rw [← HMM.out]; exact HG1.out) (by rw [HLEN.out]; exact HO1.out) (fun b hb => by
      have hb' : (Value.slice a1 m1 c1).ownBlock = some b := by rw [← hb]; exact ownBlk _ _ _ _ _
      rcases HN1.out b hb' with q | q
      · exact .inl (by rw [← HMM.out]; exact q)
      · exact .inr ⟨q, (HO1.out.lt b hb').2, id⟩)
    rw [HLEN.out] at hset
    obtain ⟨h7, h8, _⟩ := hset
    have H5 := Lib.hid h7
    have HG5 := Lib.hid h8
    clear h7 h8 hHeld HS1 HGF HLG HO1 HG1 HN1 HV HD HGD y5 y6 HKO4
    generalize y1.setCell ⟨g, p * 3, none⟩ (.slice a1 m1 c1) = Y5 at *
    have c6 : Y5.cell? ⟨b0 + 2, 0, none⟩ = some (.int .i64 beh) := (cell_of_row _ _ 0 _ _ _ (HBOX.out _ _ H5.out).1.2.2).trans rfl
    have hdone := HL.out.done
    have hover := HL.out.over
    have HDN := Lib.hid hdone
    have HOV := Lib.hid hover
    have hi := HL.out.hi
    rw [← HM1.out] at hi
    clear hdone hover
    rcases HL.out.kids with ⟨rfl, e2⟩ | ⟨e1, e2, e3⟩
    · have hkb : kidsB nd.kids a (-1) = [] := (if_pos rfl).trans e2
      rw [hkb] at HDN HOV
      have h7 := H5.out
      have h8 := HG5.out
      rw [e2] at h7
      have H7 := Lib.hid h7
      have HG7 := Lib.hid h8
      clear h7 h8 H5 HG5 hkb e2
      gi_wp2
      clear c6
      obtain ⟨sa7, ka7, sc7, kc7, v7⟩ := H7.out.node HG7.out p _ (updK_self _ _ _)
      have c7 := v7.cs
      rw [show (⟨insL nd.segs a s1, []⟩ : Kn).segs.length = m1 from HLEN.out] at c7
      have p1 := cell_regrown c7
      have p2 := cell_regrown ((cell_of_row _ _ 0 _ _ _ (HBOX.out _ _ H7.out).1.1).trans rfl : Y5.cell? ⟨b0, 0, none⟩ = some (aP T))
      have p3 := cell_regrown ((cell_of_row _ _ 0 _ _ _ H7.out.top).trans (by rw [← hd]; rfl) : Y5.cell? ⟨T, 0, none⟩ = some (.int .i64 (d : Int)))
      have i2 : IntKind.i64.wrap (2 * (d : Int)) = 2 * (d : Int) := IntWalk.i64_in _ (by omega)
      clear v7 c7 HG7
      by_cases hlt : m1 < 2 * d
      · have t8 : (m1 : Int) < 2 * (d : Int) := by omega
        have HTR := Lib.hid (HDN.out (by have := HM1.out; omega))
        clear hlt
        gi_wp2
        clear mx
        have mx := mixed
        refine wpIn_round_quiet_below (by assumption) (by kernel_rfl) (by kernel_rfl) ?_
        repeat (go_big_quiet_step (fail))
        refine wpQuiet_nil ?_
        intro _ hw'
        obtain ⟨⟨nq, osq⟩, hw''⟩ := hw'
        subst hw''
        have hb8 := below_regrown Y5 nq osq
        generalize grow (redrawn Y5 nq) osq = Y8 at *
        have H8 := H7.out.below hb8
        have r := HRB.out _ _ H8
        have HRR := Lib.hid r
        clear p1 p2 p3 H8 r hb8
        gi_wp2
        refine ⟨HRR.out.2.1.from _, rfl, ⟨_, n, t.root, HTR.out, HRR.out.1.less (fun b hb => .inl (.inl hb)), fun b hb => (HRR.out.2.2 b (.inl (.inl hb))).trans (HVB.out b hb)⟩, ?_⟩
        have := HRR.out.2.1.size
        omega
      · have t8 : ¬ (m1 : Int) < 2 * (d : Int) := by omega
        have hm2 : m1 = 2 * d := by omega
        obtain ⟨hnr, mid, hmid, hst⟩ := HOV.out (by have := HM1.out; omega)
        have HST := Lib.hid hst
        have HMID := Lib.hid hmid
        have HNR : Hid ((n : Int) < t.room) := by show _ < _; omega
        have HM2 := Lib.hid hm2
        clear hlt hnr hmid hst hm2
        gi_wp2
        clear mx
        have mx := mixed
        refine wpIn_round_quiet_below (by assumption) (by kernel_rfl) (by kernel_rfl) ?_
        repeat (go_big_quiet_step (fail))
        refine wpQuiet_nil ?_
        intro _ hw'
        obtain ⟨⟨nq, osq⟩, hw''⟩ := hw'
        subst hw''
        have hb8 := below_regrown Y5 nq osq
        generalize grow (redrawn Y5 nq) osq = Y8 at *
        have h8 := H7.out.below hb8
        have HSP := Lib.hid (h8.splitL p _ (updK_self _ _ _) d hd (by omega) hd2 (HLEN.out.trans HM2.out) rfl HNR.out mid HMID.out)
        have c1 : Y8.cell? ⟨b0, 0, none⟩ = some (aP T) := (cell_of_row _ _ 0 _ _ _ (HBOX.out _ _ h8).1.1).trans rfl
        have c2 : Y8.cell? ⟨BX, 0, none⟩ = some (.int .i64 (p : Int)) := (cell_of_row _ _ 0 _ _ _ (HBOX.out _ _ h8).2).trans rfl
        clear p1 p2 p3 h8 hb8
        gi_wp2_with ((first | (refine ⟨trivial, ?_⟩) | (refine ⟨fun h => (by cases h), ?_⟩)); gi_at_call 91; refine ((callsIn_wide.2 HSP.out).inRound l).mono ?_; rintro e w' ⟨q, rfl, hno, hqp, hh, _⟩; have HNO := Lib.hid hno; have HH := Lib.hid hh; have x1 := (HBOX.out _ _ hh).1.2.1; have x2 := (HBOX.out _ _ hh).1.2.2; obtain ⟨d1, d2, d3, d4, d5⟩ := five_cells x1; simp only [Nat.zero_add] at d1 d2 d3 d4 d5; have d6 := (cell_of_row _ _ 0 _ _ _ x2).trans rfl; have f1 := frozen_of_row _ _ 0 _ _ x1; have f2 := frozen_of_row _ _ 1 _ _ x1; have f3 := frozen_of_row _ _ 2 _ _ x1; have f4 := frozen_of_row _ _ 3 _ _ x1; have f5 := frozen_of_row _ _ 4 _ _ x1; have f6 := frozen_of_row _ _ 0 _ _ x2; clear hno hh hqp x1 x2)
        have r := HRB.out _ _ HH.out
        have ls := lay_store (W := W) (mid := mid) (q := (q : Int)) (⟨r.1, (HBOX.out _ _ HH.out).1⟩ : LayB w W S _ base T A _ b0 s1 (-1) w') (.inl (.inr ⟨by omega, by omega⟩)) (.inl (.inr ⟨by omega, by omega⟩))
        have hko := r.2.1.trans ls.2.1
        refine ⟨hko.from _, fun b hb => ?_, _, n + 1, mid, (q : Int), HST.out q HNO.out, ⟨ls.1.1.less (fun b hb => .inl hb), ls.1.2⟩, fun b hb => ?_, ?_⟩
        · obtain ⟨x1, x2, x3, x4, x5⟩ := HQ1.out b hb
          exact (ls.2.2 b x3 x4).trans (r.2.2 b (.inl x1))
        · have := (HBL.out b hb).2
          exact (ls.2.2 b (by omega) (by omega)).trans ((r.2.2 b (.inl (.inl hb))).trans (HVB.out b hb))
        · exact Nat.le_trans (by omega : W0.heap.size ≤ V.heap.size) hko.size
    · have t6 : (beh != -1) = true := by simpa using e1
      have t6' : ¬ beh = -1 := e1
      have hkb : kidsB nd.kids a beh = nd.kids.take (a + 1) ++ beh :: nd.kids.drop (a + 1) := if_neg e1
      have HKB := Lib.hid hkb
      have HE2 := Lib.hid e2
      have HE3 := Lib.hid e3
      clear hkb e1 e2 e3
      have HD := Lib.hid (H5.out.below (Go.RowKit.Below.refl _ _).drew)
      have HGD := Lib.hid (HG5.out.below (Go.RowKit.Below.refl _ _).drew)
      obtain ⟨sa, ka, sc, kc, v⟩ := HD.out.node HGD.out p _ (updK_self _ _ _)
      obtain ⟨k0, hk0⟩ : ∃ k0, k0 = nd.kids.length := ⟨_, rfl⟩
      obtain ⟨k1, hk1⟩ : ∃ k1, k1 = nd.kids.length + 1 := ⟨_, rfl⟩
      have HK0 := Lib.hid hk0
      have HK1 := Lib.hid hk1
      have HKL : Hid ((kidsB nd.kids a beh).length = k1) := by
        show _ = _
        rw [HKB.out, List.length_append, List.length_cons, List.length_take, List.length_drop, hk1]
        have := HE2.out
        omega
      have HLG := Lib.hid (laidI_any (i := a + 1) (s := beh) v.ok rfl HE2.out (show nd.kids.length ≤ 100000 by have := HE3.out; have := HM1.out; omega) v.le)
      rw [← HKB.out] at HLG
      dsimp only at HLG
      rw [← hk1, ← hk0, show ((a + 1 : Nat) : Int) = (a : Int) + 1 by omega] at HLG
      have HV := Lib.hid v
      have c1 : Y5.drew.cell? ⟨g, p * 3 + 1, none⟩ = some (.slice ka nd.kids.length kc) := v.ck
      rw [← hk0] at c1
      have c2 : Y5.drew.cell? ⟨BX, 1, none⟩ = some (.int .i64 (a : Int)) := (cell_of_row _ _ 1 _ _ _ (HBOX.out _ _ HD.out).2).trans rfl
      have c3 : Y5.drew.cell? ⟨b0 + 2, 0, none⟩ = some (.int .i64 beh) := c6
      have i7 : IntKind.i64.wrap ((a : Int) + 1) = (a : Int) + 1 := IntWalk.i64_in _ (by have := HL.out.le; have := HM1.out; omega)
      obtain ⟨S5, hS5⟩ : ∃ S5 : World → Prop, S5 = fun w' => w'.cell? ⟨g, p * 3 + 1, none⟩ = some (.slice ka k0 kc) ∧ w'.cell? ⟨BX, 1, none⟩ = some (.int .i64 (a : Int)) ∧ w'.cell? ⟨b0 + 2, 0, none⟩ = some (.int .i64 beh) := ⟨_, rfl⟩
      have HS1 : Hid (S5 Y5.drew) := by show S5 _; rw [hS5]; exact ⟨c1, c2, c3⟩
      have HGF : Hid (∀ y, Y5.drew.grownBy y (Value.slice ka k0 kc).ownBlock → y.cell? ⟨g, p * 3 + 1, none⟩ = some (.slice ka k0 kc) ∧ y.frozen? ⟨g, p * 3 + 1, none⟩ = false) := fun y hy => by
        have hne : some g ≠ (Value.slice ka k0 kc).ownBlock := fun e => v.gk g ((ownBlk _ _ _ _ _).trans e.symm) rfl
        exact ⟨(hy.cell_far ⟨g, p * 3 + 1, none⟩ v.gb hne).trans c1, (hy.frozen_far ⟨g, p * 3 + 1, none⟩ v.gb hne).trans (v.fz _)⟩
      clear v c1 c2 c3 hk0 hk1
      gi_wp2
      clear mx c6
      have mx := mixed
      refine wpIn_round_T S5 9 mx (by kernel_rfl) HS1.out (fun _ _ h => h) (fun hHeld => ?_)
      subst hS5
      refine wpAnyT_pure (i := 0) (v := ?_) (by kernel_rfl) rfl (by kernel_rfl) (by kernel_rfl) (by kernel_rfl) (fun _ _ _ h => h) (Or.inl ⟨by rfl, ?_⟩) (by assumption) ?_
      rotate_left
      · intro w0; go_simp; all_goals (with_reducible rfl)
      try simp only [Act.put, List.setIfInBounds_toArray, List.set_cons_zero, List.set_cons_succ]
      refine wpAnyT_pure (i := 1) (v := ?_) (by kernel_rfl) rfl (by kernel_rfl) (by kernel_rfl) (by kernel_rfl) (fun _ _ _ h => h) (Or.inl ⟨by rfl, ?_⟩) (by assumption) ?_
      rotate_left
      · intro w0; go_simp; all_goals (with_reducible rfl)
      try simp only [Act.put, List.setIfInBounds_toArray, List.set_cons_zero, List.set_cons_succ]
      refine wpAnyT_pure (i := 2) (v := ?_) (by kernel_rfl) rfl (by kernel_rfl) (by kernel_rfl) (by kernel_rfl) (fun _ _ _ h => h) (Or.inl ⟨by rfl, ?_⟩) (by assumption) ?_
      rotate_left
      · intro w0; go_simp; all_goals (with_reducible rfl)
      try simp only [Act.put, List.setIfInBounds_toArray, List.set_cons_zero, List.set_cons_succ]
      refine wpAnyT_pure (i := 3) (v := ?_) (by kernel_rfl) rfl (by kernel_rfl) (by kernel_rfl) (by kernel_rfl) (fun _ _ _ h => h) (Or.inl ⟨by rfl, ?_⟩) (by assumption) ?_
      rotate_left
      · intro w0; go_simp; all_goals (with_reducible rfl)
      try simp only [Act.put, List.setIfInBounds_toArray, List.set_cons_zero, List.set_cons_succ]
      refine wpAnyT_take (i := 4) (v := ?_) [9, 10, 11, 12] (by kernel_rfl) (by kernel_rfl) (by kernel_rfl) rfl (by kernel_rfl) (by kernel_rfl) (by kernel_rfl) (fun _ _ _ h => h) (Or.inl ⟨by rfl, ?_⟩) (by assumption) ?_
      rotate_left
      · intro w0 hSw; (try dsimp only at hSw); go_simp; all_goals (with_reducible rfl)
      try simp only [Act.put, List.setIfInBounds_toArray, List.set_cons_zero, List.set_cons_succ]
      refine wpAnyT_pure (i := 5) (v := ?_) (by kernel_rfl) rfl (by kernel_rfl) (by kernel_rfl) (by kernel_rfl) (fun _ _ _ h => h) (Or.inl ⟨by rfl, ?_⟩) (by assumption) ?_
      rotate_left
      · intro w0; go_simp; all_goals (with_reducible rfl)
      try simp only [Act.put, List.setIfInBounds_toArray, List.set_cons_zero, List.set_cons_succ]
      refine wpAnyT_take (i := 6) (v := ?_) [7, 9, 10, 11, 12] (by kernel_rfl) (by kernel_rfl) (by kernel_rfl) rfl (by kernel_rfl) (by kernel_rfl) (by kernel_rfl) (fun _ _ _ h => h) (Or.inl ⟨by rfl, ?_⟩) (by assumption) ?_
      rotate_left
      · intro w0 hSw; (try dsimp only at hSw); go_simp; all_goals (with_reducible rfl)
      try simp only [Act.put, List.setIfInBounds_toArray, List.set_cons_zero, List.set_cons_succ]
      refine wpAnyT_pure (i := 7) (v := ?_) (by kernel_rfl) rfl (by kernel_rfl) (by kernel_rfl) (by kernel_rfl) (fun _ _ _ h => h) (Or.inl ⟨by rfl, ?_⟩) (by assumption) ?_
      rotate_left
      · intro w0; go_simp; all_goals (with_reducible rfl)
      try simp only [Act.put, List.setIfInBounds_toArray, List.set_cons_zero, List.set_cons_succ]
      refine wpAnyT_take (i := 8) (v := ?_) [9, 10, 11, 12] (by kernel_rfl) (by kernel_rfl) (by kernel_rfl) rfl (by kernel_rfl) (by kernel_rfl) (by kernel_rfl) (fun _ _ _ h => h) (Or.inl ⟨by rfl, ?_⟩) (by assumption) ?_
      rotate_left
      · intro w0 hSw; (try dsimp only at hSw); go_simp; all_goals (with_reducible rfl)
      try simp only [Act.put, List.setIfInBounds_toArray, List.set_cons_zero, List.set_cons_succ]
      refine wpAnyT_stop (by kernel_rfl) rfl (fun K0 hK0 => ?_)
      go_simp
      refine HLG.out.mono ?_
      rintro e y1 ⟨a1, c1, ⟨rfl, ho1⟩, hg1, hn1⟩
      obtain ⟨y5, y6⟩ := HGF.out y1 hg1
      have HO1 := Lib.hid ho1
      have HG1 := Lib.hid hg1
      have HN1 := Lib.hid hn1
      clear ho1 hg1 hn1
      try dsimp only
      refine hK0.out _ _ ?_
      clear hK0 K0
      try simp only [Act.put, List.setIfInBounds_toArray, List.set_cons_zero, List.set_cons_succ]
      refine wpAny_take (i := 10) (v := ?_) rfl (by kernel_rfl) (by kernel_rfl) (by kernel_rfl) (fun _ _ _ h => h) (Or.inl ⟨by rfl, ?_⟩) ?_
      rotate_left
      · intro w0; go_simp; all_goals (with_reducible rfl)
      try simp only [Act.put, List.setIfInBounds_toArray, List.set_cons_zero, List.set_cons_succ]
      refine wpAny_take (i := 11) (v := ?_) rfl (by kernel_rfl) (by kernel_rfl) (by kernel_rfl) (fun _ _ _ h => h) (Or.inl ⟨by rfl, ?_⟩) ?_
      rotate_left
      · intro w0; go_simp; all_goals (with_reducible rfl)
      try simp only [Act.put, List.setIfInBounds_toArray, List.set_cons_zero, List.set_cons_succ]
      refine wpAny_one (i := 12) (by kernel_rfl) rfl (fun K0 hK0 => ?_)
      go_simp
      refine hK0.out _ _ ?_
      clear hK0 K0
      try simp only [Act.put, List.setIfInBounds_toArray, List.set_cons_zero, List.set_cons_succ]
      refine wpAny_end (by kernel_rfl) ?_ _
      simp only [onlyN]
      have hset := HV.out.setK y1 a1 c1 (kidsB nd.kids a beh) (by
        have e : (Value.slice ka (⟨insL nd.segs a s1, nd.kids⟩ : Kn).kids.length kc).ownBlock = (Value.slice ka k0 kc).ownBlock := ownBlk _ _ _ _ _
        rw [e]; exact HG1.out) (by rw [HKL.out]; exact HO1.out) (fun b hb => by
        have hb' : (Value.slice a1 k1 c1).ownBlock = some b := by rw [← hb]; exact ownBlk _ _ _ _ _
        rcases HN1.out b hb' with q | q
        · exact .inl (by rw [← q]; exact ownBlk _ _ _ _ _)
        · exact .inr ⟨q, (HO1.out.lt b hb').2, id⟩)
      rw [HKL.out] at hset
      obtain ⟨h7, h8, _⟩ := hset
      dsimp only at h7
      rw [updK_same] at h7
      have H7 := Lib.hid h7
      have HG7 := Lib.hid h8
      clear h7 h8 hHeld HS1 HGF HLG HO1 HG1 HN1 HV HD HGD y5 y6 H5 HG5 i7 t6 t6'
      generalize y1.setCell ⟨g, p * 3 + 1, none⟩ (.slice a1 k1 c1) = Y7 at *
      obtain ⟨sa7, ka7, sc7, kc7, v7⟩ := H7.out.node HG7.out p _ (updK_self _ _ _)
      have c7 := v7.cs
      rw [show (⟨insL nd.segs a s1, kidsB nd.kids a beh⟩ : Kn).segs.length = m1 from HLEN.out] at c7
      have p1 := cell_regrown c7
      have p2 := cell_regrown ((cell_of_row _ _ 0 _ _ _ (HBOX.out _ _ H7.out).1.1).trans rfl : Y7.cell? ⟨b0, 0, none⟩ = some (aP T))
      have p3 := cell_regrown ((cell_of_row _ _ 0 _ _ _ H7.out.top).trans (by rw [← hd]; rfl) : Y7.cell? ⟨T, 0, none⟩ = some (.int .i64 (d : Int)))
      have i2 : IntKind.i64.wrap (2 * (d : Int)) = 2 * (d : Int) := IntWalk.i64_in _ (by omega)
      clear v7 c7 HG7
      by_cases hlt : m1 < 2 * d
      · have t8 : (m1 : Int) < 2 * (d : Int) := by omega
        have HTR := Lib.hid (HDN.out (by have := HM1.out; omega))
        clear hlt
        gi_wp2
        clear mx
        have mx := mixed
        refine wpIn_round_quiet_below (by assumption) (by kernel_rfl) (by kernel_rfl) ?_
        repeat (go_big_quiet_step (fail))
        refine wpQuiet_nil ?_
        intro _ hw'
        obtain ⟨⟨nq, osq⟩, hw''⟩ := hw'
        subst hw''
        have hb8 := below_regrown Y7 nq osq
        generalize grow (redrawn Y7 nq) osq = Y8 at *
        have H8 := H7.out.below hb8
        have r := HRB.out _ _ H8
        have HRR := Lib.hid r
        clear p1 p2 p3 H8 r hb8
        gi_wp2
        refine ⟨HRR.out.2.1.from _, rfl, ⟨_, n, t.root, HTR.out, HRR.out.1.less (fun b hb => .inl (.inl hb)), fun b hb => (HRR.out.2.2 b (.inl (.inl hb))).trans (HVB.out b hb)⟩, ?_⟩
        have := HRR.out.2.1.size
        omega
      · have t8 : ¬ (m1 : Int) < 2 * (d : Int) := by omega
        have hm2 : m1 = 2 * d := by omega
        obtain ⟨hnr, mid, hmid, hst⟩ := HOV.out (by have := HM1.out; omega)
        have HST := Lib.hid hst
        have HMID := Lib.hid hmid
        have HNR : Hid ((n : Int) < t.room) := by show _ < _; omega
        have HM2 := Lib.hid hm2
        clear hlt hnr hmid hst hm2
        gi_wp2
        clear mx
        have mx := mixed
        refine wpIn_round_quiet_below (by assumption) (by kernel_rfl) (by kernel_rfl) ?_
        repeat (go_big_quiet_step (fail))
        refine wpQuiet_nil ?_
        intro _ hw'
        obtain ⟨⟨nq, osq⟩, hw''⟩ := hw'
        subst hw''
        have hb8 := below_regrown Y7 nq osq
        generalize grow (redrawn Y7 nq) osq = Y8 at *
        have h8 := H7.out.below hb8
        have HSP := Lib.hid (h8.splitK p _ (updK_self _ _ _) d hd (by omega) hd2 (HLEN.out.trans HM2.out) (show (kidsB nd.kids a beh).length = 2 * d + 1 by rw [HKL.out, HK1.out, HE3.out]; have := HM1.out; omega) HNR.out mid HMID.out)
        have c1 : Y8.cell? ⟨b0, 0, none⟩ = some (aP T) := (cell_of_row _ _ 0 _ _ _ (HBOX.out _ _ h8).1.1).trans rfl
        have c2 : Y8.cell? ⟨BX, 0, none⟩ = some (.int .i64 (p : Int)) := (cell_of_row _ _ 0 _ _ _ (HBOX.out _ _ h8).2).trans rfl
        clear p1 p2 p3 h8 hb8
        gi_wp2_with ((first | (refine ⟨trivial, ?_⟩) | (refine ⟨fun h => (by cases h), ?_⟩)); gi_at_call 91; refine ((callsIn_wide.2 HSP.out).inRound l).mono ?_; rintro e w' ⟨q, rfl, hno, hqp, hh, _⟩; have HNO := Lib.hid hno; have HH := Lib.hid hh; have x1 := (HBOX.out _ _ hh).1.2.1; have x2 := (HBOX.out _ _ hh).1.2.2; obtain ⟨d1, d2, d3, d4, d5⟩ := five_cells x1; simp only [Nat.zero_add] at d1 d2 d3 d4 d5; have d6 := (cell_of_row _ _ 0 _ _ _ x2).trans rfl; have f1 := frozen_of_row _ _ 0 _ _ x1; have f2 := frozen_of_row _ _ 1 _ _ x1; have f3 := frozen_of_row _ _ 2 _ _ x1; have f4 := frozen_of_row _ _ 3 _ _ x1; have f5 := frozen_of_row _ _ 4 _ _ x1; have f6 := frozen_of_row _ _ 0 _ _ x2; clear hno hh hqp x1 x2)
        have r := HRB.out _ _ HH.out
        have ls := lay_store (W := W) (mid := mid) (q := (q : Int)) (⟨r.1, (HBOX.out _ _ HH.out).1⟩ : LayB w W S _ base T A _ b0 s1 beh w') (.inl (.inr ⟨by omega, by omega⟩)) (.inl (.inr ⟨by omega, by omega⟩))
        have hko := r.2.1.trans ls.2.1
        refine ⟨hko.from _, fun b hb => ?_, _, n + 1, mid, (q : Int), HST.out q HNO.out, ⟨ls.1.1.less (fun b hb => .inl hb), ls.1.2⟩, fun b hb => ?_, ?_⟩
        · obtain ⟨x1, x2, x3, x4, x5⟩ := HQ1.out b hb
          exact (ls.2.2 b x3 x4).trans (r.2.2 b (.inl x1))
        · have := (HBL.out b hb).2
          exact (ls.2.2 b (by omega) (by omega)).trans ((r.2.2 b (.inl (.inl hb))).trans (HVB.out b hb))
        · exact Nat.le_trans (by omega : W0.heap.size ≤ V.heap.size) hko.size
  case done =>
    rintro D W1 hD ⟨f, n, s1, beh, k1, ⟨k2, m0, m1, m2⟩, k3, k4⟩ hK
    have HG := Lib.hid (HE.out f n s1 beh W1 k1 (k2.less (fun b hb => .inl hb)) k3)
    have HK := Lib.hid hK
    have HK4 := Lib.hid k4
    have c0 : W1.cell? ⟨b0, 0, none⟩ = some (aP T) := (cell_of_row _ _ 0 _ _ _ m0).trans rfl
    obtain ⟨q1, q2, q3, q4, q5⟩ := five_cells m1
    simp only [Nat.zero_add] at q1 q2 q3 q4 q5
    have c2 : W1.cell? ⟨b0 + 2, 0, none⟩ = some (.int .i64 beh) := (cell_of_row _ _ 0 _ _ _ m2).trans rfl
    clear k1 k2 m0 m1 m2 k3 k4 hK
    gi_wp2_with (refine ⟨trivial, ?_⟩; gi_at_call 92; refine (callsIn_wide.2 HG.out).mono ?_; rintro e w' ⟨rfl, hfin, hko⟩; have HFN := Lib.hid hfin; have HKO := Lib.hid hko; clear hfin hko)
    have hK2 := HKO.out.same D _ HK.out rfl
    refine ⟨by simp, .inl ⟨_, _, rfl, run_takeDeferred hK2, ?_⟩⟩
    refine ⟨.tuple #[], by simp [results, Try.results68, go_sem], rfl, ?_⟩
    exact ((layX_own w W S B base T A t d L W0.heap.size .ret W0.heap.size (by omega) hB1 hB1).putObj (s := 0) _ (⟨rfl, HFN.out, Nat.le_trans HK4.out HKO.out.size⟩ : LayX w W S B base T A t d L W0.heap.size .ret 0 w') hD hK2 rfl).2.1
  case stop =>
    rintro D j c W1 hD hj ⟨rfl, hfin, hsz2⟩ hK
    have HK := Lib.hid hK
    have HF := Lib.hid hfin
    have HZ2 := Lib.hid hsz2
    clear hK hfin hsz2
    gi_wp2
    refine ⟨by simp, .inl ⟨_, _, rfl, run_takeDeferred HK.out, ?_⟩⟩
    refine ⟨.tuple #[], by simp [results, Try.results68, go_sem], rfl, ?_⟩
    exact ((layX_own w W S B base T A t d L W0.heap.size .ret W0.heap.size (by omega) hB1 hB1).putObj (s := 0) _ (⟨rfl, HF.out, HZ2.out⟩ : LayX w W S B base T A t d L W0.heap.size .ret 0 W1) hD HK.out rfl).2.1
/-- A segment that the tree has not is laid in along its way. -/
theorem BtH.layIn {w W : World} {S B : Nat → Prop} {base T A : Nat} {t : Bx} (h : BtH w S B base T A t W) (d : Nat) (hd : t.d = (d : Int)) (hd1 : 2 ≤ d) (hd2 : d ≤ 64) (xs : List (Int × Int)) (ap : Option Addr) (cap bb : Nat) (s : G5) (L L' : List G5) (fits : G5 → Bool)
    (hw : WayOf d t L fits xs) (hL : (L = [] ∧ t.n = 0 ∧ t.root = -1 ∧ xs = [] ∧ L' = [s]) ∨ ∃ cx tl, Leaf d t.f t.n t.root L fits cx tl ∧ xs = wayRow fits (cx, tl) ∧ L' = aheadR fits (cx, tl) ++ s :: behindR fits (cx, tl))
    (ho : W.ownsRow bb 125 2 (.slice ap xs.length cap) xs.length (flat2 xs)) (hB : ∀ b, (Value.slice ap xs.length cap).ownBlock = some b → B b) (hN : xs.length ≤ 100000) (hroom : (L'.length : Int) ≤ t.room) :
    Calls Try.prog 68 #[aP T, .slice ap xs.length cap, vG s] W fun e w' => e = .returned (.tuple #[]) ∧ LayFin w W S B base T A t d L' w' := by
  rcases hL with ⟨e1, e2, e3, e4, e5⟩ | ⟨cx, tl, l, e4, e5⟩
  · have hf : ∀ p, t.f p = none := by
      rcases hw with ⟨_, _, k⟩ | ⟨cx, tl, l, k⟩
      · exact k
      · rw [e4] at k
        have := congrArg List.length k
        rw [wayRow_len] at this
        simp at this
    refine blayIn_core h d hd (by omega) hd2 xs ap cap bb s L' (fun j f n s' beh => f = t.f ∧ n = t.n ∧ s' = s) ho hB hN hroom ⟨rfl, rfl, rfl⟩ (Lib.hid fun j f n s' beh hj => by rw [e4] at hj; exact absurd hj (Nat.not_lt_zero _)) (Lib.hid fun f n s' beh V hS hV hVB => ?_)
    obtain ⟨rfl, rfl, rfl⟩ := hS
    obtain ⟨S1, h5, h6⟩ := hV.rebase
    refine (h5.growL s' beh e3 (by rw [e5] at hroom; simp only [List.length_cons, List.length_nil] at hroom; show (t.n : Int) < t.room; omega)).mono ?_
    rintro e w' ⟨rfl, q, hno, hq, _⟩
    obtain ⟨r1, r2, r3⟩ := h6 _ _ hq
    exact ⟨rfl, ⟨_, _, _, by
      have := treeAt_first hd1 hf s' q
      rw [e5, e2]
      exact this, r1, fun b hb => (r3 b hb).trans (hVB b hb)⟩, r2⟩
  · have hxs : xs.length = cx.length + 1 := by rw [e4, wayRow_len]
    refine blayIn_core h d hd (by omega) hd2 xs ap cap bb s L' (LaySt d t.f t.n t.root cx s L') ho hB hN hroom (.inl ⟨rfl, rfl, rfl, rfl, rfl⟩) (Lib.hid fun j f n s' beh hj hS => ?_) (Lib.hid fun f n s' beh V hS hV hVB => ?_)
    · rw [e5] at hS
      rw [e4] at hj
      obtain ⟨p, a, nd, k1, k2⟩ := hS.round l hd1 hj
      rw [e4, e5]
      exact ⟨p, a, nd, k1, k2.at_, k2.le, k2.hi, k2.kids, k2.done, k2.over⟩
    · rw [hxs] at hS
      obtain ⟨k1, k2, k3⟩ := hS.last hd1
      obtain ⟨S1, h5, h6⟩ := hV.rebase
      refine (h5.growK s' beh k1 (show (n : Int) < t.room by omega)).mono ?_
      rintro e w' ⟨rfl, q, hno, hq, _⟩
      obtain ⟨r1, r2, r3⟩ := h6 _ _ hq
      exact ⟨rfl, ⟨_, _, _, k3 q hno, r1, fun b hb => (r3 b hb).trans (hVB b hb)⟩, r2⟩
end Go.Proofs.Ytjgcdmeojjnjlaa
/- What is told of a cut of a row: the nearest ones on both sides, counted. No Go in sight. -/
namespace Go.Proofs.Ytjgcdmeojjnjlaa.Bo
theorem putG_len (l : List G5) (R : Int) (s : G5) : (putG l R s).1.length ≤ l.length + 1 := by
  unfold putG
  split
  · simp
  · split
    · simp
    · split
      · simp
      · rw [insG_len]; exact Nat.le_refl _
theorem delG_len (l : List G5) (k : Int) : (delG l k).1.length ≤ l.length := by
  unfold delG
  split
  · simp only [List.length_append, List.length_take, List.length_drop]; omega
  · exact Nat.le_refl _
theorem doG_len (l : List G5) (R k : Int) (s : G5) : (doG l R k s).1.length ≤ l.length + 1 := by
  unfold doG
  split
  · exact putG_len l R s
  · split
    · have := delG_len l s.key; show (delG l s.key).1.length ≤ _; omega
    · split
      · show ([] : List G5).length ≤ _; simp
      · show l.length ≤ _; omega
end Go.Proofs.Ytjgcdmeojjnjlaa.Bo
/- Put: the segment of the key, where it stands, and the tree behind it. No Go in sight. -/
namespace Go.Proofs.Ytjgcdmeojjnjlaa.Bb
open Go.Proofs.Ytjgcdmeojjnjlaa.Bo
set_option linter.unusedVariables false
section
variable {d : Nat} {f : Int → Option Kn} {n : Nat} {root : Int} {L : List G5} {cx : List BF} {t : Bt}
/-- Where the first one behind a way stands, and what is written over it. -/
theorem Leaf.oldAt {fits : G5 → Bool} (l : Leaf d f n root L fits cx t) (g : G5) (B : List G5) (hB : behindR fits (cx, t) = g :: B) :
    ∃ (p i : Nat) (m : Kn), behI f (wayRev fits (cx, t)) = some ((p : Int), i) ∧ f (p : Int) = some m ∧ m.segs[i]? = some g ∧ ∀ s, TreeAt d (updK f (p : Int) (some ⟨m.segs.set i s, m.kids⟩)) n root (aheadR fits (cx, t) ++ s :: B) := by
  have hb := l.behind
  rw [hB] at hb
  rcases l.beh with ⟨_, k2⟩ | ⟨k1, k2, k3⟩ | ⟨k0, c1, y, c2, k1, k2, k3, k4, k5⟩
  · rw [k2] at hb; cases hb
  · rw [k3] at hb
    have hks := l.lens.2.2
    have hn := l.z.tree.node
    unfold nodeAt at hn
    rw [hks] at hn
    exact ⟨t.i, fitN fits t.s, ⟨t.s, []⟩, k2, hn, hb, fun s => l.setLeaf g s B hB k1⟩
  · rw [k5] at hb
    have hfr := fun s => l.frame g s B hB k0 c1 c2 y k1 k2 k3
    have hx : ∃ ks, f (y.i : Int) = some ⟨y.s, ks⟩ := repX_at cx 0 _ l.z.ctx y (by rw [k1]; simp)
    refine ⟨y.i, y.l.length, ⟨y.s, (y.l ++ bplug c1 t :: y.r).map Bt.idx⟩, k4, (hfr g).1, hb, fun s => l.setFrame g s B hB k0 c1 c2 y k1 k2 k3⟩
theorem may_is (s : G5) (h : s.may = true) : (s.ls == sd (key s.ls s.la) && s.la == pa (key s.ls s.la)) = true ∧ (s.ls == 1 && s.la == 0) = false := by
  unfold G5.may G5.is G5.key at h
  simp at h ⊢
  refine ⟨h.1, fun e => ?_⟩
  omega
theorem may_not (s : G5) (h : s.may = false) : (s.ls == sd (key s.ls s.la) && s.la == pa (key s.ls s.la)) = false ∨ ((s.ls == sd (key s.ls s.la) && s.la == pa (key s.ls s.la)) = true ∧ (s.ls == 1 && s.la == 0) = true) := by
  cases e : (s.ls == sd (key s.ls s.la) && s.la == pa (key s.ls s.la)) with
  | false => exact .inl rfl
  | true =>
    refine .inr ⟨rfl, ?_⟩
    unfold G5.may G5.is G5.key at h
    rw [e] at h
    simp at h e
    have hk := key_pos s.ls s.la h
    rw [hk, sd_hi, pa_hi] at e
    simp [e.1, e.2]
theorem putG_all (l : List G5) (R : Int) (s : G5) (hs : s.ok) (h : ∀ g ∈ l, g.ok) : ∀ g ∈ (putG l R s).1, g.ok := by
  have hi : ∀ l : List G5, (∀ g ∈ l, g.ok) → ∀ g ∈ insG s l, g.ok := by
    intro l
    induction l with
    | nil => intro _ g hg; simp [insG] at hg; exact hg ▸ hs
    | cons x l ih =>
      intro hl g hg
      unfold insG at hg
      by_cases e : s.key < x.key
      · rw [if_pos e] at hg
        rcases List.mem_cons.1 hg with rfl | hg
        · exact hs
        · exact hl g hg
      · rw [if_neg e] at hg
        rcases List.mem_cons.1 hg with rfl | hg
        · exact hl _ (List.mem_cons_self ..)
        · exact ih (fun q hq => hl q (List.mem_cons_of_mem _ hq)) g hg
  unfold putG
  split
  · exact h
  · split
    · intro g hg
      rcases List.mem_or_eq_of_mem_set hg with hg | rfl
      · exact h g hg
      · exact hs
    · split
      · exact h
      · exact hi l h
end
end Go.Proofs.Ytjgcdmeojjnjlaa.Bb
/- mayBeKey; Put: the walks. -/
namespace Go.Proofs.Ytjgcdmeojjnjlaa
open Go.RowKit Go.Sort Go.Proofs.Ytjgcdmeojjnjlaa.Bo Go.Proofs.Ytjgcdmeojjnjlaa.Bb
set_option linter.unusedVariables false
set_option maxRecDepth 100000
theorem neqc_cut (s a t b : Int) (w : World) : Sem.run Try.prog (binOp .neq 34 (.agg #[.int .i64 s, .int .i64 a]) (.agg #[.int .i64 t, .int .i64 b])) w = .ok (.bool (!(s == t && a == b))) w := by
  have hS : Try.prog.underlying 34 = some (.struct (Try.prog.fieldsOf 34)) := by kernel_rfl
  have hp : Try.prog.stoodInHeld 34 = false := by kernel_rfl
  have u3 := Try.underlying3
  have u2 := Try.underlying2
  rw [run_neq_struct, show (10000 : Nat) = 9999 + 1 from rfl, run_equalIn_agg w 9999 34 _ _ hS hp]
  simp only [Program.fieldsOf, Try.underlying34]
  go_simp
  by_cases h1 : s = t <;> by_cases h2 : a = b <;> simp [h1, h2]
/-- The blocks of Put. -/
structure PvAt (w : World) (s : G5) (W : World) : Prop where
  sb : W.heap[w.heap.size]? = some (oG s)
  kb : W.heap[w.heap.size + 1]? = some (.cells #[.int .i64 s.ls, .int .i64 s.la] 34)
  be : Go.RowKit.Below w.heap.size w W
theorem PvAt.on {w W W' : World} {s : G5} (h : PvAt w s W) (hb : Go.RowKit.Below W.heap.size W W') : PvAt w s W' := ⟨box_on h.sb hb, box_on h.kb hb, bt h.be hb⟩
theorem pv_new (w : World) (s : G5) : PvAt w s ((w.alloc (oG s)).alloc (.cells #[.int .i64 s.ls, .int .i64 s.la] 34)) :=
  ⟨box_on (heap_alloc_new w _) (below_new _ _), new_at' _ (by simp), bt (below_new _ _) (below_new _ _)⟩
set_option maxHeartbeats 2000000 in
theorem bmay_n (s a : Int) (w : World) (ha : I64 a) (hRB : (s == sd (key s a) && a == pa (key s a)) = false) : Calls Try.prog 67 #[.agg #[.int .i64 s, .int .i64 a]] w fun e w' => e = .returned (.bool false) ∧ Go.RowKit.Below w.heap.size w w' := by
  have mx := mixed
  have HRI := Lib.hid (fun W => right_any s a W ha)
  have HLA := Lib.hid last_any
  rw [hRB] at HRI
  have HB0 := Lib.hid (below_new w (.cells #[.int .i64 s, .int .i64 a] 34))
  obtain ⟨d1, d2, _, _⟩ := two_cells (heap_alloc_new w (.cells #[.int .i64 s, .int .i64 a] 34))
  go_enter Try.func67, Try.ntmps67
  go_upto_region 1 with fail
  generalize w.alloc (.cells #[.int .i64 s, .int .i64 a] 34) = X at *
  have p1 := cell_regrown d1
  have p2 := cell_regrown d2
  clear d1 d2
  refine wp_region_quiet_below (by assumption) (by kernel_rfl) ?_
  repeat (go_big_quiet_step (first
    | (go_at_call 88; exact Calls.regrown_of ((HRI.out _).mono fun _ _ h => ⟨h.1, h.2.1⟩))
    | (go_at_call 49; exact Calls.regrown_of ((HLA.out _).mono fun _ _ h => ⟨h.1, h.2.1⟩))))
  refine wpQuiet_nil ?_
  intro _ hw'
  obtain ⟨⟨nq, osq⟩, hw''⟩ := hw'
  subst hw''
  have HY := Lib.hid (bt HB0.out (below_regrown X nq osq))
  clear p1 p2
  generalize grow (redrawn X nq) osq = Y at *
  go_wp2_with fail
  go_ret
  exact ⟨rfl, HY.out⟩
set_option maxHeartbeats 2000000 in
theorem bmay_l (s a : Int) (w : World) (ha : I64 a) (hRB : (s == sd (key s a) && a == pa (key s a)) = true) (hD : (s == 1 && a == 0) = true) : Calls Try.prog 67 #[.agg #[.int .i64 s, .int .i64 a]] w fun e w' => e = .returned (.bool false) ∧ Go.RowKit.Below w.heap.size w w' := by
  have mx := mixed
  have HRI := Lib.hid (fun W => right_any s a W ha)
  have HLA := Lib.hid last_any
  rw [hRB] at HRI
  have HB0 := Lib.hid (below_new w (.cells #[.int .i64 s, .int .i64 a] 34))
  obtain ⟨d1, d2, _, _⟩ := two_cells (heap_alloc_new w (.cells #[.int .i64 s, .int .i64 a] 34))
  have eqc := neqc_cut s a 1 0
  rw [hD] at eqc
  go_enter Try.func67, Try.ntmps67
  go_upto_region 1 with fail
  generalize w.alloc (.cells #[.int .i64 s, .int .i64 a] 34) = X at *
  have p1 := cell_regrown d1
  have p2 := cell_regrown d2
  clear d1 d2
  refine wp_region_quiet_below (by assumption) (by kernel_rfl) ?_
  repeat (go_big_quiet_step (first
    | (go_at_call 88; exact Calls.regrown_of ((HRI.out _).mono fun _ _ h => ⟨h.1, h.2.1⟩))
    | (go_at_call 49; exact Calls.regrown_of ((HLA.out _).mono fun _ _ h => ⟨h.1, h.2.1⟩))))
  refine wpQuiet_nil ?_
  intro _ hw'
  obtain ⟨⟨nq, osq⟩, hw''⟩ := hw'
  subst hw''
  have HY := Lib.hid (bt HB0.out (below_regrown X nq osq))
  clear p1 p2 eqc
  generalize grow (redrawn X nq) osq = Y at *
  go_wp2_with fail
  go_ret
  exact ⟨rfl, HY.out⟩
set_option maxHeartbeats 2000000 in
theorem bmay_y (s a : Int) (w : World) (ha : I64 a) (hRB : (s == sd (key s a) && a == pa (key s a)) = true) (hD : (s == 1 && a == 0) = false) : Calls Try.prog 67 #[.agg #[.int .i64 s, .int .i64 a]] w fun e w' => e = .returned (.bool true) ∧ Go.RowKit.Below w.heap.size w w' := by
  have mx := mixed
  have HRI := Lib.hid (fun W => right_any s a W ha)
  have HLA := Lib.hid last_any
  rw [hRB] at HRI
  have HB0 := Lib.hid (below_new w (.cells #[.int .i64 s, .int .i64 a] 34))
  obtain ⟨d1, d2, _, _⟩ := two_cells (heap_alloc_new w (.cells #[.int .i64 s, .int .i64 a] 34))
  have eqc := neqc_cut s a 1 0
  rw [hD] at eqc
  go_enter Try.func67, Try.ntmps67
  go_upto_region 1 with fail
  generalize w.alloc (.cells #[.int .i64 s, .int .i64 a] 34) = X at *
  have p1 := cell_regrown d1
  have p2 := cell_regrown d2
  clear d1 d2
  refine wp_region_quiet_below (by assumption) (by kernel_rfl) ?_
  repeat (go_big_quiet_step (first
    | (go_at_call 88; exact Calls.regrown_of ((HRI.out _).mono fun _ _ h => ⟨h.1, h.2.1⟩))
    | (go_at_call 49; exact Calls.regrown_of ((HLA.out _).mono fun _ _ h => ⟨h.1, h.2.1⟩))))
  refine wpQuiet_nil ?_
  intro _ hw'
  obtain ⟨⟨nq, osq⟩, hw''⟩ := hw'
  subst hw''
  have HY := Lib.hid (bt HB0.out (below_regrown X nq osq))
  clear p1 p2 eqc
  generalize grow (redrawn X nq) osq = Y at *
  go_wp2_with fail
  go_ret
  exact ⟨rfl, HY.out⟩
theorem bmay_any (s : G5) (hs : s.ok) (w : World) : Calls Try.prog 67 #[.agg #[.int .i64 s.ls, .int .i64 s.la]] w fun e w' => e = .returned (.bool s.may) ∧ Go.RowKit.Below w.heap.size w w' := by
  cases hm : s.may with
  | false =>
    rcases may_not s hm with e | ⟨e1, e2⟩
    · exact bmay_n _ _ w hs.1 e
    · exact bmay_l _ _ w hs.1 e1 e2
  | true =>
    obtain ⟨m1, m2⟩ := may_is s hm
    exact bmay_y _ _ w hs.1 m1 m2
set_option maxHeartbeats 4000000 in
theorem bput_bad (T : Nat) (s : G5) (w : World) (HMY : Hid (∀ W, Calls Try.prog 67 #[.agg #[.int .i64 s.ls, .int .i64 s.la]] W fun e w' => e = .returned (.bool false) ∧ Go.RowKit.Below W.heap.size W w')) :
    Calls Try.prog 38 #[aP T, vG s] w fun e w' => e = .returned (.int .i64 1) ∧ Go.RowKit.Below w.heap.size w w' := by
  have mx := mixed
  have hN := pv_new w s
  have HN := Lib.hid hN
  obtain ⟨g0', g1', g2', g3', g4'⟩ := five_cells (show ((w.alloc (oG s)).alloc (.cells #[.int .i64 s.ls, .int .i64 s.la] 34)).heap[w.heap.size]? = some (oG s) from hN.sb)
  simp only [Nat.zero_add] at g1' g2' g3' g4'
  obtain ⟨d1, d2, _, _⟩ := two_cells hN.kb
  clear hN
  go_enter Try.func38, Try.ntmps38
  go_wp2_with fail
  refine (HMY.out _).mono ?_
  rintro e y1 ⟨rfl, hb⟩
  have HY1 := Lib.hid (HN.out.on hb)
  clear hb g0' g1' g2' g3' g4' d1 d2
  go_wp2_with fail
  go_ret
  exact ⟨rfl, HY1.out.be⟩
set_option maxHeartbeats 4000000 in
theorem bput_old (T : Nat) (sb off : Nat) (PW : Option Addr → Nat → Nat → World → Prop) (s : G5) (w : World) (HMY : Hid (∀ W, Calls Try.prog 67 #[.agg #[.int .i64 s.ls, .int .i64 s.la]] W fun e w' => e = .returned (.bool true) ∧ Go.RowKit.Below W.heap.size W w'))
    (HPW : Hid (∀ ap n cap W W', PW ap n cap W → Go.RowKit.Below W.heap.size W W' → PW ap n cap W'))
    (HW : Hid (∀ W c, Go.RowKit.Below w.heap.size w W → W.heap[c]? = some (.cells #[.int .i64 s.ls, .int .i64 s.la] 34) → Calls Try.prog 54 #[aP T, .func (.func 84) #[] #[.pointer (some ⟨c, 0, none⟩)]] W fun e w' => ∃ ap n cap, (e = .returned (.slice ap n cap) ∧ PW ap n cap w') ∧ Go.RowKit.Below W.heap.size W w'))
    (HA : Hid (∀ ap n cap W, PW ap n cap W → Go.RowKit.Below w.heap.size w W → Calls Try.prog 59 #[aP T, .slice ap n cap, .agg #[.int .i64 s.ls, .int .i64 s.la]] W fun e w' => e = .returned (.pointer (some ⟨sb, off, none⟩)) ∧ Go.RowKit.Below W.heap.size W w'))
    (PF : World → Prop) (HO : Hid (∀ W, Go.RowKit.Below w.heap.size w W → (∃ g, Cells5 W sb off g) ∧ (∀ x, W.frozen? ⟨sb, x, none⟩ = false) ∧ PF (set5 W sb off s))) :
    Calls Try.prog 38 #[aP T, vG s] w fun e w' => e = .returned (.int .i64 0) ∧ PF w' := by
  have mx := mixed
  have hN := pv_new w s
  have HN := Lib.hid hN
  obtain ⟨g0', g1', g2', g3', g4'⟩ := five_cells (show ((w.alloc (oG s)).alloc (.cells #[.int .i64 s.ls, .int .i64 s.la] 34)).heap[w.heap.size]? = some (oG s) from hN.sb)
  simp only [Nat.zero_add] at g1' g2' g3' g4'
  obtain ⟨d1, d2, _, _⟩ := two_cells hN.kb
  clear hN
  go_enter Try.func38, Try.ntmps38
  go_wp2_with fail
  refine (HMY.out _).mono ?_
  rintro e y1 ⟨rfl, hb⟩
  have HY1 := Lib.hid (HN.out.on hb)
  clear hb g0' g1' g2' g3' g4' d1 d2
  obtain ⟨k1, k2, _, _⟩ := two_cells HY1.out.kb
  go_wp2_with fail
  refine (bbelow_b s.ls s.la _).mono ?_
  rintro e y2 ⟨c, ⟨rfl, hc⟩, hb⟩
  have HC := Lib.hid hc
  have HY2 := Lib.hid (HY1.out.on hb)
  clear hb hc k1 k2
  go_wp2_with fail
  refine (HW.out _ c HY2.out.be HC.out).mono ?_
  rintro e y3 ⟨ap, n, cap, ⟨rfl, hp⟩, hb⟩
  have HP := Lib.hid hp
  have HY3 := Lib.hid (HY2.out.on hb)
  clear hb hp
  obtain ⟨k1, k2, _, _⟩ := two_cells HY3.out.kb
  go_wp2_with fail
  refine (HA.out ap n cap _ HP.out HY3.out.be).mono ?_
  rintro e y4 ⟨rfl, hb⟩
  have HP4 := Lib.hid (HPW.out _ _ _ _ _ HP.out hb)
  have HY4 := Lib.hid (HY3.out.on hb)
  clear hb k1 k2
  obtain ⟨⟨g, f0, f1, f2, f3, f4⟩, fz, hpf⟩ := HO.out _ HY4.out.be
  have HPF := Lib.hid hpf
  have z0 := fz off
  have z1 := fz (off + 1)
  have z2 := fz (off + 2)
  have z3 := fz (off + 3)
  have z4 := fz (off + 4)
  obtain ⟨q0, q1, q2, q3, q4⟩ := five_cells HY4.out.sb
  simp only [Nat.zero_add] at q1 q2 q3 q4
  clear fz hpf
  go_wp2_with fail
  go_ret
  exact ⟨rfl, HPF.out⟩
set_option maxHeartbeats 4000000 in
theorem bput_full (T : Nat) (many room : Int) (hfull : room ≤ many) (PW : Option Addr → Nat → Nat → World → Prop) (s : G5) (w : World) (HMY : Hid (∀ W, Calls Try.prog 67 #[.agg #[.int .i64 s.ls, .int .i64 s.la]] W fun e w' => e = .returned (.bool true) ∧ Go.RowKit.Below W.heap.size W w'))
    (HPW : Hid (∀ ap n cap W W', PW ap n cap W → Go.RowKit.Below W.heap.size W W' → PW ap n cap W'))
    (HW : Hid (∀ W c, Go.RowKit.Below w.heap.size w W → W.heap[c]? = some (.cells #[.int .i64 s.ls, .int .i64 s.la] 34) → Calls Try.prog 54 #[aP T, .func (.func 84) #[] #[.pointer (some ⟨c, 0, none⟩)]] W fun e w' => ∃ ap n cap, (e = .returned (.slice ap n cap) ∧ PW ap n cap w') ∧ Go.RowKit.Below W.heap.size W w'))
    (HA : Hid (∀ ap n cap W, PW ap n cap W → Go.RowKit.Below w.heap.size w W → Calls Try.prog 59 #[aP T, .slice ap n cap, .agg #[.int .i64 s.ls, .int .i64 s.la]] W fun e w' => e = .returned (.pointer none) ∧ Go.RowKit.Below W.heap.size W w'))
    (HLN : Hid (∀ W, Go.RowKit.Below w.heap.size w W → Calls Try.prog 18 #[aP T] W fun e w' => e = .returned (.int .i64 many) ∧ W = w'))
    (HRM : Hid (∀ W, Go.RowKit.Below w.heap.size w W → Calls Try.prog 12 #[aP T] W fun e w' => e = .returned (.int .i64 room) ∧ W = w')) :
    Calls Try.prog 38 #[aP T, vG s] w fun e w' => e = .returned (.int .i64 50) ∧ Go.RowKit.Below w.heap.size w w' := by
  have HFU := Lib.hid hfull
  clear hfull
  have mx := mixed
  have hN := pv_new w s
  have HN := Lib.hid hN
  obtain ⟨g0', g1', g2', g3', g4'⟩ := five_cells (show ((w.alloc (oG s)).alloc (.cells #[.int .i64 s.ls, .int .i64 s.la] 34)).heap[w.heap.size]? = some (oG s) from hN.sb)
  simp only [Nat.zero_add] at g1' g2' g3' g4'
  obtain ⟨d1, d2, _, _⟩ := two_cells hN.kb
  clear hN
  go_enter Try.func38, Try.ntmps38
  go_wp2_with fail
  refine (HMY.out _).mono ?_
  rintro e y1 ⟨rfl, hb⟩
  have HY1 := Lib.hid (HN.out.on hb)
  clear hb g0' g1' g2' g3' g4' d1 d2
  obtain ⟨k1, k2, _, _⟩ := two_cells HY1.out.kb
  go_wp2_with fail
  refine (bbelow_b s.ls s.la _).mono ?_
  rintro e y2 ⟨c, ⟨rfl, hc⟩, hb⟩
  have HC := Lib.hid hc
  have HY2 := Lib.hid (HY1.out.on hb)
  clear hb hc k1 k2
  go_wp2_with fail
  refine (HW.out _ c HY2.out.be HC.out).mono ?_
  rintro e y3 ⟨ap, n, cap, ⟨rfl, hp⟩, hb⟩
  have HP := Lib.hid hp
  have HY3 := Lib.hid (HY2.out.on hb)
  clear hb hp
  obtain ⟨k1, k2, _, _⟩ := two_cells HY3.out.kb
  go_wp2_with fail
  refine (HA.out ap n cap _ HP.out HY3.out.be).mono ?_
  rintro e y4 ⟨rfl, hb⟩
  have HP4 := Lib.hid (HPW.out _ _ _ _ _ HP.out hb)
  have HY4 := Lib.hid (HY3.out.on hb)
  clear hb k1 k2
  go_wp2_with fail
  refine (HLN.out _ HY4.out.be).mono ?_
  rintro e y5 ⟨rfl, rfl⟩
  go_wp2_with fail
  refine (HRM.out _ HY4.out.be).mono ?_
  rintro e y6 ⟨rfl, rfl⟩
  have t1 : room ≤ many := HFU.out
  go_wp2_with fail
  go_ret
  exact ⟨rfl, HY4.out.be⟩
set_option maxHeartbeats 4000000 in
theorem bput_new (T : Nat) (many room : Int) (hfull : many < room) (hm : 0 ≤ many ∧ many ≤ 1000000) (PW : Option Addr → Nat → Nat → World → Prop) (s : G5) (w : World) (HMY : Hid (∀ W, Calls Try.prog 67 #[.agg #[.int .i64 s.ls, .int .i64 s.la]] W fun e w' => e = .returned (.bool true) ∧ Go.RowKit.Below W.heap.size W w'))
    (HPW : Hid (∀ ap n cap W W', PW ap n cap W → Go.RowKit.Below W.heap.size W W' → PW ap n cap W'))
    (HW : Hid (∀ W c, Go.RowKit.Below w.heap.size w W → W.heap[c]? = some (.cells #[.int .i64 s.ls, .int .i64 s.la] 34) → Calls Try.prog 54 #[aP T, .func (.func 84) #[] #[.pointer (some ⟨c, 0, none⟩)]] W fun e w' => ∃ ap n cap, (e = .returned (.slice ap n cap) ∧ PW ap n cap w') ∧ Go.RowKit.Below W.heap.size W w'))
    (HA : Hid (∀ ap n cap W, PW ap n cap W → Go.RowKit.Below w.heap.size w W → Calls Try.prog 59 #[aP T, .slice ap n cap, .agg #[.int .i64 s.ls, .int .i64 s.la]] W fun e w' => e = .returned (.pointer none) ∧ Go.RowKit.Below W.heap.size W w'))
    (HLN : Hid (∀ W, Go.RowKit.Below w.heap.size w W → Calls Try.prog 18 #[aP T] W fun e w' => e = .returned (.int .i64 many) ∧ W = w'))
    (HRM : Hid (∀ W, Go.RowKit.Below w.heap.size w W → Calls Try.prog 12 #[aP T] W fun e w' => e = .returned (.int .i64 room) ∧ W = w'))
    (PN PF : World → Prop) (HL : Hid (∀ ap n cap W, PW ap n cap W → Go.RowKit.Below w.heap.size w W → Calls Try.prog 68 #[aP T, .slice ap n cap, vG s] W fun e w' => e = .returned (.tuple #[]) ∧ PN w'))
    (HN2 : Hid (∀ W, PN W → (W.cell? ⟨T, 3, none⟩ = some (.int .i64 many) ∧ W.frozen? ⟨T, 3, none⟩ = false) ∧ PF (W.setCell ⟨T, 3, none⟩ (.int .i64 (many + 1))))) :
    Calls Try.prog 38 #[aP T, vG s] w fun e w' => e = .returned (.int .i64 0) ∧ PF w' := by
  have HFU := Lib.hid hfull
  clear hfull
  have mx := mixed
  have hN := pv_new w s
  have HN := Lib.hid hN
  obtain ⟨g0', g1', g2', g3', g4'⟩ := five_cells (show ((w.alloc (oG s)).alloc (.cells #[.int .i64 s.ls, .int .i64 s.la] 34)).heap[w.heap.size]? = some (oG s) from hN.sb)
  simp only [Nat.zero_add] at g1' g2' g3' g4'
  obtain ⟨d1, d2, _, _⟩ := two_cells hN.kb
  clear hN
  go_enter Try.func38, Try.ntmps38
  go_wp2_with fail
  refine (HMY.out _).mono ?_
  rintro e y1 ⟨rfl, hb⟩
  have HY1 := Lib.hid (HN.out.on hb)
  clear hb g0' g1' g2' g3' g4' d1 d2
  obtain ⟨k1, k2, _, _⟩ := two_cells HY1.out.kb
  go_wp2_with fail
  refine (bbelow_b s.ls s.la _).mono ?_
  rintro e y2 ⟨c, ⟨rfl, hc⟩, hb⟩
  have HC := Lib.hid hc
  have HY2 := Lib.hid (HY1.out.on hb)
  clear hb hc k1 k2
  go_wp2_with fail
  refine (HW.out _ c HY2.out.be HC.out).mono ?_
  rintro e y3 ⟨ap, n, cap, ⟨rfl, hp⟩, hb⟩
  have HP := Lib.hid hp
  have HY3 := Lib.hid (HY2.out.on hb)
  clear hb hp
  obtain ⟨k1, k2, _, _⟩ := two_cells HY3.out.kb
  go_wp2_with fail
  refine (HA.out ap n cap _ HP.out HY3.out.be).mono ?_
  rintro e y4 ⟨rfl, hb⟩
  have HP4 := Lib.hid (HPW.out _ _ _ _ _ HP.out hb)
  have HY4 := Lib.hid (HY3.out.on hb)
  clear hb k1 k2
  go_wp2_with fail
  refine (HLN.out _ HY4.out.be).mono ?_
  rintro e y5 ⟨rfl, rfl⟩
  go_wp2_with fail
  refine (HRM.out _ HY4.out.be).mono ?_
  rintro e y6 ⟨rfl, rfl⟩
  have t1 : many < room := HFU.out
  have t2 : ¬ room ≤ many := by omega
  obtain ⟨q0, q1, q2, q3, q4⟩ := five_cells HY4.out.sb
  simp only [Nat.zero_add] at q1 q2 q3 q4
  go_wp2_with fail
  refine (HL.out _ _ _ _ HP4.out HY4.out.be).mono ?_
  rintro e y7 ⟨rfl, hpn⟩
  obtain ⟨⟨c1, c2⟩, hpf⟩ := HN2.out _ hpn
  have HPF := Lib.hid hpf
  have i1 : IntKind.i64.wrap (many + 1) = many + 1 := IntWalk.i64_in _ (by omega)
  clear hpn hpf q0 q1 q2 q3 q4
  go_wp2_with fail
  go_ret
  exact ⟨rfl, HPF.out⟩
end Go.Proofs.Ytjgcdmeojjnjlaa
/- Put, by the tree. -/
namespace Go.Proofs.Ytjgcdmeojjnjlaa
open Go.RowKit Go.Sort Go.Proofs.Ytjgcdmeojjnjlaa.Bo Go.Proofs.Ytjgcdmeojjnjlaa.Bb
set_option linter.unusedVariables false
set_option maxRecDepth 100000
/-- A tree of the row L, its degree d, its room R: what turning calls leave. -/
def BtT (w0 : World) (S B : Nat → Prop) (base T A d : Nat) (R : Int) (L : List G5) (W : World) : Prop := ∃ t, BtH w0 S B base T A t W ∧ BtOk t d L ∧ t.room = R
section
variable {w : World} {base T A d : Nat} {t : Bx} {a : Ag Rn} {S0 : Nat → Prop} {L : List G5}
theorem fnd_beh {f : Int → Option Kn} {k : Int} {l : List (Int × Int)} {x : Int × Nat} (h : fndI f k l = some x) : behI f l = some x := by
  unfold fndI at h
  split at h
  · split at h
    · exact h
    · cases h
  · cases h
/-- A segment is written over a node's. -/
theorem BtW.over (h : BtW w base T A t a S0) (p : Nat) (m : Kn) (hp : t.f (p : Int) = some m) (i : Nat) (hi : i < m.segs.length) (sb : Nat) (hsb : (a.l.getD p bnZ).s.a = some ⟨sb, 0, none⟩) (s : G5) {w0 : World} {S : Nat → Prop} (hk : Kp S w0 w) (hS : ∀ b, btS T t a S0 b → S b ∨ w0.heap.size ≤ b) :
    BtH w0 S (fun _ => False) base T A { t with f := updK t.f (p : Int) (some ⟨m.segs.set i s, m.kids⟩) } (set5 w sb (i * 5) s) := by
  have hnd := h.node p m hp
  obtain ⟨en, ek⟩ := hnd.nums
  have es : (a.l.getD p bnZ).s.v = .slice (some ⟨sb, 0, none⟩) m.segs.length (a.l.getD p bnZ).s.c := by rw [← en, ← hsb]
  have hrow : rowB (a.l.getD p bnZ) sb := .inl (by rw [es]; rfl)
  have hs := hnd.s
  rw [es] at hs
  have hkp : Kp (rowB (a.l.getD p bnZ)) w (set5 w sb (i * 5) s) :=
    ((((((Kp.refl _ w).setCell ⟨sb, i * 5, none⟩ (.inl hrow) _).setCell ⟨sb, i * 5 + 1, none⟩ (.inl hrow) _).setCell ⟨sb, i * 5 + 2, none⟩ (.inl hrow) _).setCell ⟨sb, i * 5 + 3, none⟩ (.inl hrow) _).setCell ⟨sb, i * 5 + 4, none⟩ (.inl hrow) _)
  have hkid : (set5 w sb (i * 5) s).ownsRow base 3 1 (a.l.getD p bnZ).k.v m.kids.length (m.kids.map nv) := by
    refine own_kp hnd.k (S := fun b => b = sb) ((((((Kp.refl (fun b => b = sb) w).setCell ⟨sb, i * 5, none⟩ (.inl rfl) _).setCell ⟨sb, i * 5 + 1, none⟩ (.inl rfl) _).setCell ⟨sb, i * 5 + 2, none⟩ (.inl rfl) _).setCell ⟨sb, i * 5 + 3, none⟩ (.inl rfl) _).setCell ⟨sb, i * 5 + 4, none⟩ (.inl rfl) _) (fun b hb e => ?_)
    subst e
    obtain ⟨c1, q1⟩ := own_type hs (b := b) rfl
    obtain ⟨c2, q2⟩ := own_type hnd.k hb
    exact type_ne q1 q2 (by decide) rfl
  obtain ⟨k1, k2⟩ := h.inRow p m ⟨m.segs.set i s, m.kids⟩ hp hkp ⟨by
    show (set5 w sb (i * 5) s).ownsRow base 38 5 (a.l.getD p bnZ).s.v (m.segs.set i s).length (flatG (m.segs.set i s))
    rw [List.length_set, es]
    exact own_setG hs i hi s, hkid⟩
  refine ⟨a, S0, k1, hk.trans k2 (fun b hb hs => (hS b hs).resolve_right (by omega)), fun b hb => hS b ?_, fun b hb => hb.elim⟩
  rcases hb with hb | hb | ⟨q, hq, hb⟩
  · exact .inl hb
  · exact .inr (.inl hb)
  · refine .inr (.inr ⟨q, ?_, hb⟩)
    have hq : updK t.f (p : Int) (some ⟨m.segs.set i s, m.kids⟩) (q : Int) ≠ none := hq
    by_cases e : q = p
    · subst e; rw [hp]; simp
    · rwa [updK_nat _ _ _ _ e] at hq
/-- The rows of a way, in a block that came since. -/
def WayRowB (w : World) (xs : List (Int × Int)) (ap : Option Addr) (n cap : Nat) (W : World) : Prop := n = xs.length ∧ W.ownsRow w.heap.size 125 2 (.slice ap n cap) n (flat2 xs)
set_option maxHeartbeats 1000000 in
theorem btput_any (h : BtW w base T A t a S0) (ok : BtOk t d L) (s : G5) (hs : s.ok) :
    Calls Try.prog 38 #[aP T, vG s] w fun e w' => e = .returned (.int .i64 (putG L t.room s).2) ∧ BtT w (btS T t a S0) (fun _ => False) base T A d t.room (putG L t.room s).1 w' := by
  have hB0 := btH_of h
  have hpl : (L.length : Int) ≤ t.room := ok.le
  have hky : Ky s.key := s.ky hs
  have HMY : ∀ W, Calls Try.prog 67 #[.agg #[.int .i64 s.ls, .int .i64 s.la]] W fun e w' => e = .returned (.bool s.may) ∧ Go.RowKit.Below W.heap.size W w' := bmay_any s hs
  cases hm : s.may with
  | false =>
    rw [hm] at HMY
    rw [putG_bad _ _ _ hm]
    exact (bput_bad T s w (Lib.hid HMY)).mono fun e w' ⟨he, hw⟩ => ⟨he, t, hB0.below hw, ok, rfl⟩
  | true =>
    rw [hm] at HMY
    obtain ⟨xs, hw, hN, HW⟩ := bway_ltR h ok s.ls s.la hs.1
    have hkey : key s.ls s.la = s.key := rfl
    rw [hkey] at hw
    have HPW : ∀ ap n cap W W', WayRowB w xs ap n cap W → Go.RowKit.Below W.heap.size W W' → WayRowB w xs ap n cap W' := fun ap n cap W W' q hb => ⟨q.1, own_on q.2 hb⟩
    have HW2 : ∀ W c, Go.RowKit.Below w.heap.size w W → W.heap[c]? = some (.cells #[.int .i64 s.ls, .int .i64 s.la] 34) → Calls Try.prog 54 #[aP T, .func (.func 84) #[] #[.pointer (some ⟨c, 0, none⟩)]] W fun e w' => ∃ ap n cap, (e = .returned (.slice ap n cap) ∧ WayRowB w xs ap n cap w') ∧ Go.RowKit.Below W.heap.size W w' := fun W c hW hc =>
      (HW W c hW hc).mono fun e w' ⟨ap, n, cap, ⟨h1, h2, h3⟩, h4⟩ => ⟨ap, n, cap, ⟨h1, h2, own_base h3 hW.size⟩, h4⟩
    have HA : ∀ ap n cap W, WayRowB w xs ap n cap W → Go.RowKit.Below w.heap.size w W → Calls Try.prog 59 #[aP T, .slice ap n cap, .agg #[.int .i64 s.ls, .int .i64 s.la]] W fun e w' => e = .returned (.pointer (ptO a (fndI t.f s.key xs.reverse))) ∧ Go.RowKit.Below W.heap.size W w' := by
      rintro ap n cap W ⟨rfl, ho⟩ hW
      exact bfound_any (h.below hW) ok hw hN ap cap _ ho s.ls s.la hs.1 rfl
    have hmany : t.many = (L.length : Int) := ok.many
    rcases fnd_cases hw with e | ⟨p, i, m, g, e, hp, hg, hk⟩
    · -- there is none of the key
      rw [e] at HA
      have HLN : ∀ W, Go.RowKit.Below w.heap.size w W → Calls Try.prog 18 #[aP T] W fun e w' => e = .returned (.int .i64 t.many) ∧ W = w' := fun W hW => bmany_any (h.below hW)
      have HRM : ∀ W, Go.RowKit.Below w.heap.size w W → Calls Try.prog 12 #[aP T] W fun e w' => e = .returned (.int .i64 t.room) ∧ W = w' := fun W hW => broom_any (h.below hW)
      have hput : ∃ L', putG L t.room s = (if t.room ≤ (L.length : Int) then (L, 50) else (L', 0)) ∧ L'.length = L.length + 1 ∧
          ((L = [] ∧ t.n = 0 ∧ t.root = -1 ∧ xs = [] ∧ L' = [s]) ∨ ∃ cx tl, Leaf d t.f t.n t.root L (fun g => decide (g.key < s.key)) cx tl ∧ xs = wayRow (fun g => decide (g.key < s.key)) (cx, tl) ∧ L' = aheadR (fun g => decide (g.key < s.key)) (cx, tl) ++ s :: behindR (fun g => decide (g.key < s.key)) (cx, tl)) := by
        rcases hw with ⟨e1, e2, e3⟩ | ⟨cx, tl, l, e2⟩
        · have htr : t.n = 0 ∧ t.root = -1 := by
            rcases ok.tree with ⟨_, k1, k2, _⟩ | ⟨H, x, z, _, _⟩
            · exact ⟨k1, k2⟩
            · have := z.tree.node
              unfold nodeAt at this
              rw [e3] at this; cases this
          refine ⟨[s], ?_, by rw [e1]; rfl, .inl ⟨e1, htr.1, htr.2, e2, rfl⟩⟩
          subst e1
          unfold putG
          rw [if_neg (by rw [hm]; simp), if_neg (show ¬ findG [] s.key < ([] : List G5).length from Nat.not_lt_zero _)]
          rfl
        · refine ⟨_, ?_, ?_, .inr ⟨cx, tl, l, e2, rfl⟩⟩
          · refine l.put_new ok.row t.room hm hky ?_
            rw [← fnd_leaf l, wayRev_eq, ← e2, e]; rfl
          · have := congrArg List.length l.row
            simp only [List.length_append, List.length_cons] at this ⊢
            omega
      obtain ⟨L', hL1, hL2, hL3⟩ := hput
      by_cases hfull : t.room ≤ t.many
      · rw [hL1, if_pos (by omega)]
        exact (bput_full T t.many t.room hfull (WayRowB w xs) s w (Lib.hid HMY) (Lib.hid HPW) (Lib.hid HW2) (Lib.hid HA) (Lib.hid HLN) (Lib.hid HRM)).mono fun e w' ⟨he, hw⟩ => ⟨he, t, hB0.below hw, ok, rfl⟩
      · have hrow2 : RowOk L' := by
          have := putG_ok L t.room s ok.row hky
          rw [hL1, if_neg (by omega)] at this; exact this
        have hall2 : ∀ g ∈ L', g.ok := by
          have := putG_all L t.room s hs ok.ok
          rw [hL1, if_neg (by omega)] at this; exact this
        rw [hL1, if_neg (by omega)]
        have hroom := ok.room
        refine bput_new T t.many t.room (by omega) ⟨by omega, by omega⟩ (WayRowB w xs) s w (Lib.hid HMY) (Lib.hid HPW) (Lib.hid HW2) (Lib.hid HA) (Lib.hid HLN) (Lib.hid HRM) (fun w' => ∃ f n r, TreeAt d f n r L' ∧ BtH w (btS T t a S0) (fun _ => False) base T A { t with f := f, n := n, root := r } w')
          (fun w' => BtT w (btS T t a S0) (fun _ => False) base T A d t.room L' w') (Lib.hid ?_) (Lib.hid ?_)
        · rintro ap n cap W ⟨rfl, ho⟩ hW
          refine ((hB0.keep (C := fun b => (Value.slice ap xs.length cap).ownBlock = some b) hW (fun b hb => .inr (ho.lt b hb))).layIn d ok.dg ok.d2 ok.d64 xs ap cap _ s L L' _ hw hL3 ho (fun b hb => hb) hN (by omega)).mono ?_
          rintro e w' ⟨rfl, f, n, r, k1, k2, _⟩
          exact ⟨rfl, f, n, r, k1, k2.less (fun b hb => hb.elim)⟩
        · rintro W ⟨f, n, r, k1, k2⟩
          have htop := k2.top
          refine ⟨⟨(cell_of_row _ _ 3 _ _ _ htop).trans rfl, frozen_of_row _ _ 3 _ _ htop⟩, _, (k2.setMany (t.many + 1)).1, ⟨ok.dg, ok.d2, ok.d64, k1, by show t.many + 1 = _; omega, ok.room, by show (L'.length : Int) ≤ t.room; omega, hrow2, hall2⟩, rfl⟩
    · -- it is written over
      rcases hw with ⟨_, e2, _⟩ | ⟨cx, tl, l, e2⟩
      · rw [e2] at e; cases e
      · have hfs : foundS s.key (stepsB (fun g => decide (g.key < s.key)) (cx, tl)) = some g := by
          rw [← fnd_leaf l, wayRev_eq, ← e2, e]
          exact gAt_some hp hg
        obtain ⟨Bh, hB, hgk, hput⟩ := l.put_old ok.row t.room hm hky g hfs
        obtain ⟨p', i', m', k1, k2, k3, k4⟩ := l.oldAt g Bh hB
        have hbe := fnd_beh e
        rw [e2, ← wayRev_eq, k1] at hbe
        injection hbe with hbe
        injection hbe with e5 e6
        obtain rfl : p' = p := by omega
        subst e6
        obtain rfl : m' = m := by rw [hp] at k2; injection k2 with k2; exact k2.symm
        obtain ⟨hi, hgi⟩ := List.getElem?_eq_some_iff.1 hg
        obtain ⟨_, _, _, hmem⟩ := step_mem h p' m' hp
        obtain ⟨sb, hsb, _, _⟩ := hmem i' hi
        rw [e, show ptO a (some ((p' : Int), i')) = some ⟨sb, i' * 5, none⟩ from ptA_nat a p' i' sb hsb] at HA
        have hrow2 : RowOk (aheadR (fun g => decide (g.key < s.key)) (cx, tl) ++ s :: Bh) := by
          have := putG_ok L t.room s ok.row hky
          rw [hput] at this; exact this
        have hall2 : ∀ g ∈ aheadR (fun g => decide (g.key < s.key)) (cx, tl) ++ s :: Bh, g.ok := by
          have := putG_all L t.room s hs ok.ok
          rw [hput] at this; exact this
        have hlen2 : (aheadR (fun g => decide (g.key < s.key)) (cx, tl) ++ s :: Bh).length = L.length := by
          have := congrArg List.length l.row
          rw [hB] at this
          simp only [List.length_append, List.length_cons] at this ⊢
          omega
        rw [hput]
        refine bput_old T sb (i' * 5) (WayRowB w xs) s w (Lib.hid HMY) (Lib.hid HPW) (Lib.hid HW2) (Lib.hid HA) (fun w' => BtT w (btS T t a S0) (fun _ => False) base T A d t.room (aheadR (fun g => decide (g.key < s.key)) (cx, tl) ++ s :: Bh) w') (Lib.hid fun W hW => ?_)
        have hWb := h.below hW
        obtain ⟨_, _, _, hmem2⟩ := step_mem hWb p' m' hp
        obtain ⟨sb2, hsb2, hc5, hfz⟩ := hmem2 i' hi
        rw [hsb] at hsb2
        obtain rfl : sb = sb2 := by injection hsb2 with q; injection q
        refine ⟨⟨_, hc5⟩, hfz, _, hWb.over p' m' hp i' hi sb hsb s (Kp.of_below _ hW) (fun b hb => .inl hb), ⟨ok.dg, ok.d2, ok.d64, k4 s, by show t.many = _; rw [hmany, hlen2], ok.room, by show (_ : Int) ≤ t.room; rw [hlen2]; exact ok.le, hrow2, hall2⟩, rfl⟩
end
end Go.Proofs.Ytjgcdmeojjnjlaa
