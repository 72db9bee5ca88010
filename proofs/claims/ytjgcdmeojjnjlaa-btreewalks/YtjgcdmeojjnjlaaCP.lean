/- A part of the proof: contracts of the functions that the statements reach. -/
import Derived.RangeFuncNested
import Derived.RangeFuncBound
import Derived.RangeFuncCalls
import Derived.RangeFuncLeaves
import Derived.Shelf.Abstract
import Derived.Shelf.RegionOpen
import Derived.WalkKit
import Derived.OwnWalkIn
import Derived.TacticsInMore
import Derived.LoopNIn
import Derived.LoopIn
import Derived.Shelf.SlSortCmp.WholeK
import Derived.WalkSpells
import Derived.WalkLawsBesides
import Derived.Lib.Hide
import Derived.Laws.StructEq
import Derived.Shelf.SlSortCmp.QuietGrown
import Derived.Laws.EntriesVeiled
import Derived.Deep.CutRange
import Derived.RegionTactic
import Derived.Lib.QuietBelow
import Derived.BigQuiet
import Derived.OpenShut
import Derived.Deep.RegionHeld3
import Derived.Deep.QuietTactic
import Derived.Maps.AppendAt
import Derived.Laws.IdiomCopy
import Derived.Deep.AppendLies
import Derived.Deep.LoopGhost
import Derived.Deep.Upon
import Derived.StillTailTactics
import Derived.Lib.SmallJoins
import Derived.Deep.SlicePairs
import Derived.Deep.Strs
import Derived.ChangeOld
import Derived.SizedLaws
import Derived.Lib.SliceRun
import Derived.Laws.CopyRow
import Derived.Below
import Derived.Laws.CopyOwn
import Derived.Deep.RegionLaw
import Derived.IntWalk
import Derived.Lib.MinMax
import Derived.Test.YtjgcdmeojjnjlaaCO

/- A range over a function that holds ranges of its own: its caller's invariant speaks of nothing that was laid since its call began, and each round keeps what was. -/
namespace Go.Proofs.Ytjgcdmeojjnjlaa.Rf
open Go.RowKit Go.Sort
set_option linter.unusedVariables false
/-- An iterator of N rounds. -/
def SeqM (P : Program) (g : Nat) (lb : Array Value) (encs : Nat → Array Value) (Kp : World → World → Prop) (N : Nat) (w : World) : Prop :=
  ∀ (n l : Nat) (J Jx : Nat → World → Prop) (W : World), Below w.heap.size w W → w.heap.size + 2 ≤ W.heap.size → (∀ j X Y, J j X → Below W.heap.size X Y → J j Y) → (∀ j X Y, Jx j X → Below W.heap.size X Y → Jx j Y) →
    (∀ m j X, j < N → J j X → YieldAt Fence.wide m P l (encs j) X fun e Y => ((e = .returned (.bool true) ∧ J (j + 1) Y) ∨ (e = .returned (.bool false) ∧ Jx (j + 1) Y)) ∧ Kp X Y) →
    J 0 W → CallsIn Fence.wide n P g (#[.func (.yield l) #[] #[]] ++ lb) W fun e Y => (∃ v, e = .returned v) ∧ (J N Y ∨ ∃ j, j ≤ N ∧ Jx j Y)
/-- How a round may be left. -/
def roundM (B : Nat) (Kp : World → World → Prop) (Go : World → Prop) (Out : Code → World → Prop) (W : World) : Exit → Act → World → Prop
  | .normal, _, Y => KeepsFrom B W Y ∧ Kp W Y ∧ Go Y
  | .ret, _, Y => KeepsFrom B W Y ∧ Kp W Y ∧ Out .ret Y
  | .exit id, _, Y => KeepsFrom B W Y ∧ Kp W Y ∧ Out (.exit id) Y
  | .goto t, _, Y => KeepsFrom B W Y ∧ Kp W Y ∧ Out (.goto t) Y
  | .panic _, _, _ => False
  | .outgrown, _, _ => False
theorem own_of_below {β : Type} {B : Nat} {I : β → World → Prop} (hs : ∀ s X, I s X → B ≤ X.heap.size) (h : ∀ s X Y, I s X → Below B X Y → I s Y) : OwnFrom B I := fun s X Y row hi hg hr =>
  h s X Y hi ⟨hg.os, hg.tape, hg.output, hg.size, fun k hk => hg.block k (by have := hs s X hi; omega) (fun e => by have := (hr k e.symm).1; omega)⟩
variable {P : Program} {n : Nat}
set_option maxHeartbeats 1000000 in
theorem wpIn_rangeM {g : Operand} {ps : Array Tmp} {assign body : Code} {Q : Exit → Act → World → Prop} {a : Act} {w : World} {gf : Nat} {lb : Array Value} (hg : a.eval g = .func (.func gf) #[] lb)
    (eg : ∀ args w, (callFunc gf args).run P w = .ok (.enter gf args) w) {encs : Nat → Array Value} {Kp : World → World → Prop} {N : Nat} {w0 : World} (hseq : SeqM P gf lb encs Kp N w0)
    (hKt : ∀ {X Y Z : World}, Kp X Y → Kp Y Z → Kp X Z) (hKb : ∀ (W : World) (o o' : Obj), W.heap[w.heap.size + 1]? = some o → o.isCells = false → o.isWalk = false → Kp W (W.putObj (w.heap.size + 1) o'))
    (hb0 : Below w0.heap.size w0 w) (hps : ∀ j, (encs j).size = ps.size) (I : Nat → World → Prop) (Ix : Code → Nat → World → Prop) (hIs : ∀ j X, I j X → w.heap.size ≤ X.heap.size) (hIxs : ∀ c j X, Ix c j X → w.heap.size ≤ X.heap.size) (hI0 : ∀ j X Y, I j X → Below w.heap.size X Y → I j Y) (hIx0 : ∀ c j X Y, Ix c j X → Below w.heap.size X Y → Ix c j Y) (h0 : I 0 w)
    (hround : ∀ (l j : Nat) (W : World) (K : Act → World → Prop), j < N → I j W →
      (∀ a' Y, KeepsFrom w.heap.size W Y → Kp W Y → (∃ Z : Nat → World → Prop, OwnFrom w.heap.size Z ∧ Z j Y ∧ ∀ V, Z j V → body.wpIn (Fence.wide.inRound l) (n - 1 - 1) P (roundM w.heap.size Kp (I (j + 1)) (fun c => Ix c (j + 1)) V) a' V) → K a' Y) →
      assign.wpIn (Fence.wide.inRound l) (n - 1 - 1) P (Exit.then K (fun _ _ _ => False)) { tmps := (ps.zip (encs j)).foldl (fun t (p, v) => t.setIfInBounds p v) a.tmps, defers := [] } W)
    (hdone : ∀ (D : Nat) (W : World), w.heap.size ≤ D → I N W → W.heap[D]? = some (.deferred (some [])) → Q .normal { a with defers := { target := .collected D, args := #[] } :: a.defers } W)
    (hstop : ∀ (D j : Nat) (c : Code) (W : World), w.heap.size ≤ D → j ≤ N → Ix c j W → W.heap[D]? = some (.deferred (some [])) → c.wpIn Fence.wide n P Q { a with defers := { target := .collected D, args := #[] } :: a.defers } W) :
    (Code.rangeFunc g ps assign body).wpIn Fence.wide n P Q a w := by
  refine wpIn_rangeFunc fun fn _ => ?_
  have hI := own_of_below hIs hI0
  have hIx := fun c => own_of_below (hIxs c) (hIx0 c)
  obtain ⟨D, hD⟩ : ∃ D, D = w.heap.size := ⟨_, rfl⟩
  have hKb2 : ∀ (W : World) (o o' : Obj), W.heap[D + 1]? = some o → o.isCells = false → o.isWalk = false → Kp W (W.putObj (D + 1) o') := by subst hD; exact hKb
  obtain ⟨rec, hrec⟩ : ∃ rec : LoopState → Option Code → Loop, rec = fun st pe => { state := st, pending := pe, fn, tmps := a.tmps, params := ps, assign, body, defers := D } := ⟨_, rfl⟩
  -- the law's own two blocks: the rounds' deferred calls at D, the record at D + 1
  let Bk : LoopState → Option Code → World → Prop := fun st pe W => W.heap[D + 1]? = some (.loop (rec st pe)) ∧ W.heap[D]? = some (.deferred (some []))
  have hBk : ∀ st pe X Y, Bk st pe X → Below X.heap.size X Y → Bk st pe Y := fun st pe X Y h hb =>
    ⟨(hb.block _ (Array.getElem?_eq_some_iff.1 h.1).1).trans h.1, (hb.block _ (Array.getElem?_eq_some_iff.1 h.2).1).trans h.2⟩
  have hput : ∀ st pe st' pe' X, Bk st pe X → Bk st' pe' (X.putObj (D + 1) (.loop (rec st' pe'))) := fun st pe st' pe' X h =>
    ⟨World.putObj_heap_same (Array.getElem?_eq_some_iff.1 h.1).1, (World.putObj_heap_other (by omega)).trans h.2⟩
  have hkf : ∀ st pe X Y, Bk st pe X → KeepsFrom w.heap.size X Y → Bk st pe Y := fun st pe X Y h hk =>
    ⟨hk.same _ _ (by omega) h.1 rfl, hk.same _ _ (by omega) h.2 rfl⟩
  have hown : ∀ {γ : Type} {Z : γ → World → Prop}, OwnFrom w.heap.size Z → ∀ s st pe X o', Bk st pe X → Z s X → Z s (X.putObj (D + 1) o') := fun h s st pe X o' hb hz => h.putObj _ hz (by omega) hb.1 rfl
  let W1 := (w.alloc (.deferred (some []))).alloc (.loop (rec .ready none))
  have hnew : Below w.heap.size w W1 := ((Below.refl _ w).alloc (Nat.le_refl _) _).alloc (by simp) _
  have hBg : ∀ st pe X Y, Bk st pe X → Below W1.heap.size X Y → Bk st pe Y := fun st pe X Y h hb => by
    have hz : W1.heap.size = D + 2 := by simp only [W1, World.size_alloc]; omega
    exact ⟨(hb.block _ (by omega)).trans h.1, (hb.block _ (by omega)).trans h.2⟩
  have hB1 : Bk .ready none W1 := by
    refine ⟨?_, ?_⟩
    · have := World.alloc_heap_new (w.alloc (.deferred (some []))) (.loop (rec .ready none)); rwa [World.size_alloc, ← hD] at this
    · subst hD; exact (Below.heap_alloc _ _ _ (by simp)).trans (World.alloc_heap_new w _)
  refine ⟨D + 1, [{ target := .collected D, args := #[] }], W1, { target := .fn (.func gf) lb, args := #[.func (.yield (D + 1)) #[] #[]] }, W1, gf, #[.func (.yield (D + 1)) #[] #[]] ++ lb, W1, ?_, ?_, fun _ _ => trivial, ?_, fun h => (by cases h), ?_⟩
  · show (Instr.enterLoop fn a.tmps ps assign body none).run P w = _
    rw [run_enterLoop_outer]
    simp only [W1, hrec, hD]
  · simp only [resolve, hg]
    simp [go_sem]
  · simp [invoke, go_sem, eg]
  · refine (hseq (n - 1) (D + 1) (fun j W => I j W ∧ Bk .ready none W) (fun j W => ∃ c, Ix c j W ∧ Bk .done (some c) W) W1 (hb0.trans (hnew.mono hb0.size)) (by have := hb0.size; simp only [W1, World.size_alloc]; omega)
      (fun j X Y h hb => ⟨hI0 j X Y h.1 (hb.mono hnew.size), hBg _ _ _ _ h.2 hb⟩)
      (fun j X Y ⟨c, h1, h2⟩ hb => ⟨c, hIx0 c j X Y h1 (hb.mono hnew.size), hBg _ _ _ _ h2 hb⟩) ?_ ⟨own_after hI h0 hnew, hB1⟩).mono ?_
    · -- a round
      rintro m j X hj ⟨hi, hb⟩
      have hy := run_yield (P := P) (args := encs j) hb.1 (by rw [hrec]; exact hps j)
      rw [hrec] at hy
      have hany : ∀ {m' : Nat} {R : Ending → World → Prop}, RoundIn Fence.wide (n - 1 - 1) P (D + 1) fn ((ps.zip (encs j)).foldl (fun t (p, v) => t.setIfInBounds p v) a.tmps) assign body X R → RoundIn Fence.wide m' P (D + 1) fn ((ps.zip (encs j)).foldl (fun t (p, v) => t.setIfInBounds p v) a.tmps) assign body X R :=
        fun h => ⟨h.1, fun c cs _ => h.2 c cs (fun d h => by cases h)⟩
      refine ⟨fn, _, assign, body, hy, hany (roundIn_of_wpIn trivial (hround (D + 1) j X _ hj hi ?_))⟩
      rintro a' Y hk hkp ⟨Z, hZ, hz, hbody⟩
      have hbY := hkf _ _ _ _ hb hk
      have hst : ({ rec .ready none with state := .busy } : Loop) = rec .busy none := by rw [hrec]
      have hbg := run_beginRound (P := P) hbY.1 (by rw [hrec])
      rw [hst] at hbg
      refine ⟨_, hbg, ?_⟩
      have hb2 := hput _ _ .busy none _ hbY
      have hkp2 : Kp X (Y.putObj (D + 1) (.loop (rec .busy none))) := hKt hkp (hKb2 _ _ _ hbY.1 rfl rfl)
      refine wpIn_mono (hbody _ (hown hZ j _ _ _ _ hbY hz)) ?_
      have fin : ∀ (jump : Option Code) (V : World), Bk .busy none V → (Instr.endRound (D + 1) jump).run P V = .ok (.bool jump.isNone) (V.putObj (D + 1) (.loop (rec (if jump.isNone then .ready else .done) jump))) := fun jump V h => by
        have := run_endRound (P := P) jump h.1
        rw [hrec] at this ⊢
        exact this
      have out : ∀ (c : Code) (V : World), KeepsFrom w.heap.size (Y.putObj (D + 1) (.loop (rec .busy none))) V → Kp (Y.putObj (D + 1) (.loop (rec .busy none))) V → Ix c (j + 1) V →
          ∃ v V', (Instr.endRound (D + 1) (some c)).run P V = .ok v V' ∧ (((Ending.returned v = .returned (.bool true) ∧ (I (j + 1) V' ∧ Bk .ready none V')) ∨ (Ending.returned v = .returned (.bool false) ∧ ∃ c, Ix c (j + 1) V' ∧ Bk .done (some c) V')) ∧ Kp X V') := fun c V hk3 hkp3 hx =>
        have h3 := hkf _ _ _ _ hb2 hk3
        ⟨_, _, fin (some c) V h3, .inr ⟨rfl, c, hown (hIx c) _ _ _ _ _ h3 hx, hput _ _ .done (some c) _ h3⟩, hKt (hKt hkp2 hkp3) (hKb2 _ _ _ h3.1 rfl rfl)⟩
      rintro e a3 V hp
      cases e with
      | normal =>
        obtain ⟨hk3, hkp3, hi3⟩ := hp
        have h3 := hkf _ _ _ _ hb2 hk3
        exact ⟨_, _, fin none V h3, .inl ⟨rfl, hown hI _ _ _ _ _ h3 hi3, hput _ _ .ready none _ h3⟩, hKt (hKt hkp2 hkp3) (hKb2 _ _ _ h3.1 rfl rfl)⟩
      | ret => exact out _ V hp.1 hp.2.1 hp.2.2
      | exit id => exact out _ V hp.1 hp.2.1 hp.2.2
      | goto t => exact out _ V hp.1 hp.2.1 hp.2.2
      | panic ch => exact hp.elim
      | outgrown => exact hp.elim
    · rintro e W2 ⟨⟨v, rfl⟩, ⟨hi, hb⟩ | ⟨j, hj, c, hx, hb⟩⟩
      · have hend := run_endLoop (P := P) hb.1 (by rw [hrec]; simp)
        rw [hrec] at hend
        exact ⟨none, _, hend, hdone D _ (by omega) (hown hI _ _ _ _ _ hb hi) ((World.putObj_heap_other (by omega)).trans hb.2)⟩
      · have hend := run_endLoop (P := P) hb.1 (by rw [hrec]; simp)
        rw [hrec] at hend
        exact ⟨some c, _, hend, hstop D j c _ (by omega) hj (hown (hIx c) _ _ _ _ _ hb hx) ((World.putObj_heap_other (by omega)).trans hb.2)⟩
/-! A region that draws its order, in a round: as outside. -/
theorem wpOpIn_unround {P : Program} {n l i : Nat} {ops : Array Oper} {K : Act → World → Prop} {Q : Exit → Act → World → Prop} {a : Act} {w : World} (hd : ∀ o, ops[i]? = some o → noDefer o = true) (h : wpOpIn Fence.wide n P ops Q i K a w) : wpOpIn (Fence.wide.inRound l) n P ops Q i K a w := by
  unfold wpOpIn at *
  split
  · rename_i e; simpa only [e] using h
  · rename_i o e
    simp only [e] at h
    split
    · rename_i hw
      simp only [hw, if_true] at h
      refine ⟨h.1, ?_⟩
      have h2 := h.2
      show o.uponIn (Fence.wide.inRound l) n P a K Q ((o.semAt (some l) a.eval).run P w)
      rw [Oper.semAt_some l a.eval o (noDefer_ne (hd o e))]
      have h3 : o.uponIn Fence.wide n P a K Q ((execOp a.eval o).run P w) := by
        have e2 : o.semAt Fence.wide.round a.eval = execOp a.eval o := Oper.semAt_none _ _
        rw [e2] at h2
        exact h2
      generalize (execOp a.eval o).run P w = r at *
      cases r with
      | ok x w' => cases x <;> exact h3
      | halt x w' => cases x <;> exact h3
    · rename_i hw
      simp only [hw] at h
      exact h
theorem wpAnyIn_unround {P : Program} {n l : Nat} {ops : Array Oper} {md : Region.Mode} {Q : Exit → Act → World → Prop} (hd : ops.toList.all noDefer = true) : ∀ (fuel : Nat) (listed : Array Bool) (a : Act) (w : World), wpAnyIn Fence.wide n P md ops Q fuel listed a w → wpAnyIn (Fence.wide.inRound l) n P md ops Q fuel listed a w
  | 0, _, _, _, h => h
  | fuel + 1, listed, a, w, h => ⟨h.1, fun i hi => wpOpIn_mono (fun a' w' h' => wpAnyIn_unround hd fuel _ a' w' h') (wpOpIn_unround (noDefer_all hd i) (h.2 i hi))⟩
end Go.Proofs.Ytjgcdmeojjnjlaa.Rf
/- Down: the recursive walk that ranges over its node's row from the end, and hands yield on: its core. -/
namespace Go.Proofs.Ytjgcdmeojjnjlaa
open Go.RowKit Go.Sort Go.Shelf Go.Proofs.Ytjgcdmeojjnjlaa.Bo Go.Proofs.Ytjgcdmeojjnjlaa.Bb Go.Proofs.Ytjgcdmeojjnjlaa.Rf
set_option linter.unusedVariables false
set_option linter.unusedSimpArgs false
set_option maxRecDepth 100000
attribute [local go_sem] Oper.semAt_some
/-- What a round keeps: all that lay below n0, and all that was laid from m0 on. -/
def KpF (n0 m0 : Nat) (W W' : World) : Prop := Go.RowKit.Below n0 W W' ∧ ∀ k, m0 ≤ k → k < W.heap.size → W'.heap[k]? = W.heap[k]?
theorem KpF.trans {n0 m0 : Nat} {X Y Z : World} (h : KpF n0 m0 X Y) (k : KpF n0 m0 Y Z) : KpF n0 m0 X Z :=
  ⟨h.1.trans k.1, fun i h1 h2 => (k.2 i h1 (Nat.lt_of_lt_of_le h2 h.1.size)).trans (h.2 i h1 h2)⟩
theorem KpF.refl (n0 m0 : Nat) (X : World) : KpF n0 m0 X X := ⟨Go.RowKit.Below.refl _ _, fun _ _ _ => rfl⟩
theorem KpF.of_below {n0 m0 : Nat} {W W' : World} (h : Go.RowKit.Below W.heap.size W W') (hn : n0 ≤ W.heap.size) : KpF n0 m0 W W' := ⟨h.mono hn, fun k _ hk => h.block k hk⟩
/-- Seen from a world between: what lies from there on may have turned. -/
theorem KpF.cut {n0 m0 : Nat} {w X Y : World} (h : KpF n0 m0 w X) (hn : n0 ≤ w.heap.size) (hs : w.heap.size ≤ X.heap.size) (hb : Go.RowKit.Below w.heap.size X Y) : KpF n0 m0 w Y :=
  ⟨h.1.trans (hb.mono hn), fun k h1 h2 => (hb.block k h2).trans (h.2 k h1 h2)⟩
abbrev boO (b : Bool) : Obj := .cells #[.bool b] 4 (0, 0)
abbrev yO (l : Nat) : Obj := .cells #[.func (.yield l) #[] #[]] 103 (0, 0)
set_option maxHeartbeats 4000000 in
theorem bfall_no (T A l n0 m0 : Nat) (i : Int) (w : World) (c0 : w.cell? ⟨T, 1, none⟩ = some (aP A)) (HG : Hid (∀ W, Go.RowKit.Below w.heap.size w W → Calls Try.prog 86 #[aP A, .int .i64 i] W fun e w' => e = .returned (.tuple #[bnV none none 0 0 0 0, .bool false]) ∧ Go.RowKit.Below W.heap.size W w')) :
    Calls Try.prog 66 #[aP T, .int .i64 i, .func (.yield l) #[] #[]] w fun e W' => e = .returned (.bool true) ∧ Go.RowKit.Below w.heap.size w W' := by
  have mx := mixed
  have hT := World.block_lt_of_cell? w _ c0
  dsimp only at hT
  have hX0 := heap_alloc_new w (tbO T)
  have hX1 := heap_alloc_new (w.alloc (tbO T)) (yO l)
  have hX2 := heap_alloc_new ((w.alloc (tbO T)).alloc (yO l)) (boO false)
  rw [World.size_alloc] at hX1 hX2
  rw [World.size_alloc] at hX2
  have hb1 := below_new w (tbO T)
  have hb2 := below_new (w.alloc (tbO T)) (yO l)
  have hb3 := below_new ((w.alloc (tbO T)).alloc (yO l)) (boO false)
  have HB := Lib.hid (bt hb1 (bt hb2 hb3))
  have d3 := box_on (box_on hX0 hb2) hb3
  have HR := Lib.hid hX2
  have c3 : (((w.alloc (tbO T)).alloc (yO l)).alloc (boO false)).cell? ⟨w.heap.size, 0, none⟩ = some (aP T) := (cell_of_row _ _ 0 _ _ _ d3).trans rfl
  have c1 : (((w.alloc (tbO T)).alloc (yO l)).alloc (boO false)).cell? ⟨T, 1, none⟩ = some (aP A) := (HB.out.cell (p := ⟨T, 1, none⟩) hT).trans c0
  clear hX0 hX1 hX2 hb1 hb2 hb3 d3 c0
  go_enter Try.func66, Try.ntmps66
  go_upto_region 1 with fail
  generalize ((w.alloc (tbO T)).alloc (yO l)).alloc (boO false) = X at *
  go_wp2_with fail
  refine (HG.out _ HB.out).mono ?_
  rintro e y ⟨rfl, hb⟩
  have HY := Lib.hid (bt hb (below_new y (bnB none none 0 0 0 0)))
  have hR := box_on HR.out HY.out
  have HRR := Lib.hid hR
  have r6 : (y.alloc (bnB none none 0 0 0 0)).frozen? ⟨w.heap.size + 1 + 1, 0, none⟩ = false := frozen_of_row _ _ 0 _ _ hR
  have q6 : (y.alloc (bnB none none 0 0 0 0)).cell? ⟨w.heap.size + 1 + 1, 0, none⟩ = some (.bool false) := (cell_of_row _ _ 0 _ _ _ hR).trans rfl
  clear hR hb c1 c3
  go_upto_region 2 with fail
  generalize y.alloc (bnB none none 0 0 0 0) = Y at *
  go_wp2_with fail
  have hfin : (Y.setCell ⟨w.heap.size + 1 + 1, 0, none⟩ (.bool true)).cell? ⟨w.heap.size + 1 + 1, 0, none⟩ = some (.bool true) := (cell_of_row _ _ 0 _ _ _ (heap_setCell_same Y (w.heap.size + 1 + 1) 0 _ _ (.bool true) HRR.out)).trans rfl
  refine bodyPost_ret (v := .bool true) (by simp [results, Try.results66, go_sem, hfin]) rfl ?_
  exact ⟨rfl, (bt HB.out HY.out).setCell (p := ⟨w.heap.size + 1 + 1, 0, none⟩) (by simp; omega) _⟩
theorem grown_below {X Y : World} {row : Option Nat} {B : Nat} (hg : X.grownBy Y row) (hr : ∀ r, row = some r → B ≤ r) (hB : B ≤ X.heap.size) : Go.RowKit.Below B X Y :=
  ⟨hg.os, hg.tape, hg.output, hg.size, fun k hk => hg.block k (by omega) (fun e => by have := hr k e.symm; omega)⟩
theorem two_waysF {e : Ending} {p q : Prop} (h : (e = .returned (.bool true) ∧ p) ∨ (e = .returned (.bool false) ∧ q)) : ∃ b, e = .returned (.bool b) ∧ ((b = true ∧ p) ∨ (b = false ∧ q)) := h.elim (fun ⟨a, b⟩ => ⟨true, a, .inl ⟨rfl, b⟩⟩) (fun ⟨a, b⟩ => ⟨false, a, .inr ⟨rfl, b⟩⟩)
/-- Between two rounds. -/
def FlI (n0 m0 : Nat) (PJ : Nat → World → Prop) (Y : World) (j : Nat) (V : World) : Prop := PJ j V ∧ KpF n0 m0 Y V
def FlX (n0 m0 b6 : Nat) (PX : World → Prop) (w Y : World) (c : Code) (j : Nat) (V : World) : Prop := (c = .ret ∧ V.heap[b6]? = some (boO false)) ∧ PX V ∧ KpF n0 m0 w V ∧ Y.heap.size ≤ V.heap.size
theorem flI_own {n0 m0 b : Nat} {PJ : Nat → World → Prop} {Y : World} (hJ : ∀ j X X', PJ j X → Go.RowKit.Below b X X' → PJ j X') (hn : n0 ≤ Y.heap.size) (hb : b ≤ Y.heap.size) : OwnFrom Y.heap.size (FlI n0 m0 PJ Y) := by
  rintro j X X' row ⟨h1, h2⟩ hg hr
  have hs := h2.1.size
  have hB := grown_below hg (fun r e => (hr r e).1) hs
  exact ⟨hJ j X X' h1 (hB.mono hb), h2.cut hn hs hB⟩
theorem flX_own {n0 m0 b6 b : Nat} {PX : World → Prop} {w Y : World} (hX : ∀ X X', PX X → Go.RowKit.Below b X X' → PX X') (hn : n0 ≤ w.heap.size) (hb : b ≤ Y.heap.size) (h6 : b6 < Y.heap.size) (hwY : w.heap.size ≤ Y.heap.size) (c : Code) : OwnFrom Y.heap.size (FlX n0 m0 b6 PX w Y c) := by
  rintro j X X' row ⟨⟨h1, h2⟩, h3, h4, h5⟩ hg hr
  have hB := grown_below hg (fun r e => (hr r e).1) h5
  exact ⟨⟨h1, (hB.block b6 h6).trans h2⟩, hX X X' h3 (hB.mono hb), h4.cut hn (by omega) (hB.mono hwY), Nat.le_trans h5 hg.size⟩
set_option maxHeartbeats 8000000 in
theorem bfall_core (T A l m0 n0 N nk sc kc sb base : Nat) (ka : Option Addr) (i : Int) (xs : List G5) (ck : Nat → Int) (PJ : Nat → World → Prop) (PA PX : World → Prop) (w : World) (hN : N ≤ 1000) (hxs : xs.length = N)
    (hn0 : n0 ≤ w.heap.size) (hm0 : m0 ≤ w.heap.size) (c0 : w.cell? ⟨T, 1, none⟩ = some (aP A)) (hT : T < n0)
    (HG : Hid (∀ W, Go.RowKit.Below w.heap.size w W → Calls Try.prog 86 #[aP A, .int .i64 i] W fun e w' => e = .returned (.tuple #[bnV (some ⟨sb, 0, none⟩) ka N nk sc kc, .bool true]) ∧ Go.RowKit.Below W.heap.size W w'))
    (HS : Hid (∀ W, KpF n0 m0 w W → W.ownsRow base 38 5 (.slice (some ⟨sb, 0, none⟩) N sc) N (flatG xs))) (hsb : sb < n0)
    (HJ : Hid (∀ j X Y, PJ j X → Go.RowKit.Below w.heap.size X Y → PJ j Y)) (HXX : Hid (∀ X Y, PX X → Go.RowKit.Below w.heap.size X Y → PX Y)) (HAA : Hid (∀ X Y, PA X → Go.RowKit.Below w.heap.size X Y → PA Y))
    (H0 : Hid (∀ W, Go.RowKit.Below w.heap.size w W → PJ 0 W))
    (HK : Hid (∀ W Bn j, KpF n0 m0 w W → j ≤ N → W.heap[Bn]? = some (bnB (some ⟨sb, 0, none⟩) ka N nk sc kc) → Calls Try.prog 51 #[.pointer (some ⟨Bn, 0, none⟩), .int .i64 (j : Int)] W fun e w' => e = .returned (.int .i64 (ck j)) ∧ W = w'))
    (HR : Hid (∀ j W, j < N → PJ j W → KpF n0 m0 w W → Calls Try.prog 66 #[aP T, .int .i64 (ck (N - j)), .func (.yield l) #[] #[]] W fun e W1 => KpF n0 m0 W W1 ∧ ((e = .returned (.bool true) ∧ ∀ m, YieldAt Fence.wide m Try.prog l #[vG (xs.getD (N - 1 - j) Bo.g0)] W1 fun e W3 => KpF n0 m0 W1 W3 ∧ ((e = .returned (.bool true) ∧ PJ (j + 1) W3) ∨ (e = .returned (.bool false) ∧ PX W3))) ∨ (e = .returned (.bool false) ∧ PX W1))))
    (HE : Hid (∀ W, PJ N W → KpF n0 m0 w W → Calls Try.prog 66 #[aP T, .int .i64 (ck 0), .func (.yield l) #[] #[]] W fun e W1 => KpF n0 m0 W W1 ∧ ((e = .returned (.bool true) ∧ PA W1) ∨ (e = .returned (.bool false) ∧ PX W1)))) :
    Calls Try.prog 66 #[aP T, .int .i64 i, .func (.yield l) #[] #[]] w fun e W' => KpF n0 m0 w W' ∧ ((e = .returned (.bool true) ∧ PA W') ∨ (e = .returned (.bool false) ∧ PX W')) := by
  have mx := mixed
  have HNN := Lib.hid hxs
  have hTw : T < w.heap.size := by omega
  have hX0 := heap_alloc_new w (tbO T)
  have hX1 := heap_alloc_new (w.alloc (tbO T)) (yO l)
  have hX2 := heap_alloc_new ((w.alloc (tbO T)).alloc (yO l)) (boO false)
  rw [World.size_alloc] at hX1 hX2
  rw [World.size_alloc] at hX2
  have hb1 := below_new w (tbO T)
  have hb2 := below_new (w.alloc (tbO T)) (yO l)
  have hb3 := below_new ((w.alloc (tbO T)).alloc (yO l)) (boO false)
  have HB := Lib.hid (bt hb1 (bt hb2 hb3))
  have D3 := Lib.hid (box_on (box_on hX0 hb2) hb3)
  have D5 := Lib.hid (box_on hX1 hb3)
  have D6 := Lib.hid hX2
  have c3 : (((w.alloc (tbO T)).alloc (yO l)).alloc (boO false)).cell? ⟨w.heap.size, 0, none⟩ = some (aP T) := (cell_of_row _ _ 0 _ _ _ D3.out).trans rfl
  have c1 : (((w.alloc (tbO T)).alloc (yO l)).alloc (boO false)).cell? ⟨T, 1, none⟩ = some (aP A) := (HB.out.cell (p := ⟨T, 1, none⟩) hTw).trans c0
  clear hX0 hX1 hX2 hb1 hb2 hb3 c0 hxs
  refine (callsIn_wide (n := 6)).1 ?_
  refine callsIn_of_wp_marks Try.func66 rfl trivial ?_ rfl
  simp only [Try.ntmps66, List.size_toArray, List.length_cons, List.length_nil, Nat.reduceAdd, Nat.reduceSub, Array.replicate_succ, Array.replicate_zero, List.push_toArray, List.append_toArray, List.nil_append, List.cons_append]
  gi_wp2_with (refine ⟨trivial, ?_⟩; gi_at_call 86; refine (callsIn_wide.2 (HG.out _ HB.out)).mono ?_; clear c1 c3; rintro e y ⟨rfl, hb⟩; have hNY := heap_alloc_new y (bnB (some ⟨sb, 0, none⟩) ka N nk sc kc); have hbn := below_new y (bnB (some ⟨sb, 0, none⟩) ka N nk sc kc); have HB2 := Lib.hid (bt HB.out (bt hb hbn)); have E3 := Lib.hid (box_on D3.out (bt hb hbn)); have E5 := Lib.hid (box_on D5.out (bt hb hbn)); have E6 := Lib.hid (box_on D6.out (bt hb hbn)); have hlt6 := lt_of_block (box_on D6.out hb); have n0' : (y.alloc (bnB (some ⟨sb, 0, none⟩) ka N nk sc kc)).cell? ⟨y.heap.size, 0, none⟩ = some (.slice (some ⟨sb, 0, none⟩) N sc) := (cell_of_row _ _ 0 _ _ _ hNY).trans rfl; have HNY := Lib.hid hNY; clear hNY hb hbn D3 D5 D6 HB)
  refine ⟨trivial, ?_⟩
  gi_at_call 87
  refine (callsIn_wide.2 (sback_any (some ⟨sb, 0, none⟩) N sc _)).mono ?_
  clear n0'
  rintro e w' ⟨rfl, rfl⟩
  have hbc := below_new (y.alloc (bnB (some ⟨sb, 0, none⟩) ka N nk sc kc)) (.cells #[.slice (some ⟨sb, 0, none⟩) N sc] 32)
  have DC := Lib.hid (heap_alloc_new (y.alloc (bnB (some ⟨sb, 0, none⟩) ka N nk sc kc)) (.cells #[.slice (some ⟨sb, 0, none⟩) N sc] 32))
  have DN := Lib.hid (box_on HNY.out hbc)
  have HB := Lib.hid (bt HB2.out hbc)
  have D3 := Lib.hid (box_on E3.out hbc)
  have D5 := Lib.hid (box_on E5.out hbc)
  have D6 := Lib.hid (box_on E6.out hbc)
  have hBnc : y.heap.size < (y.alloc (bnB (some ⟨sb, 0, none⟩) ka N nk sc kc)).heap.size := by simp
  clear hbc HNY E3 E5 E6 HB2
  generalize (y.alloc (bnB (some ⟨sb, 0, none⟩) ka N nk sc kc)).heap.size = Bc at *
  generalize (y.alloc (bnB (some ⟨sb, 0, none⟩) ka N nk sc kc)).alloc (.cells #[.slice (some ⟨sb, 0, none⟩) N sc] 32) = Y at *
  generalize y.heap.size = Bn at *
  have hYs : Bc < Y.heap.size := lt_of_block DC.out
  have hKY : KpF n0 m0 w Y := KpF.of_below HB.out hn0
  have HROW := Lib.hid (HS.out Y hKY)
  have hdd : ∀ m : Nat, (Fence.wide.depth.isSome = true → 1 ≤ m) := fun m h => by cases h
  obtain ⟨Q, HQ⟩ : ∃ Q : Nat → Prop, Hid (Q = fun b => b = Bc ∨ (Value.slice (some ⟨sb, 0, none⟩) N sc).ownBlock = some b) := ⟨_, rfl⟩
  have HQ1 : Hid (∀ b, Q b → b < Y.heap.size ∧ (b < n0 ∨ m0 ≤ b)) := fun b hb => by
    rw [HQ.out] at hb
    rcases hb with rfl | hb
    · exact ⟨hYs, .inr (by omega)⟩
    · obtain rfl : sb = b := by injection hb
      exact ⟨by omega, .inl hsb⟩
  gi_wp2
  have hwY := HB.out.size
  have hJ' : ∀ j X X', PJ j X → Go.RowKit.Below w.heap.size X X' → PJ j X' := HJ.out
  refine wpIn_rangeN (gf := 101) (lb := #[.pointer (some ⟨Bc, 0, none⟩)]) rfl (enters_of Try.func101 (by kernel_rfl) rfl)
    (sback_seq Bc (some ⟨sb, 0, none⟩) sc base xs Q Y (by rw [HNN.out]; exact DC.out) (by rw [HNN.out]; exact HROW.out) (by rw [HQ.out]; exact .inl rfl) (fun b hb => by rw [HQ.out]; exact .inr hb) (by have := HNN.out; omega)) kpQ.trans (kpQ_b (fun b hb => (HQ1.out b hb).1)) (Go.RowKit.Below.refl _ _) (fun _ => rfl)
    (FlI n0 m0 PJ Y) (FlX n0 m0 (w.heap.size + 1 + 1) PX w Y) (flI_own hJ' (by omega) hwY) (fun c => flX_own HXX.out hn0 hwY (lt_of_block D6.out) hwY c)
    ⟨H0.out _ HB.out, KpF.refl _ _ _⟩ ?round ?done ?stop
  case stop =>
    rintro D j c V hD hj ⟨⟨rfl, k6⟩, kx, kk, ks⟩ hK
    have HK2 := Lib.hid hK
    have hb := belowK_b (n₀ := Y.heap.size) (w := Y) (Nat.le_refl _) V D (.deferred (some [])) (.deferred none) hD HK2.out rfl rfl
    have c6 : (V.putObj D (.deferred none)).cell? ⟨w.heap.size + 1 + 1, 0, none⟩ = some (.bool false) := (cell_of_row _ _ 0 _ _ _ ((hb.block _ (lt_of_block D6.out)).trans k6)).trans rfl
    have HF : Hid (KpF n0 m0 w (V.putObj D (.deferred none)) ∧ PX (V.putObj D (.deferred none))) := ⟨kk.cut hn0 (by omega) (hb.mono hwY), HXX.out _ _ kx (hb.mono hwY)⟩
    clear hK k6 kx kk hb
    gi_wp2
    refine ⟨by simp, .inl ⟨_, _, rfl, run_takeDeferred HK2.out, ?_⟩⟩
    refine ⟨.bool false, by simp [results, Try.results66, go_sem, c6], HF.out.1, .inr ⟨rfl, HF.out.2⟩⟩
  case done =>
    rintro D V hD ⟨hpj, hkp⟩ hK
    rw [HNN.out] at hpj
    have hYV := hkp.1.size
    have hVd := below_drewB V
    have hkv : KpF n0 m0 Y V.drew := hkp.trans (KpF.of_below hVd (by omega))
    have hkw : KpF n0 m0 w V.drew := hKY.trans hkv
    have keep : ∀ b o, Y.heap[b]? = some o → w.heap.size ≤ b → V.drew.heap[b]? = some o := fun b o hb hge => (hkv.2 b (by omega) (lt_of_block hb)).trans hb
    have G3 := Lib.hid (keep _ _ D3.out (Nat.le_refl _))
    have G5 := Lib.hid (keep _ _ D5.out (by omega))
    have G6 := Lib.hid (keep _ _ D6.out (by omega))
    have HKD := Lib.hid (HK.out V.drew Bn 0 hkw (Nat.zero_le _) (keep _ _ DN.out (by omega)))
    have HFD := Lib.hid (HE.out V.drew (HJ.out _ _ _ hpj (hVd.mono (by omega))) hkw)
    have HKW := Lib.hid hkw
    have p3 : V.drew.cell? ⟨w.heap.size, 0, none⟩ = some (aP T) := (cell_of_row _ _ 0 _ _ _ G3.out).trans rfl
    have p5 : V.drew.cell? ⟨w.heap.size + 1, 0, none⟩ = some (.func (.yield l) #[] #[]) := (cell_of_row _ _ 0 _ _ _ G5.out).trans rfl
    have hDK : V.drew.heap[D]? = some (.deferred (some [])) := hK
    have HDK := Lib.hid hDK
    have HFIN : Hid (∀ Z b, KpF n0 m0 V.drew Z → ((b = true ∧ PA Z) ∨ (b = false ∧ PX Z)) → Z.cell? ⟨w.heap.size + 1 + 1, 0, none⟩ = some (.bool false) ∧ Z.frozen? ⟨w.heap.size + 1 + 1, 0, none⟩ = false ∧ (Z.setCell ⟨w.heap.size + 1 + 1, 0, none⟩ (.bool b)).heap[D]? = some (.deferred (some [])) ∧
        ((Z.setCell ⟨w.heap.size + 1 + 1, 0, none⟩ (.bool b)).putObj D (.deferred none)).cell? ⟨w.heap.size + 1 + 1, 0, none⟩ = some (.bool b) ∧
        KpF n0 m0 w ((Z.setCell ⟨w.heap.size + 1 + 1, 0, none⟩ (.bool b)).putObj D (.deferred none)) ∧ ((Ending.returned (.bool b) = .returned (.bool true) ∧ PA ((Z.setCell ⟨w.heap.size + 1 + 1, 0, none⟩ (.bool b)).putObj D (.deferred none))) ∨ (Ending.returned (.bool b) = .returned (.bool false) ∧ PX ((Z.setCell ⟨w.heap.size + 1 + 1, 0, none⟩ (.bool b)).putObj D (.deferred none))))) := fun Z b hz hb => by
      have h6 := lt_of_block D6.out
      have hsz := hz.1.size
      have hV : V.drew.heap.size = V.heap.size := rfl
      have q4 : Z.heap[w.heap.size + 1 + 1]? = some (boO false) := (hz.2 _ (by omega) (lt_of_block G6.out)).trans G6.out
      have hbs : Go.RowKit.Below w.heap.size Z (Z.setCell ⟨w.heap.size + 1 + 1, 0, none⟩ (.bool b)) := (Go.RowKit.Below.refl w.heap.size Z).setCell (p := ⟨w.heap.size + 1 + 1, 0, none⟩) (by simp; omega) _
      have hd0 : (Z.setCell ⟨w.heap.size + 1 + 1, 0, none⟩ (.bool b)).heap[D]? = some (.deferred (some [])) := (Go.RowKit.Below.heap_setCell Z ⟨w.heap.size + 1 + 1, 0, none⟩ (.bool b) D (fun e => by dsimp only at e; omega)).trans ((hz.2 D (by omega) (lt_of_block HDK.out)).trans HDK.out)
      have hb2 := belowK_b (n₀ := w.heap.size) (w := Y) hwY (Z.setCell ⟨w.heap.size + 1 + 1, 0, none⟩ (.bool b)) D (.deferred (some [])) (.deferred none) (by omega) hd0 rfl rfl
      have hbb := hbs.trans hb2
      refine ⟨(cell_of_row _ _ 0 _ _ _ q4).trans rfl, frozen_of_row _ _ 0 _ _ q4, hd0, (cell_of_row _ _ 0 _ _ _ ((World.putObj_heap_other (by omega)).trans (heap_setCell_same Z (w.heap.size + 1 + 1) 0 _ _ (.bool b) q4))).trans rfl, (HKW.out.trans hz).cut hn0 (by omega) hbb, ?_⟩
      rcases hb with ⟨rfl, hp⟩ | ⟨rfl, hp⟩
      · exact .inl ⟨rfl, HAA.out _ _ hp hbb⟩
      · exact .inr ⟨rfl, HXX.out _ _ hp hbb⟩
    clear hVd hkv hkw keep hpj hkp hK hDK
    gi_wp2
    gi_region_with_o (refine ⟨trivial, ?_⟩; first
      | (gi_at_call 51; refine (callsIn_wide.2 HKD.out).mono ?_; rintro e y ⟨rfl, rfl⟩)
      | (gi_at_call 66; refine (callsIn_wide.2 HFD.out).mono ?_; rintro e W1 ⟨hk1, h2⟩; obtain ⟨b2, rfl, h3⟩ := two_waysF h2; have HZ := Lib.hid (HFIN.out W1 b2 hk1 h3); have c6 := HZ.out.1; have f6 := HZ.out.2.1; clear hk1 h3 h2 p3 p5))
    all_goals
      clear c6 f6
      gi_wp2
      refine ⟨by simp, .inl ⟨_, _, rfl, run_takeDeferred HZ.out.2.2.1, ?_⟩⟩
      have c7 := HZ.out.2.2.2.1
      exact ⟨.bool b2, by simp [results, Try.results66, go_sem, c7], HZ.out.2.2.2.2.1, HZ.out.2.2.2.2.2⟩
  case round =>
    rintro lr j W K hj ⟨hpj, hkp⟩ hK
    rw [HNN.out] at hj
    obtain ⟨M, hM⟩ : ∃ M : Nat, xs.length - 1 - j = M := ⟨_, rfl⟩
    obtain ⟨g, hg⟩ : ∃ g, xs.getD M Bo.g0 = g := ⟨_, rfl⟩
    have HM := Lib.hid hM
    have hMj : N - j = M + 1 := by have := HNN.out; omega
    have hRj := HR.out j
    rw [show N - 1 - j = M by omega, hMj, hg] at hRj
    have HRJ := Lib.hid hRj
    simp only [hM, hg]
    have HW := Lib.hid (⟨hpj, hkp⟩ : FlI n0 m0 PJ Y j W)
    have hYW := hkp.1.size
    clear hpj hkp hM hg hRj
    gi_wp2
    have hb6 := below_new W (oG g)
    have hqn : ∀ b, Q b → b < W.heap.size := fun b hb => by have := (HQ1.out b hb).1; omega
    refine hK _ _ ((KeepsOthers.alloc _ _).from _) (fun b hb => hb6.block b (hqn b hb)) ⟨fun i V => (FlI n0 m0 PJ Y i V ∧ V.heap[W.heap.size]? = some (oG g)) ∧ W.heap.size < V.heap.size, ?_, ⟨⟨own_after (flI_own hJ' (by omega) hwY) HW.out hb6, heap_alloc_new W (oG g)⟩, by simp⟩, ?_⟩
    · exact fun s X X' row hs hg hr => ⟨⟨flI_own hJ' (by omega) hwY s X X' row hs.1.1 hg hr, own_from_box rfl hs.1.2 hg hr⟩, Nat.lt_of_lt_of_le hs.2 hg.size⟩
    rintro V ⟨⟨⟨hpj, hkp⟩, hS⟩, hWV⟩
    clear hb6 hqn HW
    generalize W.heap.size = BX at *
    have hVd := below_drewB V
    have hkv : KpF n0 m0 Y V.drew := hkp.trans (KpF.of_below hVd (by omega))
    have hkw : KpF n0 m0 w V.drew := hKY.trans hkv
    have keep : ∀ b o, Y.heap[b]? = some o → w.heap.size ≤ b → V.drew.heap[b]? = some o := fun b o hb hge => (hkv.2 b (by omega) (lt_of_block hb)).trans hb
    have G3 := Lib.hid (keep _ _ D3.out (Nat.le_refl _))
    have G5 := Lib.hid (keep _ _ D5.out (by omega))
    have G6 := Lib.hid (keep _ _ D6.out (by omega))
    have GX : Hid (V.drew.heap[BX]? = some (oG g)) := hS
    have hkd := HK.out V.drew Bn (M + 1) hkw (by omega) (keep _ _ DN.out (by omega))
    rw [show ((M + 1 : Nat) : Int) = (M : Int) + 1 by omega] at hkd
    have HKD := Lib.hid hkd
    clear hkd
    have HFD := Lib.hid (HRJ.out V.drew (by omega) (HJ.out _ _ _ hpj (hVd.mono (by omega))) hkw)
    have HKV := Lib.hid hkv
    have HKW := Lib.hid hkw
    have hck : IntKind.i64.wrap ((M : Int) + 1) = (M : Int) + 1 := IntWalk.i64_in _ (by omega)
    have p3 : V.drew.cell? ⟨w.heap.size, 0, none⟩ = some (aP T) := (cell_of_row _ _ 0 _ _ _ G3.out).trans rfl
    have p5 : V.drew.cell? ⟨w.heap.size + 1, 0, none⟩ = some (.func (.yield l) #[] #[]) := (cell_of_row _ _ 0 _ _ _ G5.out).trans rfl
    have HFIN : Hid (∀ Z, KpF n0 m0 V.drew Z → KeepsFrom Y.heap.size V Z ∧ kpQ Q V Z ∧ KpF n0 m0 Y Z ∧ Z.heap[w.heap.size + 1 + 1]? = some (boO false)) := fun Z hz => by
      have hV : V.drew.heap.size = V.heap.size := rfl
      refine ⟨⟨hz.1.size, fun k o hk ho _ => (hz.2 k (by omega) (lt_of_block ho)).trans ho⟩, fun b hb => ?_, HKV.out.trans hz, (hz.2 _ (by omega) (lt_of_block G6.out)).trans G6.out⟩
      obtain ⟨q1, q2 | q2⟩ := HQ1.out b hb
      · exact hz.1.block b q2
      · exact hz.2 b q2 (by omega)
    have HFIX : Hid (∀ Z, KpF n0 m0 V.drew Z → PX Z → Z.cell? ⟨w.heap.size + 1 + 1, 0, none⟩ = some (.bool false) ∧ Z.frozen? ⟨w.heap.size + 1 + 1, 0, none⟩ = false ∧ KeepsFrom Y.heap.size V (Z.setCell ⟨w.heap.size + 1 + 1, 0, none⟩ (.bool false)) ∧ FlX n0 m0 (w.heap.size + 1 + 1) PX w Y .ret (j + 1) (Z.setCell ⟨w.heap.size + 1 + 1, 0, none⟩ (.bool false))) := fun Z hz hx => by
      obtain ⟨q1, q2, q3, q4⟩ := HFIN.out Z hz
      have h6 := lt_of_block D6.out
      have hV : V.drew.heap.size = V.heap.size := rfl
      have hsz := hz.1.size
      have hbs : Go.RowKit.Below w.heap.size Z (Z.setCell ⟨w.heap.size + 1 + 1, 0, none⟩ (.bool false)) := (Go.RowKit.Below.refl w.heap.size Z).setCell (p := ⟨w.heap.size + 1 + 1, 0, none⟩) (by simp; omega) _
      refine ⟨(cell_of_row _ _ 0 _ _ _ q4).trans rfl, frozen_of_row _ _ 0 _ _ q4, ⟨Nat.le_trans q1.size hbs.size, fun k o hk ho hc => (Go.RowKit.Below.heap_setCell Z ⟨w.heap.size + 1 + 1, 0, none⟩ (.bool false) k (fun e => by dsimp only at e; omega)).trans (q1.same k o hk ho hc)⟩, ⟨rfl, heap_setCell_same Z (w.heap.size + 1 + 1) 0 _ _ (.bool false) q4⟩, HXX.out _ _ hx hbs, (HKW.out.trans hz).cut hn0 (by omega) hbs, ?_⟩
      have := hbs.size
      omega
    clear hVd hkv hkw keep hpj hkp hS HRJ
    gi_wp2
    refine wpIn_region_any (by assumption) (wpAnyIn_unround (by kernel_rfl) _ _ _ _ ?_)
    try (change wpAnyIn _ _ _ _ _ _ _ _ _ (World.drew _))
    refine wpAnyIn_take (i := 1) (v := ?_) rfl rfl (by kernel_rfl) (by kernel_rfl) (by kernel_rfl) (fun _ _ _ h => h) ⟨Or.inl ⟨by rfl, ?_⟩, fun _ => rfl⟩ ?_
    rotate_left
    · intro w0; go_simp; all_goals (with_reducible rfl)
    refine wpAnyIn_take (i := 2) (v := ?_) rfl rfl (by kernel_rfl) (by kernel_rfl) (by kernel_rfl) (fun _ _ _ h => h) ⟨Or.inl ⟨by rfl, ?_⟩, fun _ => rfl⟩ ?_
    rotate_left
    · intro w0; go_simp; all_goals (with_reducible rfl)
    refine wpAnyIn_ready (rs := [0, 3, 4]) (by kernel_rfl) (by simp) ?_
    refine AllReadyIn.cons rfl (fun K hK => ?_) (AllReadyIn.cons rfl (fun K hK => ?_) (AllReadyIn.cons rfl (fun K hK => ?_) AllReadyIn.nil))
    focus
      go_simp
      refine hK _ _ ?_
      clear hK K
      refine wpAnyIn_ready (rs := [3, 4]) (by kernel_rfl) (by simp) ?_
      refine AllReadyIn.cons rfl (fun K hK => ?_) (AllReadyIn.cons rfl (fun K hK => ?_) AllReadyIn.nil)
      focus
        go_simp
        refine ⟨trivial, ?_⟩
        gi_at_call 51
        refine (callsIn_wide.2 HKD.out).mono ?_
        rintro e y ⟨rfl, rfl⟩
        refine hK _ _ ?_
        clear hK K
        refine wpAnyIn_ready (rs := [4]) (by kernel_rfl) (by simp) ?_
        refine AllReadyIn.cons rfl (fun K hK => ?_) AllReadyIn.nil
        focus
          go_simp
          refine hK _ _ ?_
          clear hK K
      rotate_left 1
      focus
        go_simp
        refine hK _ _ ?_
        clear hK K
        refine wpAnyIn_ready (rs := [3]) (by kernel_rfl) (by simp) ?_
        refine AllReadyIn.cons rfl (fun K hK => ?_) AllReadyIn.nil
        focus
          go_simp
          refine ⟨trivial, ?_⟩
          gi_at_call 51
          refine (callsIn_wide.2 HKD.out).mono ?_
          rintro e y ⟨rfl, rfl⟩
          refine hK _ _ ?_
          clear hK K
      rotate_left 1
    rotate_left 2
    focus
      go_simp
      refine ⟨trivial, ?_⟩
      gi_at_call 51
      refine (callsIn_wide.2 HKD.out).mono ?_
      rintro e y ⟨rfl, rfl⟩
      refine hK _ _ ?_
      clear hK K
      refine wpAnyIn_ready (rs := [0, 4]) (by kernel_rfl) (by simp) ?_
      refine AllReadyIn.cons rfl (fun K hK => ?_) (AllReadyIn.cons rfl (fun K hK => ?_) AllReadyIn.nil)
      focus
        go_simp
        refine hK _ _ ?_
        clear hK K
        refine wpAnyIn_ready (rs := [4]) (by kernel_rfl) (by simp) ?_
        refine AllReadyIn.cons rfl (fun K hK => ?_) AllReadyIn.nil
        focus
          go_simp
          refine hK _ _ ?_
          clear hK K
      rotate_left 1
      focus
        go_simp
        refine hK _ _ ?_
        clear hK K
        refine wpAnyIn_ready (rs := [0]) (by kernel_rfl) (by simp) ?_
        refine AllReadyIn.cons rfl (fun K hK => ?_) AllReadyIn.nil
        focus
          go_simp
          refine hK _ _ ?_
          clear hK K
      rotate_left 1
    rotate_left 2
    focus
      go_simp
      refine hK _ _ ?_
      clear hK K
      refine wpAnyIn_ready (rs := [0, 3]) (by kernel_rfl) (by simp) ?_
      refine AllReadyIn.cons rfl (fun K hK => ?_) (AllReadyIn.cons rfl (fun K hK => ?_) AllReadyIn.nil)
      focus
        go_simp
        refine hK _ _ ?_
        clear hK K
        refine wpAnyIn_ready (rs := [3]) (by kernel_rfl) (by simp) ?_
        refine AllReadyIn.cons rfl (fun K hK => ?_) AllReadyIn.nil
        focus
          go_simp
          refine ⟨trivial, ?_⟩
          gi_at_call 51
          refine (callsIn_wide.2 HKD.out).mono ?_
          rintro e y ⟨rfl, rfl⟩
          refine hK _ _ ?_
          clear hK K
      rotate_left 1
      focus
        go_simp
        refine ⟨trivial, ?_⟩
        gi_at_call 51
        refine (callsIn_wide.2 HKD.out).mono ?_
        rintro e y ⟨rfl, rfl⟩
        refine hK _ _ ?_
        clear hK K
        refine wpAnyIn_ready (rs := [0]) (by kernel_rfl) (by simp) ?_
        refine AllReadyIn.cons rfl (fun K hK => ?_) AllReadyIn.nil
        focus
          go_simp
          refine hK _ _ ?_
          clear hK K
      rotate_left 1
    rotate_left 2
    all_goals
      refine wpAnyIn_ready (rs := [5]) (by kernel_rfl) (by simp) ?_
      refine AllReadyIn.cons rfl (fun K hK => ?_) AllReadyIn.nil
      go_simp
      refine ⟨trivial, ?_⟩
      gi_at_call 66
      refine (callsIn_wide.2 HFD.out).mono ?_
      rintro e W1 ⟨hk1, ⟨rfl, hyl⟩ | ⟨rfl, hx1⟩⟩
      · dsimp only
        refine hK _ _ ?_
        clear hK K
        have HK1 := Lib.hid hk1
        obtain ⟨fn, tmps, assign, body, hy, hR⟩ := hyl 3
        have HRR := Lib.hid hR
        have p5' : W1.cell? ⟨w.heap.size + 1, 0, none⟩ = some (.func (.yield l) #[] #[]) := (cell_of_row _ _ 0 _ _ _ ((hk1.2 _ (by omega) (lt_of_block G5.out)).trans G5.out)).trans rfl
        obtain ⟨s0, s1, s2, s3, s4⟩ := five_cells ((hk1.2 _ (by omega) (lt_of_block GX.out)).trans GX.out)
        simp only [Nat.zero_add] at s1 s2 s3 s4
        clear hk1 hyl hR p3 p5
        refine wpAnyIn_take (i := 6) (v := ?_) rfl rfl (by kernel_rfl) (by kernel_rfl) (by kernel_rfl) (fun _ _ _ h => h) ⟨Or.inl ⟨by rfl, ?_⟩, fun _ => rfl⟩ ?_
        rotate_left
        · intro w0; go_simp; all_goals (with_reducible rfl)
        refine wpAnyIn_take (i := 7) (v := ?_) rfl rfl (by kernel_rfl) (by kernel_rfl) (by kernel_rfl) (fun _ _ _ h => h) ⟨Or.inl ⟨by rfl, ?_⟩, fun _ => rfl⟩ ?_
        rotate_left
        · intro w0; go_simp; all_goals (with_reducible rfl)
        refine wpAnyIn_ready (rs := [8, 9]) (by kernel_rfl) (by simp) ?_
        refine AllReadyIn.cons rfl (fun K hK => ?_) (AllReadyIn.cons rfl (fun K hK => ?_) AllReadyIn.nil)
        focus
          go_simp
          refine hK _ _ ?_
          clear hK K
          refine wpAnyIn_ready (rs := [9]) (by kernel_rfl) (by simp) ?_
          refine AllReadyIn.cons rfl (fun K hK => ?_) AllReadyIn.nil
          go_simp
          refine hK _ _ ?_
          clear hK K
        rotate_left 1
        focus
          go_simp
          refine hK _ _ ?_
          clear hK K
          refine wpAnyIn_ready (rs := [8]) (by kernel_rfl) (by simp) ?_
          refine AllReadyIn.cons rfl (fun K hK => ?_) AllReadyIn.nil
          go_simp
          refine hK _ _ ?_
          clear hK K
        rotate_left 1
        all_goals
          refine wpAnyIn_ready (rs := [10]) (by kernel_rfl) (by simp) ?_
          refine AllReadyIn.cons rfl (fun K hK => ?_) AllReadyIn.nil
          go_simp
          skip
          refine HRR.out.mono ?_
          clear HRR s0 s1 s2 s3 s4 p5'
          rintro e W3 ⟨hk3, ⟨rfl, hp3⟩ | ⟨rfl, hx3⟩⟩
          · dsimp only
            refine hK _ _ ?_
            clear hK K
            refine wpAnyIn_take (i := 11) (v := ?_) rfl rfl (by kernel_rfl) (by kernel_rfl) (by kernel_rfl) (fun _ _ _ h => h) ⟨Or.inl ⟨by rfl, ?_⟩, fun _ => rfl⟩ ?_
            rotate_left
            · intro w0; go_simp; all_goals (with_reducible rfl)
            refine wpAnyIn_take (i := 12) (v := ?_) rfl rfl (by kernel_rfl) (by kernel_rfl) (by kernel_rfl) (fun _ _ _ h => h) ⟨Or.inl ⟨by rfl, ?_⟩, fun _ => rfl⟩ ?_
            rotate_left
            · intro w0; go_simp; all_goals (with_reducible rfl)
            refine wpAnyIn_done (by kernel_rfl) ?_ _
            have HK3 := Lib.hid (HFIN.out _ (HK1.out.trans hk3))
            have HP3 := Lib.hid hp3
            clear hk3 hp3
            gi_wp2
            exact ⟨HK3.out.1, HK3.out.2.1, HP3.out, HK3.out.2.2.1⟩
          · dsimp only
            refine hK _ _ ?_
            clear hK K
            refine wpAnyIn_take (i := 11) (v := ?_) rfl rfl (by kernel_rfl) (by kernel_rfl) (by kernel_rfl) (fun _ _ _ h => h) ⟨Or.inl ⟨by rfl, ?_⟩, fun _ => rfl⟩ ?_
            rotate_left
            · intro w0; go_simp; all_goals (with_reducible rfl)
            refine wpAnyIn_take (i := 12) (v := ?_) rfl rfl (by kernel_rfl) (by kernel_rfl) (by kernel_rfl) (fun _ _ _ h => h) ⟨Or.inl ⟨by rfl, ?_⟩, fun _ => rfl⟩ ?_
            rotate_left
            · intro w0; go_simp; all_goals (with_reducible rfl)
            refine wpAnyIn_done (by kernel_rfl) ?_ _
            have HZ := Lib.hid (HFIX.out _ (HK1.out.trans hk3) hx3)
            have c6 := HZ.out.1
            have f6 := HZ.out.2.1
            clear hx3
            gi_wp2
            exact ⟨HZ.out.2.2.1, HZ.out.2.2.2⟩
      · dsimp only
        refine hK _ _ ?_
        clear hK K
        have HK1 := Lib.hid hk1
        have HX1 := Lib.hid hx1
        clear hk1 hx1 p3 p5
        refine wpAnyIn_take (i := 6) (v := ?_) rfl rfl (by kernel_rfl) (by kernel_rfl) (by kernel_rfl) (fun _ _ _ h => h) ⟨Or.inl ⟨by rfl, ?_⟩, fun _ => rfl⟩ ?_
        rotate_left
        · intro w0; go_simp; all_goals (with_reducible rfl)
        refine wpAnyIn_take (i := 7) (v := ?_) rfl rfl (by kernel_rfl) (by kernel_rfl) (by kernel_rfl) (fun _ _ _ h => h) ⟨Or.inl ⟨by rfl, ?_⟩, fun _ => rfl⟩ ?_
        rotate_left
        · intro w0; go_simp; all_goals (with_reducible rfl)
        refine wpAnyIn_ready (rs := [8, 9]) (by kernel_rfl) (by simp) ?_
        refine AllReadyIn.cons rfl (fun K hK => ?_) (AllReadyIn.cons rfl (fun K hK => ?_) AllReadyIn.nil)
        focus
          go_simp
          refine hK _ _ ?_
          clear hK K
          refine wpAnyIn_ready (rs := [9]) (by kernel_rfl) (by simp) ?_
          refine AllReadyIn.cons rfl (fun K hK => ?_) AllReadyIn.nil
          go_simp
          refine hK _ _ ?_
          clear hK K
        rotate_left 1
        focus
          go_simp
          refine hK _ _ ?_
          clear hK K
          refine wpAnyIn_ready (rs := [8]) (by kernel_rfl) (by simp) ?_
          refine AllReadyIn.cons rfl (fun K hK => ?_) AllReadyIn.nil
          go_simp
          refine hK _ _ ?_
          clear hK K
        rotate_left 1
        all_goals
          refine wpAnyIn_ready (rs := [10]) (by kernel_rfl) (by simp) ?_
          refine AllReadyIn.cons rfl (fun K hK => ?_) AllReadyIn.nil
          go_simp
          refine ⟨fun _ h => (by cases h), ?_⟩
          refine hK _ _ ?_
          clear hK K
          refine wpAnyIn_ready (rs := [11]) (by kernel_rfl) (by simp) ?_
          refine AllReadyIn.cons rfl (fun K hK => ?_) AllReadyIn.nil
          go_simp
          refine hK _ _ ?_
          clear hK K
          refine wpAnyIn_take (i := 12) (v := ?_) rfl rfl (by kernel_rfl) (by kernel_rfl) (by kernel_rfl) (fun _ _ _ h => h) ⟨Or.inl ⟨by rfl, ?_⟩, fun _ => rfl⟩ ?_
          rotate_left
          · intro w0; go_simp; all_goals (with_reducible rfl)
          refine wpAnyIn_done (by kernel_rfl) ?_ _
          have HZ := Lib.hid (HFIX.out _ (HK1.out) HX1.out)
          have c6 := HZ.out.1
          have f6 := HZ.out.2.1
          skip
          gi_wp2
          exact ⟨HZ.out.2.2.1, HZ.out.2.2.2⟩
end Go.Proofs.Ytjgcdmeojjnjlaa
/- Down: through the tree, by falling keys. -/
namespace Go.Proofs.Ytjgcdmeojjnjlaa
open Go.RowKit Go.Sort Go.Shelf Go.Proofs.Ytjgcdmeojjnjlaa.Bo Go.Proofs.Ytjgcdmeojjnjlaa.Bb Go.Proofs.Ytjgcdmeojjnjlaa.Rf
set_option linter.unusedVariables false
set_option maxRecDepth 100000
attribute [local go_sem] Oper.semAt_some
section
variable {T A l n0 m0 base : Nat} {t : Bx} {a : Ag Rn} {S0 : Nat → Prop} {J Jx : List G5 → World → Prop} {W0 : World} {LR : List G5}
/-- What came of a way through R. -/
def WentF (n0 m0 : Nat) (J Jx : List G5 → World → Prop) (pre R : List G5) (W : World) (e : Ending) (W' : World) : Prop :=
  KpF n0 m0 W W' ∧ ((e = .returned (.bool true) ∧ J (pre ++ R) W') ∨ (e = .returned (.bool false) ∧ ∃ q, q <+: R ∧ Jx (pre ++ q) W'))
set_option maxHeartbeats 1000000 in
theorem bfall_node (hn : n0 ≤ W0.heap.size) (hm : m0 ≤ W0.heap.size) (hS0 : ∀ b, btS T t a S0 b → b < n0)
    (hJ : ∀ pre X Y, J pre X → Go.RowKit.Below W0.heap.size X Y → J pre Y) (hJx : ∀ pre X Y, Jx pre X → Go.RowKit.Below W0.heap.size X Y → Jx pre Y)
    (hY : ∀ m pre g W, J pre W → pre ++ [g] <+: LR → YieldAt Fence.wide m Try.prog l #[vG g] W fun e W' => KpF n0 m0 W W' ∧ ((e = .returned (.bool true) ∧ J (pre ++ [g]) W') ∨ (e = .returned (.bool false) ∧ Jx (pre ++ [g]) W')))
    (hT : ∀ W, KpF n0 m0 W0 W → BtW W base T A t a S0)
    (x : Bt) (hx : t.f (x.i : Int) = some ⟨x.s, x.ks.map Bt.idx⟩) (h1 : 1 ≤ x.s.length) (h2 : x.s.length ≤ 1000) (hkn : x.ks.length = 0 ∨ x.ks.length = x.s.length + 1) (dnX rowC : Nat → List G5) (R : List G5) (u0 : dnX x.s.length = []) (us : ∀ k (hk : k < x.s.length), dnX k = dnX (k + 1) ++ (rowC (k + 1) ++ [x.s[k]])) (uR : R = dnX 0 ++ rowC 0)
    (dp : ∀ k, k ≤ x.s.length → dnX k ++ rowC k <+: R)
    (hch : ∀ j, j ≤ x.s.length → ∀ (pre : List G5) (W : World), KpF n0 m0 W0 W → W0.heap.size ≤ W.heap.size → J pre W → pre ++ rowC j <+: LR → Calls Try.prog 66 #[aP T, .int .i64 (kidV ⟨x.s, x.ks.map Bt.idx⟩ j), .func (.yield l) #[] #[]] W (WentF n0 m0 J Jx pre (rowC j) W)) :
    ∀ (pre : List G5) (W : World), KpF n0 m0 W0 W → W0.heap.size ≤ W.heap.size → J pre W → pre ++ R <+: LR → Calls Try.prog 66 #[aP T, .int .i64 x.idx, .func (.yield l) #[] #[]] W (WentF n0 m0 J Jx pre R W) := by
  intro pre W hW hsz hj hM
  have hWt := hT W hW
  have hc0 : W.cell? ⟨T, 1, none⟩ = some (aP A) := (cell_of_row _ _ 1 _ _ _ hWt.top).trans rfl
  have hnd := hWt.node x.i _ hx
  have hxn : t.f (x.i : Int) ≠ none := by rw [hx]; simp
  obtain ⟨en, ek⟩ := hnd.nums
  have es : (a.l.getD x.i bnZ).s.v = .slice (a.l.getD x.i bnZ).s.a x.s.length (a.l.getD x.i bnZ).s.c := by rw [← show (a.l.getD x.i bnZ).s.n = x.s.length from en]
  have ek2 : (a.l.getD x.i bnZ).k.v = .slice (a.l.getD x.i bnZ).k.a (x.ks.map Bt.idx).length (a.l.getD x.i bnZ).k.c := by rw [← show (a.l.getD x.i bnZ).k.n = (x.ks.map Bt.idx).length from ek]
  have hs0 : W.ownsRow base 38 5 (.slice (a.l.getD x.i bnZ).s.a x.s.length (a.l.getD x.i bnZ).s.c) x.s.length (flatG x.s) := es ▸ hnd.s
  obtain ⟨sb, hsb, _, _, _⟩ := own_atG hs0 rfl 0 h1
  have es3 : (a.l.getD x.i bnZ).s.v = .slice (some ⟨sb, 0, none⟩) x.s.length (a.l.getD x.i bnZ).s.c := by rw [es, hsb]
  have hget : ∀ W', Go.RowKit.Below W.heap.size W W' → Calls Try.prog 86 #[aP A, .int .i64 x.idx] W' fun e w' => e = .returned (.tuple #[bnV (some ⟨sb, 0, none⟩) (a.l.getD x.i bnZ).k.a x.s.length (x.ks.map Bt.idx).length (a.l.getD x.i bnZ).s.c (a.l.getD x.i bnZ).k.c, .bool true]) ∧ Go.RowKit.Below W'.heap.size W' w' := fun W' hb => by
    have hWt' := hWt.below hb
    have hget := bnget_yes hWt'.ar hWt'.ok x.i ((hWt'.is x.i).2 hxn) _ rfl
    rw [hsb, show (a.l.getD x.i bnZ).s.n = x.s.length from en, show (a.l.getD x.i bnZ).k.n = (x.ks.map Bt.idx).length from ek] at hget
    exact hget
  have hsbl : sb < n0 := hS0 sb (.inr (.inr ⟨x.i, hxn, .inl (by rw [es3]; rfl)⟩))
  have pt : ∀ (X : World) (Bn : Nat), KpF n0 m0 W0 X → X.heap[Bn]? = some (bnB (some ⟨sb, 0, none⟩) (a.l.getD x.i bnZ).k.a x.s.length (x.ks.map Bt.idx).length (a.l.getD x.i bnZ).s.c (a.l.getD x.i bnZ).k.c) → NdPt X base (.pointer (some ⟨Bn, 0, none⟩)) ⟨x.s, x.ks.map Bt.idx⟩ := fun X Bn hX hB =>
    ⟨Bn, 0, a.l.getD x.i bnZ, rfl, by rw [es3]; exact (cell_of_row _ _ 0 _ _ _ hB).trans rfl, by rw [ek2]; exact (cell_of_row _ _ 1 _ _ _ hB).trans rfl, (hT X hX).node x.i _ hx⟩
  have kl : ∀ j, j ≤ x.s.length → (⟨x.s, x.ks.map Bt.idx⟩ : Kn).kids.length ≠ 0 → j < (⟨x.s, x.ks.map Bt.idx⟩ : Kn).kids.length := fun j hj h => by
    have e : (⟨x.s, x.ks.map Bt.idx⟩ : Kn).kids.length = x.ks.length := List.length_map _
    rw [e] at h ⊢
    omega
  have pre1 : ∀ j, j ≤ x.s.length → (pre ++ dnX j) ++ rowC j <+: LR := fun j hj => by
    rw [List.append_assoc]
    exact ((List.prefix_append_right_inj pre).2 (dp j hj)).trans hM
  refine bfall_core T A l m0 n0 x.s.length (x.ks.map Bt.idx).length (a.l.getD x.i bnZ).s.c (a.l.getD x.i bnZ).k.c sb base (a.l.getD x.i bnZ).k.a x.idx x.s (fun j => kidV ⟨x.s, x.ks.map Bt.idx⟩ j)
    (fun j X => J (pre ++ dnX (x.s.length - j)) X) (fun X => J (pre ++ R) X) (fun X => ∃ q, q <+: R ∧ Jx (pre ++ q) X) W h2 rfl (by omega) (by omega) hc0 (hS0 T (.inl rfl)) (Lib.hid hget) (Lib.hid fun X hX => by have := (hT X (hW.trans hX)).node x.i _ hx; exact es3 ▸ this.s) hsbl
    (Lib.hid fun j X Y h hb => hJ _ X Y h (hb.mono hsz)) (Lib.hid fun X Y ⟨q, h, h'⟩ hb => ⟨q, h, hJx _ X Y h' (hb.mono hsz)⟩) (Lib.hid fun X Y h hb => hJ _ X Y h (hb.mono hsz))
    (Lib.hid fun X hb => by show J (pre ++ dnX (x.s.length - 0)) X; rw [Nat.sub_zero, u0, List.append_nil]; exact hJ _ _ _ hj (hb.mono hsz))
    (Lib.hid fun X Bn j hX hj' hB => bkid_any (pt X Bn (hW.trans hX) hB) j (kl j hj'))
    (Lib.hid fun j X hj' hp hX => ?_) (Lib.hid fun X hp hX => ?_)
  · obtain ⟨k, hk⟩ : ∃ k, x.s.length - 1 - j = k := ⟨_, rfl⟩
    have hkj : x.s.length - j = k + 1 := by omega
    have hkl : k < x.s.length := by omega
    have hp' : J (pre ++ dnX (x.s.length - j)) X := hp
    rw [hkj] at hp'
    have hg : x.s.getD k Bo.g0 = x.s[k] := by rw [List.getD_eq_getElem?_getD, List.getElem?_eq_getElem hkl]; rfl
    rw [hkj, hk, hg]
    have hpr := pre1 (k + 1) (by omega)
    refine (hch (k + 1) (by omega) (pre ++ dnX (k + 1)) X (hW.trans hX) (Nat.le_trans hsz hX.1.size) hp' hpr).mono ?_
    rintro e W1 ⟨hk1, ⟨rfl, hj1⟩ | ⟨rfl, q, hq, hx1⟩⟩
    · refine ⟨hk1, .inl ⟨rfl, fun m => ?_⟩⟩
      have e1 : (pre ++ dnX (k + 1) ++ rowC (k + 1)) ++ [x.s[k]] = pre ++ dnX k := by rw [us k hkl]; simp [List.append_assoc]
      have hp2 : (pre ++ dnX (k + 1) ++ rowC (k + 1)) ++ [x.s[k]] <+: LR := by
        rw [e1]
        exact (List.prefix_append _ _).trans (pre1 k (by omega))
      refine (hY m _ x.s[k] W1 hj1 hp2).mono ?_
      rintro e W3 ⟨hk3, ⟨rfl, hj3⟩ | ⟨rfl, hx3⟩⟩
      · refine ⟨hk3, .inl ⟨rfl, ?_⟩⟩
        show J (pre ++ dnX (x.s.length - (j + 1))) W3
        rw [show x.s.length - (j + 1) = k by omega, ← e1]
        exact hj3
      · refine ⟨hk3, .inr ⟨rfl, dnX k, (List.prefix_append _ _).trans (dp k (by omega)), ?_⟩⟩
        rw [← e1]
        exact hx3
    · exact ⟨hk1, .inr ⟨rfl, dnX (k + 1) ++ q, ((List.prefix_append_right_inj _).2 hq).trans (dp (k + 1) (by omega)), by simpa using hx1⟩⟩
  · have hp' : J (pre ++ dnX (x.s.length - x.s.length)) X := hp
    rw [Nat.sub_self] at hp'
    refine (hch 0 (Nat.zero_le _) (pre ++ dnX 0) X (hW.trans hX) (Nat.le_trans hsz hX.1.size) hp' (pre1 0 (Nat.zero_le _))).mono ?_
    rintro e W1 ⟨hk1, ⟨rfl, hj1⟩ | ⟨rfl, q, hq, hx1⟩⟩
    · exact ⟨hk1, .inl ⟨rfl, by rw [uR]; simpa using hj1⟩⟩
    · exact ⟨hk1, .inr ⟨rfl, dnX 0 ++ q, ((List.prefix_append_right_inj _).2 hq).trans (dp 0 (Nat.zero_le _)), by simpa using hx1⟩⟩
set_option maxHeartbeats 1000000 in
theorem bfall_in (d : Nat) (hd2 : 2 ≤ d) (hd64 : d ≤ 64) (hn : n0 ≤ W0.heap.size) (hm : m0 ≤ W0.heap.size) (hS0 : ∀ b, btS T t a S0 b → b < n0)
    (hJ : ∀ pre X Y, J pre X → Go.RowKit.Below W0.heap.size X Y → J pre Y) (hJx : ∀ pre X Y, Jx pre X → Go.RowKit.Below W0.heap.size X Y → Jx pre Y)
    (hY : ∀ m pre g W, J pre W → pre ++ [g] <+: LR → YieldAt Fence.wide m Try.prog l #[vG g] W fun e W' => KpF n0 m0 W W' ∧ ((e = .returned (.bool true) ∧ J (pre ++ [g]) W') ∨ (e = .returned (.bool false) ∧ Jx (pre ++ [g]) W')))
    (hT : ∀ W, KpF n0 m0 W0 W → BtW W base T A t a S0) (hm1 : t.f (-1) = none) :
    ∀ (H : Nat) (x : Bt), RepB t.f H x → (DegR d H x ∨ Deg d H x) →
      ∀ (pre : List G5) (W : World), KpF n0 m0 W0 W → W0.heap.size ≤ W.heap.size → J pre W → pre ++ (Bt.ino H x).reverse <+: LR → Calls Try.prog 66 #[aP T, .int .i64 x.idx, .func (.yield l) #[] #[]] W (WentF n0 m0 J Jx pre (Bt.ino H x).reverse W) := by
  have nil : ∀ (pre : List G5) (W : World), KpF n0 m0 W0 W → W0.heap.size ≤ W.heap.size → J pre W → Calls Try.prog 66 #[aP T, .int .i64 (-1), .func (.yield l) #[] #[]] W (WentF n0 m0 J Jx pre [] W) := fun pre W hW hsz hj => by
    have hWt := hT W hW
    have hno : a.is (-1) = false := by
      cases e : a.is (-1) with
      | false => rfl
      | true => exact absurd hm1 ((hWt.is (-1)).1 e)
    refine (bfall_no T A l n0 m0 (-1) W ((cell_of_row _ _ 1 _ _ _ hWt.top).trans rfl) (Lib.hid fun W' hb => bnget_no (hWt.below hb).ar hWt.ok (-1) hno)).mono ?_
    rintro e W' ⟨rfl, hb⟩
    exact ⟨KpF.of_below hb (by omega), .inl ⟨rfl, by rw [List.append_nil]; exact hJ _ _ _ hj (hb.mono hsz)⟩⟩
  intro H
  induction H with
  | zero =>
    intro x hr hdeg
    have hk0 : x.ks = [] := hr.2
    obtain ⟨d1, d2⟩ : 1 ≤ x.s.length ∧ x.s.length + 1 ≤ 2 * d := by
      rcases hdeg with k | k
      · have := (degR_eq d 0 x).1 k; exact ⟨this.1.1, this.1.2⟩
      · have := (deg_eq d 0 x).1 k; exact ⟨by omega, this.1.2⟩
    have hkv : ∀ j, kidV ⟨x.s, x.ks.map Bt.idx⟩ j = -1 := fun j => by unfold kidV; rw [if_pos (by rw [hk0]; rfl)]
    exact bfall_node hn hm hS0 hJ hJx hY hT x hr.node d1 (by omega) (.inl (by rw [hk0]; rfl)) (fun k => (x.s.drop k).reverse) (fun _ => []) x.s.reverse (by show (x.s.drop x.s.length).reverse = []; rw [List.drop_length]; rfl) (fun k hk => by
      show (x.s.drop k).reverse = (x.s.drop (k + 1)).reverse ++ ([] ++ [x.s[k]])
      rw [List.drop_eq_getElem_cons hk, List.reverse_cons, List.nil_append]) (by
      show x.s.reverse = (x.s.drop 0).reverse ++ []
      rw [List.drop_zero, List.append_nil]) (fun k hk => by
      show (x.s.drop k).reverse ++ [] <+: x.s.reverse
      rw [List.append_nil]; exact List.reverse_prefix.2 (List.drop_suffix k x.s)) (fun j hj pre W hW hsz hj' _ => by
      rw [hkv]
      exact nil pre W hW hsz hj')
  | succ H ih =>
    intro x hr hdeg
    obtain ⟨d1, d2, d4⟩ : 1 ≤ x.s.length ∧ x.s.length + 1 ≤ 2 * d ∧ DegK d (H + 1) x.ks := by
      rcases hdeg with k | k
      · have := (degR_eq d (H + 1) x).1 k; exact ⟨this.1.1, this.1.2, this.2⟩
      · have := (deg_eq d (H + 1) x).1 k; exact ⟨by omega, this.1.2, this.2⟩
    have hkl : x.ks.length = x.s.length + 1 := hr.2.1
    have hg : ∀ j (hj : j < x.ks.length), x.ks.getD j x = x.ks[j] := fun j hj => by rw [List.getD_eq_getElem?_getD, List.getElem?_eq_getElem hj]; rfl
    refine bfall_node hn hm hS0 hJ hJx hY hT x hr.node d1 (by omega) (.inr hkl) (downR H x) (fun j => (Bt.ino H (x.ks.getD j x)).reverse) (Bt.ino (H + 1) x).reverse (downR_end H x) (fun k hk => ?_) ?_ (fun k hk => ?_) (fun j hj pre W hW hsz hj' hl => ?_)
    · rw [hg (k + 1) (by omega)]; exact downR_step H x hr k hk (by omega)
    · rw [hg 0 (by omega)]; exact downR_all H x hr (by omega)
    · rw [hg k (by omega)]; exact downR_pre H x hr k (by omega)
    · rw [kidV_at x j (by omega)]
      rw [hg j (by omega)] at hl ⊢
      have hmem := List.getElem_mem (show j < x.ks.length by omega)
      exact ih x.ks[j] (hr.2.2 _ hmem) (.inr (d4 _ hmem)) pre W hW hsz hj' hl
end
end Go.Proofs.Ytjgcdmeojjnjlaa
/- Down: its contract as a function that is ranged over. -/
namespace Go.Proofs.Ytjgcdmeojjnjlaa
open Go.RowKit Go.Sort Go.Shelf Go.Proofs.Ytjgcdmeojjnjlaa.Bo Go.Proofs.Ytjgcdmeojjnjlaa.Bb Go.Proofs.Ytjgcdmeojjnjlaa.Rf
set_option linter.unusedVariables false
set_option maxRecDepth 100000
attribute [local go_sem] Oper.semAt_some
theorem bdown_any (T : Nat) (w : World) : Calls Try.prog 35 #[aP T] w fun e w' => e = .returned (.func (.func 65) #[] #[.pointer (some ⟨w.heap.size, 0, none⟩)]) ∧ w.alloc (oBP T) = w' := by
  go_enter Try.func35, Try.ntmps35
  go_wp2_with fail
  go_ret
  exact ⟨rfl, rfl⟩
set_option maxHeartbeats 2000000 in
theorem bdown1_core (T Bn l k : Nat) (root : Int) (PA PX : World → Prop) (W : World) (HB : Hid (W.heap[Bn]? = some (oBP T))) (HT : Hid (W.cell? ⟨T, 2, none⟩ = some (.int .i64 root)))
    (H : Hid (∀ W', Go.RowKit.Below W.heap.size W W' → Calls Try.prog 66 #[aP T, .int .i64 root, .func (.yield l) #[] #[]] W' fun e W2 => (e = .returned (.bool true) ∧ PA W2) ∨ (e = .returned (.bool false) ∧ PX W2))) :
    CallsIn Fence.wide k Try.prog 65 #[.func (.yield l) #[] #[], .pointer (some ⟨Bn, 0, none⟩)] W fun e W' => (∃ v, e = .returned v) ∧ (PA W' ∨ PX W') := by
  have mx := mixed
  have c0 : W.cell? ⟨Bn, 0, none⟩ = some (aP T) := (cell_of_row _ _ 0 _ _ _ HB.out).trans rfl
  have c1 := HT.out
  have hdd : ∀ m : Nat, (Fence.wide.depth.isSome = true → 1 ≤ m) := fun m h => by cases h
  refine callsIn_of_wp Try.func65 rfl trivial ?_ rfl
  simp only [Try.ntmps65, List.size_toArray, List.length_cons, List.length_nil, Nat.reduceAdd, Nat.reduceSub, Array.replicate_succ, Array.replicate_zero, List.push_toArray, List.append_toArray, List.nil_append, List.cons_append]
  gi_region_with_o (refine ⟨trivial, ?_⟩; refine ⟨hdd _, ?_⟩; gi_at_call 66; refine (callsIn_wide.2 (H.out _ (below_drewB W))).mono ?_; rintro e W2 h2; obtain ⟨b2, rfl, h3⟩ := two_waysB h2)
  all_goals
    go_end0
    exact ⟨⟨_, rfl⟩, by assumption⟩
theorem bdown_seq (Bn n0 base T A d : Nat) {t : Bx} {a : Ag Rn} {S0 : Nat → Prop} {L : List G5} (w : World) (h : BtW w base T A t a S0) (ok : BtOk t d L) (hS : ∀ b, btS T t a S0 b → b < n0) (hn0 : n0 ≤ w.heap.size) (hB : w.heap[Bn]? = some (oBP T)) :
    SeqM Try.prog 65 #[.pointer (some ⟨Bn, 0, none⟩)] (fun j => #[vG (L.reverse.getD j Bo.g0)]) (KpF n0 (w.heap.size + 2)) L.length w := by
  intro n l J Jx W hW h2 hJ hJx hY h0
  have hWr := h.below hW
  have hsz := hW.size
  have tr : ∀ W', KpF n0 (w.heap.size + 2) W W' → BtW W' base T A t a S0 := fun W' hk => hWr.kp (kp_of_belowB hk.1) (fun b hb hge => by have := hS b hb; omega)
  have hR : W.cell? ⟨T, 2, none⟩ = some (.int .i64 t.root) := (cell_of_row _ _ 2 _ _ _ hWr.top).trans rfl
  refine bdown1_core T Bn l n t.root (fun W2 => J L.length W2) (fun W2 => ∃ j, j ≤ L.length ∧ Jx j W2) W (Lib.hid (box_on hB hW)) (Lib.hid hR) (Lib.hid fun W' hb => ?_)
  rcases ok.tree with ⟨e1, e2, e3, e4⟩ | ⟨H, x, z, hr, hL⟩
  · have hWt := hWr.below hb
    have hno : a.is (-1) = false := by
      cases e : a.is (-1) with
      | false => rfl
      | true => exact absurd (e4 (-1)) ((hWt.is (-1)).1 e)
    rw [e3, e1]
    refine (bfall_no T A l n0 (w.heap.size + 2) (-1) W' ((cell_of_row _ _ 1 _ _ _ hWt.top).trans rfl) (Lib.hid fun W2 hb2 => bnget_no (hWt.below hb2).ar hWt.ok (-1) hno)).mono ?_
    rintro e W2 ⟨rfl, hb2⟩
    exact .inl ⟨rfl, hJ _ _ _ (hJ _ _ _ h0 hb) (hb2.mono hb.size)⟩
  · have hm1 : t.f (-1) = none := by
      cases e : t.f (-1) with
      | none => rfl
      | some v =>
        obtain ⟨m, _, q⟩ := z.all (-1) (by rw [e]; simp)
        omega
    have hin := bfall_in (LR := L.reverse) (l := l) (J := fun pre X => J pre.length X) (Jx := fun pre X => Jx pre.length X) (W0 := W) d ok.d2 ok.d64 (n0 := n0) (m0 := w.heap.size + 2) (by omega) h2 hS (fun pre X Y h hb => hJ _ X Y h hb) (fun pre X Y h hb => hJx _ X Y h hb) (fun m pre g X hj hp => by
      have hl := hp.length_le
      simp only [List.length_append, List.length_cons, List.length_nil, List.length_reverse] at hl
      have hg : L.reverse.getD pre.length Bo.g0 = g := by
        obtain ⟨tl, htl⟩ := hp
        rw [← htl, List.getD_eq_getElem?_getD, List.append_assoc, List.getElem?_append_right (Nat.le_refl _), Nat.sub_self]
        rfl
      have := hY m pre.length X (by omega) hj
      simp only [hg] at this
      refine this.mono ?_
      rintro e Y ⟨k1 | k1, k2⟩
      · exact ⟨k2, .inl ⟨k1.1, by simpa using k1.2⟩⟩
      · exact ⟨k2, .inr ⟨k1.1, by simpa using k1.2⟩⟩) tr hm1 H x z.tree (.inl hr) [] W' (KpF.of_below hb (by omega)) hb.size (hJ _ _ _ h0 hb) (by rw [hL, List.nil_append]; exact List.prefix_refl _)
    rw [show t.root = x.idx from z.root]
    refine hin.mono ?_
    rw [hL]
    rintro e W2 ⟨_, ⟨rfl, hj⟩ | ⟨rfl, q, hq, hx⟩⟩
    · exact .inl ⟨rfl, by simpa using hj⟩
    · exact .inr ⟨rfl, q.length, by have := hq.length_le; simpa using this, by simpa using hx⟩
end Go.Proofs.Ytjgcdmeojjnjlaa
/- The laws' all: the segments of a tree, gone through. -/
namespace Go.Proofs.Ytjgcdmeojjnjlaa
open Go.RowKit Go.Sort Go.Shelf Go.Proofs.Ytjgcdmeojjnjlaa.Bo Go.Proofs.Ytjgcdmeojjnjlaa.Bb
set_option linter.unusedVariables false
set_option maxRecDepth 100000
attribute [local go_sem] Oper.semAt_some
/-- An append to a row, in a fence: where the row comes to lie. -/
theorem wpListIn_append_rowB {F : Fence} {n : Nat} (w : World) {ops : Array Oper} {rest : List Oper} {o : Oper} {ac : Act} {Q : Exit → Act → World → Prop}
    (hg : o.guard = none) (s x : Operand) (t : TypeId) (hop : o.op = Op.call { callee := Callee.builtin Builtin.append, args := #[s, x], argTypes := #[t, t] })
    (base : Nat) (e : TypeId) (i : TypeInfo) (z : Value) (size bytes : Nat) (h1 : Try.prog.underlying t = some (.slice e)) (h2 : Try.prog.info? e = some i) (h3 : i.zero = some z) (h4 : i.size = size) (h5 : i.bytes = bytes) (h6 : z.cells.size = size) (h7 : 0 < size)
    (v : Value) (k : Nat) (xs : List Value) (hs : ac.eval s = v) (hown : w.ownsRow base e size v k xs) (ad : Option Addr) (m c : Nat) (news : List Value) (hx : ac.eval x = .slice ad m c) (hn : news.length = m * size)
    (hc : Bs.Lies w ad news) (h1c : ∀ u ∈ news, u.oneCell' = true) (b1 : k + m ≤ maxLen) (b2 : (k + m) * bytes ≤ 140737488355328) (b3 : base ≤ w.heap.size)
    (hK : ∀ a' cap w', w'.ownsRow base e size (.slice a' (k + m) cap) (k + m) (xs ++ news) → w.grownBy w' v.ownBlock → ((Value.slice a' (k + m) cap).ownBlock = v.ownBlock ∨ (Value.slice a' (k + m) cap).ownBlock = some w.heap.size) → wpListIn F n Try.prog ops Q rest (ac.put o.dst (.slice a' (k + m) cap)) w') :
    wpListIn F n Try.prog ops Q (o :: rest) ac w := by
  refine wpListIn_plain hg fun K hK' => ?_
  obtain ⟨a', cap, w', hrun, r1, r2, r3⟩ := Bs.run_append_row (P := Try.prog) t o.type i z bytes h1 h2 h3 h4 h5 h6 h7 v k xs hown ad m c news hn hc h1c b1 b2 b3
  unfold Oper.wpIn
  refine ⟨?_, ?_⟩
  · simp [Oper.about, hop, resolve, Target.leads, Sem.run_pure]
  · rw [Oper.semAt_plain F _ _ (by rw [hop]; intro c hc'; cases hc')]
    simp [execOp, hop, resolve, invoke, builtin, hs, hx, hrun, Result.andThen]
    exact hK' _ _ (hK a' cap w' r1 r2 r3)
/-- Between two rounds of all: the row's box at b, what has come behind it. -/
def AllB (X : World) (b : Nat) (pre : List G5) (W : World) : Prop := (∃ v, Boxed W b 32 v ∧ W.ownsRow b 38 5 v pre.length (flatG pre) ∧ ∃ a cap, v = .slice a pre.length cap) ∧ Go.RowKit.Below b X W
theorem allB_own (X : World) (b B : Nat) (hX : b ≤ X.heap.size) (hB : b ≤ B) : OwnFrom B (AllB X b) :=
  OwnFrom.and (Own.from (holdsRow_own b b 32 38 5 (fun pre : List G5 => pre.length) flatG (fun pre v => ∃ a cap, v = .slice a pre.length cap)) _) (ownFrom_below hX hB)
theorem kpS_app {W w1 : World} {B k : Nat} {v v' : Value} {xs : List Value} {tmp : Obj} (hv : Boxed W B 32 v) (hrow : W.ownsRow B 38 5 v k xs) (hgrow : (W.alloc tmp).grownBy w1 v.ownBlock) (hat : v'.ownBlock = v.ownBlock ∨ v'.ownBlock = some (W.alloc tmp).heap.size) (hB1 : w1.heap[B]? = some (.cells #[v] 32 (0, 0))) (hlt : ∀ q, v'.ownBlock = some q → q < w1.heap.size) (hb : Go.RowKit.Below B W (w1.setCell ⟨B, 0, none⟩ v')) : KpS B B W (w1.setCell ⟨B, 0, none⟩ v') := by
  refine ⟨hb, fun j cs t hj ht => ?_, fun q hq => ?_⟩
  · have hjl := lt_of_block hj
    have h1 : (W.alloc tmp).heap[j]? = some (.cells cs t (0, 0)) := box_on hj (below_new W tmp)
    have h2 : w1.heap[j]? = some (.cells cs t (0, 0)) := (hgrow.block j (by simp; omega) (fun e => by
      rcases hrow.2 with ⟨rfl, _⟩ | ⟨g, cap, cur, rfl, _, hgb, _⟩
      · simp [Value.ownBlock] at e
      · obtain rfl : j = g := by simpa [Value.ownBlock] using e
        rw [hj] at hgb
        injection hgb with hgb
        injection hgb with _ hgb _
        subst hgb
        rcases ht with e1 | e1 | ⟨_, _, e3⟩
        · revert e1; decide
        · revert e1; decide
        · exact e3 ⟨_, hv, rfl⟩)).trans h1
    refine set_far h2 (fun e => ?_)
    subst e
    have := (show W.heap[j]? = _ from hv).symm.trans hj
    injection this with this
    injection this with _ this _
    subst this
    rcases ht with e1 | e1 | ⟨e1, _, _⟩ <;> (revert e1; decide)
  · obtain ⟨u, hu, ho⟩ := hq
    have hset : (w1.setCell ⟨B, 0, none⟩ v').heap[B]? = some (.cells #[v'] 32 (0, 0)) := heap_setCell_same w1 B 0 _ _ v' hB1
    have e := hset.symm.trans hu
    injection e with e
    injection e with e _ _
    obtain rfl : v' = u := by simpa using e
    rcases hat with h | h
    · exact .inl ⟨v, hv, h ▸ ho⟩
    · rw [h] at ho
      injection ho with ho
      refine .inr ⟨by rw [← ho]; simp, ?_⟩
      rw [World.size_setCell]
      exact hlt q (by rw [h, ho])
set_option maxHeartbeats 4000000 in
theorem bdall_any {w : World} {base T A d : Nat} {t : Bx} {a : Ag Rn} {S0 : Nat → Prop} {L : List G5} (h : BtW w base T A t a S0) (ok : BtOk t d L) : Calls Try.prog 17 #[aP T] w fun e w' => ∃ a cap, (e = .returned (.slice a L.length cap) ∧ GRow w' a L ∧ L.length ≤ cap) ∧ Go.RowKit.Below w.heap.size w w' := by
  have mx := mixed
  obtain ⟨i0, hi, hz0, hz1, hz2⟩ := info_parts Try.infoSeg
  have HTR := Lib.hid h
  have hlen := ok.le
  have hroom := ok.room
  have HOK := Lib.hid ok
  have hB0 : Go.RowKit.Below w.heap.size w ((w.alloc (.cells #[.slice none 0 0] 32)).alloc (oBP T)) := bt (below_new _ _) (below_new _ _)
  have HB0 := Lib.hid hB0
  have HBX : Hid (((w.alloc (.cells #[.slice none 0 0] 32)).alloc (oBP T)).heap[w.heap.size]? = some (.cells #[.slice none 0 0] 32 (0, 0))) := box_on (heap_alloc_new _ _) (below_new _ _)
  have HBT : Hid (((w.alloc (.cells #[.slice none 0 0] 32)).alloc (oBP T)).heap[w.heap.size + 1]? = some (oBP T)) := new_at' _ (by simp)
  clear h hB0
  refine (callsIn_wide (n := 6)).1 ?_
  refine callsIn_of_wp_marks Try.func17 rfl trivial ?_ rfl
  simp only [Try.ntmps17, List.size_toArray, List.length_cons, List.length_nil, Nat.reduceAdd, Nat.reduceSub, Array.replicate_succ, Array.replicate_zero, List.push_toArray, List.append_toArray, List.nil_append, List.cons_append]
  gi_wp2_with (refine ⟨trivial, ?_⟩; gi_at_call 34; refine (callsIn_wide.2 (ball_any T _)).mono ?_; rintro e w' ⟨rfl, rfl⟩)
  generalize (w.alloc (.cells #[.slice none 0 0] 32)).alloc (oBP T) = W0 at *
  have hsz : w.heap.size + 1 < W0.heap.size := lt_of_block HBT.out
  have hrow0 : ∀ k, rowAt w.heap.size W0 k → k < W0.heap.size := fun k hk => by
    obtain ⟨v, hv, ho⟩ := hk
    rw [HBX.out] at hv
    injection hv with hv
    injection hv with hv _ _
    obtain rfl : Value.slice none 0 0 = v := by simpa using hv
    cases ho
  refine wpIn_rangeFunc_ownH rfl (by omega) (gf := 63) (lb := #[.pointer (some ⟨w.heap.size + 1, 0, none⟩)]) rfl trivial (enters_of Try.func63 (by kernel_rfl) rfl)
    (ball_stops (6 - 1) (w.heap.size + 1) w.heap.size w.heap.size base T A d W0 (HTR.out.below HB0.out) HOK.out (fun b hb => HTR.out.blt b hb) HB0.out.size HBT.out (by omega) hrow0) KpS.trans (kpS_b HB0.out.size (by omega)) (Go.RowKit.Below.refl _ _) (fun _ => rfl)
    (AllB w w.heap.size) (fun _ _ _ => False) (allB_own w _ _ (Nat.le_refl _) HB0.out.size) (fun _ _ _ _ _ hs _ _ => hs)
    ⟨⟨_, HBX.out, World.ownsRow_nil _ _ _ _, none, 0, rfl⟩, HB0.out⟩
    (fun g a' W => ∃ Bx, W.heap[Bx]? = some (oG g) ∧ a' = { tmps := #[aP T, undef, .slice none 0 0, .pointer (some ⟨w.heap.size, 0, none⟩), .pointer (some ⟨Bx, 0, none⟩), aP T, .func (.func 63) #[] #[.pointer (some ⟨w.heap.size + 1, 0, none⟩)], vG g, undef, undef, undef, undef, undef], defers := [] })
    (fun g a' _ X Y row hs hg hr => by
      obtain ⟨Bx, h1, h2⟩ := hs
      exact ⟨Bx, (hg.block Bx (lt_of_block h1) (fun e => by obtain ⟨_, o, ho, hc⟩ := hr Bx e.symm; rw [h1] at ho; injection ho with ho; subst ho; cases hc)).trans h1, h2⟩)
    ?assign ?body ?done ?stop
  case assign =>
    rintro l pre g W K hI hK
    obtain ⟨⟨v, hv, hrow, hva⟩, hB⟩ := hI
    gi_wp2
    exact hK _ _ ((KeepsOthers.alloc _ _).from _) (KpS.of_below (below_new W (oG g)) hB.size (lt_of_block hv)) ⟨⟨v, hv.alloc _, hrow.alloc _, hva⟩, hB.alloc hB.size _⟩ ⟨W.heap.size, heap_alloc_new W (oG g), rfl⟩
  case body =>
    rintro l pre g a' W hl ⟨r, hr⟩ ⟨⟨v, hv, hrow, av, cv, hva⟩, hB⟩ ⟨Bx, hbx, rfl⟩ hlt
    have HV := Lib.hid hv
    have HROW := Lib.hid hrow
    have HB := Lib.hid hB
    have hc := hv.cell
    obtain ⟨c1, c2, c3, c4, c5⟩ := five_cells hbx
    simp only [Nat.zero_add] at c2 c3 c4 c5
    have hlen2 : pre.length ≤ 65536 := by omega
    have HLS : Hid (Bs.Lies (W.alloc (oG g)) (some ⟨W.heap.size, 0, none⟩) (flatG [g])) := Lib.hid (Bs.Lies.of_own (w := W.alloc (oG g)) (base := 0) (e := 38) (size := 5) (a := some ⟨W.heap.size, 0, none⟩) (n := 1) (cap := 1) (xs := flatG [g]) ⟨rfl, .inr ⟨W.heap.size, 1, _, rfl, Nat.zero_le _, heap_alloc_new W (oG g), Nat.le_refl _, by decide, rfl, rfl⟩⟩)
    have HR2 := Lib.hid (hrow.alloc (oG g))
    have hsz2 : w.heap.size ≤ (W.alloc (oG g)).heap.size := by have := hB.size; simp; omega
    clear hv hrow hB hbx hr hva
    gi_wp2_with (gi_at_builtin; refine wpListIn_append_rowB _ rfl _ _ 32 rfl w.heap.size 38 i0 (.agg #[.int .i64 0, .int .i64 0, .int .i64 0, .int .i64 0, .int .i64 0]) 5 40 Try.underlying32 hi hz0 hz1 hz2 rfl (by decide) v pre.length _ rfl HR2.out (some ⟨W.heap.size, 0, none⟩) 1 1 (flatG [g]) rfl rfl HLS.out (flatG_one [g]) (by unfold maxLen; omega) (by omega) hsz2 ?_; intro a' cap' w1 hown' hgrow hat; obtain ⟨hv1, hv2, hr2, hk2, hb2⟩ := HV.out.appended (by decide) HROW.out HB.out.size (Nat.le_refl _) hown' hgrow; have hkp := kpS_app HV.out HROW.out hgrow hat hv1 (fun q hq => (hown'.lt q hq).2) hb2; have hc1 := hv1.cell; have hf1 := hv1.frozen)
    refine ⟨hk2.from _, hkp, ⟨⟨_, hv2, ?_, ?_⟩, HB.out.trans hb2⟩⟩
    · rw [flatG_append, List.length_append]; exact hr2
    · exact ⟨_, _, by rw [List.length_append]; rfl⟩
  case done =>
    rintro D ys W hD rfl ⟨⟨v, hv, hrow, av, cv, rfl⟩, hB⟩ hK
    have hc := hv.cell
    have HK := Lib.hid hK
    have HROW := Lib.hid hrow
    have HB := Lib.hid hB
    clear hv hK hrow hB
    gi_wp2
    refine ⟨by simp, .inl ⟨_, _, rfl, run_takeDeferred HK.out, ?_⟩⟩
    refine ⟨_, results_tmp rfl _ _ _, av, cv, ⟨rfl, own_grow (ownsRow_putObj HROW.out _ HK.out rfl) rfl, own_capG HROW.out⟩, HB.out.trans (belowK_b (w := w) (Nat.le_refl _) W D _ _ (by have := HB0.out.size; omega) HK.out rfl rfl)⟩
  case stop =>
    rintro D c pre W _ _ h _
    exact h.elim
section
variable {w W : World} {T A d : Nat} {R : Int} {L M : List G5} {B : Nat → Prop} {a : Option Addr} {cap : Nat} {K : Nat → Prop}
theorem BkK.all (h : BkK w T A d R L B W) : Calls Try.prog 17 #[aP T] W fun e w' => ∃ a2 cap2, (e = .returned (.slice a2 L.length cap2) ∧ GRow w' a2 L ∧ L.length ≤ cap2) ∧ Go.RowKit.Below W.heap.size W w' := by
  obtain ⟨⟨t, a, S0, h1, h2, _⟩, _⟩ := h
  exact bdall_any h1 h2
end
end Go.Proofs.Ytjgcdmeojjnjlaa
