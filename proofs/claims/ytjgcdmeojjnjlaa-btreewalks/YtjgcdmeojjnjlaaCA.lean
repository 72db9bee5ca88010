/- A part of the proof: contracts of the functions that the statements reach. -/
import Derived.RangeFuncNested
import Derived.RangeFuncBound
import Derived.RangeFuncCalls
import Derived.RangeFuncLeaves
import Derived.Shelf.Abstract
import Derived.Shelf.RegionOpen
import Derived.WalkKit
import Derived.OwnWalkIn
import Derived.TacticsInMore
import Derived.LoopNIn
import Derived.LoopIn
import Derived.Shelf.SlSortCmp.WholeK
import Derived.WalkSpells
import Derived.WalkLawsBesides
import Derived.Lib.Hide
import Derived.Laws.StructEq
import Derived.Shelf.SlSortCmp.QuietGrown
import Derived.Laws.EntriesVeiled
import Derived.Deep.CutRange
import Derived.RegionTactic
import Derived.Lib.QuietBelow
import Derived.BigQuiet
import Derived.OpenShut
import Derived.Deep.RegionHeld3
import Derived.Deep.QuietTactic
import Derived.Maps.AppendAt
import Derived.Laws.IdiomCopy
import Derived.Deep.AppendLies
import Derived.Deep.LoopGhost
import Derived.Test.YtjgcdmeojjnjlaaRows

/- A range over a function whose rounds are known, one by one: round j is handed encs j. -/
namespace Go.Proofs.Ytjgcdmeojjnjlaa.Rf
open Go.RowKit
set_option linter.unusedVariables false
/-- An iterator of N rounds. -/
def SeqN (P : Program) (g : Nat) (lb : Array Value) (encs : Nat → Array Value) (Kp : World → World → Prop) (N : Nat) (w : World) : Prop :=
  ∀ (n l : Nat) (J Jx : Nat → World → Prop) (W : World), Below w.heap.size w W → (∀ j X Y, J j X → Below X.heap.size X Y → J j Y) →
    (∀ m j X, j < N → J j X → YieldAt Fence.wide m P l (encs j) X fun e Y => (e = .returned (.bool true) ∧ J (j + 1) Y ∧ Kp X Y) ∨ (e = .returned (.bool false) ∧ Jx (j + 1) Y)) →
    J 0 W → CallsIn Fence.wide n P g (#[.func (.yield l) #[] #[]] ++ lb) W fun e Y => (∃ v, e = .returned v) ∧ (J N Y ∨ ∃ j, j ≤ N ∧ Jx j Y)
/-- How a round may be left. -/
def roundN (B : Nat) (Kp : World → World → Prop) (Go : World → Prop) (Out : Code → World → Prop) (W : World) : Exit → Act → World → Prop
  | .normal, _, Y => KeepsFrom B W Y ∧ Kp W Y ∧ Go Y
  | .ret, _, Y => KeepsFrom B W Y ∧ Out .ret Y
  | .exit id, _, Y => KeepsFrom B W Y ∧ Out (.exit id) Y
  | .goto t, _, Y => KeepsFrom B W Y ∧ Out (.goto t) Y
  | .panic _, _, _ => False
  | .outgrown, _, _ => False
theorem own_after {β : Type} {B : Nat} {I : β → World → Prop} (h : OwnFrom B I) {s : β} {X Y : World} (hs : I s X) (hb : Below X.heap.size X Y) : I s Y :=
  h s X Y none hs ⟨hb.os, hb.tape, hb.output, hb.size, fun k hk _ => hb.block k hk⟩ (fun r e => by cases e)
variable {P : Program} {n : Nat}
set_option maxHeartbeats 1000000 in
theorem wpIn_rangeN {g : Operand} {ps : Array Tmp} {assign body : Code} {Q : Exit → Act → World → Prop} {a : Act} {w : World} {gf : Nat} {lb : Array Value} (hg : a.eval g = .func (.func gf) #[] lb)
    (eg : ∀ args w, (callFunc gf args).run P w = .ok (.enter gf args) w) {encs : Nat → Array Value} {Kp : World → World → Prop} {N : Nat} {w0 : World} (hseq : SeqN P gf lb encs Kp N w0)
    (hKt : ∀ {X Y Z : World}, Kp X Y → Kp Y Z → Kp X Z) (hKb : ∀ (W : World) (k : Nat) (o o' : Obj), w.heap.size ≤ k → W.heap[k]? = some o → o.isCells = false → o.isWalk = false → Kp W (W.putObj k o'))
    (hb0 : Below w0.heap.size w0 w) (hps : ∀ j, (encs j).size = ps.size) (I : Nat → World → Prop) (Ix : Code → Nat → World → Prop) (hI : OwnFrom w.heap.size I) (hIx : ∀ c, OwnFrom w.heap.size (Ix c)) (h0 : I 0 w)
    (hround : ∀ (l j : Nat) (W : World) (K : Act → World → Prop), j < N → I j W →
      (∀ a' Y, KeepsFrom w.heap.size W Y → Kp W Y → (∃ Z : Nat → World → Prop, OwnFrom w.heap.size Z ∧ Z j Y ∧ ∀ V, Z j V → body.wpIn (Fence.wide.inRound l) (n - 1 - 1) P (roundN w.heap.size Kp (I (j + 1)) (fun c => Ix c (j + 1)) V) a' V) → K a' Y) →
      assign.wpIn (Fence.wide.inRound l) (n - 1 - 1) P (Exit.then K (fun _ _ _ => False)) { tmps := (ps.zip (encs j)).foldl (fun t (p, v) => t.setIfInBounds p v) a.tmps, defers := [] } W)
    (hdone : ∀ (D : Nat) (W : World), w.heap.size ≤ D → I N W → W.heap[D]? = some (.deferred (some [])) → Q .normal { a with defers := { target := .collected D, args := #[] } :: a.defers } W)
    (hstop : ∀ (D j : Nat) (c : Code) (W : World), w.heap.size ≤ D → j ≤ N → Ix c j W → W.heap[D]? = some (.deferred (some [])) → c.wpIn Fence.wide n P Q { a with defers := { target := .collected D, args := #[] } :: a.defers } W) :
    (Code.rangeFunc g ps assign body).wpIn Fence.wide n P Q a w := by
  refine wpIn_rangeFunc fun fn _ => ?_
  obtain ⟨D, hD⟩ : ∃ D, D = w.heap.size := ⟨_, rfl⟩
  obtain ⟨rec, hrec⟩ : ∃ rec : LoopState → Option Code → Loop, rec = fun st pe => { state := st, pending := pe, fn, tmps := a.tmps, params := ps, assign, body, defers := D } := ⟨_, rfl⟩
  -- the law's own two blocks: the rounds' deferred calls at D, the record at D + 1
  let Bk : LoopState → Option Code → World → Prop := fun st pe W => W.heap[D + 1]? = some (.loop (rec st pe)) ∧ W.heap[D]? = some (.deferred (some []))
  have hBk : ∀ st pe X Y, Bk st pe X → Below X.heap.size X Y → Bk st pe Y := fun st pe X Y h hb =>
    ⟨(hb.block _ (Array.getElem?_eq_some_iff.1 h.1).1).trans h.1, (hb.block _ (Array.getElem?_eq_some_iff.1 h.2).1).trans h.2⟩
  have hput : ∀ st pe st' pe' X, Bk st pe X → Bk st' pe' (X.putObj (D + 1) (.loop (rec st' pe'))) := fun st pe st' pe' X h =>
    ⟨World.putObj_heap_same (Array.getElem?_eq_some_iff.1 h.1).1, (World.putObj_heap_other (by omega)).trans h.2⟩
  have hkf : ∀ st pe X Y, Bk st pe X → KeepsFrom w.heap.size X Y → Bk st pe Y := fun st pe X Y h hk =>
    ⟨hk.same _ _ (by omega) h.1 rfl, hk.same _ _ (by omega) h.2 rfl⟩
  have hown : ∀ {γ : Type} {Z : γ → World → Prop}, OwnFrom w.heap.size Z → ∀ s st pe X o', Bk st pe X → Z s X → Z s (X.putObj (D + 1) o') := fun h s st pe X o' hb hz => h.putObj _ hz (by omega) hb.1 rfl
  let W1 := (w.alloc (.deferred (some []))).alloc (.loop (rec .ready none))
  have hnew : Below w.heap.size w W1 := ((Below.refl _ w).alloc (Nat.le_refl _) _).alloc (by simp) _
  have hB1 : Bk .ready none W1 := by
    refine ⟨?_, ?_⟩
    · have := World.alloc_heap_new (w.alloc (.deferred (some []))) (.loop (rec .ready none)); rwa [World.size_alloc, ← hD] at this
    · subst hD; exact (Below.heap_alloc _ _ _ (by simp)).trans (World.alloc_heap_new w _)
  refine ⟨D + 1, [{ target := .collected D, args := #[] }], W1, { target := .fn (.func gf) lb, args := #[.func (.yield (D + 1)) #[] #[]] }, W1, gf, #[.func (.yield (D + 1)) #[] #[]] ++ lb, W1, ?_, ?_, fun _ _ => trivial, ?_, fun h => (by cases h), ?_⟩
  · show (Instr.enterLoop fn a.tmps ps assign body none).run P w = _
    rw [run_enterLoop_outer]
    simp only [W1, hrec, hD]
  · simp only [resolve, hg]
    simp [go_sem]
  · simp [invoke, go_sem, eg]
  · refine (hseq (n - 1) (D + 1) (fun j W => I j W ∧ Bk .ready none W) (fun j W => ∃ c, Ix c j W ∧ Bk .done (some c) W) W1 (hb0.trans (hnew.mono hb0.size))
      (fun j X Y h hb => ⟨own_after hI h.1 hb, hBk _ _ _ _ h.2 hb⟩) ?_ ⟨own_after hI h0 hnew, hB1⟩).mono ?_
    · -- a round
      rintro m j X hj ⟨hi, hb⟩
      have hy := run_yield (P := P) (args := encs j) hb.1 (by rw [hrec]; exact hps j)
      rw [hrec] at hy
      have hany : ∀ {m' : Nat} {R : Ending → World → Prop}, RoundIn Fence.wide (n - 1 - 1) P (D + 1) fn ((ps.zip (encs j)).foldl (fun t (p, v) => t.setIfInBounds p v) a.tmps) assign body X R → RoundIn Fence.wide m' P (D + 1) fn ((ps.zip (encs j)).foldl (fun t (p, v) => t.setIfInBounds p v) a.tmps) assign body X R :=
        fun h => ⟨h.1, fun c cs _ => h.2 c cs (fun d h => by cases h)⟩
      refine ⟨fn, _, assign, body, hy, hany (roundIn_of_wpIn trivial (hround (D + 1) j X _ hj hi ?_))⟩
      rintro a' Y hk hkp ⟨Z, hZ, hz, hbody⟩
      have hbY := hkf _ _ _ _ hb hk
      have hst : ({ rec .ready none with state := .busy } : Loop) = rec .busy none := by rw [hrec]
      have hbg := run_beginRound (P := P) hbY.1 (by rw [hrec])
      rw [hst] at hbg
      refine ⟨_, hbg, ?_⟩
      have hb2 := hput _ _ .busy none _ hbY
      have hkp2 : Kp X (Y.putObj (D + 1) (.loop (rec .busy none))) := hKt hkp (hKb _ _ _ _ (by omega) hbY.1 rfl rfl)
      refine wpIn_mono (hbody _ (hown hZ j _ _ _ _ hbY hz)) ?_
      have fin : ∀ (jump : Option Code) (V : World), Bk .busy none V → (Instr.endRound (D + 1) jump).run P V = .ok (.bool jump.isNone) (V.putObj (D + 1) (.loop (rec (if jump.isNone then .ready else .done) jump))) := fun jump V h => by
        have := run_endRound (P := P) jump h.1
        rw [hrec] at this ⊢
        exact this
      have out : ∀ (c : Code) (V : World), KeepsFrom w.heap.size (Y.putObj (D + 1) (.loop (rec .busy none))) V → Ix c (j + 1) V →
          ∃ v V', (Instr.endRound (D + 1) (some c)).run P V = .ok v V' ∧ ((Ending.returned v = .returned (.bool true) ∧ (I (j + 1) V' ∧ Bk .ready none V') ∧ Kp X V') ∨ (Ending.returned v = .returned (.bool false) ∧ ∃ c, Ix c (j + 1) V' ∧ Bk .done (some c) V')) := fun c V hk3 hx =>
        have h3 := hkf _ _ _ _ hb2 hk3
        ⟨_, _, fin (some c) V h3, .inr ⟨rfl, c, hown (hIx c) _ _ _ _ _ h3 hx, hput _ _ .done (some c) _ h3⟩⟩
      rintro e a3 V hp
      cases e with
      | normal =>
        obtain ⟨hk3, hkp3, hi3⟩ := hp
        have h3 := hkf _ _ _ _ hb2 hk3
        exact ⟨_, _, fin none V h3, .inl ⟨rfl, ⟨hown hI _ _ _ _ _ h3 hi3, hput _ _ .ready none _ h3⟩, hKt (hKt hkp2 hkp3) (hKb _ _ _ _ (by omega) h3.1 rfl rfl)⟩⟩
      | ret => exact out _ V hp.1 hp.2
      | exit id => exact out _ V hp.1 hp.2
      | goto t => exact out _ V hp.1 hp.2
      | panic ch => exact hp.elim
      | outgrown => exact hp.elim
    · rintro e W2 ⟨⟨v, rfl⟩, ⟨hi, hb⟩ | ⟨j, hj, c, hx, hb⟩⟩
      · have hend := run_endLoop (P := P) hb.1 (by rw [hrec]; simp)
        rw [hrec] at hend
        exact ⟨none, _, hend, hdone D _ (by omega) (hown hI _ _ _ _ _ hb hi) ((World.putObj_heap_other (by omega)).trans hb.2)⟩
      · have hend := run_endLoop (P := P) hb.1 (by rw [hrec]; simp)
        rw [hrec] at hend
        exact ⟨some c, _, hend, hstop D j c _ (by omega) hj (hown (hIx c) _ _ _ _ _ hb hx) ((World.putObj_heap_other (by omega)).trans hb.2)⟩
end Go.Proofs.Ytjgcdmeojjnjlaa.Rf
/- Plain arithmetic for layer 1: the number that ends. No Go in sight. -/
namespace Go.Proofs.Ytjgcdmeojjnjlaa.Bo
def I64 (n : Int) : Prop := -9223372036854775808 ≤ n ∧ n ≤ 9223372036854775807
/-! ### digits -/
/-- The digits of a number, the lowest one first, without noughts at the end. -/
def low (m : Nat) : List Nat := if m = 0 then [] else (m % 10) :: low (m / 10)
  termination_by m
  decreasing_by omega
def ch (d : Nat) : UInt8 := UInt8.ofNat (48 + d)
def pre (m : Nat) : List UInt8 := (low m).reverse.map ch
def dg (m : Nat) : List UInt8 := if m = 0 then [48] else pre m
/-! ### reading digits -/
end Go.Proofs.Ytjgcdmeojjnjlaa.Bo
/- The document's arena, as lists of numbers. No Go in sight. -/
namespace Go.Proofs.Ytjgcdmeojjnjlaa.Bo
/-- Room, how many places were ever taken, which are free (in the order in which they were freed), what is where. -/
structure Ar where
  room : Int
  ever : Int
  free : List Int
  l : List Int
/-- What a call tells. -/
structure An where
  i : Int
  v : Int
  b : Bool
  e : Int
def an0 : An := ⟨0, 0, false, 0⟩
def Ar.is (a : Ar) (i : Int) : Bool := !(a.free.contains i) && (decide (0 ≤ i) && decide (i < a.ever))
def Ar.put (a : Ar) (v : Int) : Ar × An :=
  if a.room ≤ a.ever - a.free.length then (a, ⟨0, 0, false, 50⟩)
  else if 0 < a.free.length then ({ a with free := a.free.take (a.free.length - 1), l := a.l.set (a.free.getD (a.free.length - 1) 0).toNat v }, ⟨a.free.getD (a.free.length - 1) 0, 0, false, 0⟩)
  else ({ a with ever := a.ever + 1, l := a.l ++ [v] }, ⟨a.ever, 0, false, 0⟩)
def Ar.does (a : Ar) (k i v : Int) : Ar × An :=
  if k = 0 then a.put v
  else if k = 4 then (⟨a.room, 0, [], []⟩, an0)
  else if k < 0 ∨ 4 < k ∨ a.is i = false then (a, an0)
  else if k = 1 then (a, ⟨0, a.l.getD i.toNat 0, true, 0⟩)
  else if k = 2 then ({ a with l := a.l.set i.toNat v }, ⟨0, 0, true, 0⟩)
  else ({ a with free := a.free ++ [i] }, ⟨0, 0, true, 0⟩)
/-- As it must be: each free place was taken once, and is there once. -/
structure Ar.ok (a : Ar) : Prop where
  room : 0 ≤ a.room ∧ a.room ≤ 65536
  ever : a.ever = a.l.length
  free : ∀ i ∈ a.free, 0 ≤ i ∧ i < a.ever
  once : a.free.Nodup
  fits : a.ever - a.free.length ≤ a.room
  nums : ∀ z ∈ a.l, I64 z
theorem Ar.put_ok (a : Ar) (v : Int) (h : a.ok) (hv : I64 v) : (a.put v).1.ok := by
  unfold Ar.put
  by_cases h1 : a.room ≤ a.ever - a.free.length
  · rw [if_pos h1]; exact h
  · rw [if_neg h1]
    by_cases h2 : 0 < a.free.length
    · rw [if_pos h2]
      have hd : ∀ i ∈ a.free.take (a.free.length - 1), i ∈ a.free := fun i hi => List.mem_of_mem_take hi
      refine ⟨h.room, by show a.ever = _; rw [List.length_set]; exact h.ever, fun i hi => h.free i (hd i hi), ?_, ?_, ?_⟩
      · exact h.once.sublist (List.take_sublist _ _)
      · show a.ever - ((a.free.take (a.free.length - 1)).length : Int) ≤ a.room
        rw [List.length_take]; omega
      · intro z hz
        rcases List.mem_or_eq_of_mem_set hz with h3 | rfl
        · exact h.nums z h3
        · exact hv
    · rw [if_neg h2]
      have he := h.ever
      refine ⟨h.room, by show a.ever + 1 = _; rw [List.length_append]; simp; omega, fun i hi => ?_, h.once, ?_, ?_⟩
      · have := h.free i hi
        show 0 ≤ i ∧ i < a.ever + 1
        omega
      · show a.ever + 1 - (a.free.length : Int) ≤ a.room
        omega
      · intro z hz
        rcases List.mem_append.1 hz with h3 | h3
        · exact h.nums z h3
        · simp at h3; subst h3; exact hv
theorem Ar.is_in (a : Ar) (i : Int) (h : a.ok) (hi : a.is i = true) : 0 ≤ i ∧ i < a.ever ∧ i.toNat < a.l.length ∧ i ∉ a.free := by
  unfold Ar.is at hi
  simp at hi
  have := h.ever
  exact ⟨hi.2.1, hi.2.2, by omega, hi.1⟩
theorem nodup_len (n : Nat) : ∀ (l : List Int), l.Nodup → (∀ i ∈ l, 0 ≤ i ∧ i < (n : Int)) → l.length ≤ n := by
  induction n with
  | zero =>
    intro l _ h
    cases l with
    | nil => exact Nat.le_refl _
    | cons a t => have := h a (List.mem_cons_self ..); omega
  | succ n ih =>
    intro l hn h
    by_cases hm : (n : Int) ∈ l
    · have h1 := ih (l.erase n) (hn.erase _) (fun i hi => by
        have hm' := (hn.mem_erase_iff).1 hi
        have := h i hm'.2
        have hne := hm'.1
        omega)
      rw [List.length_erase_of_mem hm] at h1
      omega
    · have h1 := ih l hn (fun i hi => by
        have := h i hi
        have hne : i ≠ n := fun e => hm (e ▸ hi)
        omega)
      omega
theorem Ar.does_ok (a : Ar) (k i v : Int) (h : a.ok) (hv : I64 v) : (a.does k i v).1.ok := by
  unfold Ar.does
  by_cases h1 : k = 0
  · rw [if_pos h1]; exact a.put_ok v h hv
  · rw [if_neg h1]
    by_cases h2 : k = 4
    · rw [if_pos h2]
      exact ⟨h.room, rfl, by simp, List.nodup_nil, by show (0 : Int) - ((0 : Nat) : Int) ≤ a.room; have := h.room.1; omega, by simp⟩
    · rw [if_neg h2]
      by_cases h3 : k < 0 ∨ 4 < k ∨ a.is i = false
      · rw [if_pos h3]; exact h
      · rw [if_neg h3]
        have hi : a.is i = true := by
          cases e : a.is i with
          | true => rfl
          | false => exact absurd (.inr (.inr e)) h3
        obtain ⟨g1, g2, g3, g4⟩ := a.is_in i h hi
        by_cases h4 : k = 1
        · rw [if_pos h4]; exact h
        · rw [if_neg h4]
          by_cases h5 : k = 2
          · rw [if_pos h5]
            refine ⟨h.room, by show a.ever = _; rw [List.length_set]; exact h.ever, h.free, h.once, h.fits, ?_⟩
            intro z hz
            rcases List.mem_or_eq_of_mem_set hz with h6 | rfl
            · exact h.nums z h6
            · exact hv
          · rw [if_neg h5]
            refine ⟨h.room, h.ever, ?_, ?_, ?_, h.nums⟩
            · intro j hj
              rcases List.mem_append.1 hj with h6 | h6
              · exact h.free j h6
              · simp at h6; subst h6; exact ⟨g1, g2⟩
            · rw [List.nodup_append]
              exact ⟨h.once, by simp, fun x hx y hy => by simp at hy; subst hy; intro e; subst e; exact g4 hx⟩
            · show a.ever - ((a.free ++ [i]).length : Int) ≤ a.room
              have := h.fits
              rw [List.length_append]; simp; omega
end Go.Proofs.Ytjgcdmeojjnjlaa.Bo
/- Cuts as keys: a right cut is a whole number from -2^63 (ahead of all) to 2^63 (behind all). -/
namespace Go.Proofs.Ytjgcdmeojjnjlaa.Bo
/-- The key of a cut: the number behind it; of the last one 2^63. -/
def key (s a : Int) : Int := if s < 0 then -9223372036854775808 else if 0 < s then 9223372036854775808 else a
/-- Side and At of the right cut of a key. -/
def sd (k : Int) : Int := if k = -9223372036854775808 then -1 else if k = 9223372036854775808 then 1 else 0
def pa (k : Int) : Int := if k = -9223372036854775808 then 0 else if k = 9223372036854775808 then 0 else k
/-- A key. -/
def Ky (k : Int) : Prop := -9223372036854775808 ≤ k ∧ k ≤ 9223372036854775808
theorem key_ky (s a : Int) (ha : I64 a) : Ky (key s a) := by unfold I64 at ha; unfold key Ky; split <;> (try split) <;> omega
theorem sd_lo : sd (-9223372036854775808) = -1 := by decide
theorem pa_lo : pa (-9223372036854775808) = 0 := by decide
theorem sd_hi : sd 9223372036854775808 = 1 := by decide
theorem pa_hi : pa 9223372036854775808 = 0 := by decide
theorem sd_mid (k : Int) (h : k ≠ -9223372036854775808) (h2 : k ≠ 9223372036854775808) : sd k = 0 := by unfold sd; rw [if_neg h, if_neg h2]
theorem pa_mid (k : Int) (h : k ≠ -9223372036854775808) (h2 : k ≠ 9223372036854775808) : pa k = k := by unfold pa; rw [if_neg h, if_neg h2]
theorem key_neg (s a : Int) (h : s < 0) : key s a = -9223372036854775808 := by unfold key; rw [if_pos h]
theorem key_pos (s a : Int) (h : 0 < s) : key s a = 9223372036854775808 := by unfold key; rw [if_neg (by omega), if_pos h]
theorem key_zero (a : Int) : key 0 a = a := by unfold key; simp
/-- A key's three kinds. -/
theorem ky_cases (k : Int) (h : Ky k) : (k = -9223372036854775808 ∧ sd k = -1 ∧ pa k = 0) ∨ (k = 9223372036854775808 ∧ sd k = 1 ∧ pa k = 0) ∨ (-9223372036854775808 < k ∧ k < 9223372036854775808 ∧ sd k = 0 ∧ pa k = k) := by
  unfold Ky at h
  by_cases h1 : k = -9223372036854775808
  · subst h1; exact .inl ⟨rfl, sd_lo, pa_lo⟩
  · by_cases h2 : k = 9223372036854775808
    · subst h2; exact .inr (.inl ⟨rfl, sd_hi, pa_hi⟩)
    · exact .inr (.inr ⟨by omega, by omega, sd_mid k h1 h2, pa_mid k h1 h2⟩)
/-- Going back: a key's cut has that key. -/
theorem key_back (k : Int) (h : Ky k) : key (sd k) (pa k) = k := by
  rcases ky_cases k h with ⟨rfl, h1, h2⟩ | ⟨rfl, h1, h2⟩ | ⟨_, _, h1, h2⟩ <;> rw [h1, h2] <;> unfold key <;> simp
theorem pa_i64 (k : Int) (h : Ky k) : I64 (pa k) := by
  unfold I64
  rcases ky_cases k h with ⟨rfl, h1, h2⟩ | ⟨rfl, h1, h2⟩ | ⟨_, _, h1, h2⟩ <;> rw [h2] <;> omega
/-- The order of two keys, as a number. -/
def kcmp (a b : Int) : Int := if a < b then -1 else if b < a then 1 else 0
theorem kcmp_lt (a b : Int) (h : a < b) : kcmp a b = -1 := by unfold kcmp; rw [if_pos h]
theorem kcmp_gt (a b : Int) (h : b < a) : kcmp a b = 1 := by unfold kcmp; rw [if_neg (by omega), if_pos h]
theorem kcmp_eq (a b : Int) (h : a = b) : kcmp a b = 0 := by unfold kcmp; rw [if_neg (by omega), if_neg (by omega)]
theorem lt_side (k l : Int) (hk : Ky k) (hl : Ky l) (h : sd k ≠ sd l) : decide (sd k < sd l) = decide (k < l) := by
  unfold Ky at hk hl
  rcases ky_cases k hk with ⟨g, h1, h2⟩ | ⟨g, h1, h2⟩ | ⟨g, g', h1, h2⟩ <;> rcases ky_cases l hl with ⟨f, h3, h4⟩ | ⟨f, h3, h4⟩ | ⟨f, f', h3, h4⟩ <;> rw [h1, h3] at h ⊢ <;>
    first
      | exact absurd rfl h
      | (rw [decide_eq_true (show (_ : Int) < _ by omega), decide_eq_true (show (_ : Int) < _ by omega)])
      | (rw [decide_eq_false (show ¬ (_ : Int) < _ by omega), decide_eq_false (show ¬ (_ : Int) < _ by omega)])
theorem lt_at (k l : Int) (hk : Ky k) (hl : Ky l) (h : sd k = sd l) : decide (pa k < pa l) = decide (k < l) := by
  unfold Ky at hk hl
  rcases ky_cases k hk with ⟨g, h1, h2⟩ | ⟨g, h1, h2⟩ | ⟨g, g', h1, h2⟩ <;> rcases ky_cases l hl with ⟨f, h3, h4⟩ | ⟨f, h3, h4⟩ | ⟨f, f', h3, h4⟩ <;> rw [h1, h3] at h <;> rw [h2, h4] <;>
    first
      | rfl
      | (exfalso; revert h; decide)
      | (rw [g, f]; rfl)
/-- The number behind a cut, and whether there is one; the number ahead of it, and whether there is one. -/
def nx (k : Int) : Int := if k = 9223372036854775808 then 0 else k
def nxb (k : Int) : Bool := decide (k ≠ 9223372036854775808)
def pv (k : Int) : Int := if k = -9223372036854775808 then 0 else k - 1
theorem nx_in (k : Int) (h : k < 9223372036854775808) : nx k = k ∧ nxb k = true := by unfold nx nxb; rw [if_neg (by omega)]; exact ⟨rfl, decide_eq_true (by omega)⟩
theorem nx_hi : nx 9223372036854775808 = 0 ∧ nxb 9223372036854775808 = false := by decide
end Go.Proofs.Ytjgcdmeojjnjlaa.Bo
/- Spans as pairs of keys, and rows of them as sets of numbers. -/
namespace Go.Proofs.Ytjgcdmeojjnjlaa.Bo
/-- A span as it lies in memory: Side and At of Low, Side and At of High. -/
structure S4 where
  ls : Int
  la : Int
  hs : Int
  ha : Int
/-- The keys of its cuts. -/
def S4.lo (q : S4) : Int := key q.ls q.la
def S4.hi (q : S4) : Int := key q.hs q.ha
/-- Its numbers fit. -/
def S4.ok (q : S4) : Prop := I64 q.la ∧ I64 q.ha
/-- Are its cuts right ones? -/
def S4.lowR (q : S4) : Bool := sd q.lo == q.ls && pa q.lo == q.la
def S4.highR (q : S4) : Bool := sd q.hi == q.hs && pa q.hi == q.ha
/-- Is it right? -/
def S4.right (q : S4) : Bool := q.lowR && q.highR && decide (q.lo < q.hi)
/-- The span of two keys. -/
def sp (p : Int × Int) : S4 := ⟨sd p.1, pa p.1, sd p.2, pa p.2⟩
/-- A number is one of a row's of pairs of keys. -/
def cov (ps : List (Int × Int)) (n : Int) : Prop := ∃ p ∈ ps, p.1 ≤ n ∧ n < p.2
theorem cov_cons (p : Int × Int) (ps : List (Int × Int)) (n : Int) : cov (p :: ps) n ↔ (p.1 ≤ n ∧ n < p.2) ∨ cov ps n := by
  unfold cov
  constructor
  · rintro ⟨q, hq, h⟩
    rcases List.mem_cons.1 hq with e | e
    · subst e; exact .inl h
    · exact .inr ⟨q, e, h⟩
  · rintro (h | ⟨q, hq, h⟩)
    · exact ⟨p, List.mem_cons_self .., h⟩
    · exact ⟨q, List.mem_cons_of_mem _ hq, h⟩
theorem cov_nil (n : Int) : ¬ cov [] n := by rintro ⟨_, h, _⟩; simp at h
theorem cov_append (ps qs : List (Int × Int)) (n : Int) : cov (ps ++ qs) n ↔ cov ps n ∨ cov qs n := by
  unfold cov
  constructor
  · rintro ⟨q, hq, h⟩
    rcases List.mem_append.1 hq with e | e
    · exact .inl ⟨q, e, h⟩
    · exact .inr ⟨q, e, h⟩
  · rintro (⟨q, hq, h⟩ | ⟨q, hq, h⟩)
    · exact ⟨q, List.mem_append_left _ hq, h⟩
    · exact ⟨q, List.mem_append_right _ hq, h⟩
end Go.Proofs.Ytjgcdmeojjnjlaa.Bo
/- Rows of digits as whole numbers, the lowest one first. No Go in sight. -/
namespace Go.Proofs.Ytjgcdmeojjnjlaa.Bo
/-- What a row of digits is worth. -/
def val : List Nat → Nat
  | [] => 0
  | d :: l => d + 10 * val l
/-- All are digits. -/
def Ok (xs : List Nat) : Prop := ∀ d ∈ xs, d < 10
theorem Ok.nil : Ok [] := by intro d h; cases h
theorem Ok.getD {xs : List Nat} (h : Ok xs) (i : Nat) : xs.getD i 0 < 10 := by
  by_cases hi : i < xs.length
  · rw [List.getD_eq_getElem?_getD, List.getElem?_eq_getElem hi]; exact h _ (List.getElem_mem hi)
  · rw [List.getD_eq_getElem?_getD, List.getElem?_eq_none (by omega)]; decide
theorem Ok.take {xs : List Nat} (h : Ok xs) (n : Nat) : Ok (xs.take n) := fun d hd => h d (List.mem_of_mem_take hd)
end Go.Proofs.Ytjgcdmeojjnjlaa.Bo
/- Rows of digits in memory; contracts of digit, more. -/
namespace Go.Proofs.Ytjgcdmeojjnjlaa
open Go.RowKit Go.Proofs.Ytjgcdmeojjnjlaa.Bo
set_option linter.unusedVariables false
/-- One call behind the other: what was there stays. -/
theorem bt {a b c : World} (h1 : Below a.heap.size a b) (h2 : Below b.heap.size b c) : Below a.heap.size a c := h1.trans (h2.mono h1.size)
/-- The slice v holds the digits xs, at the head of a block, or is empty. -/
def Dg (w : World) (v : Value) (xs : List Nat) : Prop :=
  ∃ (a : Option Addr) (cap : Nat), v = .slice a xs.length cap ∧ xs.length ≤ cap ∧ (0 < xs.length → ∃ g cur, a = some ⟨g, 0, none⟩ ∧ w.heap[g]? = some (.cells cur 3 (0, 0)) ∧ ∀ (j : Nat) (h : j < xs.length), cur[j]? = some (.int .i64 ((xs[j] : Nat) : Int)))
theorem Dg.below {w w' : World} {v : Value} {xs : List Nat} (h : Dg w v xs) (hb : Below w.heap.size w w') : Dg w' v xs := by
  obtain ⟨a, cap, hv, hc, hg⟩ := h
  refine ⟨a, cap, hv, hc, fun hp => ?_⟩
  obtain ⟨g, cur, ha, hgb, hcur⟩ := hg hp
  exact ⟨g, cur, ha, (hb.block g (lt_of_block hgb)).trans hgb, hcur⟩
/-- A store into a block of another make is not seen. -/
theorem Dg.far {w : World} {v : Value} {xs : List Nat} (h : Dg w v xs) {b : Nat} {cs : Array Value} {t : TypeId} (hb : w.heap[b]? = some (.cells cs t (0, 0))) (ht : t ≠ 3) (i : Nat) (u : Value) : Dg (w.setCell ⟨b, i, none⟩ u) v xs := by
  obtain ⟨a, cap, hv, hc, hg⟩ := h
  refine ⟨a, cap, hv, hc, fun hp => ?_⟩
  obtain ⟨g, cur, ha, hgb, hcur⟩ := hg hp
  refine ⟨g, cur, ha, ?_, hcur⟩
  rw [heap_setCell_other _ _ _ _ ?_]
  · exact hgb
  · rintro rfl
    rw [hgb] at hb
    injection hb with hb
    injection hb with _ h2
    exact ht h2.symm
end Go.Proofs.Ytjgcdmeojjnjlaa
/- Contracts of package cut's small functions. -/
namespace Go.Proofs.Ytjgcdmeojjnjlaa
open Go.RowKit Go.Sort Go.Proofs.Ytjgcdmeojjnjlaa.Bo
set_option linter.unusedVariables false
/-- What was there stays, and draws go on: all that the small functions of cut do to the world. -/
def Lays (w w' : World) : Prop := Below w.heap.size w w' ∧ w.drawn ≤ w'.drawn
theorem Lays.refl (w : World) : Lays w w := ⟨Below.refl _ _, Nat.le_refl _⟩
theorem Lays.trans {a b c : World} (h1 : Lays a b) (h2 : Lays b c) : Lays a c := ⟨bt h1.1 h2.1, Nat.le_trans h1.2 h2.2⟩
theorem Lays.drew {a b : World} (h : Lays a b) : Lays a b.drew := ⟨h.1.drew, Nat.le_trans h.2 (Nat.le_succ _)⟩
theorem Lays.alloc {a b : World} (h : Lays a b) (o : Obj) : Lays a (b.alloc o) := ⟨h.1.alloc h.1.size o, h.2⟩
theorem Lays.setCell {a b : World} (h : Lays a b) {p : Addr} (hp : a.heap.size ≤ p.block) (u : Value) : Lays a (b.setCell p u) := ⟨h.1.setCell hp u, h.2⟩
/-- Such a world is the old one, draws on, with blocks behind it. -/
theorem Lays.grown {a b : World} (h : Lays a b) : ∃ q os, b = grow (a.drewN q) os := by
  obtain ⟨⟨h1, h2, h3, h4, h5⟩, h6⟩ := h
  refine ⟨b.drawn - a.drawn, b.heap.extract a.heap.size b.heap.size, ?_⟩
  obtain ⟨bh, bt, bd, bo, bou⟩ := b
  obtain ⟨ah, at_, ad, ao, aou⟩ := a
  simp only at h1 h2 h3 h4 h5 h6
  subst h1 h2 h3
  unfold grow World.drewN
  simp only [World.mk.injEq, and_true, true_and]
  refine ⟨?_, by omega⟩
  apply Array.ext_getElem?
  intro k
  rw [Array.getElem?_append]
  split
  · rename_i hk; exact h5 k hk
  · rename_i hk
    rw [Array.getElem?_extract]
    split
    · congr 1; omega
    · rename_i h7
      rw [Array.getElem?_eq_none]; omega
theorem lays_grow (w : World) (q : Nat) (os : Array Obj) : Lays w (grow (w.drewN q) os) :=
  ⟨⟨rfl, rfl, rfl, by simp, fun k hk => by rw [heap_grow_old _ _ (by exact hk)]; rfl⟩, Nat.le_add_right _ _⟩
theorem two_put {W : World} {b : Nat} {x y p q : Value} {t : TypeId} (h : W.heap[b]? = some (.cells #[x, y] t (0, 0))) :
    ((W.setCell ⟨b, 0, none⟩ p).setCell ⟨b, 1, none⟩ q).heap[b]? = some (.cells #[p, q] t (0, 0)) := by
  have h1 := heap_setCell_same W b 0 _ _ p h
  have h2 := heap_setCell_same _ b 1 _ _ q h1
  rw [h2]; rfl
/-- A block of two cells: what is read there, and that it may be written. -/
theorem two_cells {W : World} {b : Nat} {x y : Value} {t : TypeId} (h : W.heap[b]? = some (.cells #[x, y] t (0, 0))) :
    W.cell? ⟨b, 0, none⟩ = some x ∧ W.cell? ⟨b, 1, none⟩ = some y ∧ W.frozen? ⟨b, 0, none⟩ = false ∧ W.frozen? ⟨b, 1, none⟩ = false :=
  ⟨(cell_of_row _ _ 0 _ _ _ h).trans rfl, (cell_of_row _ _ 1 _ _ _ h).trans rfl, frozen_of_row _ _ 0 _ _ h, frozen_of_row _ _ 1 _ _ h⟩
theorem first_any (w : World) : Calls Try.prog 48 #[] w fun e w' => e = .returned (.agg #[.int .i64 (-1), .int .i64 0]) ∧ Lays w w' := by
  go_enter Try.func48, Try.ntmps48
  go_wp2
  refine bodyPost_ret (v := .agg #[.int .i64 (-1), .int .i64 0]) (by simp [results, Try.results48, go_sem]) rfl ?_
  exact ⟨rfl, (Lays.refl _).alloc _⟩
theorem last_any (w : World) : Calls Try.prog 49 #[] w fun e w' => e = .returned (.agg #[.int .i64 1, .int .i64 0]) ∧ Lays w w' := by
  go_enter Try.func49, Try.ntmps49
  go_wp2
  refine bodyPost_ret (v := .agg #[.int .i64 1, .int .i64 0]) (by simp [results, Try.results49, go_sem]) rfl ?_
  exact ⟨rfl, (Lays.refl _).alloc _⟩
theorem canon_first (s a : Int) (w : World) (h : s < 0 ∨ (s = 0 ∧ a = -9223372036854775808)) :
    Calls Try.prog 99 #[.agg #[.int .i64 s, .int .i64 a]] w fun e w' => e = .returned (.agg #[.int .i64 (-1), .int .i64 0]) ∧ Lays w w' := by
  have tail : ∀ w1 : World, Lays ((w.alloc (.cells #[.int .i64 s, .int .i64 a] 34)).alloc (.cells #[.int .i64 0, .int .i64 0] 34)) w1 →
      w1.heap[w.heap.size + 1]? = some (.cells #[.int .i64 0, .int .i64 0] 34 (0, 0)) := fun w1 hL => by
    rw [hL.1.block _ (by simp)]; exact heap_alloc2_new _ _ _
  have HT := Lib.hid tail
  clear tail
  rcases h with h | ⟨rfl, rfl⟩
  · have t1 : decide (s < 0) = true := decide_eq_true h
    go_enter Try.func99, Try.ntmps99
    go_wp2_with fail
    refine (first_any _).mono ?_
    rintro e w1 ⟨rfl, hL⟩
    have hb := HT.out w1 hL
    have hp := two_cells (two_put (p := .int .i64 (-1)) (q := .int .i64 0) hb)
    obtain ⟨p1, p2, _, _⟩ := hp
    obtain ⟨q1, q2, q3, q4⟩ := two_cells hb
    clear hb
    go_wp2_with fail
    refine bodyPost_ret (v := .agg #[.int .i64 (-1), .int .i64 0]) (by simp [results, Try.results99, go_sem, p1, p2]) rfl ?_
    exact ⟨rfl, (((((Lays.refl _).alloc _).alloc _).trans hL).setCell (by simp) _).setCell (by simp) _⟩
  · go_enter Try.func99, Try.ntmps99
    go_wp2_with fail
    refine (first_any _).mono ?_
    rintro e w1 ⟨rfl, hL⟩
    have hb := HT.out w1 hL
    have hp := two_cells (two_put (p := .int .i64 (-1)) (q := .int .i64 0) hb)
    obtain ⟨p1, p2, _, _⟩ := hp
    obtain ⟨q1, q2, q3, q4⟩ := two_cells hb
    clear hb
    go_wp2_with fail
    refine bodyPost_ret (v := .agg #[.int .i64 (-1), .int .i64 0]) (by simp [results, Try.results99, go_sem, p1, p2]) rfl ?_
    exact ⟨rfl, (((((Lays.refl _).alloc _).alloc _).trans hL).setCell (by simp) _).setCell (by simp) _⟩
theorem canon_last (s a : Int) (w : World) (h : 0 < s) :
    Calls Try.prog 99 #[.agg #[.int .i64 s, .int .i64 a]] w fun e w' => e = .returned (.agg #[.int .i64 1, .int .i64 0]) ∧ Lays w w' := by
  have tail : ∀ w1 : World, Lays ((w.alloc (.cells #[.int .i64 s, .int .i64 a] 34)).alloc (.cells #[.int .i64 0, .int .i64 0] 34)) w1 →
      w1.heap[w.heap.size + 1]? = some (.cells #[.int .i64 0, .int .i64 0] 34 (0, 0)) := fun w1 hL => by
    rw [hL.1.block _ (by simp)]; exact heap_alloc2_new _ _ _
  have HT := Lib.hid tail
  clear tail
  have t1 : decide (s < 0) = false := decide_eq_false (by omega)
  have t2 : (s == 0) = false := beq_eq_false_iff_ne.2 (by omega)
  have t3 : decide (0 < s) = true := decide_eq_true h
  go_enter Try.func99, Try.ntmps99
  go_wp2_with fail
  refine (last_any _).mono ?_
  rintro e w1 ⟨rfl, hL⟩
  have hb := HT.out w1 hL
  have hp := two_cells (two_put (p := .int .i64 1) (q := .int .i64 0) hb)
  obtain ⟨p1, p2, _, _⟩ := hp
  obtain ⟨q1, q2, q3, q4⟩ := two_cells hb
  clear hb
  go_wp2_with fail
  refine bodyPost_ret (v := .agg #[.int .i64 1, .int .i64 0]) (by simp [results, Try.results99, go_sem, p1, p2]) rfl ?_
  exact ⟨rfl, (((((Lays.refl _).alloc _).alloc _).trans hL).setCell (by simp) _).setCell (by simp) _⟩
theorem canon_mid (a : Int) (w : World) (h : a ≠ -9223372036854775808) :
    Calls Try.prog 99 #[.agg #[.int .i64 0, .int .i64 a]] w fun e w' => e = .returned (.agg #[.int .i64 0, .int .i64 a]) ∧ Lays w w' := by
  have t2 : (a == -9223372036854775808) = false := beq_eq_false_iff_ne.2 h
  go_enter Try.func99, Try.ntmps99
  go_wp2_with fail
  refine bodyPost_ret (v := .agg #[.int .i64 0, .int .i64 a]) (by simp [results, Try.results99, go_sem]) rfl ?_
  exact ⟨rfl, ((Lays.refl _).alloc _).alloc _⟩
theorem canon_any (s a : Int) (w : World) (ha : I64 a) :
    Calls Try.prog 99 #[.agg #[.int .i64 s, .int .i64 a]] w fun e w' => e = .returned (.agg #[.int .i64 (sd (key s a)), .int .i64 (pa (key s a))]) ∧ Lays w w' := by
  by_cases h1 : s < 0
  · rw [key_neg s a h1, sd_lo, pa_lo]; exact canon_first s a w (.inl h1)
  · by_cases h2 : 0 < s
    · rw [key_pos s a h2, sd_hi, pa_hi]; exact canon_last s a w h2
    · obtain rfl : s = 0 := by omega
      rw [key_zero]
      by_cases h3 : a = -9223372036854775808
      · subst h3; rw [sd_lo, pa_lo]; exact canon_first 0 _ w (.inr ⟨rfl, rfl⟩)
      · have h4 : a ≠ 9223372036854775808 := by unfold I64 at ha; omega
        rw [sd_mid a h3 h4, pa_mid a h3 h4]; exact canon_mid a w h3
end Go.Proofs.Ytjgcdmeojjnjlaa
/- Contracts of package cut: Right, Next, Prev, Ahead, Behind. -/
namespace Go.Proofs.Ytjgcdmeojjnjlaa
open Go.RowKit Go.Sort Go.Proofs.Ytjgcdmeojjnjlaa.Bo
set_option linter.unusedVariables false
theorem eql_cut (s a t b : Int) (w : World) : Sem.run Try.prog (binOp .eql 34 (.agg #[.int .i64 s, .int .i64 a]) (.agg #[.int .i64 t, .int .i64 b])) w = .ok (.bool (s == t && a == b)) w := by
  have hS : Try.prog.underlying 34 = some (.struct (Try.prog.fieldsOf 34)) := by kernel_rfl
  have hp : Try.prog.stoodInHeld 34 = false := by kernel_rfl
  have u3 := Try.underlying3
  have u2 := Try.underlying2
  rw [run_eql_struct, show (10000 : Nat) = 9999 + 1 from rfl, run_equalIn_agg w 9999 34 _ _ hS hp]
  simp only [Program.fieldsOf, Try.underlying34]
  go_simp
  by_cases h1 : s = t <;> by_cases h2 : a = b <;> simp [h1, h2]
theorem mixed : Try.prog.follows .mixedOrders = true := by kernel_rfl
theorem first_g (w : World) : Calls Try.prog 48 #[] w fun e w' => e = .returned (.agg #[.int .i64 (-1), .int .i64 0]) ∧ ∃ q os, w' = grow (w.drewN q) os := (first_any w).mono fun _ _ h => ⟨h.1, h.2.grown⟩
theorem last_g (w : World) : Calls Try.prog 49 #[] w fun e w' => e = .returned (.agg #[.int .i64 1, .int .i64 0]) ∧ ∃ q os, w' = grow (w.drewN q) os := (last_any w).mono fun _ _ h => ⟨h.1, h.2.grown⟩
/-- A cut in a block: its two cells in every world that only lays and draws behind it. -/
theorem cut_grown {X : World} {b : Nat} {x y : Value} {t : TypeId} (h : X.heap[b]? = some (.cells #[x, y] t (0, 0))) :
    (∀ n os, (grow (X.drewN n) os).cell? ⟨b, 0, none⟩ = some x) ∧ (∀ n os, (grow (X.drewN n) os).cell? ⟨b, 1, none⟩ = some y) :=
  ⟨cell_grown (lt_of_block h) (two_cells h).1, cell_grown (lt_of_block h) (two_cells h).2.1⟩
theorem ret_ib {a a' : Int} {b b' : Bool} (h : a' = a ∧ b' = b) : Ending.returned (.tuple #[.int .i64 a, .bool b]) = .returned (.tuple #[.int .i64 a', .bool b']) := by rw [h.1, h.2]
set_option maxRecDepth 100000 in
theorem next_any (s a : Int) (w : World) (ha : I64 a) :
    Calls Try.prog 105 #[.agg #[.int .i64 s, .int .i64 a]] w fun e w' => e = .returned (.tuple #[.int .i64 (nx (key s a)), .bool (nxb (key s a))]) ∧ Lays w w' := by
  have mx := mixed
  have HC := Lib.hid (fun W => canon_any s a W ha)
  have hk := key_ky s a ha
  generalize key s a = k at *
  have hcases := ky_cases k hk
  have eqc := eql_cut
  rcases hcases with ⟨rfl, h1, h2⟩ | ⟨rfl, h1, h2⟩ | ⟨g1, g2, h1, h2⟩
  · rw [h1, h2] at HC
    clear h1 h2 hk
    go_enter Try.func105, Try.ntmps105
    go_wp2_with fail
    refine (HC.out _).mono ?_
    rintro e w1 ⟨rfl, hL⟩
    have hb : w1.heap[w.heap.size]? = some (.cells #[.int .i64 s, .int .i64 a] 34 (0, 0)) := by rw [hL.1.block _ (by simp)]; exact heap_alloc_new _ _
    have hL1 := ((((Lays.refl _).alloc _).trans hL).setCell (p := ⟨w.heap.size, 0, none⟩) (by simp) (.int .i64 (-1))).setCell (p := ⟨w.heap.size, 1, none⟩) (by simp) (.int .i64 0)
    have hb2 := two_put (p := .int .i64 (-1)) (q := .int .i64 0) hb
    obtain ⟨q1, q2, q3, q4⟩ := two_cells hb
    have HB := Lib.hid hb2
    clear hb hb2
    go_wp2_with fail
    have hb2 := HB.out
    generalize (w1.setCell ⟨w.heap.size, 0, none⟩ (.int .i64 (-1))).setCell ⟨w.heap.size, 1, none⟩ (.int .i64 0) = X at *
    obtain ⟨p1, p2⟩ := cut_grown hb2
    clear q1 q2 q3 q4 hb2 HC
    go_quiet_grown (first | (go_at_call 48; exact Calls.grown_of (first_g _)))
    have hL2 := hL1.trans (lays_grow X nq osq)
    go_wp2_with fail
    go_ret2
    exact ⟨ret_ib (nx_in _ (by decide)), hL2⟩
  · rw [h1, h2] at HC
    clear h1 h2 hk
    go_enter Try.func105, Try.ntmps105
    go_wp2_with fail
    refine (HC.out _).mono ?_
    rintro e w1 ⟨rfl, hL⟩
    have hb : w1.heap[w.heap.size]? = some (.cells #[.int .i64 s, .int .i64 a] 34 (0, 0)) := by rw [hL.1.block _ (by simp)]; exact heap_alloc_new _ _
    have hL1 := ((((Lays.refl _).alloc _).trans hL).setCell (p := ⟨w.heap.size, 0, none⟩) (by simp) (.int .i64 1)).setCell (p := ⟨w.heap.size, 1, none⟩) (by simp) (.int .i64 0)
    have hb2 := two_put (p := .int .i64 1) (q := .int .i64 0) hb
    obtain ⟨q1, q2, q3, q4⟩ := two_cells hb
    have HB := Lib.hid hb2
    clear hb hb2
    go_wp2_with fail
    have hb2 := HB.out
    generalize (w1.setCell ⟨w.heap.size, 0, none⟩ (.int .i64 1)).setCell ⟨w.heap.size, 1, none⟩ (.int .i64 0) = X at *
    obtain ⟨p1, p2⟩ := cut_grown hb2
    clear q1 q2 q3 q4 hb2 HC
    go_quiet_grown (first | (go_at_call 48; exact Calls.grown_of (first_g _)))
    have hY : (grow (X.drewN nq) osq).heap[w.heap.size]? = some (.cells #[.int .i64 1, .int .i64 0] 34 (0, 0)) := by rw [(lays_grow X nq osq).1.block _ (lt_of_block HB.out)]; exact HB.out
    have hL2 := hL1.trans (lays_grow X nq osq)
    have HY := Lib.hid hY
    clear p1 p2 hY HB hL1
    go_wp2_with fail
    generalize grow (X.drewN nq) osq = Y at *
    obtain ⟨p1, p2⟩ := cut_grown HY.out
    go_quiet_grown (first | (go_at_call 49; exact Calls.grown_of (last_g _)))
    have hL3 := hL2.trans (lays_grow Y nq osq)
    go_wp2_with fail
    go_ret2
    exact ⟨ret_ib nx_hi, hL3⟩
  · rw [h1, h2] at HC
    clear h1 h2 hk
    go_enter Try.func105, Try.ntmps105
    go_wp2_with fail
    refine (HC.out _).mono ?_
    rintro e w1 ⟨rfl, hL⟩
    have hb : w1.heap[w.heap.size]? = some (.cells #[.int .i64 s, .int .i64 a] 34 (0, 0)) := by rw [hL.1.block _ (by simp)]; exact heap_alloc_new _ _
    have hL1 := ((((Lays.refl _).alloc _).trans hL).setCell (p := ⟨w.heap.size, 0, none⟩) (by simp) (.int .i64 0)).setCell (p := ⟨w.heap.size, 1, none⟩) (by simp) (.int .i64 k)
    have hb2 := two_put (p := .int .i64 0) (q := .int .i64 k) hb
    obtain ⟨q1, q2, q3, q4⟩ := two_cells hb
    have HB := Lib.hid hb2
    clear hb hb2
    go_wp2_with fail
    have hb2 := HB.out
    generalize (w1.setCell ⟨w.heap.size, 0, none⟩ (.int .i64 0)).setCell ⟨w.heap.size, 1, none⟩ (.int .i64 k) = X at *
    obtain ⟨p1, p2⟩ := cut_grown hb2
    clear q1 q2 q3 q4 hb2 HC
    go_quiet_grown (first | (go_at_call 48; exact Calls.grown_of (first_g _)))
    have hY : (grow (X.drewN nq) osq).heap[w.heap.size]? = some (.cells #[.int .i64 0, .int .i64 k] 34 (0, 0)) := by rw [(lays_grow X nq osq).1.block _ (lt_of_block HB.out)]; exact HB.out
    have hL2 := hL1.trans (lays_grow X nq osq)
    have HY := Lib.hid hY
    clear p1 p2 hY HB hL1
    go_wp2_with fail
    generalize grow (X.drewN nq) osq = Y at *
    obtain ⟨p1, p2⟩ := cut_grown HY.out
    go_quiet_grown (first | (go_at_call 49; exact Calls.grown_of (last_g _)))
    have hL3 := hL2.trans (lays_grow Y nq osq)
    go_wp2_with fail
    go_ret2
    exact ⟨ret_ib (nx_in k (by omega)), hL3⟩
theorem canon_g (s a : Int) (w : World) (ha : I64 a) : Calls Try.prog 99 #[.agg #[.int .i64 s, .int .i64 a]] w fun e w' => e = .returned (.agg #[.int .i64 (sd (key s a)), .int .i64 (pa (key s a))]) ∧ ∃ q os, w' = grow (w.drewN q) os := (canon_any s a w ha).mono fun _ _ h => ⟨h.1, h.2.grown⟩
theorem right_any (s a : Int) (w : World) (ha : I64 a) :
    Calls Try.prog 88 #[.agg #[.int .i64 s, .int .i64 a]] w fun e w' => e = .returned (.bool (s == sd (key s a) && a == pa (key s a))) ∧ Lays w w' := by
  have mx := mixed
  have HC := Lib.hid (fun W => canon_g s a W ha)
  generalize sd (key s a) = t at *
  generalize pa (key s a) = b at *
  have eqc := eql_cut
  go_enter Try.func88, Try.ntmps88
  go_wp2_with fail
  have hb := heap_alloc_new w (.cells #[.int .i64 s, .int .i64 a] 34)
  have hL1 := (Lays.refl w).alloc (.cells #[.int .i64 s, .int .i64 a] 34)
  generalize w.alloc (.cells #[.int .i64 s, .int .i64 a] 34) = X at *
  obtain ⟨p1, p2⟩ := cut_grown hb
  clear hb
  go_quiet_grown (first | (go_at_call 99; exact Calls.grown_of (HC.out _)))
  have hL2 := hL1.trans (lays_grow X nq osq)
  go_wp2_with fail
  go_ret
  exact ⟨rfl, hL2⟩
theorem behind_any (n : Int) (w : World) (hn : I64 n) :
    Calls Try.prog 106 #[.int .i64 n] w fun e w' => e = .returned (.agg #[.int .i64 (sd (n + 1)), .int .i64 (pa (n + 1))]) ∧ Lays w w' := by
  unfold I64 at hn
  by_cases h : n = 9223372036854775807
  · subst h
    rw [show (9223372036854775807 : Int) + 1 = 9223372036854775808 from by decide, sd_hi, pa_hi]
    go_enter Try.func106, Try.ntmps106
    go_wp2_with fail
    refine (last_any _).mono ?_
    rintro e w1 ⟨rfl, hL⟩
    have hb : w1.heap[w.heap.size]? = some (.cells #[.int .i64 0, .int .i64 0] 34 (0, 0)) := by rw [hL.1.block _ (by simp)]; exact heap_alloc_new _ _
    have hL1 := (((Lays.refl _).alloc _).trans hL).setCell (p := ⟨w.heap.size, 0, none⟩) (by simp) (.int .i64 1) |>.setCell (p := ⟨w.heap.size, 1, none⟩) (by simp) (.int .i64 0)
    obtain ⟨p1, p2, _, _⟩ := two_cells (two_put (p := .int .i64 1) (q := .int .i64 0) hb)
    obtain ⟨q1, q2, q3, q4⟩ := two_cells hb
    clear hb
    go_wp2_with fail
    refine bodyPost_ret (v := .agg #[.int .i64 1, .int .i64 0]) (by simp [results, Try.results106, go_sem, p1, p2]) rfl ?_
    exact ⟨rfl, hL1⟩
  · rw [sd_mid (n + 1) (by omega) (by omega), pa_mid (n + 1) (by omega) (by omega)]
    have t1 : (n == 9223372036854775807) = false := beq_eq_false_iff_ne.2 h
    go_enter Try.func106, Try.ntmps106
    go_wp2_with fail
    refine bodyPost_ret (v := .agg #[.int .i64 0, .int .i64 (n + 1)]) (by simp [results, Try.results106, go_sem]) rfl ?_
    exact ⟨rfl, (Lays.refl _).alloc _⟩
end Go.Proofs.Ytjgcdmeojjnjlaa
/- Contract of cut.Compare. -/
namespace Go.Proofs.Ytjgcdmeojjnjlaa
open Go.RowKit Go.Sort Go.Proofs.Ytjgcdmeojjnjlaa.Bo
set_option linter.unusedVariables false
theorem ret_cmp {a b : Int} (h : a = b) : Ending.returned (.int .i64 a) = .returned (.int .i64 b) := by rw [h]
theorem cmpi_any (x y : Int) (w : World) : Calls Try.prog 100 #[.int .i64 x, .int .i64 y] w fun e w' => e = .returned (.int .i64 (kcmp x y)) ∧ w = w' := by
  rcases Int.lt_trichotomy x y with h | h | h
  · have t1 : decide (x < y) = true := decide_eq_true h
    rw [kcmp_lt x y h]
    go_enter Try.func100, Try.ntmps100
    go_wp2
    go_ret
    exact ⟨rfl, rfl⟩
  · subst h
    rw [kcmp_eq x x rfl]
    have t1 : decide (x < x) = false := decide_eq_false (by omega)
    go_enter Try.func100, Try.ntmps100
    go_wp2
    go_ret
    exact ⟨rfl, rfl⟩
  · have t1 : decide (x < y) = false := decide_eq_false (by omega)
    have t2 : decide (y < x) = true := decide_eq_true h
    rw [kcmp_gt x y h]
    go_enter Try.func100, Try.ntmps100
    go_wp2
    go_ret
    exact ⟨rfl, rfl⟩
/-- The two cells of two boxes that lie side by side. -/
def Two (b : Nat) (s a t c : Int) (w : World) : Prop :=
  w.heap[b]? = some (.cells #[.int .i64 s, .int .i64 a] 34 (0, 0)) ∧ w.heap[b + 1]? = some (.cells #[.int .i64 t, .int .i64 c] 34 (0, 0))
theorem Two.below {b : Nat} {s a t c : Int} {w w' : World} (h : Two b s a t c w) (hb : Below w.heap.size w w') : Two b s a t c w' :=
  ⟨(hb.block _ (lt_of_block h.1)).trans h.1, (hb.block _ (lt_of_block h.2)).trans h.2⟩
theorem Two.cells {b : Nat} {s a t c : Int} {w : World} (h : Two b s a t c w) : w.cell? ⟨b, 0, none⟩ = some (.int .i64 s) ∧ w.cell? ⟨b, 1, none⟩ = some (.int .i64 a) ∧ w.cell? ⟨b + 1, 0, none⟩ = some (.int .i64 t) ∧ w.cell? ⟨b + 1, 1, none⟩ = some (.int .i64 c) ∧
    w.frozen? ⟨b, 0, none⟩ = false ∧ w.frozen? ⟨b, 1, none⟩ = false ∧ w.frozen? ⟨b + 1, 0, none⟩ = false ∧ w.frozen? ⟨b + 1, 1, none⟩ = false :=
  ⟨(two_cells h.1).1, (two_cells h.1).2.1, (two_cells h.2).1, (two_cells h.2).2.1, (two_cells h.1).2.2.1, (two_cells h.1).2.2.2, (two_cells h.2).2.2.1, (two_cells h.2).2.2.2⟩
theorem Two.put {b : Nat} {s a t c : Int} {w : World} (h : Two b s a t c w) (s' a' t' c' : Int) :
    Two b s' a' t' c' ((((w.setCell ⟨b, 0, none⟩ (.int .i64 s')).setCell ⟨b, 1, none⟩ (.int .i64 a')).setCell ⟨b + 1, 0, none⟩ (.int .i64 t')).setCell ⟨b + 1, 1, none⟩ (.int .i64 c')) := by
  refine ⟨?_, ?_⟩
  · rw [heap_setCell_other _ _ _ _ (by simp), heap_setCell_other _ _ _ _ (by simp)]; exact two_put h.1
  · refine two_put (x := .int .i64 t) (y := .int .i64 c) ?_
    rw [heap_setCell_other _ _ _ _ (by simp), heap_setCell_other _ _ _ _ (by simp)]; exact h.2
set_option maxRecDepth 100000 in
set_option maxHeartbeats 1000000 in
theorem compare_any (s a t b : Int) (w : World) (ha : I64 a) (hb : I64 b) :
    Calls Try.prog 83 #[.agg #[.int .i64 s, .int .i64 a], .agg #[.int .i64 t, .int .i64 b]] w fun e w' => e = .returned (.int .i64 (kcmp (key s a) (key t b))) ∧ Lays w w' := by
  have mx := mixed
  have HC := Lib.hid (fun W => canon_any s a W ha)
  have HD := Lib.hid (fun W => canon_any t b W hb)
  have hk := key_ky s a ha
  have hl := key_ky t b hb
  generalize key s a = k at *
  generalize key t b = l at *
  have HE : Hid (∃ x y u v, x = sd k ∧ y = pa k ∧ u = sd l ∧ v = pa l) := ⟨_, _, _, _, rfl, rfl, rfl, rfl⟩
  obtain ⟨x, y, u, v, e1, e2, e3, e4⟩ := HE.out
  rw [← e1, ← e2] at HC
  rw [← e3, ← e4] at HD
  have E := Lib.hid (And.intro e1 (And.intro e2 (And.intro e3 e4)))
  clear e1 e2 e3 e4 HE
  have eqc := eql_cut
  go_enter Try.func83, Try.ntmps83
  go_upto_region 1 with fail
  have hT0 : Two w.heap.size s a t b ((w.alloc (.cells #[.int .i64 s, .int .i64 a] 34)).alloc (.cells #[.int .i64 t, .int .i64 b] 34)) := ⟨heap_alloc2_old _ _ _, heap_alloc2_new _ _ _⟩
  have hL0 := ((Lays.refl w).alloc (.cells #[.int .i64 s, .int .i64 a] 34)).alloc (.cells #[.int .i64 t, .int .i64 b] 34)
  generalize (w.alloc (.cells #[.int .i64 s, .int .i64 a] 34)).alloc (.cells #[.int .i64 t, .int .i64 b] 34) = X at *
  have HT := Lib.hid hT0
  go_cut [] from 5 to 35 (fun wx => Two w.heap.size x y u v wx ∧ Lays w wx)
  case first =>
    obtain ⟨p1, p2, p3, p4, p5, p6, p7, p8⟩ := hT0.cells
    clear hT0
    go_region_with (first
      | (go_at_call 99; (with_reducible refine (HC.out _).mono ?_); rintro e x4 ⟨rfl, hL4'⟩; have hL4 := (Lays.refl X).drew.trans hL4'; have hT4 := Lib.hid (HT.out.below hL4.1); obtain ⟨c1, c2, c3, c4, c5, c6, c7, c8⟩ := hT4.out.cells; clear hL4')
      | (go_at_call 99; (with_reducible refine (HD.out _).mono ?_); rintro e x5 ⟨rfl, hL5⟩; have hT5 := Lib.hid (hT4.out.below hL5.1); obtain ⟨d1, d2, d3, d4, d5, d6, d7, d8⟩ := hT5.out.cells))
    all_goals (go_wp2_with fail; go_meet; exact ⟨hT5.out.put x y u v, ((((hL0.trans hL4).trans hL5).setCell (by simp) _).setCell (by simp) _).setCell (by simp) _ |>.setCell (by simp) _⟩)
  case rest =>
  obtain ⟨hT, hL⟩ := hcut
  obtain ⟨e1, e2, e3, e4⟩ := E.out
  clear HC HD HT hL0 hT0 ha hb
  generalize wc = Y at *
  rcases ky_cases k hk with ⟨hk1, g1, g2⟩ | ⟨hk1, g1, g2⟩ | ⟨hk1, hk2, g1, g2⟩
  · rw [g1] at e1
    rw [g2] at e2
    subst e1 e2
    clear g1 g2 hk
    rcases ky_cases l hl with ⟨hl1, g1, g2⟩ | ⟨hl1, g1, g2⟩ | ⟨hl1, hl2, g1, g2⟩
    · rw [g1] at e3
      rw [g2] at e4
      subst e3 e4
      clear g1 g2 hl E
      obtain ⟨c1, c2, c3, c4, c5, c6, c7, c8⟩ := hT.cells
      go_wp2_with fail
      go_ret
      exact ⟨ret_cmp (kcmp_eq _ _ (by omega)).symm, hL⟩
    · rw [g1] at e3
      rw [g2] at e4
      subst e3 e4
      clear g1 g2 hl E
      obtain ⟨c1, c2, c3, c4, c5, c6, c7, c8⟩ := hT.cells
      go_wp2_with fail
      clear c1 c2 c3 c4 c5 c6 c7 c8
      obtain ⟨p1, p2⟩ := cut_grown hT.1
      obtain ⟨p3, p4⟩ := cut_grown hT.2
      go_quiet_grown (first | (go_at_call 48; exact Calls.grown_of (first_g _)) | (go_at_call 49; exact Calls.grown_of (last_g _)))
      have hL1 := hL.trans (lays_grow Y nq osq)
      go_wp2_with fail
      go_ret
      exact ⟨ret_cmp (kcmp_lt _ _ (by omega)).symm, hL1⟩
    · rw [g1] at e3
      rw [g2] at e4
      subst e3 e4
      clear g1 g2 hl E
      obtain ⟨c1, c2, c3, c4, c5, c6, c7, c8⟩ := hT.cells
      go_wp2_with fail
      clear c1 c2 c3 c4 c5 c6 c7 c8
      obtain ⟨p1, p2⟩ := cut_grown hT.1
      obtain ⟨p3, p4⟩ := cut_grown hT.2
      go_quiet_grown (first | (go_at_call 48; exact Calls.grown_of (first_g _)) | (go_at_call 49; exact Calls.grown_of (last_g _)))
      have hL1 := hL.trans (lays_grow Y nq osq)
      go_wp2_with fail
      go_ret
      exact ⟨ret_cmp (kcmp_lt _ _ (by omega)).symm, hL1⟩
  · rw [g1] at e1
    rw [g2] at e2
    subst e1 e2
    clear g1 g2 hk
    rcases ky_cases l hl with ⟨hl1, g1, g2⟩ | ⟨hl1, g1, g2⟩ | ⟨hl1, hl2, g1, g2⟩
    · rw [g1] at e3
      rw [g2] at e4
      subst e3 e4
      clear g1 g2 hl E
      obtain ⟨c1, c2, c3, c4, c5, c6, c7, c8⟩ := hT.cells
      go_wp2_with fail
      clear c1 c2 c3 c4 c5 c6 c7 c8
      obtain ⟨p1, p2⟩ := cut_grown hT.1
      obtain ⟨p3, p4⟩ := cut_grown hT.2
      go_quiet_grown (first | (go_at_call 48; exact Calls.grown_of (first_g _)) | (go_at_call 49; exact Calls.grown_of (last_g _)))
      have hT1 := hT.below (lays_grow Y nq osq).1
      have hL1 := hL.trans (lays_grow Y nq osq)
      clear p1 p2 p3 p4 hT hL
      go_wp2_with fail
      generalize grow (Y.drewN nq) osq = Z at *
      have hT := hT1
      have hL := hL1
      clear hT1 hL1
      obtain ⟨p1, p2⟩ := cut_grown hT.1
      obtain ⟨p3, p4⟩ := cut_grown hT.2
      go_quiet_grown (first | (go_at_call 48; exact Calls.grown_of (first_g _)) | (go_at_call 49; exact Calls.grown_of (last_g _)))
      have hL1 := hL.trans (lays_grow Z nq osq)
      go_wp2_with fail
      go_ret
      exact ⟨ret_cmp (kcmp_gt _ _ (by omega)).symm, hL1⟩
    · rw [g1] at e3
      rw [g2] at e4
      subst e3 e4
      clear g1 g2 hl E
      obtain ⟨c1, c2, c3, c4, c5, c6, c7, c8⟩ := hT.cells
      go_wp2_with fail
      go_ret
      exact ⟨ret_cmp (kcmp_eq _ _ (by omega)).symm, hL⟩
    · rw [g1] at e3
      rw [g2] at e4
      subst e3 e4
      clear g1 g2 hl E
      obtain ⟨c1, c2, c3, c4, c5, c6, c7, c8⟩ := hT.cells
      go_wp2_with fail
      clear c1 c2 c3 c4 c5 c6 c7 c8
      obtain ⟨p1, p2⟩ := cut_grown hT.1
      obtain ⟨p3, p4⟩ := cut_grown hT.2
      go_quiet_grown (first | (go_at_call 48; exact Calls.grown_of (first_g _)) | (go_at_call 49; exact Calls.grown_of (last_g _)))
      have hT1 := hT.below (lays_grow Y nq osq).1
      have hL1 := hL.trans (lays_grow Y nq osq)
      clear p1 p2 p3 p4 hT hL
      go_wp2_with fail
      generalize grow (Y.drewN nq) osq = Z at *
      have hT := hT1
      have hL := hL1
      clear hT1 hL1
      obtain ⟨p1, p2⟩ := cut_grown hT.1
      obtain ⟨p3, p4⟩ := cut_grown hT.2
      go_quiet_grown (first | (go_at_call 48; exact Calls.grown_of (first_g _)) | (go_at_call 49; exact Calls.grown_of (last_g _)))
      have hL1 := hL.trans (lays_grow Z nq osq)
      go_wp2_with fail
      go_ret
      exact ⟨ret_cmp (kcmp_gt _ _ (by omega)).symm, hL1⟩
  · rw [g1] at e1
    rw [g2] at e2
    subst e1 e2
    clear g1 g2 hk
    rcases ky_cases l hl with ⟨hl1, g1, g2⟩ | ⟨hl1, g1, g2⟩ | ⟨hl1, hl2, g1, g2⟩
    · rw [g1] at e3
      rw [g2] at e4
      subst e3 e4
      clear g1 g2 hl E
      obtain ⟨c1, c2, c3, c4, c5, c6, c7, c8⟩ := hT.cells
      go_wp2_with fail
      clear c1 c2 c3 c4 c5 c6 c7 c8
      obtain ⟨p1, p2⟩ := cut_grown hT.1
      obtain ⟨p3, p4⟩ := cut_grown hT.2
      go_quiet_grown (first | (go_at_call 48; exact Calls.grown_of (first_g _)) | (go_at_call 49; exact Calls.grown_of (last_g _)))
      have hT1 := hT.below (lays_grow Y nq osq).1
      have hL1 := hL.trans (lays_grow Y nq osq)
      clear p1 p2 p3 p4 hT hL
      go_wp2_with fail
      generalize grow (Y.drewN nq) osq = Z at *
      have hT := hT1
      have hL := hL1
      clear hT1 hL1
      obtain ⟨p1, p2⟩ := cut_grown hT.1
      obtain ⟨p3, p4⟩ := cut_grown hT.2
      go_quiet_grown (first | (go_at_call 48; exact Calls.grown_of (first_g _)) | (go_at_call 49; exact Calls.grown_of (last_g _)))
      have hL1 := hL.trans (lays_grow Z nq osq)
      go_wp2_with fail
      go_ret
      exact ⟨ret_cmp (kcmp_gt _ _ (by omega)).symm, hL1⟩
    · rw [g1] at e3
      rw [g2] at e4
      subst e3 e4
      clear g1 g2 hl E
      obtain ⟨c1, c2, c3, c4, c5, c6, c7, c8⟩ := hT.cells
      go_wp2_with fail
      clear c1 c2 c3 c4 c5 c6 c7 c8
      obtain ⟨p1, p2⟩ := cut_grown hT.1
      obtain ⟨p3, p4⟩ := cut_grown hT.2
      go_quiet_grown (first | (go_at_call 48; exact Calls.grown_of (first_g _)) | (go_at_call 49; exact Calls.grown_of (last_g _)))
      have hL1 := hL.trans (lays_grow Y nq osq)
      go_wp2_with fail
      go_ret
      exact ⟨ret_cmp (kcmp_lt _ _ (by omega)).symm, hL1⟩
    · rw [g1] at e3
      rw [g2] at e4
      subst e3 e4
      clear g1 g2 hl E
      by_cases hq : y = v
      · subst hq
        have tq : (y == y) = true := beq_self_eq_true _
        obtain ⟨c1, c2, c3, c4, c5, c6, c7, c8⟩ := hT.cells
        go_wp2_with fail
        go_ret
        exact ⟨ret_cmp (kcmp_eq _ _ (by omega)).symm, hL⟩
      · have tq : (y == v) = false := beq_eq_false_iff_ne.2 hq
        clear hq
        obtain ⟨c1, c2, c3, c4, c5, c6, c7, c8⟩ := hT.cells
        go_wp2_with fail
        clear c1 c2 c3 c4 c5 c6 c7 c8
        obtain ⟨p1, p2⟩ := cut_grown hT.1
        obtain ⟨p3, p4⟩ := cut_grown hT.2
        go_quiet_grown (first | (go_at_call 48; exact Calls.grown_of (first_g _)) | (go_at_call 49; exact Calls.grown_of (last_g _)))
        have hT1 := hT.below (lays_grow Y nq osq).1
        have hL1 := hL.trans (lays_grow Y nq osq)
        clear p1 p2 p3 p4 hT hL
        go_wp2_with fail
        generalize grow (Y.drewN nq) osq = Z at *
        have hT := hT1
        have hL := hL1
        clear hT1 hL1
        obtain ⟨p1, p2⟩ := cut_grown hT.1
        obtain ⟨p3, p4⟩ := cut_grown hT.2
        go_quiet_grown (first | (go_at_call 48; exact Calls.grown_of (first_g _)) | (go_at_call 49; exact Calls.grown_of (last_g _)))
        have hL1 := hL.trans (lays_grow Z nq osq)
        go_wp2_with fail
        refine (cmpi_any _ _ _).mono ?_
        rintro e w9 ⟨rfl, rfl⟩
        go_wp2_with fail
        go_ret
        exact ⟨rfl, hL1⟩
end Go.Proofs.Ytjgcdmeojjnjlaa
/- Contracts of the reference's cuts. -/
namespace Go.Proofs.Ytjgcdmeojjnjlaa
open Go.RowKit Go.Sort Go.Proofs.Ytjgcdmeojjnjlaa.Bo
set_option linter.unusedVariables false
theorem rleast_any (w : World) : Calls Try.prog 85 #[] w fun e w' => e = .returned (.int .i64 (-9223372036854775808)) ∧ Below w.heap.size w w' := by
  go_enter Try.func85, Try.ntmps85
  go_wp2
  go_ret
  exact ⟨rfl, Below.refl _ _⟩
/-- A cut in a block: its two cells in every world in which what was there stays. -/
theorem cut_regrown {X : World} {b : Nat} {x y : Value} {t : TypeId} (h : X.heap[b]? = some (.cells #[x, y] t (0, 0))) :
    (∀ d os, (grow (redrawn X d) os).cell? ⟨b, 0, none⟩ = some x) ∧ (∀ d os, (grow (redrawn X d) os).cell? ⟨b, 1, none⟩ = some y) :=
  ⟨cell_regrown (two_cells h).1, cell_regrown (two_cells h).2.1⟩
set_option maxRecDepth 100000 in
set_option maxHeartbeats 1000000 in
theorem rcanon_neg (s a : Int) (w : World) (h : s < 0) :
    Calls Try.prog 60 #[.agg #[.int .i64 s, .int .i64 a]] w fun e w' => e = .returned (.agg #[.int .i64 (-1), .int .i64 0]) ∧ Below w.heap.size w w' := by
  have mx := mixed
  have t1 : decide (s < 0) = true := decide_eq_true h
  clear h
  go_enter Try.func60, Try.ntmps60
  go_wp2_with fail
  have hb1 : ((w.alloc (.cells #[.int .i64 s, .int .i64 a] 34)).alloc (.cells #[.int .i64 0, .int .i64 0] 34)).heap[w.heap.size]? = some (.cells #[.int .i64 s, .int .i64 a] 34 (0, 0)) := heap_alloc2_old _ _ _
  have hb2 : ((w.alloc (.cells #[.int .i64 s, .int .i64 a] 34)).alloc (.cells #[.int .i64 0, .int .i64 0] 34)).heap[w.heap.size + 1]? = some (.cells #[.int .i64 0, .int .i64 0] 34 (0, 0)) := heap_alloc2_new _ _ _
  have hL : Below w.heap.size w ((w.alloc (.cells #[.int .i64 s, .int .i64 a] 34)).alloc (.cells #[.int .i64 0, .int .i64 0] 34)) := ((Below.refl _ _).alloc (Nat.le_refl _) _).alloc (by simp) _
  generalize (w.alloc (.cells #[.int .i64 s, .int .i64 a] 34)).alloc (.cells #[.int .i64 0, .int .i64 0] 34) = X at *
  obtain ⟨p1, p2⟩ := cut_regrown hb1
  have HB1 := Lib.hid hb1
  have HB2 := Lib.hid hb2
  clear hb1 hb2
  refine wp_region_quiet_below (by assumption) (by kernel_rfl) ?_
  repeat (go_big_quiet_step (first | (go_at_call 85; exact Calls.regrown_of (rleast_any _))))
  refine wpQuiet_nil ?_
  intro _ hw'
  obtain ⟨⟨nq, osq⟩, hw''⟩ := hw'
  subst hw''
  have hB := below_regrown X nq osq
  have hb1 := (hB.block _ (lt_of_block HB1.out)).trans HB1.out
  have hb2 := (hB.block _ (lt_of_block HB2.out)).trans HB2.out
  have hL2 := bt hL hB
  show Exit.then _ _ Exit.normal _ (grow (redrawn X nq) osq)
  generalize grow (redrawn X nq) osq = Y at *
  obtain ⟨c1, c2, _, _⟩ := two_cells hb1
  obtain ⟨d1, d2, d3, d4⟩ := two_cells hb2
  obtain ⟨q1, q2, _, _⟩ := two_cells (two_put (p := .int .i64 (-1)) (q := .int .i64 0) hb2)
  have hL3 := (hL2.setCell (p := ⟨w.heap.size + 1, 0, none⟩) (by simp) (.int .i64 (-1))).setCell (p := ⟨w.heap.size + 1, 1, none⟩) (by simp) (.int .i64 0)
  clear p1 p2 hb1 hb2 HB1 HB2
  go_wp2_with fail
  refine bodyPost_ret (v := .agg #[.int .i64 (-1), .int .i64 0]) (by simp [results, Try.results60, go_sem, q1, q2]) rfl ?_
  exact ⟨rfl, hL3⟩
set_option maxRecDepth 100000 in
theorem rcanon_least  (w : World)  :
    Calls Try.prog 60 #[.agg #[.int .i64 0, .int .i64 (-9223372036854775808)]] w fun e w' => e = .returned (.agg #[.int .i64 (-1), .int .i64 0]) ∧ Below w.heap.size w w' := by
  have mx := mixed
  go_enter Try.func60, Try.ntmps60
  go_wp2_with fail
  have hb1 : ((w.alloc (.cells #[.int .i64 0, .int .i64 (-9223372036854775808)] 34)).alloc (.cells #[.int .i64 0, .int .i64 0] 34)).heap[w.heap.size]? = some (.cells #[.int .i64 0, .int .i64 (-9223372036854775808)] 34 (0, 0)) := heap_alloc2_old _ _ _
  have hb2 : ((w.alloc (.cells #[.int .i64 0, .int .i64 (-9223372036854775808)] 34)).alloc (.cells #[.int .i64 0, .int .i64 0] 34)).heap[w.heap.size + 1]? = some (.cells #[.int .i64 0, .int .i64 0] 34 (0, 0)) := heap_alloc2_new _ _ _
  have hL : Below w.heap.size w ((w.alloc (.cells #[.int .i64 0, .int .i64 (-9223372036854775808)] 34)).alloc (.cells #[.int .i64 0, .int .i64 0] 34)) := ((Below.refl _ _).alloc (Nat.le_refl _) _).alloc (by simp) _
  generalize (w.alloc (.cells #[.int .i64 0, .int .i64 (-9223372036854775808)] 34)).alloc (.cells #[.int .i64 0, .int .i64 0] 34) = X at *
  obtain ⟨p1, p2⟩ := cut_regrown hb1
  have HB1 := Lib.hid hb1
  have HB2 := Lib.hid hb2
  clear hb1 hb2
  refine wp_region_quiet_below (by assumption) (by kernel_rfl) ?_
  repeat (go_big_quiet_step (first | (go_at_call 85; exact Calls.regrown_of (rleast_any _))))
  refine wpQuiet_nil ?_
  intro _ hw'
  obtain ⟨⟨nq, osq⟩, hw''⟩ := hw'
  subst hw''
  have hB := below_regrown X nq osq
  have hb1 := (hB.block _ (lt_of_block HB1.out)).trans HB1.out
  have hb2 := (hB.block _ (lt_of_block HB2.out)).trans HB2.out
  have hL2 := bt hL hB
  show Exit.then _ _ Exit.normal _ (grow (redrawn X nq) osq)
  generalize grow (redrawn X nq) osq = Y at *
  obtain ⟨c1, c2, _, _⟩ := two_cells hb1
  obtain ⟨d1, d2, d3, d4⟩ := two_cells hb2
  obtain ⟨q1, q2, _, _⟩ := two_cells (two_put (p := .int .i64 (-1)) (q := .int .i64 0) hb2)
  have hL3 := (hL2.setCell (p := ⟨w.heap.size + 1, 0, none⟩) (by simp) (.int .i64 (-1))).setCell (p := ⟨w.heap.size + 1, 1, none⟩) (by simp) (.int .i64 0)
  clear p1 p2 hb1 hb2 HB1 HB2
  go_wp2_with fail
  refine bodyPost_ret (v := .agg #[.int .i64 (-1), .int .i64 0]) (by simp [results, Try.results60, go_sem, q1, q2]) rfl ?_
  exact ⟨rfl, hL3⟩
set_option maxRecDepth 100000 in
theorem rcanon_pos (s a : Int) (w : World) (h : 0 < s) :
    Calls Try.prog 60 #[.agg #[.int .i64 s, .int .i64 a]] w fun e w' => e = .returned (.agg #[.int .i64 1, .int .i64 0]) ∧ Below w.heap.size w w' := by
  have mx := mixed
  have t1 : decide (s < 0) = false := decide_eq_false (by omega)
  have t2 : (s == 0) = false := beq_eq_false_iff_ne.2 (by omega)
  have t3 : decide (0 < s) = true := decide_eq_true h
  clear h
  go_enter Try.func60, Try.ntmps60
  go_wp2_with fail
  have hb1 : ((w.alloc (.cells #[.int .i64 s, .int .i64 a] 34)).alloc (.cells #[.int .i64 0, .int .i64 0] 34)).heap[w.heap.size]? = some (.cells #[.int .i64 s, .int .i64 a] 34 (0, 0)) := heap_alloc2_old _ _ _
  have hb2 : ((w.alloc (.cells #[.int .i64 s, .int .i64 a] 34)).alloc (.cells #[.int .i64 0, .int .i64 0] 34)).heap[w.heap.size + 1]? = some (.cells #[.int .i64 0, .int .i64 0] 34 (0, 0)) := heap_alloc2_new _ _ _
  have hL : Below w.heap.size w ((w.alloc (.cells #[.int .i64 s, .int .i64 a] 34)).alloc (.cells #[.int .i64 0, .int .i64 0] 34)) := ((Below.refl _ _).alloc (Nat.le_refl _) _).alloc (by simp) _
  generalize (w.alloc (.cells #[.int .i64 s, .int .i64 a] 34)).alloc (.cells #[.int .i64 0, .int .i64 0] 34) = X at *
  obtain ⟨p1, p2⟩ := cut_regrown hb1
  have HB1 := Lib.hid hb1
  have HB2 := Lib.hid hb2
  clear hb1 hb2
  refine wp_region_quiet_below (by assumption) (by kernel_rfl) ?_
  repeat (go_big_quiet_step (first | (go_at_call 85; exact Calls.regrown_of (rleast_any _))))
  refine wpQuiet_nil ?_
  intro _ hw'
  obtain ⟨⟨nq, osq⟩, hw''⟩ := hw'
  subst hw''
  have hB := below_regrown X nq osq
  have hb1 := (hB.block _ (lt_of_block HB1.out)).trans HB1.out
  have hb2 := (hB.block _ (lt_of_block HB2.out)).trans HB2.out
  have hL2 := bt hL hB
  show Exit.then _ _ Exit.normal _ (grow (redrawn X nq) osq)
  generalize grow (redrawn X nq) osq = Y at *
  obtain ⟨c1, c2, _, _⟩ := two_cells hb1
  obtain ⟨d1, d2, d3, d4⟩ := two_cells hb2
  obtain ⟨q1, q2, _, _⟩ := two_cells (two_put (p := .int .i64 1) (q := .int .i64 0) hb2)
  have hL3 := (hL2.setCell (p := ⟨w.heap.size + 1, 0, none⟩) (by simp) (.int .i64 1)).setCell (p := ⟨w.heap.size + 1, 1, none⟩) (by simp) (.int .i64 0)
  clear p1 p2 hb1 hb2 HB1 HB2
  go_wp2_with fail
  refine bodyPost_ret (v := .agg #[.int .i64 1, .int .i64 0]) (by simp [results, Try.results60, go_sem, q1, q2]) rfl ?_
  exact ⟨rfl, hL3⟩
set_option maxRecDepth 100000 in
theorem rcanon_mid (a : Int) (w : World) (h : a ≠ -9223372036854775808) :
    Calls Try.prog 60 #[.agg #[.int .i64 0, .int .i64 a]] w fun e w' => e = .returned (.agg #[.int .i64 0, .int .i64 a]) ∧ Below w.heap.size w w' := by
  have mx := mixed
  have t2 : (a == -9223372036854775808) = false := beq_eq_false_iff_ne.2 h
  clear h
  go_enter Try.func60, Try.ntmps60
  go_wp2_with fail
  have hb1 : ((w.alloc (.cells #[.int .i64 0, .int .i64 a] 34)).alloc (.cells #[.int .i64 0, .int .i64 0] 34)).heap[w.heap.size]? = some (.cells #[.int .i64 0, .int .i64 a] 34 (0, 0)) := heap_alloc2_old _ _ _
  have hb2 : ((w.alloc (.cells #[.int .i64 0, .int .i64 a] 34)).alloc (.cells #[.int .i64 0, .int .i64 0] 34)).heap[w.heap.size + 1]? = some (.cells #[.int .i64 0, .int .i64 0] 34 (0, 0)) := heap_alloc2_new _ _ _
  have hL : Below w.heap.size w ((w.alloc (.cells #[.int .i64 0, .int .i64 a] 34)).alloc (.cells #[.int .i64 0, .int .i64 0] 34)) := ((Below.refl _ _).alloc (Nat.le_refl _) _).alloc (by simp) _
  generalize (w.alloc (.cells #[.int .i64 0, .int .i64 a] 34)).alloc (.cells #[.int .i64 0, .int .i64 0] 34) = X at *
  obtain ⟨p1, p2⟩ := cut_regrown hb1
  have HB1 := Lib.hid hb1
  have HB2 := Lib.hid hb2
  clear hb1 hb2
  refine wp_region_quiet_below (by assumption) (by kernel_rfl) ?_
  repeat (go_big_quiet_step (first | (go_at_call 85; exact Calls.regrown_of (rleast_any _))))
  refine wpQuiet_nil ?_
  intro _ hw'
  obtain ⟨⟨nq, osq⟩, hw''⟩ := hw'
  subst hw''
  have hB := below_regrown X nq osq
  have hb1 := (hB.block _ (lt_of_block HB1.out)).trans HB1.out
  have hb2 := (hB.block _ (lt_of_block HB2.out)).trans HB2.out
  have hL2 := bt hL hB
  show Exit.then _ _ Exit.normal _ (grow (redrawn X nq) osq)
  generalize grow (redrawn X nq) osq = Y at *
  obtain ⟨c1, c2, _, _⟩ := two_cells hb1
  obtain ⟨d1, d2, d3, d4⟩ := two_cells hb2
  obtain ⟨q1, q2, _, _⟩ := two_cells (two_put (p := .int .i64 0) (q := .int .i64 a) hb2)
  have hL3 := (hL2.setCell (p := ⟨w.heap.size + 1, 0, none⟩) (by simp) (.int .i64 0)).setCell (p := ⟨w.heap.size + 1, 1, none⟩) (by simp) (.int .i64 a)
  clear p1 p2 hb1 hb2 HB1 HB2
  go_wp2_with fail
  refine bodyPost_ret (v := .agg #[.int .i64 0, .int .i64 a]) (by simp [results, Try.results60, go_sem, q1, q2]) rfl ?_
  exact ⟨rfl, hL3⟩
theorem rcanon_any (s a : Int) (w : World) (ha : I64 a) :
    Calls Try.prog 60 #[.agg #[.int .i64 s, .int .i64 a]] w fun e w' => e = .returned (.agg #[.int .i64 (sd (key s a)), .int .i64 (pa (key s a))]) ∧ Below w.heap.size w w' := by
  by_cases h1 : s < 0
  · rw [key_neg s a h1, sd_lo, pa_lo]; exact rcanon_neg s a w h1
  · by_cases h2 : 0 < s
    · rw [key_pos s a h2, sd_hi, pa_hi]; exact rcanon_pos s a w h2
    · obtain rfl : s = 0 := by omega
      rw [key_zero]
      by_cases h3 : a = -9223372036854775808
      · subst h3; rw [sd_lo, pa_lo]; exact rcanon_least w
      · have h4 : a ≠ 9223372036854775808 := by unfold I64 at ha; omega
        rw [sd_mid a h3 h4, pa_mid a h3 h4]; exact rcanon_mid a w h3
end Go.Proofs.Ytjgcdmeojjnjlaa
/- Contracts of the reference's cuts: Less, Compare, Low, High, Ahead, Behind, Next, Prev. -/
namespace Go.Proofs.Ytjgcdmeojjnjlaa
open Go.RowKit Go.Sort Go.Proofs.Ytjgcdmeojjnjlaa.Bo
set_option linter.unusedVariables false
theorem Two.put0 {b : Nat} {s a t c : Int} {w : World} (h : Two b s a t c w) (s' a' : Int) : Two b s' a' t c ((w.setCell ⟨b, 0, none⟩ (.int .i64 s')).setCell ⟨b, 1, none⟩ (.int .i64 a')) :=
  ⟨two_put h.1, by rw [heap_setCell_other _ _ _ _ (by simp), heap_setCell_other _ _ _ _ (by simp)]; exact h.2⟩
theorem Two.put1 {b : Nat} {s a t c : Int} {w : World} (h : Two b s a t c w) (s' a' : Int) : Two b s a s' a' ((w.setCell ⟨b + 1, 0, none⟩ (.int .i64 s')).setCell ⟨b + 1, 1, none⟩ (.int .i64 a')) :=
  ⟨by rw [heap_setCell_other _ _ _ _ (by simp), heap_setCell_other _ _ _ _ (by simp)]; exact h.1, two_put h.2⟩
theorem ret_bool {a b : Bool} (h : a = b) : Ending.returned (.bool a) = .returned (.bool b) := by rw [h]
set_option maxRecDepth 100000 in
set_option maxHeartbeats 1000000 in
theorem rless_any (s a t b : Int) (w : World) (ha : I64 a) (hb : I64 b) :
    Calls Try.prog 62 #[.agg #[.int .i64 s, .int .i64 a], .agg #[.int .i64 t, .int .i64 b]] w fun e w' => e = .returned (.bool (decide (key s a < key t b))) ∧ Below w.heap.size w w' := by
  have HC := Lib.hid (fun W => rcanon_any s a W ha)
  have HD := Lib.hid (fun W => rcanon_any t b W hb)
  have h1 := fun h => lt_side _ _ (key_ky s a ha) (key_ky t b hb) h
  have h2 := fun h => lt_at _ _ (key_ky s a ha) (key_ky t b hb) h
  generalize hD : decide (key s a < key t b) = D at *
  generalize sd (key s a) = x at *
  generalize pa (key s a) = y at *
  generalize sd (key t b) = u at *
  generalize pa (key t b) = v at *
  have H1 := Lib.hid h1
  have H2 := Lib.hid h2
  clear h1 h2 hD ha hb
  go_enter Try.func62, Try.ntmps62
  go_wp2_with fail
  refine (HC.out _).mono ?_
  rintro e w1 ⟨rfl, hB1⟩
  have hT0 : Two w.heap.size s a t b ((w.alloc (.cells #[.int .i64 s, .int .i64 a] 34)).alloc (.cells #[.int .i64 t, .int .i64 b] 34)) := ⟨heap_alloc2_old _ _ _, heap_alloc2_new _ _ _⟩
  have hT1 := hT0.below hB1
  have hL1 : Below w.heap.size w w1 := bt (((Below.refl _ _).alloc (Nat.le_refl _) _).alloc (by simp) _) hB1
  have hT2 := hT1.put0 x y
  have hL2 := (hL1.setCell (p := ⟨w.heap.size, 0, none⟩) (by simp) (.int .i64 x)).setCell (p := ⟨w.heap.size, 1, none⟩) (by simp) (.int .i64 y)
  obtain ⟨p1, p2, p3, p4, p5, p6, p7, p8⟩ := hT1.cells
  obtain ⟨_, _, q3, q4, _, _, _, _⟩ := hT2.cells
  have HT2 := Lib.hid hT2
  clear hT0 hT1 hT2 hB1 hL1
  go_wp2_with fail
  generalize (w1.setCell ⟨w.heap.size, 0, none⟩ (.int .i64 x)).setCell ⟨w.heap.size, 1, none⟩ (.int .i64 y) = X at *
  refine (HD.out _).mono ?_
  rintro e w2 ⟨rfl, hB2⟩
  have hT3 := HT2.out.below hB2
  have hL3 := bt hL2 hB2
  have hT4 := hT3.put1 u v
  have hL4 := (hL3.setCell (p := ⟨w.heap.size + 1, 0, none⟩) (by simp) (.int .i64 u)).setCell (p := ⟨w.heap.size + 1, 1, none⟩) (by simp) (.int .i64 v)
  clear p1 p2 p3 p4 p5 p6 p7 p8 q3 q4
  obtain ⟨p1, p2, p3, p4, p5, p6, p7, p8⟩ := hT3.cells
  obtain ⟨q1, q2, q3, q4, _, _, _, _⟩ := hT4.cells
  clear hT3 hT4 hB2 hL2 hL3 HT2
  by_cases hq : x = u
  · have HQ := Lib.hid (H2.out hq)
    have tq : (x != u) = false := bne_eq_false_iff_eq.2 hq
    clear hq
    go_wp2_with fail
    go_ret
    exact ⟨ret_bool HQ.out, hL4⟩
  · have HQ := Lib.hid (H1.out hq)
    have tq : (x != u) = true := bne_iff_ne.2 hq
    clear hq
    go_wp2_with fail
    go_ret
    exact ⟨ret_bool HQ.out, hL4⟩
end Go.Proofs.Ytjgcdmeojjnjlaa
/- The walk of the law CutOrder. -/
namespace Go.Proofs.Ytjgcdmeojjnjlaa
open Go.RowKit Go.Sort Go.Proofs.Ytjgcdmeojjnjlaa.Bo
set_option linter.unusedVariables false
theorem i64_of_wf2 {n : Int} (h : (Lit.int .i64 n).wf = true) : I64 n := by
  have := bounds_i64 h; unfold I64; omega
end Go.Proofs.Ytjgcdmeojjnjlaa
/- Contracts of cut, ends, Is. -/
namespace Go.Proofs.Ytjgcdmeojjnjlaa
open Go.RowKit Go.Proofs.Ytjgcdmeojjnjlaa.Bo
set_option linter.unusedVariables false
theorem Dg.take {w : World} {a : Option Addr} {cap : Nat} {xs : List Nat} (h : Dg w (.slice a xs.length cap) xs) (n : Nat) (hn : n ≤ xs.length) : Dg w (.slice a n cap) (xs.take n) := by
  obtain ⟨a', cap', e, hc, hg⟩ := h
  injection e with e1 e2 e3
  subst e1 e3
  have hl : (xs.take n).length = n := by rw [List.length_take, Nat.min_eq_left hn]
  refine ⟨a, cap, by rw [hl], by omega, fun hp => ?_⟩
  obtain ⟨g, cur, ha, hgb, hcur⟩ := hg (by omega)
  exact ⟨g, cur, ha, hgb, fun j hj => by rw [List.getElem_take]; exact hcur j (by omega)⟩
/-- A whole number as the reference keeps it: its sign, and its digits. -/
def BigAt (w : World) (V : Value) (z : Int) (L : Nat) : Prop :=
  ∃ (s : Int) (v : Value) (xs : List Nat), V = .agg #[.int .i64 s, v] ∧ (s = -1 ∨ s = 0 ∨ s = 1) ∧ Dg w v xs ∧ Ok xs ∧ xs.length ≤ L ∧ z = s * (val xs : Int) ∧ (s = 0 → val xs = 0)
theorem BigAt.below {w w' : World} {V : Value} {z : Int} {L : Nat} (h : BigAt w V z L) (hb : Below w.heap.size w w') : BigAt w' V z L := by
  obtain ⟨s, v, xs, hV, hs, hd, ok, hl, hz, h0⟩ := h
  exact ⟨s, v, xs, hV, hs, hd.below hb, ok, hl, hz, h0⟩
end Go.Proofs.Ytjgcdmeojjnjlaa
/- Contracts of Of and Minus. -/
namespace Go.Proofs.Ytjgcdmeojjnjlaa
open Go.RowKit Go.Proofs.Ytjgcdmeojjnjlaa.Bo
set_option linter.unusedVariables false
def iv (d : Nat) : Value := .int .i64 (d : Int)
theorem Try.infoInt : (Try.prog.info? 3).map (fun i => (i.zero, i.size, i.bytes)) = some (some (.int .i64 0), 1, 8) := by kernel_rfl
end Go.Proofs.Ytjgcdmeojjnjlaa
/- Contract of Plus. -/
namespace Go.Proofs.Ytjgcdmeojjnjlaa
open Go.RowKit Go.Proofs.Ytjgcdmeojjnjlaa.Bo
set_option linter.unusedVariables false
theorem Dg.drewN {w : World} {v : Value} {xs : List Nat} (h : Dg w v xs) (n : Nat) : Dg (w.drewN n) v xs := h.below (below_drewN (Below.refl _ _) n)
end Go.Proofs.Ytjgcdmeojjnjlaa
/- The walk of the law CutNumbers. -/
namespace Go.Proofs.Ytjgcdmeojjnjlaa
open Go.RowKit Go.Sort Go.Proofs.Ytjgcdmeojjnjlaa.Bo
set_option linter.unusedVariables false
theorem neq_cut (s a t b : Int) (w : World) : Sem.run Try.prog (binOp .neq 34 (.agg #[.int .i64 s, .int .i64 a]) (.agg #[.int .i64 t, .int .i64 b])) w = .ok (.bool (!(s == t && a == b))) w := by
  have hS : Try.prog.underlying 34 = some (.struct (Try.prog.fieldsOf 34)) := by kernel_rfl
  have hp : Try.prog.stoodInHeld 34 = false := by kernel_rfl
  have u3 := Try.underlying3
  have u2 := Try.underlying2
  rw [run_neq_struct, show (10000 : Nat) = 9999 + 1 from rfl, run_equalIn_agg w 9999 34 _ _ hS hp]
  simp only [Program.fieldsOf, Try.underlying34]
  go_simp
  by_cases h1 : s = t <;> by_cases h2 : a = b <;> simp [h1, h2]
end Go.Proofs.Ytjgcdmeojjnjlaa
/- The walk of the law CutShifts. -/
namespace Go.Proofs.Ytjgcdmeojjnjlaa
open Go.RowKit Go.Sort Go.Proofs.Ytjgcdmeojjnjlaa.Bo
set_option linter.unusedVariables false
/-- A box stays where it is. -/
theorem box_on {w w' : World} {b : Nat} {o : Obj} (h : w.heap[b]? = some o) (hb : Below w.heap.size w w') : w'.heap[b]? = some o := (hb.block _ (lt_of_block h)).trans h
theorem below_new (w : World) (o : Obj) : Below w.heap.size w (w.alloc o) := (Below.refl _ _).alloc (Nat.le_refl _) _
end Go.Proofs.Ytjgcdmeojjnjlaa
/- Contracts of cut.Least and cut.Greatest. -/
namespace Go.Proofs.Ytjgcdmeojjnjlaa
open Go.RowKit Go.Sort Go.Proofs.Ytjgcdmeojjnjlaa.Bo
set_option linter.unusedVariables false
/-- A slice of cuts that holds cs. -/
def CRow (w : World) (a : Option Addr) (cs : List (Int × Int)) : Prop :=
  0 < cs.length → ∃ b off, a = some ⟨b, off, none⟩ ∧ ∀ (j : Nat) (h : j < cs.length), w.cell? ⟨b, off + j * 2, none⟩ = some (.int .i64 cs[j].1) ∧ w.cell? ⟨b, off + j * 2 + 1, none⟩ = some (.int .i64 cs[j].2)
theorem CRow.below {w w' : World} {a : Option Addr} {cs : List (Int × Int)} (h : CRow w a cs) (hb : Below w.heap.size w w') : CRow w' a cs := by
  intro hp
  obtain ⟨b, off, e, hc⟩ := h hp
  refine ⟨b, off, e, fun j hj => ?_⟩
  obtain ⟨h1, h2⟩ := hc j hj
  exact ⟨(hb.cell (p := ⟨b, off + j * 2, none⟩) (World.block_lt_of_cell? w _ h1)).trans h1, (hb.cell (p := ⟨b, off + j * 2 + 1, none⟩) (World.block_lt_of_cell? w _ h2)).trans h2⟩
end Go.Proofs.Ytjgcdmeojjnjlaa
/- A row of cuts in a block of its own; the contract of slices.Compact over it. -/
namespace Go.Proofs.Ytjgcdmeojjnjlaa
open Go.RowKit Go.Sort Go.Proofs.Ytjgcdmeojjnjlaa.Bo
set_option linter.unusedVariables false
/-- A block of cap cuts. -/
def Blk (w : World) (g cap : Nat) : Prop := ∃ cur, w.heap[g]? = some (.cells cur 34 (0, 0)) ∧ cur.size = cap * 2
theorem Blk.lt {w : World} {g cap : Nat} (h : Blk w g cap) : g < w.heap.size := by obtain ⟨_, h, _⟩ := h; exact lt_of_block h
theorem Blk.cell {w : World} {g cap : Nat} (h : Blk w g cap) (i : Nat) (hi : i < cap * 2) : ∃ v, w.cell? ⟨g, i, none⟩ = some v := by
  obtain ⟨cur, h, hs⟩ := h
  exact ⟨cur[i]'(by omega), (cell_of_row _ _ i _ _ _ h).trans (Array.getElem?_eq_getElem (by omega))⟩
theorem Blk.free {w : World} {g cap : Nat} (h : Blk w g cap) (i : Nat) : w.frozen? ⟨g, i, none⟩ = false := by
  obtain ⟨cur, h, hs⟩ := h
  exact frozen_of_row _ _ i _ _ h
theorem Blk.set {w : World} {g cap : Nat} (h : Blk w g cap) (i : Nat) (v : Value) : Blk (w.setCell ⟨g, i, none⟩ v) g cap := by
  obtain ⟨cur, h, hs⟩ := h
  exact ⟨_, heap_setCell_same _ _ _ _ _ _ h, by simpa using hs⟩
theorem Blk.on {w w' : World} {g cap : Nat} (h : Blk w g cap) (hb : w'.heap[g]? = w.heap[g]?) : Blk w' g cap := by
  obtain ⟨cur, h, hs⟩ := h
  exact ⟨cur, hb.trans h, hs⟩
/-- The block's first cuts are those of the keys ks. -/
def RowAt (w : World) (g cap : Nat) (ks : List Int) : Prop :=
  Blk w g cap ∧ ks.length ≤ cap ∧ ∀ (j : Nat) (h : j < ks.length), w.cell? ⟨g, j * 2, none⟩ = some (.int .i64 (sd ks[j])) ∧ w.cell? ⟨g, j * 2 + 1, none⟩ = some (.int .i64 (pa ks[j]))
theorem RowAt.on {w w' : World} {g cap : Nat} {ks : List Int} (h : RowAt w g cap ks) (hb : w'.heap[g]? = w.heap[g]?) : RowAt w' g cap ks := by
  refine ⟨h.1.on hb, h.2.1, fun j hj => ?_⟩
  rw [World.cell?_of_block (w := w) (a := ⟨g, j * 2, none⟩) hb, World.cell?_of_block (w := w) (a := ⟨g, j * 2 + 1, none⟩) hb]
  exact h.2.2 j hj
theorem RowAt.below {w w' : World} {g cap : Nat} {ks : List Int} (h : RowAt w g cap ks) (hb : Below w.heap.size w w') : RowAt w' g cap ks := h.on (hb.block _ h.1.lt)
/-- One cut is put over another one. -/
theorem RowAt.put {w : World} {g cap : Nat} {ks : List Int} (h : RowAt w g cap ks) (i : Nat) (hi : i < ks.length) (k : Int) :
    RowAt ((w.setCell ⟨g, i * 2, none⟩ (.int .i64 (sd k))).setCell ⟨g, i * 2 + 1, none⟩ (.int .i64 (pa k))) g cap (ks.set i k) := by
  obtain ⟨hb, hl, hc⟩ := h
  refine ⟨(hb.set _ _).set _ _, by simpa using hl, fun j hj => ?_⟩
  have hj' : j < ks.length := by simpa using hj
  obtain ⟨v1, hv1⟩ := hb.cell (i * 2) (by omega)
  obtain ⟨v2, hv2⟩ := (hb.set (i * 2) (.int .i64 (sd k))).cell (i * 2 + 1) (by omega)
  by_cases e : i = j
  · subst e
    rw [List.getElem_set_self]
    refine ⟨?_, World.cell?_setCell_same _ _ _ hv2⟩
    rw [World.cell?_setCell_other _ _ _ _ (by simp)]
    exact World.cell?_setCell_same _ _ _ hv1
  · rw [List.getElem_set_ne e]
    have n1 : i * 2 + 1 ≠ j * 2 := by omega
    have n2 : i * 2 ≠ j * 2 := by omega
    have n3 : i * 2 + 1 ≠ j * 2 + 1 := by omega
    have n4 : i * 2 ≠ j * 2 + 1 := by omega
    rw [World.cell?_setCell_other _ _ _ _ (by simp <;> omega), World.cell?_setCell_other _ _ _ _ (by simp <;> omega), World.cell?_setCell_other _ _ _ _ (by simp <;> omega), World.cell?_setCell_other _ _ _ _ (by simp <;> omega)]
    exact hc j hj'
theorem RowAt.take {w : World} {g cap : Nat} {ks : List Int} (h : RowAt w g cap ks) (n : Nat) (hn : n ≤ ks.length) : RowAt w g cap (ks.take n) := by
  obtain ⟨hb, hl, hc⟩ := h
  refine ⟨hb, by rw [List.length_take]; omega, fun j hj => ?_⟩
  rw [List.getElem_take]
  exact hc j (by rw [List.length_take] at hj; omega)
end Go.Proofs.Ytjgcdmeojjnjlaa
/- The contract of cut.Sort. -/
namespace Go.Proofs.Ytjgcdmeojjnjlaa
open Go.RowKit Go.Sort Go.Proofs.Ytjgcdmeojjnjlaa.Bo
set_option linter.unusedVariables false
theorem own_on {w w' : World} {base : Nat} {e : TypeId} {size : Nat} {v : Value} {n : Nat} {xs : List Value} (h : w.ownsRow base e size v n xs) (hb : Go.RowKit.Below w.heap.size w w') : w'.ownsRow base e size v n xs := by
  obtain ⟨h1, h2⟩ := h
  refine ⟨h1, ?_⟩
  rcases h2 with h2 | ⟨g, cap, cur, hv, hg, hh, r⟩
  · exact .inl h2
  · exact .inr ⟨g, cap, cur, hv, hg, (hb.block _ (lt_of_block hh)).trans hh, r⟩
end Go.Proofs.Ytjgcdmeojjnjlaa
/- What the reference's sort does, on keys. -/
namespace Go.Proofs.Ytjgcdmeojjnjlaa.Bo
/-- The last key of a row; below all keys, if there is none. -/
def lb (os : List Int) : Int := (os.getLast?).getD (-9223372036854775809)
/-- How many are still to come. -/
def left (ks os : List Int) : Nat := ks.countP fun x => decide (lb os < x)
/-- The least one above, among those that were seen. -/
def Seen (ks os : List Int) (f : Bool) (m : Int) : Prop := (f = true ∧ m ∈ ks ∧ lb os < m ∧ ∀ x ∈ ks, lb os < x → m ≤ x) ∨ (f = false ∧ ∀ x ∈ ks, ¬ lb os < x)
theorem seen_take (ks os : List Int) (f : Bool) (m x : Int) (h : Seen ks os f m) (hl : lb os < x) (hc : f = false ∨ x < m) : Seen (ks ++ [x]) os true x := by
  refine .inl ⟨rfl, by simp, hl, fun y hy hly => ?_⟩
  rcases List.mem_append.1 hy with h1 | h1
  · rcases h with ⟨hf, _, _, h2⟩ | ⟨_, h2⟩
    · rcases hc with hc | hc
      · rw [hc] at hf; cases hf
      · have := h2 y h1 hly; omega
    · exact absurd hly (h2 y h1)
  · rw [List.mem_singleton] at h1; omega
end Go.Proofs.Ytjgcdmeojjnjlaa.Bo
/- The contract of the reference's Sort of cuts. -/
namespace Go.Proofs.Ytjgcdmeojjnjlaa
open Go.RowKit Go.Sort Go.Proofs.Ytjgcdmeojjnjlaa.Bo
set_option linter.unusedVariables false
/-- The cells of the cuts of these keys. -/
def flatL (ks : List Int) : List Value := ks.flatMap fun k => [.int .i64 (sd k), .int .i64 (pa k)]
theorem flatL_get (cs : List Int) (j : Nat) (hj : j < cs.length) : (flatL cs)[j * 2]? = some (.int .i64 (sd cs[j])) ∧ (flatL cs)[j * 2 + 1]? = some (.int .i64 (pa cs[j])) := by
  induction cs generalizing j with
  | nil => simp at hj
  | cons a l ih =>
    cases j with
    | zero => exact ⟨rfl, rfl⟩
    | succ j =>
      have := ih j (by simpa using hj)
      unfold flatL at *
      rw [List.flatMap_cons]
      rw [show (j + 1) * 2 = j * 2 + 2 by omega]
      simpa [List.getElem?_append] using this
theorem own_cells {w : World} {base g cap n n2 : Nat} {ks : List Int} (h : w.ownsRow base 34 2 (.slice (some ⟨g, 0, none⟩) n2 cap) n (flatL ks)) (hn : n = ks.length) (j : Nat) (hj : j < ks.length) :
    w.cell? ⟨g, j * 2, none⟩ = some (.int .i64 (sd ks[j])) ∧ w.cell? ⟨g, j * 2 + 1, none⟩ = some (.int .i64 (pa ks[j])) := by
  rcases h.2 with ⟨h1, _⟩ | ⟨g', cap', cur, h1, hb, hh, hnc, hcm, hcs, htake⟩
  · cases h1
  · injection h1 with e1 e2 e3
    injection e1 with e1
    injection e1 with e1
    subst e1 e3
    obtain ⟨f1, f2⟩ := flatL_get ks j hj
    rw [← htake, List.getElem?_take, if_pos (by omega)] at f1 f2
    exact ⟨(cell_of_row _ _ _ _ _ _ hh).trans (by simpa using f1), (cell_of_row _ _ _ _ _ _ hh).trans (by simpa using f2)⟩
theorem own_far {w : World} {base : Nat} {e : TypeId} {size : Nat} {v : Value} {n : Nat} {xs : List Value} (h : w.ownsRow base e size v n xs) (N i : Nat) (u : Value) (hN : ∀ k, v.ownBlock = some k → k ≠ N) : (w.setCell ⟨N, i, none⟩ u).ownsRow base e size v n xs := by
  obtain ⟨h1, h2⟩ := h
  refine ⟨h1, ?_⟩
  rcases h2 with h2 | ⟨g, cap, cur, hv, hg, hh, r⟩
  · exact .inl h2
  · refine .inr ⟨g, cap, cur, hv, hg, ?_, r⟩
    rw [heap_setCell_other _ _ _ _ (by have := hN g (by rw [hv]; rfl); simpa using this)]
    exact hh
/-- What lies in memory while the reference looks for the next one. -/
structure InAt (w : World) (N : Nat) (ks os : List Int) (v : Value) (f : Bool) (m nx ny : Int) (wr : World) : Prop where
  seen : Seen ks os f m
  cut : f = true → nx = sd m ∧ ny = pa m ∧ Ky m
  box : wr.heap[N]? = some (.cells #[.int .i64 nx, .int .i64 ny] 34 (0, 0))
  own : wr.ownsRow w.heap.size 34 2 v os.length (flatL os)
  below : Go.RowKit.Below w.heap.size w wr
theorem InAt.on {w : World} {N : Nat} {ks os : List Int} {v : Value} {f : Bool} {m nx ny : Int} {wr wr' : World} (h : InAt w N ks os v f m nx ny wr) (hb : Go.RowKit.Below wr.heap.size wr wr') : InAt w N ks os v f m nx ny wr' :=
  ⟨h.seen, h.cut, box_on h.box hb, own_on h.own hb, bt h.below hb⟩
theorem InAt.take {w : World} {N : Nat} {ks os : List Int} {v : Value} {f : Bool} {m nx ny : Int} {wr : World} (h : InAt w N ks os v f m nx ny wr) (x : Int) (hx : Ky x) (hl : lb os < x) (hc : f = false ∨ x < m) (hN : w.heap.size ≤ N) (hv : ∀ k, v.ownBlock = some k → k ≠ N) :
    InAt w N (ks ++ [x]) os v true x (sd x) (pa x) ((wr.setCell ⟨N, 0, none⟩ (.int .i64 (sd x))).setCell ⟨N, 1, none⟩ (.int .i64 (pa x))) :=
  ⟨seen_take _ _ _ _ _ h.seen hl hc, fun _ => ⟨rfl, rfl, hx⟩, two_put h.box, own_far (own_far h.own _ _ _ hv) _ _ _ hv, (h.below.setCell hN _).setCell hN _⟩
/-- A cut's two cells. -/
def CellsAt (w : World) (b o : Nat) (c1 c2 : Int) : Prop := w.cell? ⟨b, o, none⟩ = some (.int .i64 c1) ∧ w.cell? ⟨b, o + 1, none⟩ = some (.int .i64 c2)
theorem CellsAt.below {w w' : World} {b o : Nat} {c1 c2 : Int} (h : CellsAt w b o c1 c2) (hb : Go.RowKit.Below w.heap.size w w') : CellsAt w' b o c1 c2 :=
  ⟨(hb.cell (World.block_lt_of_cell? w _ h.1)).trans h.1, (hb.cell (World.block_lt_of_cell? w _ h.2)).trans h.2⟩
end Go.Proofs.Ytjgcdmeojjnjlaa
/- Contracts of the reference's spans: Right, Has. -/
namespace Go.Proofs.Ytjgcdmeojjnjlaa
open Go.RowKit Go.Sort Go.Proofs.Ytjgcdmeojjnjlaa.Bo
set_option linter.unusedVariables false
/-- A block that holds a span. -/
def Box4 (w : World) (b : Nat) (q : S4) : Prop := w.heap[b]? = some (.cells #[.int .i64 q.ls, .int .i64 q.la, .int .i64 q.hs, .int .i64 q.ha] 36 (0, 0))
theorem Box4.on {w w' : World} {b : Nat} {q : S4} (h : Box4 w b q) (hb : Go.RowKit.Below w.heap.size w w') : Box4 w' b q := box_on h hb
theorem Box4.cells {w : World} {b : Nat} {q : S4} (h : Box4 w b q) : w.cell? ⟨b, 0, none⟩ = some (.int .i64 q.ls) ∧ w.cell? ⟨b, 1, none⟩ = some (.int .i64 q.la) ∧ w.cell? ⟨b, 2, none⟩ = some (.int .i64 q.hs) ∧ w.cell? ⟨b, 3, none⟩ = some (.int .i64 q.ha) :=
  ⟨(cell_of_row _ _ 0 _ _ _ h).trans rfl, (cell_of_row _ _ 1 _ _ _ h).trans rfl, (cell_of_row _ _ 2 _ _ _ h).trans rfl, (cell_of_row _ _ 3 _ _ _ h).trans rfl⟩
theorem Box4.free {w : World} {b : Nat} {q : S4} (h : Box4 w b q) (i : Nat) : w.frozen? ⟨b, i, none⟩ = false := frozen_of_row _ _ i _ _ h
theorem Box4.re {w : World} {b : Nat} {q : S4} (h : Box4 w b q) : (∀ d os, (grow (redrawn w d) os).cell? ⟨b, 0, none⟩ = some (.int .i64 q.ls)) ∧ (∀ d os, (grow (redrawn w d) os).cell? ⟨b, 1, none⟩ = some (.int .i64 q.la)) ∧ (∀ d os, (grow (redrawn w d) os).cell? ⟨b, 2, none⟩ = some (.int .i64 q.hs)) ∧ (∀ d os, (grow (redrawn w d) os).cell? ⟨b, 3, none⟩ = some (.int .i64 q.ha)) :=
  ⟨cell_regrown h.cells.1, cell_regrown h.cells.2.1, cell_regrown h.cells.2.2.1, cell_regrown h.cells.2.2.2⟩
end Go.Proofs.Ytjgcdmeojjnjlaa
/- Contracts of the reference's spans: Any, One, Same, Sorted. -/
namespace Go.Proofs.Ytjgcdmeojjnjlaa
open Go.RowKit Go.Sort Go.Proofs.Ytjgcdmeojjnjlaa.Bo
set_option linter.unusedVariables false
/-- A span's four cells. -/
def Cells4 (w : World) (b o : Nat) (q : S4) : Prop := w.cell? ⟨b, o, none⟩ = some (.int .i64 q.ls) ∧ w.cell? ⟨b, o + 1, none⟩ = some (.int .i64 q.la) ∧ w.cell? ⟨b, o + 2, none⟩ = some (.int .i64 q.hs) ∧ w.cell? ⟨b, o + 3, none⟩ = some (.int .i64 q.ha)
theorem Cells4.below {w w' : World} {b o : Nat} {q : S4} (h : Cells4 w b o q) (hb : Go.RowKit.Below w.heap.size w w') : Cells4 w' b o q :=
  ⟨(hb.cell (World.block_lt_of_cell? w _ h.1)).trans h.1, (hb.cell (World.block_lt_of_cell? w _ h.2.1)).trans h.2.1, (hb.cell (World.block_lt_of_cell? w _ h.2.2.1)).trans h.2.2.1, (hb.cell (World.block_lt_of_cell? w _ h.2.2.2)).trans h.2.2.2⟩
theorem Cells4.re {w : World} {b o : Nat} {q : S4} (h : Cells4 w b o q) : (∀ d os, (grow (redrawn w d) os).cell? ⟨b, o, none⟩ = some (.int .i64 q.ls)) ∧ (∀ d os, (grow (redrawn w d) os).cell? ⟨b, o + 1, none⟩ = some (.int .i64 q.la)) ∧ (∀ d os, (grow (redrawn w d) os).cell? ⟨b, o + 2, none⟩ = some (.int .i64 q.hs)) ∧ (∀ d os, (grow (redrawn w d) os).cell? ⟨b, o + 3, none⟩ = some (.int .i64 q.ha)) :=
  ⟨cell_regrown h.1, cell_regrown h.2.1, cell_regrown h.2.2.1, cell_regrown h.2.2.2⟩
/-- A slice of spans that holds l. -/
def SRow (w : World) (a : Option Addr) (l : List S4) : Prop := 0 < l.length → ∃ b off, a = some ⟨b, off, none⟩ ∧ ∀ (j : Nat) (h : j < l.length), Cells4 w b (off + j * 4) l[j]
theorem SRow.below {w w' : World} {a : Option Addr} {l : List S4} (h : SRow w a l) (hb : Go.RowKit.Below w.heap.size w w') : SRow w' a l := by
  intro hp
  obtain ⟨b, off, e, hc⟩ := h hp
  exact ⟨b, off, e, fun j hj => (hc j hj).below hb⟩
theorem part_low (a b c d : Value) (w : World) : (part 34 #[a, b, c, d] 0).run Try.prog w = .ok (.agg #[a, b]) w := by
  have h1 := Try.isAgg34
  have h2 := Try.sizeOf34
  unfold part
  simp [Sem.run_bind, h1, h2, Result.andThen]
theorem part_high (a b c d : Value) (w : World) : (part 34 #[a, b, c, d] 2).run Try.prog w = .ok (.agg #[c, d]) w := by
  have h1 := Try.isAgg34
  have h2 := Try.sizeOf34
  unfold part
  simp [Sem.run_bind, h1, h2, Result.andThen]
end Go.Proofs.Ytjgcdmeojjnjlaa
/- Contracts of the reference's spans: Cuts. -/
namespace Go.Proofs.Ytjgcdmeojjnjlaa
open Go.RowKit Go.Sort Go.Proofs.Ytjgcdmeojjnjlaa.Bo
set_option linter.unusedVariables false
theorem Cells4.far {w w' : World} {row : Option Nat} {b o : Nat} {q : S4} (h : Cells4 w b o q) (hg : w.grownBy w' row) (hne : some b ≠ row) : Cells4 w' b o q :=
  ⟨hg.cell h.1 hne, hg.cell h.2.1 hne, hg.cell h.2.2.1 hne, hg.cell h.2.2.2 hne⟩
/-- A slice of cuts that holds those of these keys. -/
def KRow (w : World) (a : Option Addr) (ks : List Int) : Prop := 0 < ks.length → ∃ b off, a = some ⟨b, off, none⟩ ∧ ∀ (j : Nat) (h : j < ks.length), CellsAt w b (off + j * 2) (sd ks[j]) (pa ks[j])
theorem KRow.below {w w' : World} {a : Option Addr} {ks : List Int} (h : KRow w a ks) (hb : Go.RowKit.Below w.heap.size w w') : KRow w' a ks := by
  intro hp
  obtain ⟨b, off, e, hc⟩ := h hp
  exact ⟨b, off, e, fun j hj => (hc j hj).below hb⟩
theorem KRow.of_own {w : World} {base cap n : Nat} {a : Option Addr} {ks : List Int} (h : w.ownsRow base 34 2 (.slice a n cap) n (flatL ks)) (hn : n = ks.length) : KRow w a ks := by
  intro hp
  rcases h.2 with ⟨h1, h2⟩ | ⟨g, cap', cur, h1, r⟩
  · omega
  · injection h1 with e1 e2 e3
    subst e1
    exact ⟨g, 0, rfl, fun j hj => by rw [Nat.zero_add]; exact own_cells h hn j hj⟩
end Go.Proofs.Ytjgcdmeojjnjlaa
/- The joining of pieces between rising cuts. -/
namespace Go.Proofs.Ytjgcdmeojjnjlaa.Bo
/-- All cuts of a row are named. -/
def Named (ps : List (Int × Int)) (ks : List Int) : Prop := ∀ p ∈ ps, p.1 ∈ ks ∧ p.2 ∈ ks
/-- Up to the key k, ps has just the numbers of C. -/
structure Upto (C : Int → Prop) (ks : List Int) (k : Int) (ps : List (Int × Int)) : Prop where
  lt : ∀ p ∈ ps, p.1 < p.2
  named : Named ps ks
  le : ∀ p ∈ ps, p.2 ≤ k
  cov : ∀ n, cov ps n ↔ C n ∧ n < k
theorem Upto.put {C : Int → Prop} {ks : List Int} {k k' : Int} {ps : List (Int × Int)} (h : Upto C ks k ps) (hk : k < k') (hC : ∀ n, k ≤ n → n < k' → (C n ↔ C k)) (hyes : C k) (m1 : k ∈ ks) (m2 : k' ∈ ks) : Upto C ks k' (ps ++ [(k, k')]) := by
  refine ⟨?_, ?_, ?_, fun n => ?_⟩
  · intro p hp
    rcases List.mem_append.1 hp with e | e
    · exact h.lt p e
    · rw [List.mem_singleton.1 e]; exact hk
  · intro p hp
    rcases List.mem_append.1 hp with e | e
    · exact h.named p e
    · rw [List.mem_singleton.1 e]; exact ⟨m1, m2⟩
  · intro p hp
    rcases List.mem_append.1 hp with e | e
    · have := h.le p e; omega
    · rw [List.mem_singleton.1 e]; exact Int.le_refl _
  · rw [cov_append, h.cov n, cov_cons]
    constructor
    · rintro (⟨a, b⟩ | a | a)
      · exact ⟨a, by omega⟩
      · exact ⟨(hC n a.1 a.2).2 hyes, a.2⟩
      · exact absurd a (cov_nil _)
    · rintro ⟨a, b⟩
      rcases Int.lt_or_le n k with h1 | h1
      · exact .inl ⟨a, h1⟩
      · exact .inr (.inl ⟨h1, b⟩)
theorem Upto.join {C : Int → Prop} {ks : List Int} {k k' x : Int} {ps : List (Int × Int)} (h : Upto C ks k (ps ++ [(x, k)])) (hk : k < k') (hC : ∀ n, k ≤ n → n < k' → (C n ↔ C k)) (hyes : C k) (m2 : k' ∈ ks) : Upto C ks k' (ps ++ [(x, k')]) := by
  have hx : x < k := h.lt (x, k) (by simp)
  refine ⟨?_, ?_, ?_, fun n => ?_⟩
  · intro p hp
    rcases List.mem_append.1 hp with e | e
    · exact h.lt p (List.mem_append_left _ e)
    · rw [List.mem_singleton.1 e]; show x < k'; omega
  · intro p hp
    rcases List.mem_append.1 hp with e | e
    · exact h.named p (List.mem_append_left _ e)
    · rw [List.mem_singleton.1 e]; exact ⟨(h.named (x, k) (by simp)).1, m2⟩
  · intro p hp
    rcases List.mem_append.1 hp with e | e
    · have := h.le p (List.mem_append_left _ e); omega
    · rw [List.mem_singleton.1 e]; exact Int.le_refl _
  · have h1 := h.cov n
    rw [cov_append, cov_cons] at h1 ⊢
    constructor
    · rintro (a | a | a)
      · have := h1.1 (.inl a); exact ⟨this.1, by omega⟩
      · rcases Int.lt_or_le n k with h2 | h2
        · exact ⟨(h1.1 (.inr (.inl ⟨a.1, h2⟩))).1, a.2⟩
        · exact ⟨(hC n h2 a.2).2 hyes, a.2⟩
      · exact absurd a (cov_nil _)
    · rintro ⟨a, b⟩
      rcases Int.lt_or_le n k with h2 | h2
      · rcases h1.2 ⟨a, h2⟩ with c | c | c
        · exact .inl c
        · exact .inr (.inl ⟨c.1, by have := c.2; show n < k'; omega⟩)
        · exact absurd c (cov_nil _)
      · exact .inr (.inl ⟨by show x ≤ n; omega, b⟩)
end Go.Proofs.Ytjgcdmeojjnjlaa.Bo
/- Contracts of the reference's spans: List. -/
namespace Go.Proofs.Ytjgcdmeojjnjlaa
open Go.RowKit Go.Sort Go.Proofs.Ytjgcdmeojjnjlaa.Bo
set_option linter.unusedVariables false
theorem CellsAt.far {w w' : World} {row : Option Nat} {b o : Nat} {c1 c2 : Int} (h : CellsAt w b o c1 c2) (hg : w.grownBy w' row) (hne : some b ≠ row) : CellsAt w' b o c1 c2 := ⟨hg.cell h.1 hne, hg.cell h.2 hne⟩
theorem own_put {w : World} {base g cap n size : Nat} {e : TypeId} {xs : List Value} (h : w.ownsRow base e size (.slice (some ⟨g, 0, none⟩) n cap) n xs) (i : Nat) (v : Value) : (w.setCell ⟨g, i, none⟩ v).ownsRow base e size (.slice (some ⟨g, 0, none⟩) n cap) n (xs.set i v) := by
  obtain ⟨h1, h2⟩ := h
  refine ⟨by rw [List.length_set]; exact h1, ?_⟩
  rcases h2 with ⟨h2, _⟩ | ⟨g', cap', cur, hv, hg, hh, h3, h4, h5, h6⟩
  · cases h2
  · injection hv with e1 e2 e3
    injection e1 with e1
    injection e1 with e1
    subst e1 e3
    refine .inr ⟨g, cap, _, rfl, hg, heap_setCell_same _ _ _ _ _ _ hh, h3, h4, by simpa using h5, ?_⟩
    rw [← h6]
    simp [List.take_set]
end Go.Proofs.Ytjgcdmeojjnjlaa
