/- A part of the proof: contracts of the functions that the statements reach. -/
import Derived.Test.YtakkmnhiaddnnaaRows
import Derived.Test.YtakkmnhiaddnnaaCA
import Derived.Test.YtakkmnhiaddnnaaCB
import Derived.Test.YtakkmnhiaddnnaaCC
import Derived.Test.YtakkmnhiaddnnaaCD
import Derived.Test.YtakkmnhiaddnnaaCE
import Derived.Test.YtakkmnhiaddnnaaCF
import Derived.Test.YtakkmnhiaddnnaaCG
import Derived.Test.YtakkmnhiaddnnaaCH
import Derived.Test.YtakkmnhiaddnnaaCI
import Derived.Test.YtakkmnhiaddnnaaCJ
import Derived.Test.YtakkmnhiaddnnaaCK
import Derived.Test.YtakkmnhiaddnnaaCL
import Derived.Test.YtakkmnhiaddnnaaCM
import Derived.Test.YtakkmnhiaddnnaaCN
import Derived.Test.YtakkmnhiaddnnaaCO
import Derived.Test.YtakkmnhiaddnnaaCP
import Derived.Lib.SmallJoins
import Derived.Deep.SlicePairs
import Derived.Deep.Strs
import Derived.OpenShut
import Derived.ChangeOld
import Derived.SizedLaws
import Derived.Lib.QuietBelow
import Derived.RangeFuncNested
import Derived.RangeFuncBound
import Derived.RangeFuncCalls
import Derived.RangeFuncLeaves
import Derived.Shelf.Abstract
import Derived.Shelf.RegionOpen
import Derived.OwnWalkIn
import Derived.TacticsInMore
import Derived.LoopNIn
import Derived.LoopIn
import Derived.Deep.RegionHeld3

/- Calls of the document's tree as arguments: one by value, a slice of them. -/
namespace Go.Proofs.Ytakkmnhiaddnnaa
open Go.ChangeShapes Go.WideShapes Go.ChangeAt Go.RowKit Go.Sort Go.Joins Go.Proofs.Ytakkmnhiaddnnaa.Bo
set_option linter.unusedVariables false

/-- A call: its kind, a segment. -/
structure O6 where
  k : Int
  s : G5
def O6.ok (o : O6) : Prop := I64 o.k ∧ o.s.ok
abbrev vO6 (o : O6) : Value := .agg #[.int .i64 o.k, .int .i64 o.s.ls, .int .i64 o.s.la, .int .i64 o.s.hs, .int .i64 o.s.ha, .int .i64 o.s.v]
def Cells6 (w : World) (b x : Nat) (o : O6) : Prop := w.cell? ⟨b, x, none⟩ = some (.int .i64 o.k) ∧ Cells5 w b (x + 1) o.s
theorem Cells6.below {w w' : World} {b x : Nat} {o : O6} (h : Cells6 w b x o) (hb : Go.RowKit.Below w.heap.size w w') : Cells6 w' b x o :=
  ⟨(hb.cell (World.block_lt_of_cell? w _ h.1)).trans h.1, h.2.below hb⟩
/-- A slice of calls that holds l. -/
def QRow (w : World) (a : Option Addr) (l : List O6) : Prop := 0 < l.length → ∃ b off, a = some ⟨b, off, none⟩ ∧ ∀ (j : Nat) (h : j < l.length), Cells6 w b (off + j * 6) l[j]
theorem QRow.below {w w' : World} {a : Option Addr} {l : List O6} (h : QRow w a l) (hb : Go.RowKit.Below w.heap.size w w') : QRow w' a l := by
  intro hp
  obtain ⟨b, off, e, hc⟩ := h hp
  exact ⟨b, off, e, fun j hj => (hc j hj).below hb⟩
set_option maxRecDepth 100000 in
theorem trod_seg {H : Type} {enc : TypeId × Value → H} {w : World} {base : Nat} {spare : Nat → Bool} {held : Bool} {n : Nat} {cs : List Value} {y : DataW H × List MemPlace} (h : DataW.trod enc Try.prog w base spare held n 35 cs = some y) :
    ∃ g : G5, cs = [.int .i64 g.ls, .int .i64 g.la, .int .i64 g.hs, .int .i64 g.ha, .int .i64 g.v] ∧ g.ok := by
  obtain ⟨y0, y1, n', hx, hlen, h0, h1⟩ := trod_struct2 Try.underlying35 h
  rw [show Try.prog.cellsOf 35 = 5 by kernel_rfl] at hlen
  obtain ⟨q, e1, o1⟩ := trod_span h0
  obtain ⟨v, ev, _, wv⟩ := DataW.trod_int Try.underlying2 h1
  match cs, hlen with
  | [v0, v1, v2, v3, v4], _ =>
    rw [show Try.prog.cellsOf 33 = 4 by kernel_rfl] at e1
    rw [show Try.prog.cellsOf 2 = 1 by kernel_rfl] at ev
    simp at e1 ev
    exact ⟨⟨q.ls, q.la, q.hs, q.ha, v⟩, by rw [e1.1, e1.2.1, e1.2.2.1, e1.2.2.2, ev], o1.1, o1.2, i64_of_wf2 wv⟩
set_option maxRecDepth 100000 in
theorem trod_op6 {H : Type} {enc : TypeId × Value → H} {w : World} {base : Nat} {spare : Nat → Bool} {held : Bool} {n : Nat} {cs : List Value} {y : DataW H × List MemPlace} (h : DataW.trod enc Try.prog w base spare held n 37 cs = some y) :
    ∃ o : O6, cs = [.int .i64 o.k, .int .i64 o.s.ls, .int .i64 o.s.la, .int .i64 o.s.hs, .int .i64 o.s.ha, .int .i64 o.s.v] ∧ o.ok := by
  obtain ⟨y0, y1, n', hx, hlen, h0, h1⟩ := trod_struct2 Try.underlying37 h
  rw [show Try.prog.cellsOf 37 = 6 by kernel_rfl] at hlen
  obtain ⟨k, ek, _, wk⟩ := DataW.trod_int Try.underlying3 h0
  obtain ⟨g, e1, o1⟩ := trod_seg h1
  match cs, hlen with
  | [v0, v1, v2, v3, v4, v5], _ =>
    rw [show Try.prog.cellsOf 3 = 1 by kernel_rfl] at ek
    rw [show Try.prog.cellsOf 35 = 5 by kernel_rfl] at e1
    simp at ek e1
    exact ⟨⟨k, g⟩, by rw [ek, e1.1, e1.2.1, e1.2.2.1, e1.2.2.2.1, e1.2.2.2.2], i64_of_wf2 wk, o1⟩
set_option maxRecDepth 100000 in
/-- A call by value. -/
theorem open_op6 {H : Type} {enc : TypeId × Value → H} {w : World} {base : Nat} {spare : Nat → Bool} {held : Bool} {r : Reach} {b0 : Nat} {v : Value} {d : DataW H} {p : List MemPlace} (hv : Value.okWide Try.prog w r b0 37 v) (h : DataW.Trod enc Try.prog w base spare held 37 v d p) :
    ∃ o : O6, v = vO6 o ∧ o.ok := by
  obtain ⟨cs, rfl, hsz⟩ := okWide_struct Try.underlying37 hv
  obtain ⟨fuel, hf⟩ := h
  obtain ⟨o, e, ok⟩ := trod_op6 hf
  refine ⟨o, ?_, ok⟩
  have e2 : cs.toList = [.int .i64 o.k, .int .i64 o.s.ls, .int .i64 o.s.la, .int .i64 o.s.hs, .int .i64 o.s.ha, .int .i64 o.s.v] := by simpa [Value.cells] using e
  have : cs = #[.int .i64 o.k, .int .i64 o.s.ls, .int .i64 o.s.la, .int .i64 o.s.hs, .int .i64 o.s.ha, .int .i64 o.s.v] := by rw [← Array.toArray_toList (xs := cs), e2]
  rw [this]
/-- A slice of calls. -/
def IsOps6 (w : World) (a : Option Addr) (len : Nat) (l : List O6) : Prop := len = l.length ∧ (∀ q ∈ l, q.ok) ∧ QRow w a l
theorem isOps6_nil (w : World) : IsOps6 w none 0 [] := ⟨rfl, by simp, fun h => by simp at h⟩
theorem isOps6_of (w : World) (x : Addr) (len m : Nat) (hlm : len ≤ m) (hi : ∀ i, i < m → ∃ o : O6, (∀ j u, [Value.int .i64 o.k, .int .i64 o.s.ls, .int .i64 o.s.la, .int .i64 o.s.hs, .int .i64 o.s.ha, .int .i64 o.s.v][j]? = some u → w.cell? (x.add (i * 6 + j)) = some u) ∧ o.ok) : ∃ l, IsOps6 w (some x) len l := by
  have h' : ∀ i, ∃ o : O6, i < m → (∀ j u, [Value.int .i64 o.k, .int .i64 o.s.ls, .int .i64 o.s.la, .int .i64 o.s.hs, .int .i64 o.s.ha, .int .i64 o.s.v][j]? = some u → w.cell? (x.add (i * 6 + j)) = some u) ∧ o.ok := by
    intro i
    by_cases h : i < m
    · obtain ⟨o, h1⟩ := hi i h
      exact ⟨o, fun _ => h1⟩
    · exact ⟨⟨0, ⟨0, 0, 0, 0, 0⟩⟩, fun h2 => absurd h2 h⟩
  obtain ⟨f, hf⟩ := Classical.axiomOfChoice h'
  refine ⟨(List.range len).map f, by simp, ?_, ?_⟩
  · intro c hc
    obtain ⟨i, hi2, rfl⟩ := List.mem_map.1 hc
    exact (hf i (by have := List.mem_range.1 hi2; omega)).2
  · intro hp
    have hp' : 0 < len := by simpa using hp
    obtain ⟨b, off, spot⟩ := x
    have hspot : spot = none := by simpa [Addr.add] using World.cell?_spot ((hf 0 (by omega)).1 0 _ rfl)
    subst hspot
    refine ⟨b, off, rfl, fun j hj => ?_⟩
    have hj' : j < len := by simpa using hj
    have h1 := (hf j (by omega)).1
    simp only [List.getElem_map, List.getElem_range]
    have g0 := h1 0 _ rfl
    have g1 := h1 1 _ rfl
    have g2 := h1 2 _ rfl
    have g3 := h1 3 _ rfl
    have g4 := h1 4 _ rfl
    have g5 := h1 5 _ rfl
    rw [Addr.add_lit] at g0 g1 g2 g3 g4 g5
    exact ⟨g0, by rw [Nat.add_assoc]; exact g1, by rw [Nat.add_assoc, Nat.add_assoc]; exact g2, by rw [Nat.add_assoc, Nat.add_assoc]; exact g3, by rw [Nat.add_assoc, Nat.add_assoc]; exact g4, by rw [Nat.add_assoc, Nat.add_assoc]; exact g5⟩
set_option maxRecDepth 100000 in
theorem open_ops6 {H : Type} {enc : TypeId × Value → H} {w : World} {base : Nat} {spare : Nat → Bool} {held : Bool} {a : Option Addr} {len cap : Nat} {d : DataW H} {p : List MemPlace} (h : DataW.Trod enc Try.prog w base spare held 22 (.slice a len cap) d p) : ∃ l, IsOps6 w a len l := by
  obtain ⟨fuel, hf⟩ := h
  rcases Go.Deep.open_slice Try.underlying22 hf with ⟨hcs, _⟩ | ⟨x, l, c, m, n, D, Pl, hcs, _, hl, hm, hmm, _, hc⟩
  · simp [Value.cells] at hcs
    obtain ⟨rfl, rfl, rfl⟩ := hcs
    exact ⟨[], isOps6_nil w⟩
  · simp [Value.cells] at hcs
    obtain ⟨rfl, rfl, rfl⟩ := hcs
    have hlm : len ≤ m := by rw [hmm]; split <;> omega
    refine isOps6_of w x _ m hlm fun i hi => ?_
    obtain ⟨cs', h1, h2⟩ := hc i hi
    obtain ⟨o, e, ok⟩ := trod_op6 h2
    rw [show Try.prog.cellsOf 37 = 6 by kernel_rfl] at h1
    obtain ⟨_, hlen, hcell⟩ := World.cells?_some h1
    refine ⟨o, fun j u hu => ?_, ok⟩
    rw [e] at hlen hcell
    have hj : j < 6 := by
      rcases Nat.lt_or_ge j 6 with h | h
      · exact h
      · rw [List.getElem?_eq_none (by simpa using h)] at hu; cases hu
    have e0 := hcell j hj
    rw [Go.Deep.add_add] at e0
    rw [e0, hu]
/-- The datum of a slice of calls: as long as the slice. -/
theorem datum_ops6 {H : Type} {enc : TypeId × Value → H} {w : World} {base : Nat} {spare : Nat → Bool} {held : Bool} {a : Option Addr} {len cap : Nat} {d : DataW H} {p : List MemPlace} (h : DataW.Trod enc Try.prog w base spare held 22 (.slice a len cap) d p) : len = 0 ∨ ∃ es sp, d = .slice es sp ∧ es.length = len := by
  obtain ⟨fuel, hf⟩ := h
  rcases Go.Deep.open_slice Try.underlying22 hf with ⟨hcs, _⟩ | ⟨x, l, c, m, n, D, Pl, hcs, _, hl, hm, hmm, hx, hc⟩
  · simp [Value.cells] at hcs
    exact .inl hcs.2.1
  · simp [Value.cells] at hcs
    obtain ⟨rfl, rfl, rfl⟩ := hcs
    simp only [Prod.mk.injEq] at hx
    exact .inr ⟨_, _, hx.1, by simp⟩
theorem bytes_op6 : Try.prog.bytesOf 37 = 48 := by kernel_rfl
/-- No slice of calls that comes in is longer than its bytes allow. -/
theorem short_ops6 {H : Type} {enc : TypeId × Value → H} {w : World} {base : Nat} {spare : Nat → Bool} {held : Bool} {a : Option Addr} {len cap : Nat} {d : DataW H} {p : List MemPlace} {ts : List TypeId} {ds : List (DataW H)} {j : Nat} (h : DataW.Trod enc Try.prog w base spare held 22 (.slice a len cap) d p)
    (hsz : (DataW.weightsEach Try.prog ts ds).all (· ≤ reachBytes) = true) (ht : ts[j]? = some 22) (hd : ds[j]? = some d) : len * 48 ≤ 140737488351232 := by
  rcases datum_ops6 h with rfl | ⟨es, sp, rfl, rfl⟩
  · omega
  · have := sized_slice hsz ht hd Try.underlying22
    rw [bytes_op6] at this
    simp only [reachBytes] at this
    omega
end Go.Proofs.Ytakkmnhiaddnnaa

/- Get. -/
namespace Go.Proofs.Ytakkmnhiaddnnaa
open Go.RowKit Go.Sort Go.Proofs.Ytakkmnhiaddnnaa.Bo
set_option linter.unusedVariables false
set_option maxRecDepth 100000

theorem plI_eq (k : Int) (x : Tr) : plI k x = fidx (plF k x) := rfl
theorem rget_any {w : World} {base T A : Nat} {t : Rt} {x : Tr} {S : Nat → Prop} (h : TrR w base T A t x S) (a b : Int) (hb : I64 b) : Calls Try.prog 24 #[aP T, .agg #[.int .i64 a, .int .i64 b]] w fun e w' => e = .returned (.tuple #[vG (getG x.ino (key a b)).1, .bool (getG x.ino (key a b)).2]) ∧ Go.RowKit.Below w.heap.size w w' := by
  have ht := tl_get x (key a b) h.row (key_ky _ _ hb)
  have hd : ∀ W, Go.RowKit.Below w.heap.size w W → Calls Try.prog 44 #[aP T, .int .i64 (plI (key a b) x)] W fun e w' => e = .returned (.tuple #[vG (tl (plF (key a b) x)).1, .bool (tl (plF (key a b) x)).2]) ∧ Go.RowKit.Below W.heap.size W w' := fun W hW => by
    rw [plI_eq]
    refine rtold_any (h.below hW) _ (fun y hy => ?_)
    obtain ⟨_, _, _, _, _, _, q⟩ := pl_some x _ y hy
    exact h.stepNode _ y (fnr_mem _ _ _ q)
  have hn := fun W (hW : Go.RowKit.Below w.heap.size w W) => rplace_any (h.below hW) a b hb
  generalize plI (key a b) x = i at *
  generalize tl (plF (key a b) x) = z at *
  subst ht
  exact rget_core T a b i _ _ w (Lib.hid hn) (Lib.hid hd)
end Go.Proofs.Ytakkmnhiaddnnaa

/- A tree of a call's own beside rows that stay: which blocks are kept. -/
namespace Go.Proofs.Ytakkmnhiaddnnaa
open Go.RowKit Go.Sort Go.Proofs.Ytakkmnhiaddnnaa.Bo
set_option linter.unusedVariables false
set_option maxRecDepth 100000

/-- The call's own tree holds L; the blocks B are none of its own. -/
structure TrK (w : World) (T A : Nat) (R : Int) (L : List G5) (B : Nat → Prop) (W : World) : Prop where
  tr : ∃ t S, RtIs W w.heap.size T A t S ∧ t.ar.room = R ∧ Fin t L ∧ ∀ b, B b → ¬ S b ∧ b < W.heap.size
  be : Go.RowKit.Below w.heap.size w W
  row : RowOk L
  ok : ∀ g ∈ L, g.ok
theorem TrW.k {w W : World} {T A : Nat} {R : Int} {L : List G5} (h : TrW w T A R L W) : TrK w T A R L (fun _ => False) W := by
  obtain ⟨⟨t, S, h1, h2, h3⟩, h4, h5, h6⟩ := h
  exact ⟨⟨t, S, h1, h2, h3, fun b hb => hb.elim⟩, h4, h5, h6⟩
theorem TrK.w {w W : World} {T A : Nat} {R : Int} {L : List G5} {B : Nat → Prop} (h : TrK w T A R L B W) : TrW w T A R L W := by
  obtain ⟨⟨t, S, h1, h2, h3, _⟩, h4, h5, h6⟩ := h
  exact ⟨⟨t, S, h1, h2, h3⟩, h4, h5, h6⟩
theorem TrK.bc {w : World} {T A : Nat} {R : Int} {L : List G5} {B : Nat → Prop} : Bc (TrK w T A R L B) := by
  rintro W W' ⟨⟨t, S, h1, h2, h3, h7⟩, h4, h5, h6⟩ hb
  exact ⟨⟨t, S, h1.below hb, h2, h3, fun b hB => ⟨(h7 b hB).1, Nat.lt_of_lt_of_le (h7 b hB).2 hb.size⟩⟩, bt h4 hb, h5, h6⟩
/-- More blocks are kept, such as came since. -/
theorem TrK.keep {w W W' : World} {T A : Nat} {R : Int} {L : List G5} {B C : Nat → Prop} (h : TrK w T A R L B W) (hb : Go.RowKit.Below W.heap.size W W') (hC : ∀ b, C b → b < W'.heap.size ∧ (W.heap.size ≤ b ∨ B b)) : TrK w T A R L C W' := by
  obtain ⟨⟨t, S, h1, h2, h3, h7⟩, h4, h5, h6⟩ := h
  refine ⟨⟨t, S, h1.below hb, h2, h3, fun b hb' => ⟨fun hS => ?_, (hC b hb').1⟩⟩, bt h4 hb, h5, h6⟩
  rcases (hC b hb').2 with k | k
  · have := (h1.lt b hS).2; omega
  · exact (h7 b k).1 hS
/-- A call that turns the tree's row from L to M: what is kept is as it was. -/
theorem TrK.call {w W : World} {T A : Nat} {R : Int} {L M : List G5} {B : Nat → Prop} {f : Nat} {args : Array Value} {v : Value} (h : TrK w T A R L B W) (hM : RowOk M) (hG : ∀ g ∈ M, g.ok)
    (hc : ∀ S, TrAt W S w.heap.size T A R L W → Rd f args v (TrAt W S w.heap.size T A R M) W) : Calls Try.prog f args W fun e w' => e = .returned v ∧ TrK w T A R M B w' ∧ (∀ b, B b → w'.heap[b]? = W.heap[b]?) ∧ Oth W w' := by
  obtain ⟨⟨t, S, h1, h2, h3, h7⟩, h4, h5, h6⟩ := h
  refine (hc S ⟨t, h1.start, h2, h3⟩).mono ?_
  rintro e w' ⟨rfl, t', ⟨S', k1, k2, k3⟩, k4, k5⟩
  refine ⟨rfl, ⟨⟨t', S', k1, k4, k5, fun b hb => ⟨fun hS => ?_, Nat.lt_of_lt_of_le (h7 b hb).2 k2.size⟩⟩, h4.trans (k2.to_below _ h4.size (fun b hb => (h1.lt b hb).1)), hM, hG⟩, fun b hb => k2.block b (h7 b hb).2 (h7 b hb).1, oth_kp h1 k2⟩
  rcases k3 b hS with e | e
  · exact (h7 b hb).1 e
  · have := (h7 b hb).2; omega
theorem TrK.does {w W : World} {T A : Nat} {R : Int} {L : List G5} {B : Nat → Prop} (h : TrK w T A R L B W) (k : Int) (s : G5) (hs : s.ok) :
    Calls Try.prog 14 #[aP T, vOp k s] W fun e w' => e = .returned (.tuple #[.bool (doG L R k s).2.1, .int .i64 (doG L R k s).2.2]) ∧ TrK w T A R (doG L R k s).1 B w' ∧ (∀ b, B b → w'.heap[b]? = W.heap[b]?) ∧ Oth W w' :=
  h.call (doG_ok L R k s h.row (s.ky hs)) (doG_oks L R k s hs h.ok) (fun S hS => rdoes_any hS h.row h.ok k s hs)
/-- A row of segments in blocks that are kept. -/
theorem GRow.kept {W W' : World} {a : Option Addr} {l : List G5} {B : Nat → Prop} (h : GRow W a l) (hk : ∀ b, B b → W'.heap[b]? = W.heap[b]?) (hB : ∀ b off, a = some ⟨b, off, none⟩ → B b) : GRow W' a l := by
  intro hp
  obtain ⟨b, off, rfl, hc⟩ := h hp
  refine ⟨b, off, rfl, fun j hj => ?_⟩
  have e := hk b (hB b off rfl)
  have cell : ∀ o, W'.cell? ⟨b, o, none⟩ = W.cell? ⟨b, o, none⟩ := fun o => by unfold World.cell?; simp only [e]
  obtain ⟨c1, c2, c3, c4, c5⟩ := hc j hj
  exact ⟨(cell _).trans c1, (cell _).trans c2, (cell _).trans c3, (cell _).trans c4, (cell _).trans c5⟩
end Go.Proofs.Ytakkmnhiaddnnaa

/- What is told of a cut of a row: the nearest ones on both sides, counted. No Go in sight. -/
namespace Go.Proofs.Ytakkmnhiaddnnaa.Bo
theorem putG_len (l : List G5) (R : Int) (s : G5) : (putG l R s).1.length ≤ l.length + 1 := by
  unfold putG
  split
  · simp
  · split
    · simp
    · split
      · simp
      · rw [insG_len]; exact Nat.le_refl _
theorem delG_len (l : List G5) (k : Int) : (delG l k).1.length ≤ l.length := by
  unfold delG
  split
  · simp only [List.length_append, List.length_take, List.length_drop]; omega
  · exact Nat.le_refl _
theorem doG_len (l : List G5) (R k : Int) (s : G5) : (doG l R k s).1.length ≤ l.length + 1 := by
  unfold doG
  split
  · exact putG_len l R s
  · split
    · have := delG_len l s.key; show (delG l s.key).1.length ≤ _; omega
    · split
      · show ([] : List G5).length ≤ _; simp
      · show l.length ≤ _; omega
theorem countP_one (L : List G5) (a : G5) (h : L.Pairwise (fun a b => a.key < b.key)) (ha : a ∈ L) : L.countP (fun g => g.eqb a) = 1 := by
  induction L with
  | nil => simp at ha
  | cons x t ih =>
    rw [List.pairwise_cons] at h
    by_cases e : x = a
    · subst e
      rw [List.countP_cons_of_pos (by simpa using x.eqb_self), List.countP_eq_zero.2]
      intro g hg
      have hk := h.1 g hg
      intro e
      rw [(G5.eqb_iff g x).1 e] at hk
      omega
    · rw [List.countP_cons_of_neg (by intro e2; exact e ((G5.eqb_iff x a).1 e2))]
      exact ih h.2 (by rcases List.mem_cons.1 ha with e2 | e2; exact absurd e2.symm e; exact e2)
theorem countP_two (L : List G5) (p q : G5 → Bool) (h : ∀ g ∈ L, p g = true → q g = false) : L.countP (fun g => p g || q g) = L.countP p + L.countP q := by
  induction L with
  | nil => rfl
  | cons x t ih =>
    have ih' := ih (fun g hg => h g (List.mem_cons_of_mem _ hg))
    have hx := h x (List.mem_cons_self ..)
    simp only [List.countP_cons, ih']
    cases hp : p x with
    | true => rw [hx hp]; simp; omega
    | false => cases hq : q x <;> simp <;> omega
/-- What is counted: those that are the one, or the other one. -/
def hitB (o1 o2 : Bool) (a b g : G5) : Bool := (o1 && g.eqb a) || (o2 && g.eqb b)
theorem hit_count (L : List G5) (o1 o2 : Bool) (a b : G5) (h : L.Pairwise (fun a b => a.key < b.key)) (h1 : o1 = true → a ∈ L) (h2 : o2 = true → b ∈ L) (hab : o1 = true → o2 = true → a ≠ b) : L.countP (hitB o1 o2 a b) = o1.toNat + o2.toNat := by
  unfold hitB
  rw [countP_two L (fun g => o1 && g.eqb a) (fun g => o2 && g.eqb b)]
  · have z : ∀ (o : Bool) (x : G5), (o = true → x ∈ L) → L.countP (fun g => o && g.eqb x) = o.toNat := by
      intro o x hx
      cases o with
      | false => rw [List.countP_eq_zero.2]; rfl; intro g _ e; simp at e
      | true => simp only [Bool.true_and]; rw [countP_one L x h (hx rfl)]; rfl
    rw [z o1 a h1, z o2 b h2]
  · intro g hg e
    simp only [Bool.and_eq_true] at e
    cases o2 with
    | false => rfl
    | true =>
      rw [Bool.true_and]
      cases hgb : g.eqb b with
      | false => rfl
      | true => exact absurd ((G5.eqb_iff g a).1 e.2 ▸ (G5.eqb_iff g b).1 hgb) (hab e.1 rfl)
theorem opt_mem {l : List G5} (x : G5 × Bool) (h : x = opt l.getLast? ∨ x = opt l.head?) : x.2 = true → x.1 ∈ l := by
  intro hx
  rcases h with rfl | rfl
  · cases e : l.getLast? with
    | none => rw [e] at hx; cases hx
    | some g => exact List.mem_of_getLast? e
  · cases e : l.head? with
    | none => rw [e] at hx; cases hx
    | some g => exact List.mem_of_head? e
/-- The four answers, and whether there is one of the key. -/
theorem near_four (L : List G5) (k : Int) (h : RowOk L) :
    ((∃ g ∈ L, g.key = k) → ∃ g, g.key = k ∧ nearG L k 0 = (g, true) ∧ nearG L k 2 = (g, true)) ∧
    ((¬ ∃ g ∈ L, g.key = k) → nearG L k 0 = nearG L k 1 ∧ nearG L k 3 = nearG L k 2 ∧ ((nearG L k 0).2 = true → (nearG L k 2).2 = true → (nearG L k 0).1.eqb (nearG L k 2).1 = false)) ∧
    L.countP (hitB (nearG L k 0).2 (nearG L k 3).2 (nearG L k 0).1 (nearG L k 3).1) = (nearG L k 0).2.toNat + (nearG L k 3).2.toNat := by
  have hp := (ris_iff L).1 h.ris
  have m0 : (nearG L k 0).2 = true → (nearG L k 0).1 ∈ L ∧ (nearG L k 0).1.key ≤ k := fun e => by
    have := opt_mem _ (.inl (near0 L k)) e
    exact ⟨(List.mem_filter.1 this).1, by simpa using (List.mem_filter.1 this).2⟩
  have m2 : (nearG L k 2).2 = true → (nearG L k 2).1 ∈ L ∧ k ≤ (nearG L k 2).1.key := fun e => by
    have := opt_mem _ (.inr (near2 L k)) e
    exact ⟨(List.mem_filter.1 this).1, by simpa using (List.mem_filter.1 this).2⟩
  have m3 : (nearG L k 3).2 = true → (nearG L k 3).1 ∈ L ∧ k < (nearG L k 3).1.key := fun e => by
    have := opt_mem _ (.inr (near3 L k)) e
    exact ⟨(List.mem_filter.1 this).1, by simpa using (List.mem_filter.1 this).2⟩
  refine ⟨?_, ?_, hit_count L _ _ _ _ hp (fun e => (m0 e).1) (fun e => (m3 e).1) (fun e1 e2 e => by have := m0 e1; have := m3 e2; rw [e] at *; omega)⟩
  · rintro ⟨g, hg, hk⟩
    refine ⟨g, hk, ?_, ?_⟩
    · obtain ⟨A, B, rfl⟩ := List.append_of_mem hg
      rw [List.pairwise_append] at hp
      obtain ⟨p1, p2, p3⟩ := hp
      rw [List.pairwise_cons] at p2
      have fB : B.filter (fun g => decide (g.key ≤ k)) = [] := List.filter_eq_nil_iff.2 (by intro x hx; have := p2.1 x hx; simp; omega)
      rw [near0, List.filter_append, List.filter_cons_of_pos (by simp; omega), fB]
      simp [opt]
    · obtain ⟨A, B, rfl⟩ := List.append_of_mem hg
      rw [List.pairwise_append] at hp
      obtain ⟨p1, p2, p3⟩ := hp
      have fA : A.filter (fun g => decide (k ≤ g.key)) = [] := List.filter_eq_nil_iff.2 (by intro x hx; have := p3 x hx g (List.mem_cons_self ..); simp; omega)
      rw [near2, List.filter_append, fA, List.filter_cons_of_pos (by simp; omega)]
      simp [opt]
  · intro hn
    refine ⟨?_, ?_, fun e1 e2 => ?_⟩
    · rw [near0, near1]
      congr 2
      exact List.filter_congr (fun g hg => by have : g.key ≠ k := fun e => hn ⟨g, hg, e⟩; rw [decide_eq_decide]; omega)
    · rw [near3, near2]
      congr 2
      exact List.filter_congr (fun g hg => by have : g.key ≠ k := fun e => hn ⟨g, hg, e⟩; rw [decide_eq_decide]; omega)
    · cases e : (nearG L k 0).1.eqb (nearG L k 2).1 with
      | false => rfl
      | true =>
        have e3 := (G5.eqb_iff _ _).1 e
        have a1 := m0 e1
        have a2 := m2 e2
        rw [e3] at a1
        exact absurd ⟨_, a2.1, by omega⟩ hn
end Go.Proofs.Ytakkmnhiaddnnaa.Bo

/- The laws' made: a tree behind a script, and the document's row. -/
namespace Go.Proofs.Ytakkmnhiaddnnaa
open Go.RowKit Go.Sort Go.Proofs.Ytakkmnhiaddnnaa.Bo
set_option linter.unusedVariables false
set_option maxRecDepth 100000

/-- The document's row behind a script. -/
def gRun (R : Int) (z : List O6) : List G5 := z.foldl (fun l o => (doG l R o.k o.s).1) []
theorem gRun_step (R : Int) (z : List O6) (j : Nat) (h : j < z.length) : gRun R (z.take (j + 1)) = (doG (gRun R (z.take j)) R z[j].k z[j].s).1 := by
  unfold gRun
  rw [List.take_succ_eq_append_getElem h, List.foldl_append]
  rfl
theorem gRun_len (R : Int) (z : List O6) : ∀ j, j ≤ z.length → (gRun R (z.take j)).length ≤ j := by
  intro j
  induction j with
  | zero => intro _; show ([] : List G5).length ≤ 0; simp
  | succ j ih =>
    intro h
    rw [gRun_step R z j (by omega)]
    have := ih (by omega)
    have := doG_len (gRun R (z.take j)) R z[j].k z[j].s
    omega
/-- The blocks in which a row lies. -/
def GB (a : Option Addr) (l : List G5) (b : Nat) : Prop := 0 < l.length ∧ ∃ off, a = some ⟨b, off, none⟩
theorem GRow.keptB {W W' : World} {a : Option Addr} {l : List G5} (h : GRow W a l) (hk : ∀ b, GB a l b → W'.heap[b]? = W.heap[b]?) : GRow W' a l := by
  intro hp
  obtain ⟨b, off, rfl, hc⟩ := h hp
  refine ⟨b, off, rfl, fun j hj => ?_⟩
  have e := hk b ⟨hp, off, rfl⟩
  have cell : ∀ o, W'.cell? ⟨b, o, none⟩ = W.cell? ⟨b, o, none⟩ := fun o => by unfold World.cell?; simp only [e]
  obtain ⟨c1, c2, c3, c4, c5⟩ := hc j hj
  exact ⟨(cell _).trans c1, (cell _).trans c2, (cell _).trans c3, (cell _).trans c4, (cell _).trans c5⟩
theorem GRow.lt {W : World} {a : Option Addr} {l : List G5} (h : GRow W a l) : ∀ b, GB a l b → b < W.heap.size := by
  rintro b ⟨hp, off, rfl⟩
  obtain ⟨b', off', e, hc⟩ := h hp
  injection e with e
  injection e with e1 e2 e3
  subst e1
  exact World.block_lt_of_cell? W _ (hc 0 hp).1
/-- The call's own tree, and the document's row, which is the same, beside it. -/
structure MadeAt (w : World) (T A : Nat) (R : Int) (L : List G5) (a : Option Addr) (cap : Nat) (W : World) : Prop where
  tk : TrK w T A R L (GB a L) W
  row : GRow W a L
  cap : L.length ≤ cap
theorem MadeAt.bc {w : World} {T A : Nat} {R : Int} {L : List G5} {a : Option Addr} {cap : Nat} : Bc (MadeAt w T A R L a cap) := fun _ _ h hb => ⟨TrK.bc _ _ h.tk hb, h.row.below hb, h.cap⟩
theorem MadeAt.be {w : World} {T A : Nat} {R : Int} {L : List G5} {a : Option Addr} {cap : Nat} {W : World} (h : MadeAt w T A R L a cap W) : Go.RowKit.Below w.heap.size w W := h.tk.be
/-- The tree still holds L, the row is turned to M. -/
structure MidAt (w : World) (T A : Nat) (R : Int) (L M : List G5) (a : Option Addr) (cap : Nat) (W : World) : Prop where
  tk : TrK w T A R L (GB a M) W
  row : GRow W a M
  cap : M.length ≤ cap
theorem MidAt.bc {w : World} {T A : Nat} {R : Int} {L M : List G5} {a : Option Addr} {cap : Nat} : Bc (MidAt w T A R L M a cap) := fun _ _ h hb => ⟨TrK.bc _ _ h.tk hb, h.row.below hb, h.cap⟩
/-- The document's call. -/
theorem MadeAt.doG {w W : World} {T A : Nat} {R : Int} {L : List G5} {a : Option Addr} {cap : Nat} (h : MadeAt w T A R L a cap W) (k : Int) (s : G5) (hs : s.ok) (hl : L.length ≤ 9999) :
    Calls Try.prog 13 #[.slice a L.length cap, .int .i64 R, vOp k s] W fun e w' => ∃ a' cap', e = .returned (.tuple #[.slice a' (doG L R k s).1.length cap', .bool (doG L R k s).2.1, .int .i64 (doG L R k s).2.2]) ∧ MidAt w T A R L (doG L R k s).1 a' cap' w' ∧ Go.RowKit.Below W.heap.size W w' := by
  refine (rdoG_any a cap L R k s W hs h.tk.ok h.row h.cap hl).mono ?_
  rintro e w' ⟨a', cap', ⟨rfl, hg, hc, hn⟩, hb⟩
  refine ⟨a', cap', rfl, ⟨h.tk.keep hb (fun b hB => ⟨hg.lt b hB, ?_⟩), hg, hc⟩, hb⟩
  rcases hn with ⟨rfl, e⟩ | hn
  · rw [e] at hB; exact .inr hB
  · obtain ⟨_, off, rfl⟩ := hB
    exact .inl (hn _ rfl)
/-- The tree's call. -/
theorem MidAt.does {w W : World} {T A : Nat} {R : Int} {L : List G5} {a : Option Addr} {cap : Nat} {k : Int} {s : G5} (h : MidAt w T A R L (Bo.doG L R k s).1 a cap W) (hs : s.ok) :
    Calls Try.prog 14 #[aP T, vOp k s] W fun e w' => e = .returned (.tuple #[.bool (Bo.doG L R k s).2.1, .int .i64 (Bo.doG L R k s).2.2]) ∧ MadeAt w T A R (Bo.doG L R k s).1 a cap w' ∧ Oth W w' := by
  refine (h.tk.does k s hs).mono ?_
  rintro e w' ⟨rfl, hk, hB, ho⟩
  exact ⟨rfl, ⟨hk, h.row.keptB hB, h.cap⟩, ho⟩
theorem made_new {w : World} (room : Int) (h : 0 ≤ room ∧ room ≤ 4096) (W : World) (hW : Go.RowKit.Below w.heap.size w W) :
    Calls Try.prog 11 #[.int .i64 room] W fun e w' => ∃ T A, e = .returned (.tuple #[aP T, .int .i64 0]) ∧ MadeAt w T A room [] none 0 w' := by
  refine (trw_new room h W hW).mono ?_
  rintro e w' ⟨T, A, ⟨rfl, ht⟩, _⟩
  exact ⟨T, A, rfl, ht.k.keep (Go.RowKit.Below.refl _ _) (fun b hb => by simp [GB] at hb), grow_nil _ _, Nat.le_refl _⟩
set_option maxHeartbeats 2000000 in
theorem rmade_no (room : Int) (a : Option Addr) (len cap : Nat) (w : World) (h : ¬ (0 ≤ room ∧ room ≤ 4096)) : Calls Try.prog 18 #[.int .i64 room, .slice a len cap] w fun e w' => e = .returned (.tuple #[.pointer none, .slice none 0 0, .bool false]) ∧ Go.RowKit.Below w.heap.size w w' := by
  have mx := mixed
  have HN := Lib.hid (rbnew_no room w h)
  clear h
  go_enter Try.func18, Try.ntmps18
  go_wp2_with fail
  refine HN.out.mono ?_
  rintro e y0 ⟨rfl, rfl⟩
  go_wp2_with fail
  go_ret3
  exact ⟨rfl, Go.RowKit.Below.refl _ _⟩
set_option maxHeartbeats 2000000 in
theorem rmade_long (room : Int) (a : Option Addr) (len cap : Nat) (w : World) (h : 0 ≤ room ∧ room ≤ 4096) (hl : 200 < len) : Calls Try.prog 18 #[.int .i64 room, .slice a len cap] w fun e w' => e = .returned (.tuple #[.pointer none, .slice none 0 0, .bool false]) ∧ Go.RowKit.Below w.heap.size w w' := by
  have mx := mixed
  have HN := Lib.hid (trw_new (w := w) room h w (Go.RowKit.Below.refl _ _))
  have t2 : decide ((200 : Int) < (len : Int)) = true := decide_eq_true (by omega)
  have t3 : decide (200 < len) = true := decide_eq_true (by omega)
  clear h
  go_enter Try.func18, Try.ntmps18
  go_wp2_with fail
  refine HN.out.mono ?_
  rintro e y0 ⟨T, A, ⟨rfl, ht⟩, hb⟩
  have HB := Lib.hid hb
  clear ht hb
  go_wp2_with fail
  go_ret3
  exact ⟨rfl, HB.out⟩
set_option maxHeartbeats 4000000 in
theorem rmade_any (room : Int) (a : Option Addr) (len cap : Nat) (z : List O6) (w : World) (h : IsOps6 w a len z) (h1 : 0 ≤ room ∧ room ≤ 4096) (hl : len ≤ 200) :
    Calls Try.prog 18 #[.int .i64 room, .slice a len cap] w fun e w' => ∃ T A la lc, e = .returned (.tuple #[aP T, .slice la (gRun room z).length lc, .bool true]) ∧ MadeAt w T A room (gRun room z) la lc w' := by
  have mx := mixed
  obtain ⟨rfl, hz, hr⟩ := h
  obtain ⟨LZ, hLZ⟩ : ∃ LZ, gRun room z = LZ := ⟨_, rfl⟩
  rw [hLZ]
  have HLZ := Lib.hid hLZ
  have HZ := Lib.hid hz
  have HR := Lib.hid hr
  clear hz hr hLZ
  have HN := Lib.hid (made_new (w := w) room h1 w (Go.RowKit.Below.refl _ _))
  have t2 : decide ((200 : Int) < (z.length : Int)) = false := decide_eq_false (by omega)
  have t3 : decide (200 < z.length) = false := decide_eq_false (by omega)
  go_enter Try.func18, Try.ntmps18
  go_wp2_with fail
  refine HN.out.mono ?_
  rintro e y0 ⟨T, A, rfl, ht⟩
  have HT0 := Lib.hid ht
  clear ht HN t2 t3
  go_wp2_with fail
  go_loopw [9, 33] (fun l k wr => ∃ (j : Nat) (la : Option Addr) (lc : Nat), k = .int .i64 (j : Int) ∧ j ≤ z.length ∧ l = .slice la (gRun room (z.take j)).length lc ∧ MadeAt w T A room (gRun room (z.take j)) la lc wr) (fun _ k _ => z.length - (intOf k).toNat)
  case atStart => exact ⟨0, none, 0, rfl, Nat.zero_le _, rfl, HT0.out⟩
  case round =>
    clear HT0
    obtain ⟨j, la, lc, rfl, hj, rfl, ht⟩ := hrel
    have HT := Lib.hid ht
    have HLN := gRun_len room z j hj
    by_cases hlt : j < z.length
    · obtain ⟨b, off, rfl, hc⟩ := (HR.out.below ht.be) (by omega)
      obtain ⟨c1, c2, c3, c4, c5, c6⟩ := hc j hlt
      have HOK := Lib.hid (HZ.out _ (List.getElem_mem hlt))
      have HST := Lib.hid (gRun_step room z j hlt)
      have ti0 : (0 : Int) ≤ (j : Int) := by omega
      have ti1 : (j : Int) < (z.length : Int) := by omega
      clear hc ht
      generalize z[j] = o at *
      generalize gRun room (z.take j) = L at *
      have HDO := Lib.hid ((MadeAt.bc _ _ HT.out (below_new wr (oOp o.k o.s))).doG o.k o.s HOK.out.2 (by omega))
      have hbo := heap_alloc_new wr (oOp o.k o.s)
      obtain ⟨d0, d1, d2, d3, d4, d5⟩ := op6_cells hbo
      have HBO := Lib.hid hbo
      clear hbo
      have HTG : Hid (∀ (a2 : Option Addr) (cap2 : Nat) W, MidAt w T A room L (doG L room o.k o.s).1 a2 cap2 W → Calls Try.prog 14 #[aP T, vOp o.k o.s] W fun e w' => e = .returned (.tuple #[.bool (doG L room o.k o.s).2.1, .int .i64 (doG L room o.k o.s).2.2]) ∧ MadeAt w T A room (doG L room o.k o.s).1 a2 cap2 w' ∧ Oth W w') := fun a2 cap2 W h => h.does HOK.out.2
      generalize (doG L room o.k o.s).1 = L2 at *
      generalize (doG L room o.k o.s).2.1 = rb at *
      generalize (doG L room o.k o.s).2.2 = re at *
      go_wp2_with fail
      refine HDO.out.mono ?_
      rintro e y1 ⟨la2, lc2, rfl, hmid, hb⟩
      have HMI := Lib.hid hmid
      replace HBO := Lib.hid (box_on HBO.out hb)
      clear d0 d1 d2 d3 d4 d5 c1 c2 c3 c4 c5 c6 HDO hmid hb
      obtain ⟨d0, d1, d2, d3, d4, d5⟩ := op6_cells HBO.out
      go_wp2_with fail
      refine (HTG.out la2 lc2 _ HMI.out).mono ?_
      rintro e y2 ⟨rfl, hm2, _⟩
      have HM2 := Lib.hid hm2
      clear hm2 d0 d1 d2 d3 d4 d5
      go_wp2_with fail
      go_roundw
      case rel => exact ⟨j + 1, la2, lc2, by go_num, by omega, by rw [HST.out], by rw [HST.out]; exact HM2.out⟩
      case measure => simp [intOf]; omega
    · obtain rfl : j = z.length := by omega
      rw [List.take_length, HLZ.out] at HT ⊢
      clear ht HLN
      go_wp2_with fail
      go_ret3
      exact ⟨T, A, la, lc, rfl, HT.out⟩
end Go.Proofs.Ytakkmnhiaddnnaa

/- The arena's Each: its contract as a function that is ranged over. -/
namespace Go.Proofs.Ytakkmnhiaddnnaa
open Go.RowKit Go.Sort Go.Shelf Go.Proofs.Ytakkmnhiaddnnaa.Bo
set_option linter.unusedVariables false
attribute [local go_sem] Oper.semAt_some

abbrev encT (x : Int × Int) : Array Value := #[.int .i64 x.1, .int .i64 x.2]
/-- What a round keeps: all that lay below n0, and the block B. -/
def KpE (n0 B : Nat) (W W' : World) : Prop := Go.RowKit.Below n0 W W' ∧ W'.heap[B]? = W.heap[B]?
theorem KpE.trans {n0 B : Nat} {X Y Z : World} (h : KpE n0 B X Y) (k : KpE n0 B Y Z) : KpE n0 B X Z := ⟨h.1.trans k.1, k.2.trans h.2⟩
theorem kpE_b {n0 B : Nat} {w : World} (hn : n0 ≤ w.heap.size) (hB : B < w.heap.size) (W : World) (l : Nat) (o o' : Obj) (hl : w.heap.size ≤ l) (h : W.heap[l]? = some o) (h1 : o.isCells = false) (h2 : o.isWalk = false) : KpE n0 B W (W.putObj l o') :=
  ⟨belowK_b hn W l o o' hl h h1 h2, World.putObj_heap_other (by omega)⟩
theorem kp_of_belowN {n0 : Nat} {W W' : World} (h : Go.RowKit.Below n0 W W') : Kp (fun b => n0 ≤ b) W W' := ⟨h.os, h.tape, h.output, h.size, fun k _ hn => h.block k (by omega)⟩
end Go.Proofs.Ytakkmnhiaddnnaa

/- The tree gone through: the recursive walk that hands yield on; All and Down as functions that are ranged over. -/
namespace Go.Proofs.Ytakkmnhiaddnnaa
open Go.RowKit Go.Sort Go.Shelf Go.Proofs.Ytakkmnhiaddnnaa.Bo
set_option linter.unusedVariables false
set_option maxRecDepth 100000
attribute [local go_sem] Oper.semAt_some

/-- The row from a side on. -/
def Bo.Tr.go (s : Bool) : Tr → List G5
  | .nil => []
  | .node c l i g r => if s then r.go s ++ g :: l.go s else l.go s ++ g :: r.go s
theorem Bo.Tr.go_up (x : Tr) : x.go false = x.ino := by
  induction x with
  | nil => rfl
  | node c l i g r h1 h2 => simp [Bo.Tr.go, Bo.Tr.ino, h1, h2]
theorem Bo.Tr.go_down (x : Tr) : x.go true = x.ino.reverse := by
  induction x with
  | nil => rfl
  | node c l i g r h1 h2 => simp [Bo.Tr.go, Bo.Tr.ino, h1, h2]
theorem Bo.Tr.go_len (s : Bool) (x : Tr) : (x.go s).length = x.ids.length := by
  induction x with
  | nil => rfl
  | node c l i g r h1 h2 => cases s <;> simp [Bo.Tr.go, Bo.Tr.ids, h1, h2] <;> omega
/-- What a round keeps: all that lay below n0, and the blocks that the walk reads. -/
def KpT (n0 : Nat) (W W' : World) : Prop := Go.RowKit.Below n0 W W' ∧ ∀ (k : Nat) (cs : Array Value) (t : TypeId), W.heap[k]? = some (.cells cs t (0, 0)) → t = 74 ∨ t = 24 → W'.heap[k]? = some (.cells cs t (0, 0))
theorem KpT.trans {n0 : Nat} {X Y Z : World} (h : KpT n0 X Y) (k : KpT n0 Y Z) : KpT n0 X Z := ⟨h.1.trans k.1, fun i cs t hi ht => k.2 i cs t (h.2 i cs t hi ht) ht⟩
theorem KpT.refl (n0 : Nat) (X : World) : KpT n0 X X := ⟨Go.RowKit.Below.refl _ _, fun _ _ _ h _ => h⟩
theorem kpT_b {n0 : Nat} {w : World} (hn : n0 ≤ w.heap.size) (W : World) (l : Nat) (o o' : Obj) (hl : w.heap.size ≤ l) (h : W.heap[l]? = some o) (h1 : o.isCells = false) (h2 : o.isWalk = false) : KpT n0 W (W.putObj l o') :=
  ⟨belowK_b hn W l o o' hl h h1 h2, fun k cs t hk ht => by
    by_cases e : k = l
    · subst e; rw [h] at hk; injection hk with hk; subst hk; cases h1
    · exact (World.putObj_heap_other e).trans hk⟩
theorem KpT.of_below {n0 : Nat} {W W' : World} (h : Go.RowKit.Below W.heap.size W W') (hn : n0 ≤ W.heap.size) : KpT n0 W W' := ⟨h.mono hn, fun k cs t hk _ => box_on hk h⟩
theorem kp_of_below' {n0 : Nat} {W W' : World} (h : Go.RowKit.Below n0 W W') : Kp (fun b => n0 ≤ b) W W' := ⟨h.os, h.tape, h.output, h.size, fun k _ hn => h.block k (by omega)⟩
theorem abides_below {β : Type} {J : β → World → Prop} {B : Nat} (h : AbidesFrom B J) {s : β} {W W' : World} (hJ : J s W) (hb : Go.RowKit.Below W.heap.size W W') : J s W' :=
  h s W W' none hJ ⟨hb.os, hb.tape, hb.output, hb.size, fun k hk _ => hb.block k hk⟩ (fun r e => by cases e)
abbrev vN (n : Nd) : Value := .agg #[.int .i64 n.g.ls, .int .i64 n.g.la, .int .i64 n.g.hs, .int .i64 n.g.ha, .int .i64 n.g.v, .int .i64 n.pa, .int .i64 n.c0, .int .i64 n.c1, .bool n.red]
abbrev oN (n : Nd) : Obj := .cells #[.int .i64 n.g.ls, .int .i64 n.g.la, .int .i64 n.g.hs, .int .i64 n.g.ha, .int .i64 n.g.v, .int .i64 n.pa, .int .i64 n.c0, .int .i64 n.c1, .bool n.red] 74
theorem oN_cells {W : World} {b : Nat} {n : Nd} (h : W.heap[b]? = some (oN n)) : W.cell? ⟨b, 0, none⟩ = some (.int .i64 n.g.ls) ∧ W.cell? ⟨b, 1, none⟩ = some (.int .i64 n.g.la) ∧ W.cell? ⟨b, 2, none⟩ = some (.int .i64 n.g.hs) ∧ W.cell? ⟨b, 3, none⟩ = some (.int .i64 n.g.ha) ∧ W.cell? ⟨b, 4, none⟩ = some (.int .i64 n.g.v) ∧ W.cell? ⟨b, 6, none⟩ = some (.int .i64 n.c0) ∧ W.cell? ⟨b, 7, none⟩ = some (.int .i64 n.c1) :=
  ⟨(cell_of_row _ _ 0 _ _ _ h).trans rfl, (cell_of_row _ _ 1 _ _ _ h).trans rfl, (cell_of_row _ _ 2 _ _ _ h).trans rfl, (cell_of_row _ _ 3 _ _ _ h).trans rfl, (cell_of_row _ _ 4 _ _ _ h).trans rfl, (cell_of_row _ _ 6 _ _ _ h).trans rfl, (cell_of_row _ _ 7 _ _ _ h).trans rfl⟩
set_option maxHeartbeats 2000000 in
theorem rthru_no (T A l k : Nat) (root i sd : Int) (w : World) (HT : Hid (w.heap[T]? = some (tO A root))) (HG : Hid (Calls Try.prog 69 #[aP A, .int .i64 i] w fun e w' => e = .returned (.tuple #[vN ndZ, .bool false]) ∧ Go.RowKit.Below w.heap.size w w')) :
    CallsIn Fence.wide k Try.prog 59 #[aP T, .int .i64 i, .int .i64 sd, .func (.yield l) #[] #[]] w fun e W' => e = .returned (.bool true) ∧ Go.RowKit.Below w.heap.size w W' := by
  have mx := mixed
  have c0 : w.cell? ⟨T, 0, none⟩ = some (aP A) := (cell_of_row _ _ 0 _ _ _ HT.out).trans rfl
  refine callsIn_wide.2 ?_
  go_enter Try.func59, Try.ntmps59
  go_wp2_with fail
  refine HG.out.mono ?_
  rintro e y ⟨rfl, hb⟩
  have HB := Lib.hid (bt hb (below_new y (oN ndZ)))
  clear hb c0
  go_wp2_with fail
  go_ret
  exact ⟨rfl, HB.out⟩
set_option maxHeartbeats 4000000 in
theorem rthru_core0 (T A l k : Nat) (root i : Int) (n : Nd) (P3 X : World → Prop) (w : World) (HT : Hid (w.heap[T]? = some (tO A root))) (HG : Hid (Calls Try.prog 69 #[aP A, .int .i64 i] w fun e w' => e = .returned (.tuple #[vN n, .bool true]) ∧ Go.RowKit.Below w.heap.size w w'))
    (H1 : Hid (∀ y, Go.RowKit.Below w.heap.size w y → CallsIn Fence.wide (k - 1) Try.prog 59 #[aP T, .int .i64 n.c0, .int .i64 0, .func (.yield l) #[] #[]] (y.alloc (oN n)) fun e W1 =>
      (e = .returned (.bool true) ∧ W1.heap[y.heap.size]? = some (oN n) ∧ YieldAt Fence.wide (k - 1) Try.prog l #[vG n.g] W1 fun e W2 =>
        (e = .returned (.bool true) ∧ W2.heap[y.heap.size]? = some (oN n) ∧ CallsIn Fence.wide (k - 1) Try.prog 59 #[aP T, .int .i64 n.c1, .int .i64 0, .func (.yield l) #[] #[]] W2 fun e W3 =>
          (e = .returned (.bool true) ∧ P3 W3) ∨ (e = .returned (.bool false) ∧ X W3))
        ∨ (e = .returned (.bool false) ∧ X W2))
      ∨ (e = .returned (.bool false) ∧ X W1))) :
    CallsIn Fence.wide k Try.prog 59 #[aP T, .int .i64 i, .int .i64 0, .func (.yield l) #[] #[]] w fun e W' => (e = .returned (.bool true) ∧ P3 W') ∨ (e = .returned (.bool false) ∧ X W') := by
  have mx := mixed
  have c0 : w.cell? ⟨T, 0, none⟩ = some (aP A) := (cell_of_row _ _ 0 _ _ _ HT.out).trans rfl
  refine callsIn_of_wp Try.func59 rfl trivial ?_ rfl
  simp only [Try.ntmps59, List.size_toArray, List.length_cons, List.length_nil, Nat.reduceAdd, Nat.reduceSub, Array.replicate_succ, Array.replicate_zero, List.push_toArray, List.append_toArray, List.nil_append, List.cons_append]
  have hdd : ∀ m : Nat, (Fence.wide.depth.isSome = true → 1 ≤ m) := fun m h => by cases h
  gi_wp2_with (refine ⟨trivial, ?_⟩; refine ⟨hdd _, ?_⟩; gi_at_call 69; refine (callsIn_wide.2 HG.out).mono ?_; clear c0; rintro e y ⟨rfl, hb⟩; have h1 := H1.out y hb; have hNY := heap_alloc_new y (oN n); have hN := oN_cells hNY; clear hb hNY; obtain ⟨n0, n1, n2, n3, n4, n6, n7⟩ := hN)
  refine ⟨trivial, ?_⟩
  refine ⟨hdd _, ?_⟩
  refine h1.mono ?_
  clear h1 H1 HG n0 n1 n2 n3 n4 n6 n7
  rintro e W1 (⟨rfl, hN1, fn, tmps, assign, body, hy, hR⟩ | ⟨rfl, hx1⟩)
  · obtain ⟨n0, n1, n2, n3, n4, n6, n7⟩ := oN_cells hN1
    clear hN1
    gi_wp2
    refine ⟨hdd _, ?_⟩
    refine hR.mono ?_
    clear hR n0 n1 n2 n3 n4 n6 n7
    rintro e W2 (⟨rfl, hN2, h3⟩ | ⟨rfl, hx2⟩)
    · obtain ⟨n0, n1, n2, n3, n4, n6, n7⟩ := oN_cells hN2
      clear hN2
      gi_wp2
      refine ⟨trivial, ?_⟩
      refine ⟨hdd _, ?_⟩
      refine h3.mono ?_
      clear h3
      rintro e W3 (⟨rfl, hp3⟩ | ⟨rfl, hx3⟩)
      · gi_wp2
        go_ret
        exact .inl ⟨rfl, hp3⟩
      · gi_wp2
        go_ret
        exact .inr ⟨rfl, hx3⟩
    · gi_wp2
      refine ⟨trivial, ?_⟩
      gi_wp2
      go_ret
      exact .inr ⟨rfl, hx2⟩
  · gi_wp2
    refine ⟨fun _ h => (by cases h), ?_⟩
    gi_wp2
    refine ⟨trivial, ?_⟩
    gi_wp2
    go_ret
    exact .inr ⟨rfl, hx1⟩
set_option maxHeartbeats 4000000 in
theorem rthru_core1 (T A l k : Nat) (root i : Int) (n : Nd) (P3 X : World → Prop) (w : World) (HT : Hid (w.heap[T]? = some (tO A root))) (HG : Hid (Calls Try.prog 69 #[aP A, .int .i64 i] w fun e w' => e = .returned (.tuple #[vN n, .bool true]) ∧ Go.RowKit.Below w.heap.size w w'))
    (H1 : Hid (∀ y, Go.RowKit.Below w.heap.size w y → CallsIn Fence.wide (k - 1) Try.prog 59 #[aP T, .int .i64 n.c1, .int .i64 1, .func (.yield l) #[] #[]] (y.alloc (oN n)) fun e W1 =>
      (e = .returned (.bool true) ∧ W1.heap[y.heap.size]? = some (oN n) ∧ YieldAt Fence.wide (k - 1) Try.prog l #[vG n.g] W1 fun e W2 =>
        (e = .returned (.bool true) ∧ W2.heap[y.heap.size]? = some (oN n) ∧ CallsIn Fence.wide (k - 1) Try.prog 59 #[aP T, .int .i64 n.c0, .int .i64 1, .func (.yield l) #[] #[]] W2 fun e W3 =>
          (e = .returned (.bool true) ∧ P3 W3) ∨ (e = .returned (.bool false) ∧ X W3))
        ∨ (e = .returned (.bool false) ∧ X W2))
      ∨ (e = .returned (.bool false) ∧ X W1))) :
    CallsIn Fence.wide k Try.prog 59 #[aP T, .int .i64 i, .int .i64 1, .func (.yield l) #[] #[]] w fun e W' => (e = .returned (.bool true) ∧ P3 W') ∨ (e = .returned (.bool false) ∧ X W') := by
  have mx := mixed
  have c0 : w.cell? ⟨T, 0, none⟩ = some (aP A) := (cell_of_row _ _ 0 _ _ _ HT.out).trans rfl
  refine callsIn_of_wp Try.func59 rfl trivial ?_ rfl
  simp only [Try.ntmps59, List.size_toArray, List.length_cons, List.length_nil, Nat.reduceAdd, Nat.reduceSub, Array.replicate_succ, Array.replicate_zero, List.push_toArray, List.append_toArray, List.nil_append, List.cons_append]
  have hdd : ∀ m : Nat, (Fence.wide.depth.isSome = true → 1 ≤ m) := fun m h => by cases h
  gi_wp2_with (refine ⟨trivial, ?_⟩; refine ⟨hdd _, ?_⟩; gi_at_call 69; refine (callsIn_wide.2 HG.out).mono ?_; clear c0; rintro e y ⟨rfl, hb⟩; have h1 := H1.out y hb; have hNY := heap_alloc_new y (oN n); have hN := oN_cells hNY; clear hb hNY; obtain ⟨n0, n1, n2, n3, n4, n6, n7⟩ := hN)
  refine ⟨trivial, ?_⟩
  refine ⟨hdd _, ?_⟩
  refine h1.mono ?_
  clear h1 H1 HG n0 n1 n2 n3 n4 n6 n7
  rintro e W1 (⟨rfl, hN1, fn, tmps, assign, body, hy, hR⟩ | ⟨rfl, hx1⟩)
  · obtain ⟨n0, n1, n2, n3, n4, n6, n7⟩ := oN_cells hN1
    clear hN1
    gi_wp2
    refine ⟨hdd _, ?_⟩
    refine hR.mono ?_
    clear hR n0 n1 n2 n3 n4 n6 n7
    rintro e W2 (⟨rfl, hN2, h3⟩ | ⟨rfl, hx2⟩)
    · obtain ⟨n0, n1, n2, n3, n4, n6, n7⟩ := oN_cells hN2
      clear hN2
      gi_wp2
      refine ⟨trivial, ?_⟩
      refine ⟨hdd _, ?_⟩
      refine h3.mono ?_
      clear h3
      rintro e W3 (⟨rfl, hp3⟩ | ⟨rfl, hx3⟩)
      · gi_wp2
        go_ret
        exact .inl ⟨rfl, hp3⟩
      · gi_wp2
        go_ret
        exact .inr ⟨rfl, hx3⟩
    · gi_wp2
      refine ⟨trivial, ?_⟩
      gi_wp2
      go_ret
      exact .inr ⟨rfl, hx2⟩
  · gi_wp2
    refine ⟨fun _ h => (by cases h), ?_⟩
    gi_wp2
    refine ⟨trivial, ?_⟩
    gi_wp2
    go_ret
    exact .inr ⟨rfl, hx1⟩
theorem rthru_core (s : Bool) (T A l k : Nat) (root i : Int) (n : Nd) (P3 X : World → Prop) (w : World) (HT : Hid (w.heap[T]? = some (tO A root))) (HG : Hid (Calls Try.prog 69 #[aP A, .int .i64 i] w fun e w' => e = .returned (.tuple #[vN n, .bool true]) ∧ Go.RowKit.Below w.heap.size w w'))
    (H1 : Hid (∀ y, Go.RowKit.Below w.heap.size w y → CallsIn Fence.wide (k - 1) Try.prog 59 #[aP T, .int .i64 (n.ch s), .int .i64 (sv s), .func (.yield l) #[] #[]] (y.alloc (oN n)) fun e W1 =>
      (e = .returned (.bool true) ∧ W1.heap[y.heap.size]? = some (oN n) ∧ YieldAt Fence.wide (k - 1) Try.prog l #[vG n.g] W1 fun e W2 =>
        (e = .returned (.bool true) ∧ W2.heap[y.heap.size]? = some (oN n) ∧ CallsIn Fence.wide (k - 1) Try.prog 59 #[aP T, .int .i64 (n.ch (!s)), .int .i64 (sv s), .func (.yield l) #[] #[]] W2 fun e W3 =>
          (e = .returned (.bool true) ∧ P3 W3) ∨ (e = .returned (.bool false) ∧ X W3))
        ∨ (e = .returned (.bool false) ∧ X W2))
      ∨ (e = .returned (.bool false) ∧ X W1))) :
    CallsIn Fence.wide k Try.prog 59 #[aP T, .int .i64 i, .int .i64 (sv s), .func (.yield l) #[] #[]] w fun e W' => (e = .returned (.bool true) ∧ P3 W') ∨ (e = .returned (.bool false) ∧ X W') := by
  cases s
  · exact rthru_core0 T A l k root i n P3 X w HT HG H1
  · exact rthru_core1 T A l k root i n P3 X w HT HG H1
theorem Bo.Tr.go_mk (s c : Bool) (a : Tr) (i : Nat) (g : G5) (b : Tr) : (Bo.Tr.mk s c a i g b).go s = a.go s ++ g :: b.go s := by cases s <;> rfl
/-- Through the node i and what is below it, whatever has come. -/
theorem rthru_in (s : Bool) (T A l n0 N : Nat) (t : Rt) (J Jx : List G5 → World → Prop) (W0 : World) (hn : n0 ≤ W0.heap.size)
    (hJ : ∀ pre W W', J pre W → Go.RowKit.Below W.heap.size W W' → J pre W')
    (hY : ∀ m pre g W, J pre W → pre.length < N → YieldAt Fence.wide m Try.prog l #[vG g] W fun e W' => (e = .returned (.bool true) ∧ J (pre ++ [g]) W' ∧ KpT n0 W W') ∨ (e = .returned (.bool false) ∧ Jx (pre ++ [g]) W'))
    (hT : ∀ W, KpT n0 W0 W → W.heap[T]? = some (tO A t.root))
    (hG : ∀ W, KpT n0 W0 W → ∀ (i : Nat) nd, t.look (i : Int) = some nd → Calls Try.prog 69 #[aP A, .int .i64 (i : Int)] W fun e w' => e = .returned (.tuple #[vN nd, .bool true]) ∧ Go.RowKit.Below W.heap.size W w')
    (hZ : ∀ W, KpT n0 W0 W → Calls Try.prog 69 #[aP A, .int .i64 (-1)] W fun e w' => e = .returned (.tuple #[vN ndZ, .bool false]) ∧ Go.RowKit.Below W.heap.size W w') (y : Tr) :
    ∀ (k : Nat) (p : Int) (pre : List G5) (W : World), KpT n0 W0 W → W0.heap.size ≤ W.heap.size → RepT t.look y p → J pre W → pre.length + y.ids.length ≤ N →
      CallsIn Fence.wide k Try.prog 59 #[aP T, .int .i64 y.idx, .int .i64 (sv s), .func (.yield l) #[] #[]] W fun e W' =>
        (e = .returned (.bool true) ∧ J (pre ++ y.go s) W' ∧ KpT n0 W W') ∨ (e = .returned (.bool false) ∧ ∃ q, q <+: y.go s ∧ Jx (pre ++ q) W') := by
  induction y with
  | nil =>
    intro k p pre W hW hsz _ hj _
    refine (rthru_no T A l k t.root (-1) (sv s) W (Lib.hid (hT W hW)) (Lib.hid (hZ W hW))).mono ?_
    rintro e W' ⟨rfl, hb⟩
    exact .inl ⟨rfl, by rw [show Bo.Tr.go s .nil = [] from rfl, List.append_nil]; exact hJ _ _ _ hj hb, KpT.of_below hb (by omega)⟩
  | node c lf i g r ihl ihr =>
    intro k p pre W hW hsz hr hj hN
    have hlk := hr.1
    have hmk : ∃ a b, Bo.Tr.node c lf i g r = Bo.Tr.mk s c a i g b ∧ (∀ q, RepT t.look a q → True) ∧ (∃ nd, t.look (i : Int) = some nd ∧ nd.g = g ∧ nd.ch s = a.idx ∧ nd.ch (!s) = b.idx) ∧ RepT t.look a (i : Int) ∧ RepT t.look b (i : Int) ∧ a.ids.length + b.ids.length + 1 = (Bo.Tr.node c lf i g r).ids.length ∧
        (∀ (k : Nat) (p : Int) (pre : List G5) (W : World), KpT n0 W0 W → W0.heap.size ≤ W.heap.size → RepT t.look a p → J pre W → pre.length + a.ids.length ≤ N → CallsIn Fence.wide k Try.prog 59 #[aP T, .int .i64 a.idx, .int .i64 (sv s), .func (.yield l) #[] #[]] W fun e W' => (e = .returned (.bool true) ∧ J (pre ++ a.go s) W' ∧ KpT n0 W W') ∨ (e = .returned (.bool false) ∧ ∃ q, q <+: a.go s ∧ Jx (pre ++ q) W')) ∧
        (∀ (k : Nat) (p : Int) (pre : List G5) (W : World), KpT n0 W0 W → W0.heap.size ≤ W.heap.size → RepT t.look b p → J pre W → pre.length + b.ids.length ≤ N → CallsIn Fence.wide k Try.prog 59 #[aP T, .int .i64 b.idx, .int .i64 (sv s), .func (.yield l) #[] #[]] W fun e W' => (e = .returned (.bool true) ∧ J (pre ++ b.go s) W' ∧ KpT n0 W W') ∨ (e = .returned (.bool false) ∧ ∃ q, q <+: b.go s ∧ Jx (pre ++ q) W')) := by
      cases s
      · exact ⟨lf, r, rfl, fun _ _ => trivial, ⟨_, hlk, rfl, rfl, rfl⟩, hr.2.1, hr.2.2, by simp [Bo.Tr.ids]; omega, ihl, ihr⟩
      · exact ⟨r, lf, rfl, fun _ _ => trivial, ⟨_, hlk, rfl, rfl, rfl⟩, hr.2.2, hr.2.1, by simp [Bo.Tr.ids]; omega, ihr, ihl⟩
    obtain ⟨a, b, e, _, ⟨nd, h1, rfl, h2, h3⟩, ra, rb, hl, iha, ihb⟩ := hmk
    rw [e, Bo.Tr.go_mk, Bo.Tr.mk_idx]
    rw [← hl] at hN
    clear ihl ihr e hl hr hlk
    have ha := a.go_len s
    refine rthru_core s T A l k t.root (i : Int) nd (fun W' => J (pre ++ (a.go s ++ nd.g :: b.go s)) W' ∧ KpT n0 W W') (fun W' => ∃ q, q <+: a.go s ++ nd.g :: b.go s ∧ Jx (pre ++ q) W') W (Lib.hid (hT W hW)) (Lib.hid (hG W hW i nd h1)) (Lib.hid fun y hy => ?_)
    rw [h2, h3]
    have hb1 := bt hy (below_new y (oN nd))
    have k1 : KpT n0 W (y.alloc (oN nd)) := KpT.of_below hb1 (by omega)
    refine (iha (k - 1) (i : Int) pre (y.alloc (oN nd)) (hW.trans k1) (Nat.le_trans hsz hb1.size) ra (hJ _ _ _ hj hb1) (by omega)).mono ?_
    rintro e W1 (⟨rfl, hj1, hk1⟩ | ⟨rfl, q, hq, hx⟩)
    · refine .inl ⟨rfl, hk1.2 _ _ _ (heap_alloc_new y (oN nd)) (.inl rfl), YieldAt.mono (hY (k - 1) _ nd.g W1 hj1 (by simp; omega)) ?_⟩
      rintro e W2 (⟨rfl, hj2, hk2⟩ | ⟨rfl, hx2⟩)
      · refine .inl ⟨rfl, hk2.2 _ _ _ (hk1.2 _ _ _ (heap_alloc_new y (oN nd)) (.inl rfl)) (.inl rfl), ?_⟩
        refine (ihb (k - 1) (i : Int) (pre ++ a.go s ++ [nd.g]) W2 (((hW.trans k1).trans hk1).trans hk2) (Nat.le_trans hsz (Nat.le_trans hb1.size (Nat.le_trans hk1.1.size hk2.1.size))) rb hj2 (by simp; omega)).mono ?_
        rintro e W3 (⟨rfl, hj3, hk3⟩ | ⟨rfl, q, hq, hx⟩)
        · exact .inl ⟨rfl, by simpa using hj3, ((k1.trans hk1).trans hk2).trans hk3⟩
        · obtain ⟨z, rfl⟩ | ⟨z, hz⟩ : (∃ z, z = q) ∨ (∃ z : Nat, False) := .inl ⟨q, rfl⟩
          · obtain ⟨u, hu⟩ := hq
            exact .inr ⟨rfl, a.go s ++ nd.g :: z, ⟨u, by simp [hu]⟩, by simpa using hx⟩
          · exact hz.elim
      · exact .inr ⟨rfl, a.go s ++ [nd.g], ⟨b.go s, by simp⟩, by simpa using hx2⟩
    · exact .inr ⟨rfl, q, hq.trans (by simp), hx⟩
end Go.Proofs.Ytakkmnhiaddnnaa

/- All and Down: contracts of functions that are ranged over. -/
namespace Go.Proofs.Ytakkmnhiaddnnaa
open Go.RowKit Go.Sort Go.Shelf Go.Proofs.Ytakkmnhiaddnnaa.Bo
set_option linter.unusedVariables false
set_option maxRecDepth 100000
attribute [local go_sem] Oper.semAt_some

theorem two_ways {e : Ending} {p q : Prop} (h : (e = .returned (.bool true) ∧ p) ∨ (e = .returned (.bool false) ∧ q)) : ∃ b, e = .returned (.bool b) ∧ (p ∨ q) := h.elim (fun ⟨a, b⟩ => ⟨true, a, .inl b⟩) (fun ⟨a, b⟩ => ⟨false, a, .inr b⟩)
theorem yield_any {m m' : Nat} {P : Program} {l : Nat} {args : Array Value} {W : World} {R : Ending → World → Prop} (h : YieldAt Fence.wide m P l args W R) : YieldAt Fence.wide m' P l args W R := by
  obtain ⟨fn, tmps, assign, body, hy, hR⟩ := h
  exact ⟨fn, tmps, assign, body, hy, hR.1, fun c cs _ => hR.2 c cs (fun d h => by cases h)⟩
theorem below_drew (W : World) : Go.RowKit.Below W.heap.size W W.drew := (Go.RowKit.Below.refl _ _).drew
abbrev oTP (T : Nat) : Obj := .cells #[aP T] 24
theorem rall_any (T : Nat) (w : World) : Calls Try.prog 32 #[aP T] w fun e w' => e = .returned (.func (.func 60) #[] #[.pointer (some ⟨w.heap.size, 0, none⟩)]) ∧ w.alloc (oTP T) = w' := by
  go_enter Try.func32, Try.ntmps32
  go_wp2_with fail
  go_ret
  exact ⟨rfl, rfl⟩
set_option maxHeartbeats 2000000 in
theorem rall1_core (T A Bn l k : Nat) (root : Int) (PA PX : World → Prop) (W : World) (HB : Hid (W.heap[Bn]? = some (oTP T))) (HT : Hid (W.heap[T]? = some (tO A root)))
    (H : Hid (∀ W', Go.RowKit.Below W.heap.size W W' → CallsIn Fence.wide (k - 1) Try.prog 59 #[aP T, .int .i64 root, .int .i64 0, .func (.yield l) #[] #[]] W' fun e W2 => (e = .returned (.bool true) ∧ PA W2) ∨ (e = .returned (.bool false) ∧ PX W2))) :
    CallsIn Fence.wide k Try.prog 60 #[.func (.yield l) #[] #[], .pointer (some ⟨Bn, 0, none⟩)] W fun e W' => (∃ v, e = .returned v) ∧ (PA W' ∨ PX W') := by
  have mx := mixed
  have c0 : W.cell? ⟨Bn, 0, none⟩ = some (aP T) := (cell_of_row _ _ 0 _ _ _ HB.out).trans rfl
  have c1 : W.cell? ⟨T, 1, none⟩ = some (.int .i64 root) := (cell_of_row _ _ 1 _ _ _ HT.out).trans rfl
  have hdd : ∀ m : Nat, (Fence.wide.depth.isSome = true → 1 ≤ m) := fun m h => by cases h
  refine callsIn_of_wp Try.func60 rfl trivial ?_ rfl
  simp only [Try.ntmps60, List.size_toArray, List.length_cons, List.length_nil, Nat.reduceAdd, Nat.reduceSub, Array.replicate_succ, Array.replicate_zero, List.push_toArray, List.append_toArray, List.nil_append, List.cons_append]
  gi_region_with_o (refine ⟨trivial, ?_⟩; refine ⟨hdd _, ?_⟩; gi_at_call 59; refine (H.out _ (below_drew W)).mono ?_; rintro e W2 h2; obtain ⟨b2, rfl, h3⟩ := two_ways h2)
  all_goals
    go_end0
    exact ⟨⟨_, rfl⟩, by assumption⟩
theorem all_stops (k Bn n0 base T A : Nat) (t : Rt) (x : Tr) (S : Nat → Prop) (w : World) (h : TrR w base T A t x S) (hS : ∀ b, S b → b < n0) (hn0 : n0 ≤ w.heap.size) (hB : w.heap[Bn]? = some (oTP T)) :
    SeqStopsK Fence.wide k Try.prog 60 #[.pointer (some ⟨Bn, 0, none⟩)] (fun g : G5 => #[vG g]) (KpT n0) (fun ys => ys = x.ino) (fun pre => pre <+: x.ino) x.ids.length w := fun l J Jx W hW hJ _ hY h0 => by
  have hWr := h.below hW
  have hsz := hW.size
  have tr : ∀ W', KpT n0 W W' → RtIs W' base T A t S := fun W' hk => hWr.is.kp (kp_of_below' hk.1) (fun b hb hge => by have := hS b hb; omega)
  have hT : ∀ W', KpT n0 W W' → W'.heap[T]? = some (tO A t.root) := fun W' hk => by obtain ⟨_, _, hb, _⟩ := tr W' hk; exact hb
  have hroot := hWr.rep.root
  have hin := rthru_in false T A l n0 x.ids.length t J Jx W (by omega) (fun pre X Y hj hb => abides_below hJ hj hb) (fun m pre g X hj hl => yield_any (hY pre g X hj hl)) hT ?_ ?_ x (k - 1)
  · refine rall1_core T A Bn l k t.root (fun W2 => ∃ ys, ys = x.ino ∧ J ys W2) (fun W2 => ∃ pre, pre <+: x.ino ∧ Jx pre W2) W (Lib.hid (box_on hB hW)) (Lib.hid (hT W (KpT.refl _ _))) (Lib.hid fun W' hb => ?_)
    rw [hroot]
    refine (hin (-1) [] W' (KpT.of_below hb (by omega)) hb.size hWr.rep.rep (abides_below hJ h0 hb) (by simp)).mono ?_
    rintro e W2 (⟨rfl, hj, _⟩ | ⟨rfl, q, hq, hx⟩)
    · exact .inl ⟨rfl, _, Bo.Tr.go_up x, by simpa using hj⟩
    · exact .inr ⟨rfl, q, by rw [← Bo.Tr.go_up x]; exact hq, by simpa using hx⟩
  · intro W' hk i nd hl
    obtain ⟨S0, rfl, _, _, hrn⟩ := tr W' hk
    obtain ⟨h1, h2⟩ := t.ar.look_some _ _ hl
    rw [Int.toNat_natCast] at h2
    exact rnget_yes hrn hWr.rep.ok i h1 nd h2
  · intro W' hk
    obtain ⟨S0, rfl, _, _, hrn⟩ := tr W' hk
    exact rnget_no hrn hWr.rep.ok (-1) ((t.ar.look_none _).1 t.ar.look_neg)
theorem rdown_any (T : Nat) (w : World) : Calls Try.prog 31 #[aP T] w fun e w' => e = .returned (.func (.func 58) #[] #[.pointer (some ⟨w.heap.size, 0, none⟩)]) ∧ w.alloc (oTP T) = w' := by
  go_enter Try.func31, Try.ntmps31
  go_wp2_with fail
  go_ret
  exact ⟨rfl, rfl⟩
set_option maxHeartbeats 2000000 in
theorem rdown1_core (T A Bn l k : Nat) (root : Int) (PA PX : World → Prop) (W : World) (HB : Hid (W.heap[Bn]? = some (oTP T))) (HT : Hid (W.heap[T]? = some (tO A root)))
    (H : Hid (∀ W', Go.RowKit.Below W.heap.size W W' → CallsIn Fence.wide (k - 1) Try.prog 59 #[aP T, .int .i64 root, .int .i64 1, .func (.yield l) #[] #[]] W' fun e W2 => (e = .returned (.bool true) ∧ PA W2) ∨ (e = .returned (.bool false) ∧ PX W2))) :
    CallsIn Fence.wide k Try.prog 58 #[.func (.yield l) #[] #[], .pointer (some ⟨Bn, 0, none⟩)] W fun e W' => (∃ v, e = .returned v) ∧ (PA W' ∨ PX W') := by
  have mx := mixed
  have c0 : W.cell? ⟨Bn, 0, none⟩ = some (aP T) := (cell_of_row _ _ 0 _ _ _ HB.out).trans rfl
  have c1 : W.cell? ⟨T, 1, none⟩ = some (.int .i64 root) := (cell_of_row _ _ 1 _ _ _ HT.out).trans rfl
  have hdd : ∀ m : Nat, (Fence.wide.depth.isSome = true → 1 ≤ m) := fun m h => by cases h
  refine callsIn_of_wp Try.func58 rfl trivial ?_ rfl
  simp only [Try.ntmps58, List.size_toArray, List.length_cons, List.length_nil, Nat.reduceAdd, Nat.reduceSub, Array.replicate_succ, Array.replicate_zero, List.push_toArray, List.append_toArray, List.nil_append, List.cons_append]
  gi_region_with_o (refine ⟨trivial, ?_⟩; refine ⟨hdd _, ?_⟩; gi_at_call 59; refine (H.out _ (below_drew W)).mono ?_; rintro e W2 h2; obtain ⟨b2, rfl, h3⟩ := two_ways h2)
  all_goals
    go_end0
    exact ⟨⟨_, rfl⟩, by assumption⟩
theorem down_stops (k Bn n0 base T A : Nat) (t : Rt) (x : Tr) (S : Nat → Prop) (w : World) (h : TrR w base T A t x S) (hS : ∀ b, S b → b < n0) (hn0 : n0 ≤ w.heap.size) (hB : w.heap[Bn]? = some (oTP T)) :
    SeqStopsK Fence.wide k Try.prog 58 #[.pointer (some ⟨Bn, 0, none⟩)] (fun g : G5 => #[vG g]) (KpT n0) (fun ys => ys = x.ino.reverse) (fun pre => pre <+: x.ino.reverse) x.ids.length w := fun l J Jx W hW hJ _ hY h0 => by
  have hWr := h.below hW
  have hsz := hW.size
  have tr : ∀ W', KpT n0 W W' → RtIs W' base T A t S := fun W' hk => hWr.is.kp (kp_of_below' hk.1) (fun b hb hge => by have := hS b hb; omega)
  have hT : ∀ W', KpT n0 W W' → W'.heap[T]? = some (tO A t.root) := fun W' hk => by obtain ⟨_, _, hb, _⟩ := tr W' hk; exact hb
  have hroot := hWr.rep.root
  have hin := rthru_in true T A l n0 x.ids.length t J Jx W (by omega) (fun pre X Y hj hb => abides_below hJ hj hb) (fun m pre g X hj hl => yield_any (hY pre g X hj hl)) hT ?_ ?_ x (k - 1)
  · refine rdown1_core T A Bn l k t.root (fun W2 => ∃ ys, ys = x.ino.reverse ∧ J ys W2) (fun W2 => ∃ pre, pre <+: x.ino.reverse ∧ Jx pre W2) W (Lib.hid (box_on hB hW)) (Lib.hid (hT W (KpT.refl _ _))) (Lib.hid fun W' hb => ?_)
    rw [hroot]
    refine (hin (-1) [] W' (KpT.of_below hb (by omega)) hb.size hWr.rep.rep (abides_below hJ h0 hb) (by simp)).mono ?_
    rintro e W2 (⟨rfl, hj, _⟩ | ⟨rfl, q, hq, hx⟩)
    · exact .inl ⟨rfl, _, Bo.Tr.go_down x, by simpa using hj⟩
    · exact .inr ⟨rfl, q, by rw [← Bo.Tr.go_down x]; exact hq, by simpa using hx⟩
  · intro W' hk i nd hl
    obtain ⟨S0, rfl, _, _, hrn⟩ := tr W' hk
    obtain ⟨h1, h2⟩ := t.ar.look_some _ _ hl
    rw [Int.toNat_natCast] at h2
    exact rnget_yes hrn hWr.rep.ok i h1 nd h2
  · intro W' hk
    obtain ⟨S0, rfl, _, _, hrn⟩ := tr W' hk
    exact rnget_no hrn hWr.rep.ok (-1) ((t.ar.look_none _).1 t.ar.look_neg)
end Go.Proofs.Ytakkmnhiaddnnaa

/- The laws' all: the segments of a tree, gone through. -/
namespace Go.Proofs.Ytakkmnhiaddnnaa
open Go.RowKit Go.Sort Go.Shelf Go.Proofs.Ytakkmnhiaddnnaa.Bo
set_option linter.unusedVariables false
set_option maxRecDepth 100000
attribute [local go_sem] Oper.semAt_some

/-- Between two rounds of all: the row's box at b, what has come behind it. -/
def AllI (X : World) (b : Nat) (pre : List G5) (W : World) : Prop := (∃ v, Boxed W b 29 v ∧ W.ownsRow b 35 5 v pre.length (flatG pre) ∧ ∃ a cap, v = .slice a pre.length cap) ∧ Go.RowKit.Below b X W
theorem allI_own (X : World) (b B : Nat) (hX : b ≤ X.heap.size) (hB : b ≤ B) : OwnFrom B (AllI X b) :=
  OwnFrom.and (Own.from (holdsRow_own b b 29 35 5 (fun pre : List G5 => pre.length) flatG (fun pre v => ∃ a cap, v = .slice a pre.length cap)) _) (ownFrom_below hX hB)
theorem kpT_app {W w1 : World} {B k : Nat} {v v' : Value} {xs : List Value} {tmp : Obj} (hv : Boxed W B 29 v) (hrow : W.ownsRow B 35 5 v k xs) (hgrow : (W.alloc tmp).grownBy w1 v.ownBlock) (hb : Go.RowKit.Below B W (w1.setCell ⟨B, 0, none⟩ v')) : KpT B W (w1.setCell ⟨B, 0, none⟩ v') := by
  refine ⟨hb, fun j cs t hj ht => ?_⟩
  have hjl := lt_of_block hj
  have h1 : (W.alloc tmp).heap[j]? = some (.cells cs t (0, 0)) := box_on hj (below_new W tmp)
  have h2 : w1.heap[j]? = some (.cells cs t (0, 0)) := (hgrow.block j (by simp; omega) (fun e => by
    rcases hrow.2 with ⟨rfl, _⟩ | ⟨g, cap, cur, rfl, _, hgb, _⟩
    · simp [Value.ownBlock] at e
    · obtain rfl : j = g := by simpa [Value.ownBlock] using e
      rw [hj] at hgb
      injection hgb with hgb
      injection hgb with _ hgb _
      subst hgb
      revert ht; decide)).trans h1
  refine set_far h2 (fun e => ?_)
  subst e
  have := (show W.heap[j]? = _ from hv).symm.trans hj
  injection this with this
  injection this with _ this _
  subst this
  revert ht; decide
set_option maxHeartbeats 4000000 in
theorem rdall_any {w : World} {base T A : Nat} {t : Rt} {x : Tr} {S : Nat → Prop} (h : TrR w base T A t x S) : Calls Try.prog 16 #[aP T] w fun e w' => ∃ a cap, (e = .returned (.slice a x.ino.length cap) ∧ GRow w' a x.ino ∧ x.ino.length ≤ cap) ∧ Go.RowKit.Below w.heap.size w w' := by
  have mx := mixed
  obtain ⟨i0, hi, hz0, hz1, hz2⟩ := info_parts Try.infoSeg
  have HTR := Lib.hid h
  have hlen := h.len
  rw [← ino_len] at hlen
  have hB0 : Go.RowKit.Below w.heap.size w ((w.alloc (.cells #[.slice none 0 0] 29)).alloc (oTP T)) := bt (below_new _ _) (below_new _ _)
  have HB0 := Lib.hid hB0
  have HBX : Hid (((w.alloc (.cells #[.slice none 0 0] 29)).alloc (oTP T)).heap[w.heap.size]? = some (.cells #[.slice none 0 0] 29 (0, 0))) := box_on (heap_alloc_new _ _) (below_new _ _)
  have HBT : Hid (((w.alloc (.cells #[.slice none 0 0] 29)).alloc (oTP T)).heap[w.heap.size + 1]? = some (oTP T)) := new_at' _ (by simp)
  clear h hB0
  refine (callsIn_wide (n := 6)).1 ?_
  refine callsIn_of_wp_marks Try.func16 rfl trivial ?_ rfl
  simp only [Try.ntmps16, List.size_toArray, List.length_cons, List.length_nil, Nat.reduceAdd, Nat.reduceSub, Array.replicate_succ, Array.replicate_zero, List.push_toArray, List.append_toArray, List.nil_append, List.cons_append]
  gi_wp2_with (refine ⟨trivial, ?_⟩; gi_at_call 32; refine (callsIn_wide.2 (rall_any T _)).mono ?_; rintro e w' ⟨rfl, rfl⟩)
  generalize (w.alloc (.cells #[.slice none 0 0] 29)).alloc (oTP T) = W0 at *
  have hsz : w.heap.size + 1 < W0.heap.size := lt_of_block HBT.out
  refine wpIn_rangeFunc_ownH rfl (by omega) (gf := 60) (lb := #[.pointer (some ⟨w.heap.size + 1, 0, none⟩)]) rfl trivial (enters_of Try.func60 (by kernel_rfl) rfl)
    (all_stops (6 - 1) (w.heap.size + 1) w.heap.size base T A t x S W0 (HTR.out.below HB0.out) (fun b hb => (HTR.out.is.lt b hb).2) HB0.out.size HBT.out) KpT.trans (kpT_b HB0.out.size) (Go.RowKit.Below.refl _ _) (fun _ => rfl)
    (AllI w w.heap.size) (fun _ _ _ => False) (allI_own w _ _ (Nat.le_refl _) HB0.out.size) (fun _ _ _ _ _ hs _ _ => hs)
    ⟨⟨_, HBX.out, World.ownsRow_nil _ _ _ _, none, 0, rfl⟩, HB0.out⟩
    (fun g a' W => ∃ Bx, W.heap[Bx]? = some (oG g) ∧ a' = { tmps := #[aP T, undef, .slice none 0 0, .pointer (some ⟨w.heap.size, 0, none⟩), .pointer (some ⟨Bx, 0, none⟩), aP T, .func (.func 60) #[] #[.pointer (some ⟨w.heap.size + 1, 0, none⟩)], vG g, undef, undef, undef, undef, undef], defers := [] })
    (fun g a' _ X Y row hs hg hr => by
      obtain ⟨Bx, h1, h2⟩ := hs
      exact ⟨Bx, (hg.block Bx (lt_of_block h1) (fun e => by obtain ⟨_, o, ho, hc⟩ := hr Bx e.symm; rw [h1] at ho; injection ho with ho; subst ho; cases hc)).trans h1, h2⟩)
    ?assign ?body ?done ?stop
  case assign =>
    rintro l pre g W K hI hK
    obtain ⟨⟨v, hv, hrow, hva⟩, hB⟩ := hI
    gi_wp2
    exact hK _ _ ((KeepsOthers.alloc _ _).from _) (KpT.of_below (below_new W (oG g)) hB.size) ⟨⟨v, hv.alloc _, hrow.alloc _, hva⟩, hB.alloc hB.size _⟩ ⟨W.heap.size, heap_alloc_new W (oG g), rfl⟩
  case body =>
    rintro l pre g a' W hl ⟨r, hr⟩ ⟨⟨v, hv, hrow, av, cv, hva⟩, hB⟩ ⟨Bx, hbx, rfl⟩ hlt
    have HV := Lib.hid hv
    have HROW := Lib.hid hrow
    have HB := Lib.hid hB
    have hc := hv.cell
    obtain ⟨c1, c2, c3, c4, c5⟩ := five_cells hbx
    simp only [Nat.zero_add] at c2 c3 c4 c5
    have hlen2 : pre.length ≤ 65536 := by rw [← ino_len] at hlt; omega
    have HCL : Hid (∀ j u, (flatG [g])[j]? = some u → (W.alloc (oG g)).cell? ((⟨W.heap.size, 0, none⟩ : Addr).add j) = some u) := fun j u hu => by
      rw [Addr.add_lit]
      exact cells_newsG (W.alloc (oG g)) W.heap.size [g] 0 (fun j hj => by obtain rfl : j = 0 := (by simpa using hj); exact five_cells (heap_alloc_new W (oG g))) j u hu
    have HR2 := Lib.hid (hrow.alloc (oG g))
    have hsz2 : w.heap.size ≤ (W.alloc (oG g)).heap.size := by have := hB.size; simp; omega
    clear hv hrow hB hbx hr hva
    gi_wp2_with (gi_at_builtin; refine wpListIn_append_own _ rfl _ _ 29 rfl w.heap.size 35 i0 (.agg #[.int .i64 0, .int .i64 0, .int .i64 0, .int .i64 0, .int .i64 0]) 5 40 Try.underlying29 hi hz0 hz1 hz2 rfl (by decide) v pre.length _ rfl HR2.out ⟨W.heap.size, 0, none⟩ 1 1 (flatG [g]) rfl rfl HCL.out (flatG_one [g]) (by unfold maxLen; omega) (by omega) hsz2 ?_; intro v' w1 hown' hgrow _; obtain ⟨g', cap', rfl⟩ := ownsRow_succ hown'; obtain ⟨hv1, hv2, hr2, hk2, hb2⟩ := HV.out.appended (by decide) HROW.out HB.out.size (Nat.le_refl _) hown' hgrow; have hkp := kpT_app HV.out HROW.out hgrow hb2; have hc1 := hv1.cell; have hf1 := hv1.frozen)
    refine ⟨hk2.from _, hkp, ⟨⟨_, hv2, ?_, ?_⟩, HB.out.trans hb2⟩⟩
    · rw [flatG_append, List.length_append]; exact hr2
    · exact ⟨_, _, by rw [List.length_append]; rfl⟩
  case done =>
    rintro D ys W hD rfl ⟨⟨v, hv, hrow, av, cv, rfl⟩, hB⟩ hK
    have hc := hv.cell
    have HK := Lib.hid hK
    have HROW := Lib.hid hrow
    have HB := Lib.hid hB
    clear hv hK hrow hB
    gi_wp2
    refine ⟨by simp, .inl ⟨_, _, rfl, run_takeDeferred HK.out, ?_⟩⟩
    refine ⟨_, results_tmp rfl _ _ _, av, cv, ⟨rfl, own_grow (ownsRow_putObj HROW.out _ HK.out rfl) rfl, own_capG HROW.out⟩, HB.out.trans (belowK_b (w := w) (Nat.le_refl _) W D _ _ (by have := HB0.out.size; omega) HK.out rfl rfl)⟩
  case stop =>
    rintro D c pre W _ _ h _
    exact h.elim
theorem MadeAt.all {w W : World} {T A : Nat} {R : Int} {L : List G5} {a : Option Addr} {cap : Nat} (h : MadeAt w T A R L a cap W) : Calls Try.prog 16 #[aP T] W fun e w' => ∃ a2 cap2, (e = .returned (.slice a2 L.length cap2) ∧ GRow w' a2 L ∧ L.length ≤ cap2) ∧ Go.RowKit.Below W.heap.size W w' := by
  obtain ⟨t, x, S, hr, hino, hroom⟩ := h.tk.w.r
  have := rdall_any hr
  rw [hino] at this
  exact this
theorem MadeAt.len {w W : World} {T A : Nat} {R : Int} {L : List G5} {a : Option Addr} {cap : Nat} (h : MadeAt w T A R L a cap W) : Calls Try.prog 17 #[aP T] W fun e w' => e = .returned (.int .i64 (L.length : Int)) ∧ Go.RowKit.Below W.heap.size W w' := by
  obtain ⟨t, x, S, hr, hx, _⟩ := h.tk.w.r
  obtain ⟨S0, _, hbox, _, hrn⟩ := hr.is
  have := rnlen_any hrn hr.rep.ok
  rw [hr.rep.len, hx] at this
  exact rlen_core T A t.root _ W hbox this
theorem MadeAt.room {w W : World} {T A : Nat} {R : Int} {L : List G5} {a : Option Addr} {cap : Nat} (h : MadeAt w T A R L a cap W) : Calls Try.prog 12 #[aP T] W fun e w' => e = .returned (.int .i64 R) ∧ Go.RowKit.Below W.heap.size W w' := by
  obtain ⟨t, x, S, hr, hx, hR⟩ := h.tk.w.r
  obtain ⟨S0, _, hbox, _, hrn⟩ := hr.is
  have := rnroom_any hrn
  rw [hR] at this
  exact rroom_core T A t.root _ W hbox this
theorem MadeAt.check {w W : World} {T A : Nat} {R : Int} {L : List G5} {a : Option Addr} {cap : Nat} (h : MadeAt w T A R L a cap W) : Calls Try.prog 28 #[aP T] W fun e w' => e = .returned (.bool true) ∧ Go.RowKit.Below W.heap.size W w' := by
  obtain ⟨t, x, S, hr, hx, hR⟩ := h.tk.w.r
  exact rCheck_any hr
end Go.Proofs.Ytakkmnhiaddnnaa

/- Copy. -/
namespace Go.Proofs.Ytakkmnhiaddnnaa
open Go.RowKit Go.Sort Go.Proofs.Ytakkmnhiaddnnaa.Bo
set_option linter.unusedVariables false
set_option maxRecDepth 100000

theorem tO_cells {W : World} {T A : Nat} {root : Int} (h : W.heap[T]? = some (tO A root)) : W.cell? ⟨T, 0, none⟩ = some (aP A) ∧ W.cell? ⟨T, 1, none⟩ = some (.int .i64 root) := ⟨(cell_of_row _ _ 0 _ _ _ h).trans rfl, (cell_of_row _ _ 1 _ _ _ h).trans rfl⟩
set_option maxHeartbeats 2000000 in
theorem rcopy_core (T A : Nat) (root : Int) (a : Ag Nd) (w : World) (HT : Hid (w.heap[T]? = some (tO A root))) (HC : Hid (∀ W, Go.RowKit.Below w.heap.size w W → Calls Try.prog 61 #[aP A] W (rnCpPost W a))) :
    Calls Try.prog 33 #[aP T] w fun e w' => ∃ Tc C S, (e = .returned (aP Tc) ∧ rnIs w' w.heap.size C a S ∧ w'.heap[Tc]? = some (tO C root) ∧ w.heap.size ≤ Tc) ∧ Go.RowKit.Below w.heap.size w w' := by
  have mx := mixed
  have HX0 : Hid (w.drew.heap[T]? = some (tO A root)) := HT.out
  have hS0 := Lib.hid (tO_cells HX0.out)
  have HB0 := Lib.hid ((Go.RowKit.Below.refl w.heap.size w).drew)
  go_enter Try.func33, Try.ntmps33
  go_wp2_with fail
  go_region_held3 (fun w' => w'.cell? ⟨T, 0, none⟩ = some (aP A) ∧ w'.cell? ⟨T, 1, none⟩ = some (.int .i64 root))
    (with_reducible first | exact hS0.out | exact hS1.out | exact hS2.out)
    (first
      | (go_at_call 61; refine (HC.out _ HB0.out).mono ?_; rintro e y1 ⟨C, S1, ⟨rfl, hrn⟩, hb⟩; have HRN := Lib.hid hrn; have HX1 := Lib.hid (box_on HX0.out hb); have hS1 := Lib.hid (tO_cells HX1.out); have hS2 := Lib.hid (tO_cells (box_on HX1.out (below_new y1 (tO C root)))); have HB1 := Lib.hid (bt HB0.out hb); clear hrn hb))
  all_goals
    go_wp2_with fail
    go_ret
    exact ⟨y1.heap.size, C, S1, ⟨rfl, HRN.out.below (below_new _ _), heap_alloc_new _ _, HB1.out.size⟩, bt HB1.out (below_new _ _)⟩
theorem MadeAt.copy {w W : World} {T A : Nat} {R : Int} {L : List G5} {a : Option Addr} {cap : Nat} (h : MadeAt w T A R L a cap W) : Calls Try.prog 33 #[aP T] W fun e w' => ∃ Tc C, e = .returned (aP Tc) ∧ MadeAt W Tc C R L a cap w' := by
  obtain ⟨t, S, h1, h2, h3, h4⟩ := h.tk.tr
  obtain ⟨S0, rfl, hbox, hT, hrn⟩ := h1
  refine (rcopy_core T A t.root t.ar W hbox (Lib.hid fun W' hW' => rncopy_any (hrn.below hW') h3.ok)).mono ?_
  rintro e w' ⟨Tc, C, S1, ⟨rfl, k1, k2, k3⟩, hb⟩
  refine ⟨Tc, C, rfl, ⟨⟨t, _, ⟨S1, rfl, k2, k3, k1⟩, h2, h3, fun b hB => ⟨?_, Nat.lt_of_lt_of_le (h.row.lt b hB) hb.size⟩⟩, hb, h.tk.row, h.tk.ok⟩, h.row.below hb, h.cap⟩
  have hlt := h.row.lt b hB
  rintro (rfl | hS)
  · omega
  · have := (k1.lt b hS).1; omega
end Go.Proofs.Ytakkmnhiaddnnaa

/- The tree and the document's row beside it: Put and Delete. -/
namespace Go.Proofs.Ytakkmnhiaddnnaa
open Go.RowKit Go.Sort Go.Proofs.Ytakkmnhiaddnnaa.Bo
set_option linter.unusedVariables false

theorem MadeAt.mid {w W w' : World} {T A : Nat} {R : Int} {L M : List G5} {a a' : Option Addr} {cap cap' : Nat} (h : MadeAt w T A R L a cap W) (hg : GRow w' a' M) (hc : M.length ≤ cap') (hn : NewOr W.heap.size a L a' M) (hb : Go.RowKit.Below W.heap.size W w') : MidAt w T A R L M a' cap' w' := by
  refine ⟨h.tk.keep hb (fun b hB => ⟨hg.lt b hB, ?_⟩), hg, hc⟩
  rcases hn with ⟨rfl, e⟩ | hn
  · rw [e] at hB; exact .inr hB
  · obtain ⟨_, off, rfl⟩ := hB
    exact .inl (hn _ rfl)
theorem MadeAt.putR {w W : World} {T A : Nat} {R : Int} {L : List G5} {a : Option Addr} {cap : Nat} (h : MadeAt w T A R L a cap W) (s : G5) (hs : s.ok) (hl : L.length ≤ 9999) :
    Calls Try.prog 34 #[.slice a L.length cap, .int .i64 R, vG s] W fun e w' => ∃ a' cap', e = .returned (.tuple #[.slice a' (putG L R s).1.length cap', .int .i64 (putG L R s).2]) ∧ MidAt w T A R L (putG L R s).1 a' cap' w' ∧ Go.RowKit.Below W.heap.size W w' := by
  refine (rputG_any a cap L R s W hs h.tk.ok h.row h.cap hl).mono ?_
  rintro e w' ⟨a', cap', ⟨rfl, hg, hc, hn⟩, hb⟩
  exact ⟨a', cap', rfl, h.mid hg hc hn hb, hb⟩
theorem MadeAt.delR {w W : World} {T A : Nat} {R : Int} {L : List G5} {a : Option Addr} {cap : Nat} (h : MadeAt w T A R L a cap W) (s x : Int) (hx : I64 x) (hl : L.length ≤ 9999) :
    Calls Try.prog 37 #[.slice a L.length cap, .agg #[.int .i64 s, .int .i64 x]] W fun e w' => ∃ a' cap', e = .returned (.tuple #[.slice a' (delG L (key s x)).1.length cap', .bool (delG L (key s x)).2]) ∧ MidAt w T A R L (delG L (key s x)).1 a' cap' w' ∧ Go.RowKit.Below W.heap.size W w' := by
  refine (rdelG_any a cap L s x W hx h.row h.cap hl).mono ?_
  rintro e w' ⟨a', cap', ⟨rfl, hg, hc, hn⟩, hb⟩
  exact ⟨a', cap', rfl, h.mid hg hc hn hb, hb⟩
theorem MidAt.put {w W : World} {T A : Nat} {R : Int} {L : List G5} {a : Option Addr} {cap : Nat} {s : G5} (h : MidAt w T A R L (putG L R s).1 a cap W) (hs : s.ok) :
    Calls Try.prog 36 #[aP T, vG s] W fun e w' => e = .returned (.int .i64 (putG L R s).2) ∧ MadeAt w T A R (putG L R s).1 a cap w' := by
  refine (h.tk.call (putG_ok L R s h.tk.row (s.ky hs)) (putG_oks L R s hs h.tk.ok) (fun S hS => rput_any hS h.tk.row h.tk.ok s hs)).mono ?_
  rintro e w' ⟨rfl, hk, hB, ho⟩
  exact ⟨rfl, hk, h.row.keptB hB, h.cap⟩
theorem MidAt.del {w W : World} {T A : Nat} {R : Int} {L : List G5} {a : Option Addr} {cap : Nat} {s x : Int} (h : MidAt w T A R L (delG L (key s x)).1 a cap W) (hx : I64 x) :
    Calls Try.prog 38 #[aP T, .agg #[.int .i64 s, .int .i64 x]] W fun e w' => e = .returned (.bool (delG L (key s x)).2) ∧ MadeAt w T A R (delG L (key s x)).1 a cap w' := by
  refine (h.tk.call (delG_ok L _ h.tk.row) (delG_oks L _ h.tk.ok) (fun S hS => rdel_any hS h.tk.row h.tk.ok s x hx)).mono ?_
  rintro e w' ⟨rfl, hk, hB, ho⟩
  exact ⟨rfl, hk, h.row.keptB hB, h.cap⟩
theorem sg_okN (n : Int) (h : I64 n) : (sgN n).ok := ⟨h, by show I64 0; unfold I64; omega, h⟩
end Go.Proofs.Ytakkmnhiaddnnaa

/- Slices of whole numbers as arguments. -/
namespace Go.Proofs.Ytakkmnhiaddnnaa
open Go.ChangeShapes Go.WideShapes Go.ChangeAt Go.RowKit Go.Sort Go.Joins Go.Proofs.Ytakkmnhiaddnnaa.Bo
set_option linter.unusedVariables false

/-- A slice of whole numbers that holds l. -/
def IRow (w : World) (a : Option Addr) (l : List Int) : Prop := 0 < l.length → ∃ b off, a = some ⟨b, off, none⟩ ∧ ∀ (j : Nat) (h : j < l.length), w.cell? ⟨b, off + j, none⟩ = some (.int .i64 l[j])
theorem IRow.below {w w' : World} {a : Option Addr} {l : List Int} (h : IRow w a l) (hb : Go.RowKit.Below w.heap.size w w') : IRow w' a l := by
  intro hp
  obtain ⟨b, off, e, hc⟩ := h hp
  exact ⟨b, off, e, fun j hj => (hb.cell (World.block_lt_of_cell? w _ (hc j hj))).trans (hc j hj)⟩
def IsInts (w : World) (a : Option Addr) (len : Nat) (l : List Int) : Prop := len = l.length ∧ (∀ n ∈ l, I64 n) ∧ IRow w a l
theorem isInts_nil (w : World) : IsInts w none 0 [] := ⟨rfl, by simp, fun h => by simp at h⟩
theorem isInts_of (w : World) (x : Addr) (len m : Nat) (hlm : len ≤ m) (hi : ∀ i, i < m → ∃ n : Int, w.cell? (x.add i) = some (.int .i64 n) ∧ I64 n) : ∃ l, IsInts w (some x) len l := by
  have h' : ∀ i, ∃ n : Int, i < m → w.cell? (x.add i) = some (.int .i64 n) ∧ I64 n := by
    intro i
    by_cases h : i < m
    · obtain ⟨o, h1⟩ := hi i h
      exact ⟨o, fun _ => h1⟩
    · exact ⟨0, fun h2 => absurd h2 h⟩
  obtain ⟨f, hf⟩ := Classical.axiomOfChoice h'
  refine ⟨(List.range len).map f, by simp, ?_, ?_⟩
  · intro c hc
    obtain ⟨i, hi2, rfl⟩ := List.mem_map.1 hc
    exact (hf i (by have := List.mem_range.1 hi2; omega)).2
  · intro hp
    have hp' : 0 < len := by simpa using hp
    obtain ⟨b, off, spot⟩ := x
    have hspot : spot = none := by simpa [Addr.add] using World.cell?_spot ((hf 0 (by omega)).1)
    subst hspot
    refine ⟨b, off, rfl, fun j hj => ?_⟩
    have hj' : j < len := by simpa using hj
    have h1 := (hf j (by omega)).1
    simp only [List.getElem_map, List.getElem_range]
    rw [Addr.add_lit] at h1
    exact h1
set_option maxRecDepth 100000 in
theorem open_irow {H : Type} {enc : TypeId × Value → H} {w : World} {base : Nat} {spare : Nat → Bool} {held : Bool} {a : Option Addr} {len cap : Nat} {d : DataW H} {p : List MemPlace} (h : DataW.Trod enc Try.prog w base spare held 60 (.slice a len cap) d p) : ∃ l, IsInts w a len l := by
  obtain ⟨fuel, hf⟩ := h
  rcases Go.Deep.open_slice Try.underlying60 hf with ⟨hcs, _⟩ | ⟨x, l, c, m, n, D, Pl, hcs, _, hl, hm, hmm, _, hc⟩
  · simp [Value.cells] at hcs
    obtain ⟨rfl, rfl, rfl⟩ := hcs
    exact ⟨[], isInts_nil w⟩
  · simp [Value.cells] at hcs
    obtain ⟨rfl, rfl, rfl⟩ := hcs
    have hlm : len ≤ m := by rw [hmm]; split <;> omega
    refine isInts_of w x _ m hlm fun i hi => ?_
    obtain ⟨cs', h1, h2⟩ := hc i hi
    obtain ⟨v, ev, _, wv⟩ := DataW.trod_int Try.underlying2 h2
    rw [show Try.prog.cellsOf 2 = 1 by kernel_rfl] at h1
    obtain ⟨_, hlen, hcell⟩ := World.cells?_some h1
    refine ⟨v, ?_, i64_of_wf2 wv⟩
    have e0 := hcell 0 (by omega)
    rw [Nat.mul_one] at e0
    rw [ev] at e0
    simpa [Addr.add] using e0
theorem datum_ints {H : Type} {enc : TypeId × Value → H} {w : World} {base : Nat} {spare : Nat → Bool} {held : Bool} {a : Option Addr} {len cap : Nat} {d : DataW H} {p : List MemPlace} (h : DataW.Trod enc Try.prog w base spare held 60 (.slice a len cap) d p) : len = 0 ∨ ∃ es sp, d = .slice es sp ∧ es.length = len := by
  obtain ⟨fuel, hf⟩ := h
  rcases Go.Deep.open_slice Try.underlying60 hf with ⟨hcs, _⟩ | ⟨x, l, c, m, n, D, Pl, hcs, _, hl, hm, hmm, hx, hc⟩
  · simp [Value.cells] at hcs
    exact .inl hcs.2.1
  · simp [Value.cells] at hcs
    obtain ⟨rfl, rfl, rfl⟩ := hcs
    simp only [Prod.mk.injEq] at hx
    exact .inr ⟨_, _, hx.1, by simp⟩
theorem bytes_i64 : Try.prog.bytesOf 2 = 8 := by kernel_rfl
/-- No slice of numbers that comes in is longer than its bytes allow. -/
theorem short_ints {H : Type} {enc : TypeId × Value → H} {w : World} {base : Nat} {spare : Nat → Bool} {held : Bool} {a : Option Addr} {len cap : Nat} {d : DataW H} {p : List MemPlace} {ts : List TypeId} {ds : List (DataW H)} {j : Nat} (h : DataW.Trod enc Try.prog w base spare held 60 (.slice a len cap) d p)
    (hsz : (DataW.weightsEach Try.prog ts ds).all (· ≤ reachBytes) = true) (ht : ts[j]? = some 60) (hd : ds[j]? = some d) : len * 8 ≤ 140737488351232 := by
  rcases datum_ints h with rfl | ⟨es, sp, rfl, rfl⟩
  · omega
  · have := sized_slice hsz ht hd Try.underlying60
    rw [bytes_i64] at this
    simp only [reachBytes] at this
    omega
end Go.Proofs.Ytakkmnhiaddnnaa
