/- A part of the proof: contracts of the functions that the statements reach. -/
import Derived.Test.YtakkmnhiaddnnaaRows
import Derived.Test.YtakkmnhiaddnnaaCA
import Derived.Test.YtakkmnhiaddnnaaCB
import Derived.Test.YtakkmnhiaddnnaaCC
import Derived.Test.YtakkmnhiaddnnaaCD
import Derived.Test.YtakkmnhiaddnnaaCE
import Derived.Test.YtakkmnhiaddnnaaCF
import Derived.Test.YtakkmnhiaddnnaaCG
import Derived.Test.YtakkmnhiaddnnaaCH
import Derived.Test.YtakkmnhiaddnnaaCI
import Derived.Test.YtakkmnhiaddnnaaCJ
import Derived.Test.YtakkmnhiaddnnaaCK
import Derived.Test.YtakkmnhiaddnnaaCL
import Derived.Test.YtakkmnhiaddnnaaCM
import Derived.Test.YtakkmnhiaddnnaaCN
import Derived.Test.YtakkmnhiaddnnaaCO
import Derived.Test.YtakkmnhiaddnnaaCP
import Derived.Lib.SmallJoins
import Derived.Deep.SlicePairs
import Derived.Deep.Strs
import Derived.OpenShut
import Derived.ChangeOld
import Derived.SizedLaws

/- Calls of the document's tree as arguments: one by value, a slice of them. -/
namespace Go.Proofs.Ytakkmnhiaddnnaa
open Go.ChangeShapes Go.WideShapes Go.ChangeAt Go.RowKit Go.Sort Go.Joins Go.Proofs.Ytakkmnhiaddnnaa.Bo
set_option linter.unusedVariables false

/-- A call: its kind, a segment. -/
structure O6 where
  k : Int
  s : G5
def O6.ok (o : O6) : Prop := I64 o.k ∧ o.s.ok
abbrev vO6 (o : O6) : Value := .agg #[.int .i64 o.k, .int .i64 o.s.ls, .int .i64 o.s.la, .int .i64 o.s.hs, .int .i64 o.s.ha, .int .i64 o.s.v]
def Cells6 (w : World) (b x : Nat) (o : O6) : Prop := w.cell? ⟨b, x, none⟩ = some (.int .i64 o.k) ∧ Cells5 w b (x + 1) o.s
theorem Cells6.below {w w' : World} {b x : Nat} {o : O6} (h : Cells6 w b x o) (hb : Go.RowKit.Below w.heap.size w w') : Cells6 w' b x o :=
  ⟨(hb.cell (World.block_lt_of_cell? w _ h.1)).trans h.1, h.2.below hb⟩
/-- A slice of calls that holds l. -/
def QRow (w : World) (a : Option Addr) (l : List O6) : Prop := 0 < l.length → ∃ b off, a = some ⟨b, off, none⟩ ∧ ∀ (j : Nat) (h : j < l.length), Cells6 w b (off + j * 6) l[j]
theorem QRow.below {w w' : World} {a : Option Addr} {l : List O6} (h : QRow w a l) (hb : Go.RowKit.Below w.heap.size w w') : QRow w' a l := by
  intro hp
  obtain ⟨b, off, e, hc⟩ := h hp
  exact ⟨b, off, e, fun j hj => (hc j hj).below hb⟩
set_option maxRecDepth 100000 in
theorem trod_seg {H : Type} {enc : TypeId × Value → H} {w : World} {base : Nat} {spare : Nat → Bool} {held : Bool} {n : Nat} {cs : List Value} {y : DataW H × List MemPlace} (h : DataW.trod enc Try.prog w base spare held n 35 cs = some y) :
    ∃ g : G5, cs = [.int .i64 g.ls, .int .i64 g.la, .int .i64 g.hs, .int .i64 g.ha, .int .i64 g.v] ∧ g.ok := by
  obtain ⟨y0, y1, n', hx, hlen, h0, h1⟩ := trod_struct2 Try.underlying35 h
  rw [show Try.prog.cellsOf 35 = 5 by kernel_rfl] at hlen
  obtain ⟨q, e1, o1⟩ := trod_span h0
  obtain ⟨v, ev, _, wv⟩ := DataW.trod_int Try.underlying2 h1
  match cs, hlen with
  | [v0, v1, v2, v3, v4], _ =>
    rw [show Try.prog.cellsOf 33 = 4 by kernel_rfl] at e1
    rw [show Try.prog.cellsOf 2 = 1 by kernel_rfl] at ev
    simp at e1 ev
    exact ⟨⟨q.ls, q.la, q.hs, q.ha, v⟩, by rw [e1.1, e1.2.1, e1.2.2.1, e1.2.2.2, ev], o1.1, o1.2, i64_of_wf2 wv⟩
set_option maxRecDepth 100000 in
theorem trod_op6 {H : Type} {enc : TypeId × Value → H} {w : World} {base : Nat} {spare : Nat → Bool} {held : Bool} {n : Nat} {cs : List Value} {y : DataW H × List MemPlace} (h : DataW.trod enc Try.prog w base spare held n 37 cs = some y) :
    ∃ o : O6, cs = [.int .i64 o.k, .int .i64 o.s.ls, .int .i64 o.s.la, .int .i64 o.s.hs, .int .i64 o.s.ha, .int .i64 o.s.v] ∧ o.ok := by
  obtain ⟨y0, y1, n', hx, hlen, h0, h1⟩ := trod_struct2 Try.underlying37 h
  rw [show Try.prog.cellsOf 37 = 6 by kernel_rfl] at hlen
  obtain ⟨k, ek, _, wk⟩ := DataW.trod_int Try.underlying3 h0
  obtain ⟨g, e1, o1⟩ := trod_seg h1
  match cs, hlen with
  | [v0, v1, v2, v3, v4, v5], _ =>
    rw [show Try.prog.cellsOf 3 = 1 by kernel_rfl] at ek
    rw [show Try.prog.cellsOf 35 = 5 by kernel_rfl] at e1
    simp at ek e1
    exact ⟨⟨k, g⟩, by rw [ek, e1.1, e1.2.1, e1.2.2.1, e1.2.2.2.1, e1.2.2.2.2], i64_of_wf2 wk, o1⟩
set_option maxRecDepth 100000 in
/-- A call by value. -/
theorem open_op6 {H : Type} {enc : TypeId × Value → H} {w : World} {base : Nat} {spare : Nat → Bool} {held : Bool} {r : Reach} {b0 : Nat} {v : Value} {d : DataW H} {p : List MemPlace} (hv : Value.okWide Try.prog w r b0 37 v) (h : DataW.Trod enc Try.prog w base spare held 37 v d p) :
    ∃ o : O6, v = vO6 o ∧ o.ok := by
  obtain ⟨cs, rfl, hsz⟩ := okWide_struct Try.underlying37 hv
  obtain ⟨fuel, hf⟩ := h
  obtain ⟨o, e, ok⟩ := trod_op6 hf
  refine ⟨o, ?_, ok⟩
  have e2 : cs.toList = [.int .i64 o.k, .int .i64 o.s.ls, .int .i64 o.s.la, .int .i64 o.s.hs, .int .i64 o.s.ha, .int .i64 o.s.v] := by simpa [Value.cells] using e
  have : cs = #[.int .i64 o.k, .int .i64 o.s.ls, .int .i64 o.s.la, .int .i64 o.s.hs, .int .i64 o.s.ha, .int .i64 o.s.v] := by rw [← Array.toArray_toList (xs := cs), e2]
  rw [this]
/-- A slice of calls. -/
def IsOps6 (w : World) (a : Option Addr) (len : Nat) (l : List O6) : Prop := len = l.length ∧ (∀ q ∈ l, q.ok) ∧ QRow w a l
theorem isOps6_nil (w : World) : IsOps6 w none 0 [] := ⟨rfl, by simp, fun h => by simp at h⟩
theorem isOps6_of (w : World) (x : Addr) (len m : Nat) (hlm : len ≤ m) (hi : ∀ i, i < m → ∃ o : O6, (∀ j u, [Value.int .i64 o.k, .int .i64 o.s.ls, .int .i64 o.s.la, .int .i64 o.s.hs, .int .i64 o.s.ha, .int .i64 o.s.v][j]? = some u → w.cell? (x.add (i * 6 + j)) = some u) ∧ o.ok) : ∃ l, IsOps6 w (some x) len l := by
  have h' : ∀ i, ∃ o : O6, i < m → (∀ j u, [Value.int .i64 o.k, .int .i64 o.s.ls, .int .i64 o.s.la, .int .i64 o.s.hs, .int .i64 o.s.ha, .int .i64 o.s.v][j]? = some u → w.cell? (x.add (i * 6 + j)) = some u) ∧ o.ok := by
    intro i
    by_cases h : i < m
    · obtain ⟨o, h1⟩ := hi i h
      exact ⟨o, fun _ => h1⟩
    · exact ⟨⟨0, ⟨0, 0, 0, 0, 0⟩⟩, fun h2 => absurd h2 h⟩
  obtain ⟨f, hf⟩ := Classical.axiomOfChoice h'
  refine ⟨(List.range len).map f, by simp, ?_, ?_⟩
  · intro c hc
    obtain ⟨i, hi2, rfl⟩ := List.mem_map.1 hc
    exact (hf i (by have := List.mem_range.1 hi2; omega)).2
  · intro hp
    have hp' : 0 < len := by simpa using hp
    obtain ⟨b, off, spot⟩ := x
    have hspot : spot = none := by simpa [Addr.add] using World.cell?_spot ((hf 0 (by omega)).1 0 _ rfl)
    subst hspot
    refine ⟨b, off, rfl, fun j hj => ?_⟩
    have hj' : j < len := by simpa using hj
    have h1 := (hf j (by omega)).1
    simp only [List.getElem_map, List.getElem_range]
    have g0 := h1 0 _ rfl
    have g1 := h1 1 _ rfl
    have g2 := h1 2 _ rfl
    have g3 := h1 3 _ rfl
    have g4 := h1 4 _ rfl
    have g5 := h1 5 _ rfl
    rw [Addr.add_lit] at g0 g1 g2 g3 g4 g5
    exact ⟨g0, by rw [Nat.add_assoc]; exact g1, by rw [Nat.add_assoc, Nat.add_assoc]; exact g2, by rw [Nat.add_assoc, Nat.add_assoc]; exact g3, by rw [Nat.add_assoc, Nat.add_assoc]; exact g4, by rw [Nat.add_assoc, Nat.add_assoc]; exact g5⟩
set_option maxRecDepth 100000 in
theorem open_ops6 {H : Type} {enc : TypeId × Value → H} {w : World} {base : Nat} {spare : Nat → Bool} {held : Bool} {a : Option Addr} {len cap : Nat} {d : DataW H} {p : List MemPlace} (h : DataW.Trod enc Try.prog w base spare held 22 (.slice a len cap) d p) : ∃ l, IsOps6 w a len l := by
  obtain ⟨fuel, hf⟩ := h
  rcases Go.Deep.open_slice Try.underlying22 hf with ⟨hcs, _⟩ | ⟨x, l, c, m, n, D, Pl, hcs, _, hl, hm, hmm, _, hc⟩
  · simp [Value.cells] at hcs
    obtain ⟨rfl, rfl, rfl⟩ := hcs
    exact ⟨[], isOps6_nil w⟩
  · simp [Value.cells] at hcs
    obtain ⟨rfl, rfl, rfl⟩ := hcs
    have hlm : len ≤ m := by rw [hmm]; split <;> omega
    refine isOps6_of w x _ m hlm fun i hi => ?_
    obtain ⟨cs', h1, h2⟩ := hc i hi
    obtain ⟨o, e, ok⟩ := trod_op6 h2
    rw [show Try.prog.cellsOf 37 = 6 by kernel_rfl] at h1
    obtain ⟨_, hlen, hcell⟩ := World.cells?_some h1
    refine ⟨o, fun j u hu => ?_, ok⟩
    rw [e] at hlen hcell
    have hj : j < 6 := by
      rcases Nat.lt_or_ge j 6 with h | h
      · exact h
      · rw [List.getElem?_eq_none (by simpa using h)] at hu; cases hu
    have e0 := hcell j hj
    rw [Go.Deep.add_add] at e0
    rw [e0, hu]
/-- The datum of a slice of calls: as long as the slice. -/
theorem datum_ops6 {H : Type} {enc : TypeId × Value → H} {w : World} {base : Nat} {spare : Nat → Bool} {held : Bool} {a : Option Addr} {len cap : Nat} {d : DataW H} {p : List MemPlace} (h : DataW.Trod enc Try.prog w base spare held 22 (.slice a len cap) d p) : len = 0 ∨ ∃ es sp, d = .slice es sp ∧ es.length = len := by
  obtain ⟨fuel, hf⟩ := h
  rcases Go.Deep.open_slice Try.underlying22 hf with ⟨hcs, _⟩ | ⟨x, l, c, m, n, D, Pl, hcs, _, hl, hm, hmm, hx, hc⟩
  · simp [Value.cells] at hcs
    exact .inl hcs.2.1
  · simp [Value.cells] at hcs
    obtain ⟨rfl, rfl, rfl⟩ := hcs
    simp only [Prod.mk.injEq] at hx
    exact .inr ⟨_, _, hx.1, by simp⟩
theorem bytes_op6 : Try.prog.bytesOf 37 = 48 := by kernel_rfl
/-- No slice of calls that comes in is longer than its bytes allow. -/
theorem short_ops6 {H : Type} {enc : TypeId × Value → H} {w : World} {base : Nat} {spare : Nat → Bool} {held : Bool} {a : Option Addr} {len cap : Nat} {d : DataW H} {p : List MemPlace} {ts : List TypeId} {ds : List (DataW H)} {j : Nat} (h : DataW.Trod enc Try.prog w base spare held 22 (.slice a len cap) d p)
    (hsz : (DataW.weightsEach Try.prog ts ds).all (· ≤ reachBytes) = true) (ht : ts[j]? = some 22) (hd : ds[j]? = some d) : len * 48 ≤ 140737488351232 := by
  rcases datum_ops6 h with rfl | ⟨es, sp, rfl, rfl⟩
  · omega
  · have := sized_slice hsz ht hd Try.underlying22
    rw [bytes_op6] at this
    simp only [reachBytes] at this
    omega
end Go.Proofs.Ytakkmnhiaddnnaa
