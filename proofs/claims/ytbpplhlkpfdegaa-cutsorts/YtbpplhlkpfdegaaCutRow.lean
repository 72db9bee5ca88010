/- A row of cuts in a block of its own; the contract of slices.Compact over it. -/
import Derived.Test.YtbpplhlkpfdegaaCutL
import Derived.Test.YtbpplhlkpfdegaaCutSM
import Derived.Laws.IdiomCopy
namespace Go.Proofs.Ytbpplhlkpfdegaa
open Go.RowKit Go.Sort Go.Proofs.Ytbpplhlkpfdegaa.Bo
set_option linter.unusedVariables false

/-- A block of cap cuts. -/
def Blk (w : World) (g cap : Nat) : Prop := ∃ cur, w.heap[g]? = some (.cells cur 27 (0, 0)) ∧ cur.size = cap * 2
theorem Blk.lt {w : World} {g cap : Nat} (h : Blk w g cap) : g < w.heap.size := by obtain ⟨_, h, _⟩ := h; exact lt_of_block h
theorem Blk.cell {w : World} {g cap : Nat} (h : Blk w g cap) (i : Nat) (hi : i < cap * 2) : ∃ v, w.cell? ⟨g, i, none⟩ = some v := by
  obtain ⟨cur, h, hs⟩ := h
  exact ⟨cur[i]'(by omega), (cell_of_row _ _ i _ _ _ h).trans (Array.getElem?_eq_getElem (by omega))⟩
theorem Blk.free {w : World} {g cap : Nat} (h : Blk w g cap) (i : Nat) : w.frozen? ⟨g, i, none⟩ = false := by
  obtain ⟨cur, h, hs⟩ := h
  exact frozen_of_row _ _ i _ _ h
theorem Blk.set {w : World} {g cap : Nat} (h : Blk w g cap) (i : Nat) (v : Value) : Blk (w.setCell ⟨g, i, none⟩ v) g cap := by
  obtain ⟨cur, h, hs⟩ := h
  exact ⟨_, heap_setCell_same _ _ _ _ _ _ h, by simpa using hs⟩
theorem Blk.on {w w' : World} {g cap : Nat} (h : Blk w g cap) (hb : w'.heap[g]? = w.heap[g]?) : Blk w' g cap := by
  obtain ⟨cur, h, hs⟩ := h
  exact ⟨cur, hb.trans h, hs⟩
/-- The block's first cuts are those of the keys ks. -/
def RowAt (w : World) (g cap : Nat) (ks : List Int) : Prop :=
  Blk w g cap ∧ ks.length ≤ cap ∧ ∀ (j : Nat) (h : j < ks.length), w.cell? ⟨g, j * 2, none⟩ = some (.int .i64 (sd ks[j])) ∧ w.cell? ⟨g, j * 2 + 1, none⟩ = some (.int .i64 (pa ks[j]))
theorem RowAt.on {w w' : World} {g cap : Nat} {ks : List Int} (h : RowAt w g cap ks) (hb : w'.heap[g]? = w.heap[g]?) : RowAt w' g cap ks := by
  refine ⟨h.1.on hb, h.2.1, fun j hj => ?_⟩
  rw [World.cell?_of_block (w := w) (a := ⟨g, j * 2, none⟩) hb, World.cell?_of_block (w := w) (a := ⟨g, j * 2 + 1, none⟩) hb]
  exact h.2.2 j hj
theorem RowAt.below {w w' : World} {g cap : Nat} {ks : List Int} (h : RowAt w g cap ks) (hb : Below w.heap.size w w') : RowAt w' g cap ks := h.on (hb.block _ h.1.lt)
/-- One cut is put over another one. -/
theorem RowAt.put {w : World} {g cap : Nat} {ks : List Int} (h : RowAt w g cap ks) (i : Nat) (hi : i < ks.length) (k : Int) :
    RowAt ((w.setCell ⟨g, i * 2, none⟩ (.int .i64 (sd k))).setCell ⟨g, i * 2 + 1, none⟩ (.int .i64 (pa k))) g cap (ks.set i k) := by
  obtain ⟨hb, hl, hc⟩ := h
  refine ⟨(hb.set _ _).set _ _, by simpa using hl, fun j hj => ?_⟩
  have hj' : j < ks.length := by simpa using hj
  obtain ⟨v1, hv1⟩ := hb.cell (i * 2) (by omega)
  obtain ⟨v2, hv2⟩ := (hb.set (i * 2) (.int .i64 (sd k))).cell (i * 2 + 1) (by omega)
  by_cases e : i = j
  · subst e
    rw [List.getElem_set_self]
    refine ⟨?_, World.cell?_setCell_same _ _ _ hv2⟩
    rw [World.cell?_setCell_other _ _ _ _ (by simp)]
    exact World.cell?_setCell_same _ _ _ hv1
  · rw [List.getElem_set_ne e]
    have n1 : i * 2 + 1 ≠ j * 2 := by omega
    have n2 : i * 2 ≠ j * 2 := by omega
    have n3 : i * 2 + 1 ≠ j * 2 + 1 := by omega
    have n4 : i * 2 ≠ j * 2 + 1 := by omega
    rw [World.cell?_setCell_other _ _ _ _ (by simp <;> omega), World.cell?_setCell_other _ _ _ _ (by simp <;> omega), World.cell?_setCell_other _ _ _ _ (by simp <;> omega), World.cell?_setCell_other _ _ _ _ (by simp <;> omega)]
    exact hc j hj'
theorem RowAt.take {w : World} {g cap : Nat} {ks : List Int} (h : RowAt w g cap ks) (n : Nat) (hn : n ≤ ks.length) : RowAt w g cap (ks.take n) := by
  obtain ⟨hb, hl, hc⟩ := h
  refine ⟨hb, by rw [List.length_take]; omega, fun j hj => ?_⟩
  rw [List.getElem_take]
  exact hc j (by rw [List.length_take] at hj; omega)
theorem below_setCells (B g : Nat) (hB : B ≤ g) : ∀ (vs : List Value) (o : Nat) (w w0 : World), Below B w0 w → Below B w0 (w.setCells g o vs)
  | [], _, _, _, h => h
  | v :: r, o, w, w0, h => below_setCells B g hB r (o + 1) _ w0 (h.setCell hB v)
theorem blk_setCells (g cap : Nat) : ∀ (vs : List Value) (o : Nat) (w : World), Blk w g cap → Blk (w.setCells g o vs) g cap
  | [], _, _, h => h
  | v :: r, o, w, h => blk_setCells g cap r (o + 1) _ (h.set o v)
theorem RowAt.clear {w : World} {g cap : Nat} {ks : List Int} (h : RowAt w g cap ks) (vs : List Value) (o : Nat) (ho : ks.length * 2 ≤ o) : RowAt (w.setCells g o vs) g cap ks := by
  obtain ⟨hb, hl, hc⟩ := h
  refine ⟨blk_setCells g cap vs o w hb, hl, fun j hj => ?_⟩
  rw [World.cell?_setCells_out g vs o w _ (fun _ _ => .inl (by show j * 2 < o; omega)), World.cell?_setCells_out g vs o w _ (fun _ _ => .inl (by show j * 2 + 1 < o; omega))]
  exact hc j hj

/-- clear of n cuts in a block. -/
theorem run_clear_cuts (w : World) (ty : TypeId) (g o n c cap : Nat) (hn : 0 < n) (hb : Blk w g cap) (ho : o + n * 2 ≤ cap * 2) :
    (Builtin.clear_ #[22] ty #[.slice (some ⟨g, o, none⟩) n c]).run Try.prog w = .ok (.tuple #[]) (w.setCells g o (List.replicate (n * 2) (.int .i64 0))) := by
  have hzc : (Builtin.zeroCells (Value.agg #[.int .i64 0, .int .i64 0]).cells n).toList = List.replicate (n * 2) (.int .i64 0) := by
    show (Builtin.zeroCells #[.int .i64 0, .int .i64 0] n).toList = _
    simp [Builtin.zeroCells]
    apply List.ext_getElem
    · simp
    · intro i h1 h2
      simp
      rcases Nat.mod_two_eq_zero_or_one i with e | e <;> simp [e]
  have hst := run_storeCells_cells (P := Try.prog) g o (List.replicate (n * 2) (.int .i64 0)) 0 w
    (by intro j hj; simp at hj; obtain ⟨v, hv⟩ := hb.cell (o + 0 + j) (by omega); rw [hv]; rfl) (fun j _ => hb.free _) (by intro v hv'; rw [List.eq_of_mem_replicate hv']; rfl)
  simp only [Nat.add_zero] at hst
  obtain ⟨m, rfl⟩ : ∃ m, n = m + 1 := ⟨n - 1, by omega⟩
  simp [Builtin.clear_, run_underlying Try.underlying22, hzc, hst]
end Go.Proofs.Ytbpplhlkpfdegaa
