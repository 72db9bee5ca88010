/- A part of the proof: contracts of the functions that the statements reach. -/
import Derived.Test.YtakkmnhiaddnnaaRows
import Derived.Test.YtakkmnhiaddnnaaCA
import Derived.Test.YtakkmnhiaddnnaaCB
import Derived.Test.YtakkmnhiaddnnaaCC
import Derived.Test.YtakkmnhiaddnnaaCD
import Derived.Laws.IdiomCopy

/- The walk of the law CutBetween. -/
namespace Go.Proofs.Ytakkmnhiaddnnaa
open Go.RowKit Go.Sort Go.Proofs.Ytakkmnhiaddnnaa.Bo
set_option linter.unusedVariables false

theorem behind_b (n : Int) (hn : I64 n) (w : World) : Calls Try.prog 96 #[.int .i64 n] w fun e w' => e = .returned (.agg #[.int .i64 (sd (n + 1)), .int .i64 (pa (n + 1))]) ∧ Below w.heap.size w w' := (behind_any n w hn).mono fun _ _ h => ⟨h.1, h.2.1⟩
theorem next_b (s a : Int) (w : World) (ha : I64 a) : Calls Try.prog 95 #[.agg #[.int .i64 s, .int .i64 a]] w fun e w' => e = .returned (.tuple #[.int .i64 (nx (key s a)), .bool (nxb (key s a))]) ∧ Below w.heap.size w w' := (next_any s a w ha).mono fun _ _ h => ⟨h.1, h.2.1⟩
theorem ky_of_i64 (n : Int) (h : I64 n) : Ky n ∧ Ky (n + 1) := by unfold I64 at h; unfold Ky; omega

end Go.Proofs.Ytakkmnhiaddnnaa

/- The walk of the law CutNumbers. -/
namespace Go.Proofs.Ytakkmnhiaddnnaa
open Go.RowKit Go.Sort Go.Proofs.Ytakkmnhiaddnnaa.Bo
set_option linter.unusedVariables false

theorem neq_cut (s a t b : Int) (w : World) : Sem.run Try.prog (binOp .neq 31 (.agg #[.int .i64 s, .int .i64 a]) (.agg #[.int .i64 t, .int .i64 b])) w = .ok (.bool (!(s == t && a == b))) w := by
  have hS : Try.prog.underlying 31 = some (.struct (Try.prog.fieldsOf 31)) := by kernel_rfl
  have hp : Try.prog.stoodInHeld 31 = false := by kernel_rfl
  have u3 := Try.underlying3
  have u2 := Try.underlying2
  rw [run_neq_struct, show (10000 : Nat) = 9999 + 1 from rfl, run_equalIn_agg w 9999 31 _ _ hS hp]
  simp only [Program.fieldsOf, Try.underlying31]
  go_simp
  by_cases h1 : s = t <;> by_cases h2 : a = b <;> simp [h1, h2]
theorem right_key (k : Int) (hk : Ky k) (w : World) : Calls Try.prog 63 #[.agg #[.int .i64 (sd k), .int .i64 (pa k)]] w fun e w' => e = .returned (.bool true) ∧ Below w.heap.size w w' := by
  have h := right_any (sd k) (pa k) w (pa_i64 k hk)
  rw [key_back k hk] at h
  simp only [beq_self_eq_true, Bool.and_self] at h
  exact h.mono fun _ _ h => ⟨h.1, h.2.1⟩

end Go.Proofs.Ytakkmnhiaddnnaa

/- The walk of the law CutShifts. -/
namespace Go.Proofs.Ytakkmnhiaddnnaa
open Go.RowKit Go.Sort Go.Proofs.Ytakkmnhiaddnnaa.Bo
set_option linter.unusedVariables false

/-- A box stays where it is. -/
theorem box_on {w w' : World} {b : Nat} {o : Obj} (h : w.heap[b]? = some o) (hb : Below w.heap.size w w') : w'.heap[b]? = some o := (hb.block _ (lt_of_block h)).trans h
theorem box_new {w w' : World} (o : Obj) (hb : Below (w.alloc o).heap.size (w.alloc o) w') : w'.heap[w.heap.size]? = some o := box_on (heap_alloc_new w o) hb
theorem below_new (w : World) (o : Obj) : Below w.heap.size w (w.alloc o) := (Below.refl _ _).alloc (Nat.le_refl _) _

end Go.Proofs.Ytakkmnhiaddnnaa

/- Contracts of cut.Least and cut.Greatest. -/
namespace Go.Proofs.Ytakkmnhiaddnnaa
open Go.RowKit Go.Sort Go.Proofs.Ytakkmnhiaddnnaa.Bo
set_option linter.unusedVariables false

/-- A slice of cuts that holds cs. -/
def CRow (w : World) (a : Option Addr) (cs : List (Int × Int)) : Prop :=
  0 < cs.length → ∃ b off, a = some ⟨b, off, none⟩ ∧ ∀ (j : Nat) (h : j < cs.length), w.cell? ⟨b, off + j * 2, none⟩ = some (.int .i64 cs[j].1) ∧ w.cell? ⟨b, off + j * 2 + 1, none⟩ = some (.int .i64 cs[j].2)
theorem CRow.below {w w' : World} {a : Option Addr} {cs : List (Int × Int)} (h : CRow w a cs) (hb : Below w.heap.size w w') : CRow w' a cs := by
  intro hp
  obtain ⟨b, off, e, hc⟩ := h hp
  refine ⟨b, off, e, fun j hj => ?_⟩
  obtain ⟨h1, h2⟩ := hc j hj
  exact ⟨(hb.cell (p := ⟨b, off + j * 2, none⟩) (World.block_lt_of_cell? w _ h1)).trans h1, (hb.cell (p := ⟨b, off + j * 2 + 1, none⟩) (World.block_lt_of_cell? w _ h2)).trans h2⟩

def kOf (c : Int × Int) : Int := key c.1 c.2
def leastK (cs : List (Int × Int)) : Int := (cs.map kOf).foldl klow 9223372036854775808
def greatK (cs : List (Int × Int)) : Int := (cs.map kOf).foldl khigh (-9223372036854775808)

theorem foldK_ky (f : Int → Int → Int) (hf : ∀ k l, f k l = k ∨ f k l = l) : ∀ (cs : List (Int × Int)) (m : Int), Ky m → (∀ c ∈ cs, I64 c.2) → Ky ((cs.map kOf).foldl f m)
  | [], m, h, _ => h
  | c :: l, m, h, hz => by
    refine foldK_ky f hf l _ ?_ (fun d hd => hz d (List.mem_cons_of_mem _ hd))
    rcases hf m (kOf c) with e | e
    · rw [e]; exact h
    · rw [e]; exact key_ky _ _ (hz c (List.mem_cons_self ..))
theorem klow_or (k l : Int) : klow k l = k ∨ klow k l = l := by unfold klow; split <;> simp
theorem khigh_or (k l : Int) : khigh k l = k ∨ khigh k l = l := by unfold khigh; split <;> simp
theorem leastK_ky (cs : List (Int × Int)) (hz : ∀ c ∈ cs, I64 c.2) : Ky (leastK cs) := foldK_ky klow klow_or cs _ ⟨by decide, by decide⟩ hz
theorem greatK_ky (cs : List (Int × Int)) (hz : ∀ c ∈ cs, I64 c.2) : Ky (greatK cs) := foldK_ky khigh khigh_or cs _ ⟨by decide, by decide⟩ hz
theorem leastK_snoc (cs : List (Int × Int)) (c : Int × Int) : leastK (cs ++ [c]) = klow (leastK cs) (kOf c) := by unfold leastK; rw [List.map_append, List.foldl_append]; rfl
theorem greatK_snoc (cs : List (Int × Int)) (c : Int × Int) : greatK (cs ++ [c]) = khigh (greatK cs) (kOf c) := by unfold greatK; rw [List.map_append, List.foldl_append]; rfl

end Go.Proofs.Ytakkmnhiaddnnaa

/- A row of cuts in a block of its own; the contract of slices.Compact over it. -/
namespace Go.Proofs.Ytakkmnhiaddnnaa
open Go.RowKit Go.Sort Go.Proofs.Ytakkmnhiaddnnaa.Bo
set_option linter.unusedVariables false

/-- A block of cap cuts. -/
def Blk (w : World) (g cap : Nat) : Prop := ∃ cur, w.heap[g]? = some (.cells cur 31 (0, 0)) ∧ cur.size = cap * 2
theorem Blk.lt {w : World} {g cap : Nat} (h : Blk w g cap) : g < w.heap.size := by obtain ⟨_, h, _⟩ := h; exact lt_of_block h
theorem Blk.cell {w : World} {g cap : Nat} (h : Blk w g cap) (i : Nat) (hi : i < cap * 2) : ∃ v, w.cell? ⟨g, i, none⟩ = some v := by
  obtain ⟨cur, h, hs⟩ := h
  exact ⟨cur[i]'(by omega), (cell_of_row _ _ i _ _ _ h).trans (Array.getElem?_eq_getElem (by omega))⟩
theorem Blk.free {w : World} {g cap : Nat} (h : Blk w g cap) (i : Nat) : w.frozen? ⟨g, i, none⟩ = false := by
  obtain ⟨cur, h, hs⟩ := h
  exact frozen_of_row _ _ i _ _ h
theorem Blk.set {w : World} {g cap : Nat} (h : Blk w g cap) (i : Nat) (v : Value) : Blk (w.setCell ⟨g, i, none⟩ v) g cap := by
  obtain ⟨cur, h, hs⟩ := h
  exact ⟨_, heap_setCell_same _ _ _ _ _ _ h, by simpa using hs⟩
theorem Blk.on {w w' : World} {g cap : Nat} (h : Blk w g cap) (hb : w'.heap[g]? = w.heap[g]?) : Blk w' g cap := by
  obtain ⟨cur, h, hs⟩ := h
  exact ⟨cur, hb.trans h, hs⟩
/-- The block's first cuts are those of the keys ks. -/
def RowAt (w : World) (g cap : Nat) (ks : List Int) : Prop :=
  Blk w g cap ∧ ks.length ≤ cap ∧ ∀ (j : Nat) (h : j < ks.length), w.cell? ⟨g, j * 2, none⟩ = some (.int .i64 (sd ks[j])) ∧ w.cell? ⟨g, j * 2 + 1, none⟩ = some (.int .i64 (pa ks[j]))
theorem RowAt.on {w w' : World} {g cap : Nat} {ks : List Int} (h : RowAt w g cap ks) (hb : w'.heap[g]? = w.heap[g]?) : RowAt w' g cap ks := by
  refine ⟨h.1.on hb, h.2.1, fun j hj => ?_⟩
  rw [World.cell?_of_block (w := w) (a := ⟨g, j * 2, none⟩) hb, World.cell?_of_block (w := w) (a := ⟨g, j * 2 + 1, none⟩) hb]
  exact h.2.2 j hj
theorem RowAt.below {w w' : World} {g cap : Nat} {ks : List Int} (h : RowAt w g cap ks) (hb : Below w.heap.size w w') : RowAt w' g cap ks := h.on (hb.block _ h.1.lt)
/-- One cut is put over another one. -/
theorem RowAt.put {w : World} {g cap : Nat} {ks : List Int} (h : RowAt w g cap ks) (i : Nat) (hi : i < ks.length) (k : Int) :
    RowAt ((w.setCell ⟨g, i * 2, none⟩ (.int .i64 (sd k))).setCell ⟨g, i * 2 + 1, none⟩ (.int .i64 (pa k))) g cap (ks.set i k) := by
  obtain ⟨hb, hl, hc⟩ := h
  refine ⟨(hb.set _ _).set _ _, by simpa using hl, fun j hj => ?_⟩
  have hj' : j < ks.length := by simpa using hj
  obtain ⟨v1, hv1⟩ := hb.cell (i * 2) (by omega)
  obtain ⟨v2, hv2⟩ := (hb.set (i * 2) (.int .i64 (sd k))).cell (i * 2 + 1) (by omega)
  by_cases e : i = j
  · subst e
    rw [List.getElem_set_self]
    refine ⟨?_, World.cell?_setCell_same _ _ _ hv2⟩
    rw [World.cell?_setCell_other _ _ _ _ (by simp)]
    exact World.cell?_setCell_same _ _ _ hv1
  · rw [List.getElem_set_ne e]
    have n1 : i * 2 + 1 ≠ j * 2 := by omega
    have n2 : i * 2 ≠ j * 2 := by omega
    have n3 : i * 2 + 1 ≠ j * 2 + 1 := by omega
    have n4 : i * 2 ≠ j * 2 + 1 := by omega
    rw [World.cell?_setCell_other _ _ _ _ (by simp <;> omega), World.cell?_setCell_other _ _ _ _ (by simp <;> omega), World.cell?_setCell_other _ _ _ _ (by simp <;> omega), World.cell?_setCell_other _ _ _ _ (by simp <;> omega)]
    exact hc j hj'
theorem RowAt.take {w : World} {g cap : Nat} {ks : List Int} (h : RowAt w g cap ks) (n : Nat) (hn : n ≤ ks.length) : RowAt w g cap (ks.take n) := by
  obtain ⟨hb, hl, hc⟩ := h
  refine ⟨hb, by rw [List.length_take]; omega, fun j hj => ?_⟩
  rw [List.getElem_take]
  exact hc j (by rw [List.length_take] at hj; omega)
theorem below_setCells (B g : Nat) (hB : B ≤ g) : ∀ (vs : List Value) (o : Nat) (w w0 : World), Below B w0 w → Below B w0 (w.setCells g o vs)
  | [], _, _, _, h => h
  | v :: r, o, w, w0, h => below_setCells B g hB r (o + 1) _ w0 (h.setCell hB v)
theorem blk_setCells (g cap : Nat) : ∀ (vs : List Value) (o : Nat) (w : World), Blk w g cap → Blk (w.setCells g o vs) g cap
  | [], _, _, h => h
  | v :: r, o, w, h => blk_setCells g cap r (o + 1) _ (h.set o v)
theorem RowAt.clear {w : World} {g cap : Nat} {ks : List Int} (h : RowAt w g cap ks) (vs : List Value) (o : Nat) (ho : ks.length * 2 ≤ o) : RowAt (w.setCells g o vs) g cap ks := by
  obtain ⟨hb, hl, hc⟩ := h
  refine ⟨blk_setCells g cap vs o w hb, hl, fun j hj => ?_⟩
  rw [World.cell?_setCells_out g vs o w _ (fun _ _ => .inl (by show j * 2 < o; omega)), World.cell?_setCells_out g vs o w _ (fun _ _ => .inl (by show j * 2 + 1 < o; omega))]
  exact hc j hj

end Go.Proofs.Ytakkmnhiaddnnaa

/- The contract of slices.Compact over a row of cuts. -/
namespace Go.Proofs.Ytakkmnhiaddnnaa
open Go.RowKit Go.Sort Go.Proofs.Ytakkmnhiaddnnaa.Bo
set_option linter.unusedVariables false

/-- Two keys: one, or told apart by a side or by a number. -/
theorem ky_apart (x y : Int) (hx : Ky x) (hy : Ky y) : x = y ∨ (x ≠ y ∧ (sd x == sd y) = false) ∨ (x ≠ y ∧ sd x = sd y ∧ (pa x == pa y) = false) := by
  by_cases h : x = y
  · exact .inl h
  · by_cases h1 : sd x = sd y
    · exact .inr (.inr ⟨h, h1, beq_eq_false_iff_ne.2 fun h2 => h (ky_inj x y hx hy h1 h2)⟩)
    · exact .inr (.inl ⟨h, beq_eq_false_iff_ne.2 h1⟩)
theorem row_regrown {w : World} {g cap : Nat} {ks : List Int} (h : RowAt w g cap ks) (j : Nat) (hj : j < ks.length) :
    (∀ d os, (grow (redrawn w d) os).cell? ⟨g, j * 2, none⟩ = some (.int .i64 (sd ks[j]))) ∧ (∀ d os, (grow (redrawn w d) os).cell? ⟨g, j * 2 + 1, none⟩ = some (.int .i64 (pa ks[j]))) :=
  ⟨cell_regrown (h.2.2 j hj).1, cell_regrown (h.2.2 j hj).2⟩
theorem below_any {B : Nat} {a b c : World} (h : Below B a b) (hB : B ≤ b.heap.size) (h2 : Below b.heap.size b c) : Below B a c := h.trans (h2.mono hB)

end Go.Proofs.Ytakkmnhiaddnnaa

/- slices.SortFunc by cut.Compare over a row of cuts. -/
namespace Go.Proofs.Ytakkmnhiaddnnaa
open Go.RowKit Go.Sort Go.Shelf Go.Proofs.Ytakkmnhiaddnnaa.Bo
set_option linter.unusedVariables false

/-- A key, with the word that it is one. -/
abbrev KY := {k : Int // Ky k}
instance : Inhabited KY := ⟨⟨0, by decide, by decide⟩⟩
def encK (x : KY) : List Value := [.int .i64 (sd x.1), .int .i64 (pa x.1)]
def cfK (x y : KY) : Int := kcmp x.1 y.1
theorem ltK (x y : KY) : ltOf cfK x y = decide (x.1 < y.1) := by
  unfold ltOf cfK kcmp
  by_cases h : x.1 < y.1
  · simp [h]
  · by_cases h2 : y.1 < x.1 <;> simp [h, h2]
theorem swoK : SWO (ltOf cfK) where
  irrefl x := by rw [ltK]; simp
  trans x y z h1 h2 := by rw [ltK] at *; simp at *; omega
  ntrans x y z h1 h2 := by rw [ltK] at *; simp at *; omega

theorem cmpLaysK (blk off size : Nat) (w : World) : CmpLays Try.prog 48 #[] encK 2 cfK blk off size w := by
  intro m os dk _ x y
  have h := compare_any (sd x.1) (pa x.1) (sd y.1) (pa y.1) (sortWorldK encK 2 w blk off m dk os) (pa_i64 _ x.2) (pa_i64 _ y.2)
  rw [key_back _ x.2, key_back _ y.2] at h
  exact h.mono fun _ _ h => ⟨h.1, h.2.grown⟩

/-- The row as the sort's kit holds it. -/
theorem holds_row {w : World} {g cap : Nat} {ks : List Int} (h : RowAt w g cap ks) (d : Array KY) (hd : d.toList.map (·.1) = ks) : HoldsK encK 2 w g 0 d := by
  have hl : d.size = ks.length := by rw [← hd]; simp
  intro j hj
  rw [size_flatK] at hj
  rw [get_flatK _ _ _ _ hj]
  have hq : j / 2 < ks.length := by omega
  have hc := h.2.2 (j / 2) hq
  have e : (d[j / 2]!).1 = ks[j / 2] := by
    rw [getElem!_pos d (j / 2) (by omega)]
    have : (d.toList.map (·.1))[j / 2]'(by simp; omega) = ks[j / 2] := by simp only [hd]
    simpa using this
  refine ⟨?_, h.1.free _⟩
  rcases Nat.mod_two_eq_zero_or_one j with e2 | e2
  · rw [e2, show 0 + j = j / 2 * 2 by omega, hc.1, ← e]; rfl
  · rw [e2, show 0 + j = j / 2 * 2 + 1 by omega, hc.2, ← e]; rfl
theorem row_holds {w : World} {g cap : Nat} {ks : List Int} (d : Array KY) (hd : d.toList.map (·.1) = ks) (hb : Blk w g cap) (hl : ks.length ≤ cap) (h : HoldsK encK 2 w g 0 d) : RowAt w g cap ks := by
  have hs : d.size = ks.length := by rw [← hd]; simp
  refine ⟨hb, hl, fun j hj => ?_⟩
  have e : (d[j]!).1 = ks[j] := by
    rw [getElem!_pos d j (by omega)]
    have : (d.toList.map (·.1))[j]'(by simp; omega) = ks[j] := by simp only [hd]
    simpa using this
  have c0 := (h.cell (i := j) (c := 0) (by omega) (by omega)).1
  have c1 := (h.cell (i := j) (c := 1) (by omega) (by omega)).1
  rw [Nat.zero_add, Nat.add_zero] at c0
  rw [Nat.zero_add] at c1
  rw [c0, c1, ← e]
  exact ⟨rfl, rfl⟩
theorem blk_sorted {w : World} {g cap : Nat} (h : Blk w g cap) (m : Nat) (d : Array KY) (os : Array Obj) : Blk (sortWorldK encK 2 w g 0 m d os) g cap := by
  obtain ⟨cur, h1, h2⟩ := h
  refine ⟨putCells id 0 (flatK encK 2 d) cur, ?_, by simp [putCells, h2]⟩
  unfold sortWorldK putRowK putRow mapBlock grow
  rw [Array.getElem?_append_left (by simp; exact lt_of_block h1)]
  simp only [Array.getElem?_modify, if_true, heap_ahead, h1]
  rfl
theorem below_sorted {w : World} {B g : Nat} (hB : B ≤ g) (hg : g < w.heap.size) (m : Nat) (d : Array KY) (os : Array Obj) : Go.RowKit.Below B w (sortWorldK encK 2 w g 0 m d os) := by
  refine ⟨rfl, rfl, rfl, ?_, fun k hk => ?_⟩
  · unfold sortWorldK; rw [size_grow]; simp [putRowK]
  · unfold sortWorldK putRowK putRow mapBlock grow
    rw [Array.getElem?_append_left (by simp; omega)]
    simp only [Array.getElem?_modify, heap_ahead]
    rw [if_neg (by omega)]

end Go.Proofs.Ytakkmnhiaddnnaa
