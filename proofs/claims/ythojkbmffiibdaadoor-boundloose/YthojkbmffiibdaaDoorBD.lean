/- A part of the proof: contracts of the functions that the statements reach. -/
import Derived.Test.YthojkbmffiibdaaDoorRows
import Derived.Test.YthojkbmffiibdaaDoorBA
import Derived.Test.YthojkbmffiibdaaDoorBB
import Derived.Test.YthojkbmffiibdaaDoorBC
import Derived.Laws.IdiomCopy
import Derived.Deep.AppendLies
import Derived.Deep.LoopGhost
import Derived.Deep.RegionHeld3

/- A row of cuts in a block of its own; the contract of slices.Compact over it. -/
namespace Go.Proofs.YthojkbmffiibdaaDoor
open Go.RowKit Go.Sort Go.Proofs.YthojkbmffiibdaaDoor.Bo
set_option linter.unusedVariables false

/-- A block of cap cuts. -/
def Blk (w : World) (g cap : Nat) : Prop := ∃ cur, w.heap[g]? = some (.cells cur 25 (0, 0)) ∧ cur.size = cap * 2
theorem Blk.lt {w : World} {g cap : Nat} (h : Blk w g cap) : g < w.heap.size := by obtain ⟨_, h, _⟩ := h; exact lt_of_block h
theorem Blk.cell {w : World} {g cap : Nat} (h : Blk w g cap) (i : Nat) (hi : i < cap * 2) : ∃ v, w.cell? ⟨g, i, none⟩ = some v := by
  obtain ⟨cur, h, hs⟩ := h
  exact ⟨cur[i]'(by omega), (cell_of_row _ _ i _ _ _ h).trans (Array.getElem?_eq_getElem (by omega))⟩
theorem Blk.free {w : World} {g cap : Nat} (h : Blk w g cap) (i : Nat) : w.frozen? ⟨g, i, none⟩ = false := by
  obtain ⟨cur, h, hs⟩ := h
  exact frozen_of_row _ _ i _ _ h
theorem Blk.set {w : World} {g cap : Nat} (h : Blk w g cap) (i : Nat) (v : Value) : Blk (w.setCell ⟨g, i, none⟩ v) g cap := by
  obtain ⟨cur, h, hs⟩ := h
  exact ⟨_, heap_setCell_same _ _ _ _ _ _ h, by simpa using hs⟩
theorem Blk.on {w w' : World} {g cap : Nat} (h : Blk w g cap) (hb : w'.heap[g]? = w.heap[g]?) : Blk w' g cap := by
  obtain ⟨cur, h, hs⟩ := h
  exact ⟨cur, hb.trans h, hs⟩
/-- The block's first cuts are those of the keys ks. -/
def RowAt (w : World) (g cap : Nat) (ks : List Int) : Prop :=
  Blk w g cap ∧ ks.length ≤ cap ∧ ∀ (j : Nat) (h : j < ks.length), w.cell? ⟨g, j * 2, none⟩ = some (.int .i64 (sd ks[j])) ∧ w.cell? ⟨g, j * 2 + 1, none⟩ = some (.int .i64 (pa ks[j]))
theorem RowAt.on {w w' : World} {g cap : Nat} {ks : List Int} (h : RowAt w g cap ks) (hb : w'.heap[g]? = w.heap[g]?) : RowAt w' g cap ks := by
  refine ⟨h.1.on hb, h.2.1, fun j hj => ?_⟩
  rw [World.cell?_of_block (w := w) (a := ⟨g, j * 2, none⟩) hb, World.cell?_of_block (w := w) (a := ⟨g, j * 2 + 1, none⟩) hb]
  exact h.2.2 j hj
theorem RowAt.below {w w' : World} {g cap : Nat} {ks : List Int} (h : RowAt w g cap ks) (hb : Below w.heap.size w w') : RowAt w' g cap ks := h.on (hb.block _ h.1.lt)
/-- One cut is put over another one. -/
theorem RowAt.put {w : World} {g cap : Nat} {ks : List Int} (h : RowAt w g cap ks) (i : Nat) (hi : i < ks.length) (k : Int) :
    RowAt ((w.setCell ⟨g, i * 2, none⟩ (.int .i64 (sd k))).setCell ⟨g, i * 2 + 1, none⟩ (.int .i64 (pa k))) g cap (ks.set i k) := by
  obtain ⟨hb, hl, hc⟩ := h
  refine ⟨(hb.set _ _).set _ _, by simpa using hl, fun j hj => ?_⟩
  have hj' : j < ks.length := by simpa using hj
  obtain ⟨v1, hv1⟩ := hb.cell (i * 2) (by omega)
  obtain ⟨v2, hv2⟩ := (hb.set (i * 2) (.int .i64 (sd k))).cell (i * 2 + 1) (by omega)
  by_cases e : i = j
  · subst e
    rw [List.getElem_set_self]
    refine ⟨?_, World.cell?_setCell_same _ _ _ hv2⟩
    rw [World.cell?_setCell_other _ _ _ _ (by simp)]
    exact World.cell?_setCell_same _ _ _ hv1
  · rw [List.getElem_set_ne e]
    have n1 : i * 2 + 1 ≠ j * 2 := by omega
    have n2 : i * 2 ≠ j * 2 := by omega
    have n3 : i * 2 + 1 ≠ j * 2 + 1 := by omega
    have n4 : i * 2 ≠ j * 2 + 1 := by omega
    rw [World.cell?_setCell_other _ _ _ _ (by simp <;> omega), World.cell?_setCell_other _ _ _ _ (by simp <;> omega), World.cell?_setCell_other _ _ _ _ (by simp <;> omega), World.cell?_setCell_other _ _ _ _ (by simp <;> omega)]
    exact hc j hj'
theorem RowAt.take {w : World} {g cap : Nat} {ks : List Int} (h : RowAt w g cap ks) (n : Nat) (hn : n ≤ ks.length) : RowAt w g cap (ks.take n) := by
  obtain ⟨hb, hl, hc⟩ := h
  refine ⟨hb, by rw [List.length_take]; omega, fun j hj => ?_⟩
  rw [List.getElem_take]
  exact hc j (by rw [List.length_take] at hj; omega)
theorem below_setCells (B g : Nat) (hB : B ≤ g) : ∀ (vs : List Value) (o : Nat) (w w0 : World), Below B w0 w → Below B w0 (w.setCells g o vs)
  | [], _, _, _, h => h
  | v :: r, o, w, w0, h => below_setCells B g hB r (o + 1) _ w0 (h.setCell hB v)
theorem blk_setCells (g cap : Nat) : ∀ (vs : List Value) (o : Nat) (w : World), Blk w g cap → Blk (w.setCells g o vs) g cap
  | [], _, _, h => h
  | v :: r, o, w, h => blk_setCells g cap r (o + 1) _ (h.set o v)
theorem RowAt.clear {w : World} {g cap : Nat} {ks : List Int} (h : RowAt w g cap ks) (vs : List Value) (o : Nat) (ho : ks.length * 2 ≤ o) : RowAt (w.setCells g o vs) g cap ks := by
  obtain ⟨hb, hl, hc⟩ := h
  refine ⟨blk_setCells g cap vs o w hb, hl, fun j hj => ?_⟩
  rw [World.cell?_setCells_out g vs o w _ (fun _ _ => .inl (by show j * 2 < o; omega)), World.cell?_setCells_out g vs o w _ (fun _ _ => .inl (by show j * 2 + 1 < o; omega))]
  exact hc j hj

end Go.Proofs.YthojkbmffiibdaaDoor

/- The contract of slices.Compact over a row of cuts. -/
namespace Go.Proofs.YthojkbmffiibdaaDoor
open Go.RowKit Go.Sort Go.Proofs.YthojkbmffiibdaaDoor.Bo
set_option linter.unusedVariables false

/-- Two keys: one, or told apart by a side or by a number. -/
theorem ky_apart (x y : Int) (hx : Ky x) (hy : Ky y) : x = y ∨ (x ≠ y ∧ (sd x == sd y) = false) ∨ (x ≠ y ∧ sd x = sd y ∧ (pa x == pa y) = false) := by
  by_cases h : x = y
  · exact .inl h
  · by_cases h1 : sd x = sd y
    · exact .inr (.inr ⟨h, h1, beq_eq_false_iff_ne.2 fun h2 => h (ky_inj x y hx hy h1 h2)⟩)
    · exact .inr (.inl ⟨h, beq_eq_false_iff_ne.2 h1⟩)
theorem row_regrown {w : World} {g cap : Nat} {ks : List Int} (h : RowAt w g cap ks) (j : Nat) (hj : j < ks.length) :
    (∀ d os, (grow (redrawn w d) os).cell? ⟨g, j * 2, none⟩ = some (.int .i64 (sd ks[j]))) ∧ (∀ d os, (grow (redrawn w d) os).cell? ⟨g, j * 2 + 1, none⟩ = some (.int .i64 (pa ks[j]))) :=
  ⟨cell_regrown (h.2.2 j hj).1, cell_regrown (h.2.2 j hj).2⟩
theorem below_any {B : Nat} {a b c : World} (h : Below B a b) (hB : B ≤ b.heap.size) (h2 : Below b.heap.size b c) : Below B a c := h.trans (h2.mono hB)

end Go.Proofs.YthojkbmffiibdaaDoor

/- slices.SortFunc by cut.Compare over a row of cuts. -/
namespace Go.Proofs.YthojkbmffiibdaaDoor
open Go.RowKit Go.Sort Go.Shelf Go.Proofs.YthojkbmffiibdaaDoor.Bo
set_option linter.unusedVariables false

/-- A key, with the word that it is one. -/
abbrev KY := {k : Int // Ky k}
instance : Inhabited KY := ⟨⟨0, by decide, by decide⟩⟩
def encK (x : KY) : List Value := [.int .i64 (sd x.1), .int .i64 (pa x.1)]
def cfK (x y : KY) : Int := kcmp x.1 y.1
theorem ltK (x y : KY) : ltOf cfK x y = decide (x.1 < y.1) := by
  unfold ltOf cfK kcmp
  by_cases h : x.1 < y.1
  · simp [h]
  · by_cases h2 : y.1 < x.1 <;> simp [h, h2]
theorem swoK : SWO (ltOf cfK) where
  irrefl x := by rw [ltK]; simp
  trans x y z h1 h2 := by rw [ltK] at *; simp at *; omega
  ntrans x y z h1 h2 := by rw [ltK] at *; simp at *; omega

theorem cmpLaysK (blk off size : Nat) (w : World) : CmpLays Tryd.prog 78 #[] encK 2 cfK blk off size w := by
  intro m os dk _ x y
  have h := compare_any (sd x.1) (pa x.1) (sd y.1) (pa y.1) (sortWorldK encK 2 w blk off m dk os) (pa_i64 _ x.2) (pa_i64 _ y.2)
  rw [key_back _ x.2, key_back _ y.2] at h
  exact h.mono fun _ _ h => ⟨h.1, h.2.grown⟩

/-- The row as the sort's kit holds it. -/
theorem holds_row {w : World} {g cap : Nat} {ks : List Int} (h : RowAt w g cap ks) (d : Array KY) (hd : d.toList.map (·.1) = ks) : HoldsK encK 2 w g 0 d := by
  have hl : d.size = ks.length := by rw [← hd]; simp
  intro j hj
  rw [size_flatK] at hj
  rw [get_flatK _ _ _ _ hj]
  have hq : j / 2 < ks.length := by omega
  have hc := h.2.2 (j / 2) hq
  have e : (d[j / 2]!).1 = ks[j / 2] := by
    rw [getElem!_pos d (j / 2) (by omega)]
    have : (d.toList.map (·.1))[j / 2]'(by simp; omega) = ks[j / 2] := by simp only [hd]
    simpa using this
  refine ⟨?_, h.1.free _⟩
  rcases Nat.mod_two_eq_zero_or_one j with e2 | e2
  · rw [e2, show 0 + j = j / 2 * 2 by omega, hc.1, ← e]; rfl
  · rw [e2, show 0 + j = j / 2 * 2 + 1 by omega, hc.2, ← e]; rfl
theorem row_holds {w : World} {g cap : Nat} {ks : List Int} (d : Array KY) (hd : d.toList.map (·.1) = ks) (hb : Blk w g cap) (hl : ks.length ≤ cap) (h : HoldsK encK 2 w g 0 d) : RowAt w g cap ks := by
  have hs : d.size = ks.length := by rw [← hd]; simp
  refine ⟨hb, hl, fun j hj => ?_⟩
  have e : (d[j]!).1 = ks[j] := by
    rw [getElem!_pos d j (by omega)]
    have : (d.toList.map (·.1))[j]'(by simp; omega) = ks[j] := by simp only [hd]
    simpa using this
  have c0 := (h.cell (i := j) (c := 0) (by omega) (by omega)).1
  have c1 := (h.cell (i := j) (c := 1) (by omega) (by omega)).1
  rw [Nat.zero_add, Nat.add_zero] at c0
  rw [Nat.zero_add] at c1
  rw [c0, c1, ← e]
  exact ⟨rfl, rfl⟩
theorem blk_sorted {w : World} {g cap : Nat} (h : Blk w g cap) (m : Nat) (d : Array KY) (os : Array Obj) : Blk (sortWorldK encK 2 w g 0 m d os) g cap := by
  obtain ⟨cur, h1, h2⟩ := h
  refine ⟨putCells id 0 (flatK encK 2 d) cur, ?_, by simp [putCells, h2]⟩
  unfold sortWorldK putRowK putRow mapBlock grow
  rw [Array.getElem?_append_left (by simp; exact lt_of_block h1)]
  simp only [Array.getElem?_modify, if_true, heap_ahead, h1]
  rfl
theorem below_sorted {w : World} {B g : Nat} (hB : B ≤ g) (hg : g < w.heap.size) (m : Nat) (d : Array KY) (os : Array Obj) : Go.RowKit.Below B w (sortWorldK encK 2 w g 0 m d os) := by
  refine ⟨rfl, rfl, rfl, ?_, fun k hk => ?_⟩
  · unfold sortWorldK; rw [size_grow]; simp [putRowK]
  · unfold sortWorldK putRowK putRow mapBlock grow
    rw [Array.getElem?_append_left (by simp; omega)]
    simp only [Array.getElem?_modify, heap_ahead]
    rw [if_neg (by omega)]

end Go.Proofs.YthojkbmffiibdaaDoor

/- The contract of cut.Sort. -/
namespace Go.Proofs.YthojkbmffiibdaaDoor
open Go.RowKit Go.Sort Go.Proofs.YthojkbmffiibdaaDoor.Bo
set_option linter.unusedVariables false

/-- The cells of the right cuts of these. -/
def flatC (cs : List (Int × Int)) : List Value := cs.flatMap fun c => [.int .i64 (sd (kOf c)), .int .i64 (pa (kOf c))]
theorem flatC_len (cs : List (Int × Int)) : (flatC cs).length = cs.length * 2 := by
  unfold flatC
  induction cs with
  | nil => rfl
  | cons a l ih => rw [List.flatMap_cons, List.length_append, ih]; simp; omega
theorem flatC_snoc (cs : List (Int × Int)) (c : Int × Int) : flatC (cs ++ [c]) = flatC cs ++ [.int .i64 (sd (kOf c)), .int .i64 (pa (kOf c))] := by
  unfold flatC; rw [List.flatMap_append]; simp
theorem flatC_get (cs : List (Int × Int)) (j : Nat) (hj : j < cs.length) : (flatC cs)[j * 2]? = some (.int .i64 (sd (kOf cs[j]))) ∧ (flatC cs)[j * 2 + 1]? = some (.int .i64 (pa (kOf cs[j]))) := by
  induction cs generalizing j with
  | nil => simp at hj
  | cons a l ih =>
    cases j with
    | zero => exact ⟨rfl, rfl⟩
    | succ j =>
      have := ih j (by simpa using hj)
      unfold flatC at *
      rw [List.flatMap_cons]
      rw [show (j + 1) * 2 = j * 2 + 2 by omega]
      simpa [List.getElem?_append] using this
theorem own_on {w w' : World} {base : Nat} {e : TypeId} {size : Nat} {v : Value} {n : Nat} {xs : List Value} (h : w.ownsRow base e size v n xs) (hb : Go.RowKit.Below w.heap.size w w') : w'.ownsRow base e size v n xs := by
  obtain ⟨h1, h2⟩ := h
  refine ⟨h1, ?_⟩
  rcases h2 with h2 | ⟨g, cap, cur, hv, hg, hh, r⟩
  · exact .inl h2
  · exact .inr ⟨g, cap, cur, hv, hg, (hb.block _ (lt_of_block hh)).trans hh, r⟩
theorem row_of_own2 {w : World} {base g cap n : Nat} {cs : List (Int × Int)} (h : w.ownsRow base 25 2 (.slice (some ⟨g, 0, none⟩) n cap) n (flatC cs)) (hn : n = cs.length) : RowAt w g cap (cs.map kOf) ∧ base ≤ g ∧ cap ≤ maxLen := by
  rcases h.2 with ⟨h1, _⟩ | ⟨g', cap', cur, h1, hb, hh, hnc, hcm, hcs, htake⟩
  · cases h1
  · injection h1 with e1 e2 e3
    injection e1 with e1
    injection e1 with e1
    subst e1 e3
    refine ⟨⟨⟨cur, hh, hcs⟩, by rw [List.length_map]; omega, fun j hj => ?_⟩, hb, hcm⟩
    rw [List.length_map] at hj
    obtain ⟨f1, f2⟩ := flatC_get cs j hj
    rw [← htake, List.getElem?_take, if_pos (by omega)] at f1 f2
    rw [List.getElem_map]
    exact ⟨(cell_of_row _ _ _ _ _ _ hh).trans (by simpa using f1), (cell_of_row _ _ _ _ _ _ hh).trans (by simpa using f2)⟩
theorem one_two (a b : Int) : ∀ u ∈ ([.int .i64 a, .int .i64 b] : List Value), u.oneCell' = true := by
  intro u hu
  simp at hu
  rcases hu with rfl | rfl <;> rfl
theorem Tryd.infoCut : (Tryd.prog.info? 25).map (fun i => (i.zero, i.size, i.bytes)) = some (some (.agg #[.int .i64 0, .int .i64 0]), 2, 16) := by kernel_rfl

end Go.Proofs.YthojkbmffiibdaaDoor

/- What the reference's sort does, on keys. -/
namespace Go.Proofs.YthojkbmffiibdaaDoor.Bo
/-- The last key of a row; below all keys, if there is none. -/
def lb (os : List Int) : Int := (os.getLast?).getD (-9223372036854775809)
theorem lb_nil : lb [] = -9223372036854775809 := rfl
theorem lb_snoc (os : List Int) (m : Int) : lb (os ++ [m]) = m := by unfold lb; simp
theorem lb_get (os : List Int) (h : 0 < os.length) : lb os = os[os.length - 1] := by
  unfold lb
  rw [List.getLast?_eq_some_getLast (by intro e; rw [e] at h; simp at h), List.getLast_eq_getElem]
  rfl
/-- What has been put: rising keys of ks, all of those up to the last one. -/
def Put (ks os : List Int) : Prop := Up os ∧ (∀ x ∈ os, x ∈ ks) ∧ (∀ x ∈ ks, x ≤ lb os → x ∈ os)
theorem put_nil (ks : List Int) (h : ∀ k ∈ ks, Ky k) : Put ks [] := by
  refine ⟨List.Pairwise.nil, by simp, fun x hx h2 => ?_⟩
  have := h x hx
  unfold Ky at this
  rw [lb_nil] at h2
  omega
theorem up_lb (os : List Int) (h : Up os) : ∀ x ∈ os, x ≤ lb os := by
  intro x hx
  obtain ⟨i, hi, rfl⟩ := List.getElem_of_mem hx
  rw [lb_get os (by omega)]
  rcases Nat.lt_or_ge i (os.length - 1) with h2 | h2
  · have := List.pairwise_iff_getElem.1 h i (os.length - 1) hi (by omega) h2
    omega
  · have : i = os.length - 1 := by omega
    subst this
    exact Int.le_refl _
theorem put_snoc (ks os : List Int) (m : Int) (h : Put ks os) (hm : m ∈ ks) (hl : lb os < m) (hmin : ∀ x ∈ ks, lb os < x → m ≤ x) : Put ks (os ++ [m]) := by
  obtain ⟨h1, h2, h3⟩ := h
  refine ⟨?_, ?_, ?_⟩
  · unfold Up
    rw [List.pairwise_append]
    refine ⟨h1, List.pairwise_singleton .., fun x hx y hy => ?_⟩
    rw [List.mem_singleton] at hy
    subst hy
    have := up_lb os h1 x hx
    omega
  · intro x hx
    rcases List.mem_append.1 hx with h | h
    · exact h2 x h
    · rw [List.mem_singleton] at h; subst h; exact hm
  · intro x hx hle
    rw [lb_snoc] at hle
    rw [List.mem_append, List.mem_singleton]
    by_cases hq : lb os < x
    · right
      have := hmin x hx hq
      omega
    · left
      exact h3 x hx (by omega)
theorem put_done (ks os : List Int) (h : Put ks os) (hno : ∀ x ∈ ks, ¬ lb os < x) : Up os ∧ (∀ x, x ∈ os ↔ x ∈ ks) :=
  ⟨h.1, fun x => ⟨h.2.1 x, fun hx => h.2.2 x hx (by have := hno x hx; omega)⟩⟩
/-- How many are still to come. -/
def left (ks os : List Int) : Nat := ks.countP fun x => decide (lb os < x)
theorem countP_lt (p q : Int → Bool) (l : List Int) (hpq : ∀ x, q x = true → p x = true) (m : Int) (hm : m ∈ l) (h1 : p m = true) (h2 : q m = false) : l.countP q < l.countP p := by
  induction l with
  | nil => simp at hm
  | cons a l ih =>
    have hle : l.countP q ≤ l.countP p := List.countP_mono_left fun x _ h => hpq x h
    rw [List.countP_cons, List.countP_cons]
    rcases List.mem_cons.1 hm with e | e
    · subst e
      simp [h1, h2]; omega
    · have := ih e
      by_cases hq : q a = true
      · simp [hq, hpq a hq]; omega
      · simp [hq]; split <;> omega
theorem left_snoc (ks os : List Int) (m : Int) (hm : m ∈ ks) (hl : lb os < m) : left ks (os ++ [m]) < left ks os := by
  unfold left
  rw [lb_snoc]
  refine countP_lt _ _ ks (fun x hx => ?_) m hm (decide_eq_true hl) (decide_eq_false (by omega))
  simp at hx ⊢
  omega
/-- The least one above, among those that were seen. -/
def Seen (ks os : List Int) (f : Bool) (m : Int) : Prop := (f = true ∧ m ∈ ks ∧ lb os < m ∧ ∀ x ∈ ks, lb os < x → m ≤ x) ∨ (f = false ∧ ∀ x ∈ ks, ¬ lb os < x)
theorem seen_nil (os : List Int) (m : Int) : Seen [] os false m := .inr ⟨rfl, by simp⟩
theorem seen_take (ks os : List Int) (f : Bool) (m x : Int) (h : Seen ks os f m) (hl : lb os < x) (hc : f = false ∨ x < m) : Seen (ks ++ [x]) os true x := by
  refine .inl ⟨rfl, by simp, hl, fun y hy hly => ?_⟩
  rcases List.mem_append.1 hy with h1 | h1
  · rcases h with ⟨hf, _, _, h2⟩ | ⟨_, h2⟩
    · rcases hc with hc | hc
      · rw [hc] at hf; cases hf
      · have := h2 y h1 hly; omega
    · exact absurd hly (h2 y h1)
  · rw [List.mem_singleton] at h1; omega
theorem seen_skip (ks os : List Int) (f : Bool) (m x : Int) (h : Seen ks os f m) (hc : ¬ lb os < x ∨ (f = true ∧ ¬ x < m)) : Seen (ks ++ [x]) os f m := by
  rcases h with ⟨hf, h1, h2, h3⟩ | ⟨hf, h1⟩
  · refine .inl ⟨hf, List.mem_append_left _ h1, h2, fun y hy hly => ?_⟩
    rcases List.mem_append.1 hy with h4 | h4
    · exact h3 y h4 hly
    · rw [List.mem_singleton] at h4
      subst h4
      rcases hc with hc | hc
      · exact absurd hly hc
      · omega
  · refine .inr ⟨hf, fun y hy => ?_⟩
    rcases List.mem_append.1 hy with h4 | h4
    · exact h1 y h4
    · rw [List.mem_singleton] at h4
      subst h4
      rcases hc with hc | hc
      · exact hc
      · rw [hf] at hc; cases hc.1
end Go.Proofs.YthojkbmffiibdaaDoor.Bo

/- The contract of the reference's Sort of cuts. -/
namespace Go.Proofs.YthojkbmffiibdaaDoor
open Go.RowKit Go.Sort Go.Proofs.YthojkbmffiibdaaDoor.Bo
set_option linter.unusedVariables false

/-- The cells of the cuts of these keys. -/
def flatL (ks : List Int) : List Value := ks.flatMap fun k => [.int .i64 (sd k), .int .i64 (pa k)]
theorem flatL_snoc (ks : List Int) (k : Int) : flatL (ks ++ [k]) = flatL ks ++ [.int .i64 (sd k), .int .i64 (pa k)] := by
  unfold flatL; rw [List.flatMap_append]; simp
theorem flatL_get (cs : List Int) (j : Nat) (hj : j < cs.length) : (flatL cs)[j * 2]? = some (.int .i64 (sd cs[j])) ∧ (flatL cs)[j * 2 + 1]? = some (.int .i64 (pa cs[j])) := by
  induction cs generalizing j with
  | nil => simp at hj
  | cons a l ih =>
    cases j with
    | zero => exact ⟨rfl, rfl⟩
    | succ j =>
      have := ih j (by simpa using hj)
      unfold flatL at *
      rw [List.flatMap_cons]
      rw [show (j + 1) * 2 = j * 2 + 2 by omega]
      simpa [List.getElem?_append] using this
theorem own_cells {w : World} {base g cap n n2 : Nat} {ks : List Int} (h : w.ownsRow base 25 2 (.slice (some ⟨g, 0, none⟩) n2 cap) n (flatL ks)) (hn : n = ks.length) (j : Nat) (hj : j < ks.length) :
    w.cell? ⟨g, j * 2, none⟩ = some (.int .i64 (sd ks[j])) ∧ w.cell? ⟨g, j * 2 + 1, none⟩ = some (.int .i64 (pa ks[j])) := by
  rcases h.2 with ⟨h1, _⟩ | ⟨g', cap', cur, h1, hb, hh, hnc, hcm, hcs, htake⟩
  · cases h1
  · injection h1 with e1 e2 e3
    injection e1 with e1
    injection e1 with e1
    subst e1 e3
    obtain ⟨f1, f2⟩ := flatL_get ks j hj
    rw [← htake, List.getElem?_take, if_pos (by omega)] at f1 f2
    exact ⟨(cell_of_row _ _ _ _ _ _ hh).trans (by simpa using f1), (cell_of_row _ _ _ _ _ _ hh).trans (by simpa using f2)⟩
theorem own_far {w : World} {base : Nat} {e : TypeId} {size : Nat} {v : Value} {n : Nat} {xs : List Value} (h : w.ownsRow base e size v n xs) (N i : Nat) (u : Value) (hN : ∀ k, v.ownBlock = some k → k ≠ N) : (w.setCell ⟨N, i, none⟩ u).ownsRow base e size v n xs := by
  obtain ⟨h1, h2⟩ := h
  refine ⟨h1, ?_⟩
  rcases h2 with h2 | ⟨g, cap, cur, hv, hg, hh, r⟩
  · exact .inl h2
  · refine .inr ⟨g, cap, cur, hv, hg, ?_, r⟩
    rw [heap_setCell_other _ _ _ _ (by have := hN g (by rw [hv]; rfl); simpa using this)]
    exact hh
theorem rless_b (s a t b : Int) (D : Bool) (h : decide (key s a < key t b) = D) (ha : I64 a) (hb : I64 b) (w : World) :
    Calls Tryd.prog 41 #[.agg #[.int .i64 s, .int .i64 a], .agg #[.int .i64 t, .int .i64 b]] w fun e w' => e = .returned (.bool D) ∧ Go.RowKit.Below w.heap.size w w' := by
  subst h; exact rless_any s a t b w ha hb

/-- What lies in memory while the reference looks for the next one. -/
structure InAt (w : World) (N : Nat) (ks os : List Int) (v : Value) (f : Bool) (m nx ny : Int) (wr : World) : Prop where
  seen : Seen ks os f m
  cut : f = true → nx = sd m ∧ ny = pa m ∧ Ky m
  box : wr.heap[N]? = some (.cells #[.int .i64 nx, .int .i64 ny] 25 (0, 0))
  own : wr.ownsRow w.heap.size 25 2 v os.length (flatL os)
  below : Go.RowKit.Below w.heap.size w wr
theorem InAt.on {w : World} {N : Nat} {ks os : List Int} {v : Value} {f : Bool} {m nx ny : Int} {wr wr' : World} (h : InAt w N ks os v f m nx ny wr) (hb : Go.RowKit.Below wr.heap.size wr wr') : InAt w N ks os v f m nx ny wr' :=
  ⟨h.seen, h.cut, box_on h.box hb, own_on h.own hb, bt h.below hb⟩
theorem InAt.skip {w : World} {N : Nat} {ks os : List Int} {v : Value} {f : Bool} {m nx ny : Int} {wr : World} (h : InAt w N ks os v f m nx ny wr) (x : Int) (hc : ¬ lb os < x ∨ (f = true ∧ ¬ x < m)) : InAt w N (ks ++ [x]) os v f m nx ny wr :=
  ⟨seen_skip _ _ _ _ _ h.seen hc, h.cut, h.box, h.own, h.below⟩
theorem InAt.take {w : World} {N : Nat} {ks os : List Int} {v : Value} {f : Bool} {m nx ny : Int} {wr : World} (h : InAt w N ks os v f m nx ny wr) (x : Int) (hx : Ky x) (hl : lb os < x) (hc : f = false ∨ x < m) (hN : w.heap.size ≤ N) (hv : ∀ k, v.ownBlock = some k → k ≠ N) :
    InAt w N (ks ++ [x]) os v true x (sd x) (pa x) ((wr.setCell ⟨N, 0, none⟩ (.int .i64 (sd x))).setCell ⟨N, 1, none⟩ (.int .i64 (pa x))) :=
  ⟨seen_take _ _ _ _ _ h.seen hl hc, fun _ => ⟨rfl, rfl, hx⟩, two_put h.box, own_far (own_far h.own _ _ _ hv) _ _ _ hv, (h.below.setCell hN _).setCell hN _⟩
/-- How the row that was put stands. -/
def OutIs (N : Nat) (os : List Int) (v : Value) : Prop := (os = [] ∧ v = .slice none 0 0) ∨ ∃ g cap q, os.length = q + 1 ∧ v = .slice (some ⟨g, 0, none⟩) (q + 1) cap ∧ g < N

theorem up_len : ∀ (l m : List Int), Up l → (∀ x ∈ l, x ∈ m) → l.length ≤ m.length := by
  intro l
  induction l with
  | nil => intro m _ _; exact Nat.zero_le _
  | cons a l ih =>
    intro m h hs
    have h' := List.pairwise_cons.1 h
    have ha := hs a (List.mem_cons_self ..)
    have := ih (m.erase a) h'.2 (fun x hx => by
      have hne : x ≠ a := by have := h'.1 x hx; omega
      exact (List.mem_erase_of_ne hne).2 (hs x (List.mem_cons_of_mem _ hx)))
    rw [List.length_erase_of_mem ha] at this
    have hp : 0 < m.length := List.length_pos_of_mem ha
    simp; omega
def RSortPost (cs : List (Int × Int)) (w : World) (e : Ending) (w' : World) : Prop :=
  ∃ (v : Value) (ks : List Int), (e = .returned v ∧ Up ks ∧ (∀ x, x ∈ ks ↔ x ∈ cs.map kOf) ∧ OutIs w'.heap.size ks v ∧ w'.ownsRow w.heap.size 25 2 v ks.length (flatL ks)) ∧ Go.RowKit.Below w.heap.size w w'
/-- A cut's two cells. -/
def CellsAt (w : World) (b o : Nat) (c1 c2 : Int) : Prop := w.cell? ⟨b, o, none⟩ = some (.int .i64 c1) ∧ w.cell? ⟨b, o + 1, none⟩ = some (.int .i64 c2)
theorem CellsAt.below {w w' : World} {b o : Nat} {c1 c2 : Int} (h : CellsAt w b o c1 c2) (hb : Go.RowKit.Below w.heap.size w w') : CellsAt w' b o c1 c2 :=
  ⟨(hb.cell (World.block_lt_of_cell? w _ h.1)).trans h.1, (hb.cell (World.block_lt_of_cell? w _ h.2)).trans h.2⟩

end Go.Proofs.YthojkbmffiibdaaDoor

/- Contracts of the reference's spans: Right, Has. -/
namespace Go.Proofs.YthojkbmffiibdaaDoor
open Go.RowKit Go.Sort Go.Proofs.YthojkbmffiibdaaDoor.Bo
set_option linter.unusedVariables false

/-- A span's value. -/
abbrev vS (q : S4) : Value := .agg #[.int .i64 q.ls, .int .i64 q.la, .int .i64 q.hs, .int .i64 q.ha]
/-- A block that holds a span. -/
def Box4 (w : World) (b : Nat) (q : S4) : Prop := w.heap[b]? = some (.cells #[.int .i64 q.ls, .int .i64 q.la, .int .i64 q.hs, .int .i64 q.ha] 27 (0, 0))
theorem Box4.on {w w' : World} {b : Nat} {q : S4} (h : Box4 w b q) (hb : Go.RowKit.Below w.heap.size w w') : Box4 w' b q := box_on h hb
theorem Box4.cells {w : World} {b : Nat} {q : S4} (h : Box4 w b q) : w.cell? ⟨b, 0, none⟩ = some (.int .i64 q.ls) ∧ w.cell? ⟨b, 1, none⟩ = some (.int .i64 q.la) ∧ w.cell? ⟨b, 2, none⟩ = some (.int .i64 q.hs) ∧ w.cell? ⟨b, 3, none⟩ = some (.int .i64 q.ha) :=
  ⟨(cell_of_row _ _ 0 _ _ _ h).trans rfl, (cell_of_row _ _ 1 _ _ _ h).trans rfl, (cell_of_row _ _ 2 _ _ _ h).trans rfl, (cell_of_row _ _ 3 _ _ _ h).trans rfl⟩
theorem Box4.free {w : World} {b : Nat} {q : S4} (h : Box4 w b q) (i : Nat) : w.frozen? ⟨b, i, none⟩ = false := frozen_of_row _ _ i _ _ h
theorem Box4.re {w : World} {b : Nat} {q : S4} (h : Box4 w b q) : (∀ d os, (grow (redrawn w d) os).cell? ⟨b, 0, none⟩ = some (.int .i64 q.ls)) ∧ (∀ d os, (grow (redrawn w d) os).cell? ⟨b, 1, none⟩ = some (.int .i64 q.la)) ∧ (∀ d os, (grow (redrawn w d) os).cell? ⟨b, 2, none⟩ = some (.int .i64 q.hs)) ∧ (∀ d os, (grow (redrawn w d) os).cell? ⟨b, 3, none⟩ = some (.int .i64 q.ha)) :=
  ⟨cell_regrown h.cells.1, cell_regrown h.cells.2.1, cell_regrown h.cells.2.2.1, cell_regrown h.cells.2.2.2⟩
theorem eql_by (s a t b : Int) (D : Bool) (h : (s == t && a == b) = D) (w : World) : Sem.run Tryd.prog (binOp .eql 25 (.agg #[.int .i64 s, .int .i64 a]) (.agg #[.int .i64 t, .int .i64 b])) w = .ok (.bool D) w := by rw [eql_cut, h]

set_option maxRecDepth 100000 in
set_option maxHeartbeats 1000000 in
theorem rright_core (q : S4) (x1 y1 x2 y2 : Int) (B1 B2 D : Bool) (w : World)
    (e1 : ∀ w, Sem.run Tryd.prog (binOp .eql 25 (.agg #[.int .i64 x1, .int .i64 y1]) (.agg #[.int .i64 q.ls, .int .i64 q.la])) w = .ok (.bool B1) w)
    (e2 : ∀ w, Sem.run Tryd.prog (binOp .eql 25 (.agg #[.int .i64 x2, .int .i64 y2]) (.agg #[.int .i64 q.hs, .int .i64 q.ha])) w = .ok (.bool B2) w)
    (HC1 : Hid (∀ W, Calls Tryd.prog 38 #[.agg #[.int .i64 q.ls, .int .i64 q.la]] W fun e w' => e = .returned (.agg #[.int .i64 x1, .int .i64 y1]) ∧ Go.RowKit.Below W.heap.size W w'))
    (HC2 : Hid (∀ W, Calls Tryd.prog 38 #[.agg #[.int .i64 q.hs, .int .i64 q.ha]] W fun e w' => e = .returned (.agg #[.int .i64 x2, .int .i64 y2]) ∧ Go.RowKit.Below W.heap.size W w'))
    (HL : Hid (∀ W, Calls Tryd.prog 41 #[.agg #[.int .i64 q.ls, .int .i64 q.la], .agg #[.int .i64 q.hs, .int .i64 q.ha]] W fun e w' => e = .returned (.bool D) ∧ Go.RowKit.Below W.heap.size W w')) :
    Calls Tryd.prog 25 #[vS q] w fun e w' => e = .returned (.bool (B1 && B2 && D)) ∧ Go.RowKit.Below w.heap.size w w' := by
  have mx := mixed
  have HB : Hid (Box4 (w.alloc (.cells #[.int .i64 q.ls, .int .i64 q.la, .int .i64 q.hs, .int .i64 q.ha] 27)) w.heap.size q) := heap_alloc_new _ _
  have hL := below_new w (.cells #[.int .i64 q.ls, .int .i64 q.la, .int .i64 q.hs, .int .i64 q.ha] 27)
  cases B1 with
  | false =>
    go_enter Tryd.func25, Tryd.ntmps25
    go_wp2_with fail
    generalize w.alloc (.cells #[.int .i64 q.ls, .int .i64 q.la, .int .i64 q.hs, .int .i64 q.ha] 27) = X at *
    obtain ⟨p1, p2, p3, p4⟩ := HB.out.re
    refine wp_region_quiet_below (by assumption) (by kernel_rfl) ?_
    repeat (go_big_quiet_step (first
      | (go_at_call 38; with_reducible first | exact Calls.regrown_of (HC1.out _) | exact Calls.regrown_of (HC2.out _))
      | (go_at_call 41; exact Calls.regrown_of (HL.out _))))
    refine wpQuiet_nil ?_
    intro _ hw'
    obtain ⟨⟨nq, osq⟩, hw''⟩ := hw'
    subst hw''
    have hL2 := bt hL (below_regrown X nq osq)
    go_wp2_with fail
    go_ret
    exact ⟨rfl, hL2⟩

  | true =>
    cases B2 with
    | false =>
      go_enter Tryd.func25, Tryd.ntmps25
      go_wp2_with fail
      generalize w.alloc (.cells #[.int .i64 q.ls, .int .i64 q.la, .int .i64 q.hs, .int .i64 q.ha] 27) = X at *
      obtain ⟨p1, p2, p3, p4⟩ := HB.out.re
      refine wp_region_quiet_below (by assumption) (by kernel_rfl) ?_
      repeat (go_big_quiet_step (first
        | (go_at_call 38; with_reducible first | exact Calls.regrown_of (HC1.out _) | exact Calls.regrown_of (HC2.out _))
        | (go_at_call 41; exact Calls.regrown_of (HL.out _))))
      refine wpQuiet_nil ?_
      intro _ hw'
      obtain ⟨⟨nq, osq⟩, hw''⟩ := hw'
      subst hw''
      have hL2 := bt hL (below_regrown X nq osq)
      go_wp2_with fail
      go_ret
      exact ⟨rfl, hL2⟩

    | true =>
      go_enter Tryd.func25, Tryd.ntmps25
      go_wp2_with fail
      generalize w.alloc (.cells #[.int .i64 q.ls, .int .i64 q.la, .int .i64 q.hs, .int .i64 q.ha] 27) = X at *
      obtain ⟨p1, p2, p3, p4⟩ := HB.out.re
      refine wp_region_quiet_below (by assumption) (by kernel_rfl) ?_
      repeat (go_big_quiet_step (first
        | (go_at_call 38; with_reducible first | exact Calls.regrown_of (HC1.out _) | exact Calls.regrown_of (HC2.out _))
        | (go_at_call 41; exact Calls.regrown_of (HL.out _))))
      refine wpQuiet_nil ?_
      intro _ hw'
      obtain ⟨⟨nq, osq⟩, hw''⟩ := hw'
      subst hw''
      have hL2 := bt hL (below_regrown X nq osq)
      go_wp2_with fail
      go_ret
      refine ⟨?_, hL2⟩
      rw [Bool.and_self, Bool.true_and]
      rfl

theorem rright_any (q : S4) (w : World) (hq : q.ok) : Calls Tryd.prog 25 #[vS q] w fun e w' => e = .returned (.bool q.right) ∧ Go.RowKit.Below w.heap.size w w' :=
  rright_core q (sd q.lo) (pa q.lo) (sd q.hi) (pa q.hi) q.lowR q.highR (decide (q.lo < q.hi)) w (eql_by _ _ _ _ _ rfl) (eql_by _ _ _ _ _ rfl)
    (fun W => rcanon_any q.ls q.la W hq.1) (fun W => rcanon_any q.hs q.ha W hq.2) (fun W => rless_any q.ls q.la q.hs q.ha W hq.1 hq.2)

set_option maxRecDepth 100000 in
set_option maxHeartbeats 1000000 in
theorem rhas_core (q : S4) (n x y : Int) (R A B : Bool) (w : World)
    (HA : Hid (∀ W, Calls Tryd.prog 35 #[.int .i64 n] W fun e w' => e = .returned (.agg #[.int .i64 x, .int .i64 y]) ∧ Go.RowKit.Below W.heap.size W w'))
    (HR : Hid (∀ W, Calls Tryd.prog 25 #[.agg #[.int .i64 q.ls, .int .i64 q.la, .int .i64 q.hs, .int .i64 q.ha]] W fun e w' => e = .returned (.bool R) ∧ Go.RowKit.Below W.heap.size W w'))
    (HL1 : Hid (∀ W, Calls Tryd.prog 41 #[.agg #[.int .i64 x, .int .i64 y], .agg #[.int .i64 q.ls, .int .i64 q.la]] W fun e w' => e = .returned (.bool (!A)) ∧ Go.RowKit.Below W.heap.size W w'))
    (HL2 : Hid (∀ W, Calls Tryd.prog 41 #[.agg #[.int .i64 x, .int .i64 y], .agg #[.int .i64 q.hs, .int .i64 q.ha]] W fun e w' => e = .returned (.bool B) ∧ Go.RowKit.Below W.heap.size W w')) :
    Calls Tryd.prog 16 #[vS q, .int .i64 n] w fun e w' => e = .returned (.bool (R && A && B)) ∧ Go.RowKit.Below w.heap.size w w' := by
  have HB : Hid (Box4 (w.alloc (.cells #[.int .i64 q.ls, .int .i64 q.la, .int .i64 q.hs, .int .i64 q.ha] 27)) w.heap.size q) := heap_alloc_new _ _
  have hL := below_new w (.cells #[.int .i64 q.ls, .int .i64 q.la, .int .i64 q.hs, .int .i64 q.ha] 27)
  cases R with
  | false =>
    go_enter Tryd.func16, Tryd.ntmps16
    go_wp2_with fail
    refine (HA.out _).mono ?_
    rintro e x1 ⟨rfl, hB1⟩
    have hB2 := bt hB1 (below_new x1 (.cells #[.int .i64 x, .int .i64 y] 25))
    have HB2 := Lib.hid (HB.out.on hB2)
    have HC2 := Lib.hid (heap_alloc_new x1 (.cells #[.int .i64 x, .int .i64 y] 25))
    have hL2 := bt hL hB2
    obtain ⟨c1, c2, c3, c4⟩ := HB2.out.cells
    clear hB1 hB2 hL HB
    go_wp2_with fail
    generalize x1.alloc (.cells #[.int .i64 x, .int .i64 y] 25) = X at *
    refine (HR.out _).mono ?_
    rintro e x2 ⟨rfl, hB3⟩
    have hL3 := bt hL2 hB3
    have HB3 := Lib.hid (HB2.out.on hB3)
    have HC3 := Lib.hid (box_on HC2.out hB3)
    obtain ⟨d1, d2, d3, d4⟩ := HB3.out.cells
    obtain ⟨d5, d6, _, _⟩ := two_cells HC3.out
    clear hL2 hB3 c1 c2 c3 c4
    go_wp2_with fail
    go_ret
    exact ⟨rfl, hL3⟩

  | true =>
    cases A with
    | false =>
      go_enter Tryd.func16, Tryd.ntmps16
      go_wp2_with fail
      refine (HA.out _).mono ?_
      rintro e x1 ⟨rfl, hB1⟩
      have hB2 := bt hB1 (below_new x1 (.cells #[.int .i64 x, .int .i64 y] 25))
      have HB2 := Lib.hid (HB.out.on hB2)
      have HC2 := Lib.hid (heap_alloc_new x1 (.cells #[.int .i64 x, .int .i64 y] 25))
      have hL2 := bt hL hB2
      obtain ⟨c1, c2, c3, c4⟩ := HB2.out.cells
      clear hB1 hB2 hL HB
      go_wp2_with fail
      generalize x1.alloc (.cells #[.int .i64 x, .int .i64 y] 25) = X at *
      refine (HR.out _).mono ?_
      rintro e x2 ⟨rfl, hB3⟩
      have hL3 := bt hL2 hB3
      have HB3 := Lib.hid (HB2.out.on hB3)
      have HC3 := Lib.hid (box_on HC2.out hB3)
      obtain ⟨d1, d2, d3, d4⟩ := HB3.out.cells
      obtain ⟨d5, d6, _, _⟩ := two_cells HC3.out
      clear hL2 hB3 c1 c2 c3 c4
      go_wp2_with fail
      refine (HL1.out _).mono ?_
      rintro e x3 ⟨rfl, hB4⟩
      have hL4 := bt hL3 hB4
      have HB4 := Lib.hid (HB3.out.on hB4)
      have HC4 := Lib.hid (box_on HC3.out hB4)
      clear d1 d2 d3 d4 d5 d6
      obtain ⟨d1, d2, d3, d4⟩ := HB4.out.cells
      obtain ⟨d5, d6, _, _⟩ := two_cells HC4.out
      go_wp2_with fail
      go_ret
      exact ⟨rfl, hL4⟩

    | true =>
      go_enter Tryd.func16, Tryd.ntmps16
      go_wp2_with fail
      refine (HA.out _).mono ?_
      rintro e x1 ⟨rfl, hB1⟩
      have hB2 := bt hB1 (below_new x1 (.cells #[.int .i64 x, .int .i64 y] 25))
      have HB2 := Lib.hid (HB.out.on hB2)
      have HC2 := Lib.hid (heap_alloc_new x1 (.cells #[.int .i64 x, .int .i64 y] 25))
      have hL2 := bt hL hB2
      obtain ⟨c1, c2, c3, c4⟩ := HB2.out.cells
      clear hB1 hB2 hL HB
      go_wp2_with fail
      generalize x1.alloc (.cells #[.int .i64 x, .int .i64 y] 25) = X at *
      refine (HR.out _).mono ?_
      rintro e x2 ⟨rfl, hB3⟩
      have hL3 := bt hL2 hB3
      have HB3 := Lib.hid (HB2.out.on hB3)
      have HC3 := Lib.hid (box_on HC2.out hB3)
      obtain ⟨d1, d2, d3, d4⟩ := HB3.out.cells
      obtain ⟨d5, d6, _, _⟩ := two_cells HC3.out
      clear hL2 hB3 c1 c2 c3 c4
      go_wp2_with fail
      refine (HL1.out _).mono ?_
      rintro e x3 ⟨rfl, hB4⟩
      have hL4 := bt hL3 hB4
      have HB4 := Lib.hid (HB3.out.on hB4)
      have HC4 := Lib.hid (box_on HC3.out hB4)
      clear d1 d2 d3 d4 d5 d6
      obtain ⟨d1, d2, d3, d4⟩ := HB4.out.cells
      obtain ⟨d5, d6, _, _⟩ := two_cells HC4.out
      go_wp2_with fail
      refine (HL2.out _).mono ?_
      rintro e x4 ⟨rfl, hB5⟩
      go_wp2_with fail
      go_ret
      refine ⟨?_, bt hL4 hB5⟩
      rw [Bool.and_self, Bool.true_and]
      rfl

theorem rhas_any (q : S4) (n : Int) (w : World) (hq : q.ok) (hn : I64 n) : Calls Tryd.prog 16 #[vS q, .int .i64 n] w fun e w' => e = .returned (.bool (q.has n)) ∧ Go.RowKit.Below w.heap.size w w' := by
  have hk : Ky n := by unfold I64 at hn; unfold Ky; omega
  have e1 : decide (key (sd n) (pa n) < key q.ls q.la) = !decide (q.lo ≤ n) := by
    rw [key_back n hk]
    show decide (n < q.lo) = _
    by_cases h : q.lo ≤ n
    · rw [decide_eq_true h]; exact decide_eq_false (by omega)
    · rw [decide_eq_false h]; exact decide_eq_true (by omega)
  have e2 : decide (key (sd n) (pa n) < key q.hs q.ha) = decide (n < q.hi) := by rw [key_back n hk]; rfl
  exact rhas_core q n (sd n) (pa n) q.right (decide (q.lo ≤ n)) (decide (n < q.hi)) w (fun W => rahead_any n W hn) (fun W => rright_any q W hq) (fun W => rless_b _ _ _ _ _ e1 (pa_i64 n hk) hq.1 W) (fun W => rless_b _ _ _ _ _ e2 (pa_i64 n hk) hq.2 W)
end Go.Proofs.YthojkbmffiibdaaDoor

/- Contracts of the reference's spans: Any, One, Same, Sorted. -/
namespace Go.Proofs.YthojkbmffiibdaaDoor
open Go.RowKit Go.Sort Go.Proofs.YthojkbmffiibdaaDoor.Bo
set_option linter.unusedVariables false

/-- A span's four cells. -/
def Cells4 (w : World) (b o : Nat) (q : S4) : Prop := w.cell? ⟨b, o, none⟩ = some (.int .i64 q.ls) ∧ w.cell? ⟨b, o + 1, none⟩ = some (.int .i64 q.la) ∧ w.cell? ⟨b, o + 2, none⟩ = some (.int .i64 q.hs) ∧ w.cell? ⟨b, o + 3, none⟩ = some (.int .i64 q.ha)
theorem Cells4.below {w w' : World} {b o : Nat} {q : S4} (h : Cells4 w b o q) (hb : Go.RowKit.Below w.heap.size w w') : Cells4 w' b o q :=
  ⟨(hb.cell (World.block_lt_of_cell? w _ h.1)).trans h.1, (hb.cell (World.block_lt_of_cell? w _ h.2.1)).trans h.2.1, (hb.cell (World.block_lt_of_cell? w _ h.2.2.1)).trans h.2.2.1, (hb.cell (World.block_lt_of_cell? w _ h.2.2.2)).trans h.2.2.2⟩
theorem Cells4.re {w : World} {b o : Nat} {q : S4} (h : Cells4 w b o q) : (∀ d os, (grow (redrawn w d) os).cell? ⟨b, o, none⟩ = some (.int .i64 q.ls)) ∧ (∀ d os, (grow (redrawn w d) os).cell? ⟨b, o + 1, none⟩ = some (.int .i64 q.la)) ∧ (∀ d os, (grow (redrawn w d) os).cell? ⟨b, o + 2, none⟩ = some (.int .i64 q.hs)) ∧ (∀ d os, (grow (redrawn w d) os).cell? ⟨b, o + 3, none⟩ = some (.int .i64 q.ha)) :=
  ⟨cell_regrown h.1, cell_regrown h.2.1, cell_regrown h.2.2.1, cell_regrown h.2.2.2⟩
/-- A slice of spans that holds l. -/
def SRow (w : World) (a : Option Addr) (l : List S4) : Prop := 0 < l.length → ∃ b off, a = some ⟨b, off, none⟩ ∧ ∀ (j : Nat) (h : j < l.length), Cells4 w b (off + j * 4) l[j]
theorem SRow.below {w w' : World} {a : Option Addr} {l : List S4} (h : SRow w a l) (hb : Go.RowKit.Below w.heap.size w w') : SRow w' a l := by
  intro hp
  obtain ⟨b, off, e, hc⟩ := h hp
  exact ⟨b, off, e, fun j hj => (hc j hj).below hb⟩

theorem eqIn_cut (s a t b : Int) (w : World) : (Op.equalIn 9999 25 (.agg #[.int .i64 s, .int .i64 a]) (.agg #[.int .i64 t, .int .i64 b])).run Tryd.prog w = .ok (s == t && a == b) w := by
  have hS : Tryd.prog.underlying 25 = some (.struct (Tryd.prog.fieldsOf 25)) := by kernel_rfl
  have hp : Tryd.prog.stoodInHeld 25 = false := by kernel_rfl
  have u3 := Tryd.underlying3
  have u2 := Tryd.underlying2
  rw [show (9999 : Nat) = 9998 + 1 from rfl, run_equalIn_agg w 9998 25 _ _ hS hp]
  simp only [Program.fieldsOf, Tryd.underlying25]
  go_simp
  by_cases h1 : s = t <;> by_cases h2 : a = b <;> simp [h1, h2]
theorem part_low (a b c d : Value) (w : World) : (part 25 #[a, b, c, d] 0).run Tryd.prog w = .ok (.agg #[a, b]) w := by
  have h1 := Tryd.isAgg25
  have h2 := Tryd.sizeOf25
  unfold part
  simp [Sem.run_bind, h1, h2, Result.andThen]
theorem part_high (a b c d : Value) (w : World) : (part 25 #[a, b, c, d] 2).run Tryd.prog w = .ok (.agg #[c, d]) w := by
  have h1 := Tryd.isAgg25
  have h2 := Tryd.sizeOf25
  unfold part
  simp [Sem.run_bind, h1, h2, Result.andThen]
theorem eqSpan_run (q r : S4) (w : World) : (Op.equalIn 10000 27 (.agg #[.int .i64 q.ls, .int .i64 q.la, .int .i64 q.hs, .int .i64 q.ha]) (.agg #[.int .i64 r.ls, .int .i64 r.la, .int .i64 r.hs, .int .i64 r.ha])).run Tryd.prog w = .ok (q.ls == r.ls && q.la == r.la && (q.hs == r.hs && q.ha == r.ha)) w := by
  have hS : Tryd.prog.underlying 27 = some (.struct (Tryd.prog.fieldsOf 27)) := by kernel_rfl
  have hp : Tryd.prog.stoodInHeld 27 = false := by kernel_rfl
  have h1 := eqIn_cut
  rw [show (10000 : Nat) = 9999 + 1 from rfl, run_equalIn_agg w 9999 27 _ _ hS hp]
  simp only [Program.fieldsOf, Tryd.underlying27]
  generalize 9999 = N at *
  simp [Op.eqFields, Sem.run_bind, part_low, part_high, h1, Result.andThen]
  by_cases a1 : q.ls = r.ls <;> by_cases a2 : q.la = r.la <;> by_cases a3 : q.hs = r.hs <;> by_cases a4 : q.ha = r.ha <;> simp [a1, a2, a3, a4]
theorem eql_span (q r : S4) (w : World) : Sem.run Tryd.prog (binOp .eql 27 (.agg #[.int .i64 q.ls, .int .i64 q.la, .int .i64 q.hs, .int .i64 q.ha]) (.agg #[.int .i64 r.ls, .int .i64 r.la, .int .i64 r.hs, .int .i64 r.ha])) w = .ok (.bool (q.ls == r.ls && q.la == r.la && (q.hs == r.hs && q.ha == r.ha))) w := by
  rw [run_eql_struct, eqSpan_run]; rfl
theorem neq_span (q r : S4) (w : World) : Sem.run Tryd.prog (binOp .neq 27 (.agg #[.int .i64 q.ls, .int .i64 q.la, .int .i64 q.hs, .int .i64 q.ha]) (.agg #[.int .i64 r.ls, .int .i64 r.la, .int .i64 r.hs, .int .i64 r.ha])) w = .ok (.bool (!(q.ls == r.ls && q.la == r.la && (q.hs == r.hs && q.ha == r.ha)))) w := by
  rw [run_neq_struct, eqSpan_run]; rfl
/-- A span is itself. -/
theorem neq_self (q : S4) (w : World) : Sem.run Tryd.prog (binOp .neq 27 (.agg #[.int .i64 q.ls, .int .i64 q.la, .int .i64 q.hs, .int .i64 q.ha]) (.agg #[.int .i64 q.ls, .int .i64 q.la, .int .i64 q.hs, .int .i64 q.ha])) w = .ok (.bool false) w := by
  rw [neq_span]; simp

/-- Is each right, and behind the one ahead? -/
def okAt (l : List S4) (j : Nat) (h : j < l.length) : Bool := l[j].right && (if hj : 0 < j then !decide (l[j].lo < (l[j - 1]'(by omega)).hi) else true)
/-- All of a row's are as they must be. -/
def sortedL (l : List S4) : Prop := ∀ j (h : j < l.length), okAt l j h = true

end Go.Proofs.YthojkbmffiibdaaDoor

/- Contracts of the reference's spans: Cuts. -/
namespace Go.Proofs.YthojkbmffiibdaaDoor
open Go.RowKit Go.Sort Go.Proofs.YthojkbmffiibdaaDoor.Bo
set_option linter.unusedVariables false

/-- The keys of a row of pairs. -/
def keysOf (ps : List (Int × Int)) : List Int := ps.flatMap fun p => [p.1, p.2]
theorem keysOf_snoc (ps : List (Int × Int)) (p : Int × Int) : keysOf (ps ++ [p]) = keysOf ps ++ [p.1, p.2] := by
  unfold keysOf; rw [List.flatMap_append]; simp
theorem keysOf_len (ps : List (Int × Int)) : (keysOf ps).length = ps.length * 2 := by
  unfold keysOf
  induction ps with
  | nil => rfl
  | cons a l ih => rw [List.flatMap_cons, List.length_append, ih]; simp; omega
theorem keysOf_mem (ps : List (Int × Int)) (x : Int) : x ∈ keysOf ps ↔ ∃ p ∈ ps, x = p.1 ∨ x = p.2 := by
  unfold keysOf; rw [List.mem_flatMap]; simp
theorem flatL_two (ks : List Int) (k l : Int) : flatL (ks ++ [k, l]) = flatL ks ++ [.int .i64 (sd k), .int .i64 (pa k), .int .i64 (sd l), .int .i64 (pa l)] := by
  unfold flatL; rw [List.flatMap_append]; simp
theorem rights_take (l : List S4) (j : Nat) (hj : j < l.length) : rights (l.take (j + 1)) = rights (l.take j) ++ (if l[j].right = true then [(l[j].lo, l[j].hi)] else []) := by
  unfold rights
  rw [List.take_succ_eq_append_getElem hj, List.filter_append, List.map_append]
  congr 1
  by_cases h : l[j].right = true <;> simp [h]
theorem rights_len (l : List S4) : (rights l).length ≤ l.length := by
  unfold rights; rw [List.length_map]; exact List.length_filter_le ..
theorem one_four (a b c d : Int) : ∀ u ∈ ([.int .i64 a, .int .i64 b, .int .i64 c, .int .i64 d] : List Value), u.oneCell' = true := by
  intro u hu
  simp at hu
  rcases hu with rfl | rfl | rfl | rfl <;> rfl
theorem Cells4.far {w w' : World} {row : Option Nat} {b o : Nat} {q : S4} (h : Cells4 w b o q) (hg : w.grownBy w' row) (hne : some b ≠ row) : Cells4 w' b o q :=
  ⟨hg.cell h.1 hne, hg.cell h.2.1 hne, hg.cell h.2.2.1 hne, hg.cell h.2.2.2 hne⟩
/-- A slice of cuts that holds those of these keys. -/
def KRow (w : World) (a : Option Addr) (ks : List Int) : Prop := 0 < ks.length → ∃ b off, a = some ⟨b, off, none⟩ ∧ ∀ (j : Nat) (h : j < ks.length), CellsAt w b (off + j * 2) (sd ks[j]) (pa ks[j])
theorem KRow.below {w w' : World} {a : Option Addr} {ks : List Int} (h : KRow w a ks) (hb : Go.RowKit.Below w.heap.size w w') : KRow w' a ks := by
  intro hp
  obtain ⟨b, off, e, hc⟩ := h hp
  exact ⟨b, off, e, fun j hj => (hc j hj).below hb⟩
theorem KRow.of_own {w : World} {base cap n : Nat} {a : Option Addr} {ks : List Int} (h : w.ownsRow base 25 2 (.slice a n cap) n (flatL ks)) (hn : n = ks.length) : KRow w a ks := by
  intro hp
  rcases h.2 with ⟨h1, h2⟩ | ⟨g, cap', cur, h1, r⟩
  · omega
  · injection h1 with e1 e2 e3
    subst e1
    exact ⟨g, 0, rfl, fun j hj => by rw [Nat.zero_add]; exact own_cells h hn j hj⟩
theorem KRow.crow {w : World} {a : Option Addr} {ks : List Int} (h : KRow w a ks) : CRow w a (ks.map fun k => (sd k, pa k)) := by
  intro hp
  rw [List.length_map] at hp
  obtain ⟨b, off, e, hc⟩ := h hp
  refine ⟨b, off, e, fun j hj => ?_⟩
  rw [List.length_map] at hj
  rw [List.getElem_map]
  exact hc j hj
theorem map_kOf (ks : List Int) (h : ∀ k ∈ ks, Ky k) : (ks.map fun k => (sd k, pa k)).map kOf = ks := by
  rw [List.map_map]
  conv => rhs; rw [← List.map_id ks]
  exact List.map_congr_left fun k hk => key_back k (h k hk)
/-- The keys of a row of right spans, rising, each once. -/
def CutsPost (l : List S4) (w : World) (e : Ending) (w' : World) : Prop :=
  ∃ (a : Option Addr) (cap : Nat) (ks : List Int), (e = .returned (.slice a ks.length cap) ∧ Up ks ∧ (∀ x, x ∈ ks ↔ x ∈ keysOf (rights l)) ∧ KRow w' a ks) ∧ Go.RowKit.Below w.heap.size w w'
theorem CutsPost.of_sort {ks0 : List Int} {l : List S4} {w : World} {e : Ending} {w' : World} (hk : ks0 = keysOf (rights l)) (hky : ∀ k ∈ ks0, Ky k) (h : RSortPost (ks0.map fun k => (sd k, pa k)) w e w') : CutsPost l w e w' := by
  obtain ⟨v, ks, ⟨rfl, hup, hmem, hout, hown⟩, hB⟩ := h
  rw [map_kOf _ hky] at hmem
  subst hk
  rcases hout with ⟨rfl, rfl⟩ | ⟨g, cap, q, hq, rfl, hg⟩
  · exact ⟨none, 0, [], ⟨rfl, hup, hmem, fun h => absurd h (by simp)⟩, hB⟩
  · refine ⟨some ⟨g, 0, none⟩, cap, ks, ⟨by rw [hq], hup, hmem, ?_⟩, hB⟩
    rw [hq] at hown
    exact KRow.of_own hown hq.symm

end Go.Proofs.YthojkbmffiibdaaDoor

/- The joining of pieces between rising cuts. -/
namespace Go.Proofs.YthojkbmffiibdaaDoor.Bo
theorem up_lt (ks : List Int) (h : Up ks) (i j : Nat) (hj : j < ks.length) (hij : i < j) : ks[i] < ks[j] := List.pairwise_iff_getElem.1 h i j (by omega) hj hij
theorem up_le (ks : List Int) (h : Up ks) (i j : Nat) (hj : j < ks.length) (hij : i ≤ j) : ks[i] ≤ ks[j] := by
  rcases Nat.lt_or_ge i j with h1 | h1
  · exact Int.le_of_lt (up_lt ks h i j hj h1)
  · have : i = j := by omega
    subst this; exact Int.le_refl _
/-- All cuts of a row are named. -/
def Named (ps : List (Int × Int)) (ks : List Int) : Prop := ∀ p ∈ ps, p.1 ∈ ks ∧ p.2 ∈ ks
theorem cov_piece (ps : List (Int × Int)) (ks : List Int) (hup : Up ks) (hs : Named ps ks) (i : Nat) (hi : i + 1 < ks.length) (n : Int) (h1 : ks[i] ≤ n) (h2 : n < ks[i + 1]) : cov ps n ↔ cov ps ks[i] := by
  constructor
  · rintro ⟨p, hp, h3, h4⟩
    obtain ⟨a, b⟩ := hs p hp
    obtain ⟨x, hx, ex⟩ := List.mem_iff_getElem.1 a
    refine ⟨p, hp, ?_, by omega⟩
    rcases Nat.lt_or_ge i x with h5 | h5
    · have := up_le ks hup (i + 1) x hx (by omega); omega
    · have := up_le ks hup x i (by omega) h5; omega
  · rintro ⟨p, hp, h3, h4⟩
    obtain ⟨a, b⟩ := hs p hp
    obtain ⟨x, hx, ex⟩ := List.mem_iff_getElem.1 b
    refine ⟨p, hp, by omega, ?_⟩
    rcases Nat.lt_or_ge i x with h5 | h5
    · have := up_le ks hup (i + 1) x hx (by omega); omega
    · have := up_le ks hup x i (by omega) h5; omega
theorem cov_first (ps : List (Int × Int)) (ks : List Int) (hup : Up ks) (hs : Named ps ks) (n : Int) (h : cov ps n) : ∃ h : 0 < ks.length, ks[0] ≤ n := by
  obtain ⟨p, hp, h3, h4⟩ := h
  obtain ⟨x, hx, ex⟩ := List.mem_iff_getElem.1 (hs p hp).1
  refine ⟨by omega, ?_⟩
  have := up_le ks hup 0 x hx (by omega); omega
theorem cov_last (ps : List (Int × Int)) (ks : List Int) (hup : Up ks) (hs : Named ps ks) (n : Int) (h : cov ps n) : ∃ h : ks.length - 1 < ks.length, n < ks[ks.length - 1] := by
  obtain ⟨p, hp, h3, h4⟩ := h
  obtain ⟨x, hx, ex⟩ := List.mem_iff_getElem.1 (hs p hp).2
  refine ⟨by omega, ?_⟩
  have := up_le ks hup x (ks.length - 1) (by omega) (by omega); omega

/-- Up to the key k, ps has just the numbers of C. -/
structure Upto (C : Int → Prop) (ks : List Int) (k : Int) (ps : List (Int × Int)) : Prop where
  lt : ∀ p ∈ ps, p.1 < p.2
  named : Named ps ks
  le : ∀ p ∈ ps, p.2 ≤ k
  cov : ∀ n, cov ps n ↔ C n ∧ n < k
theorem Upto.skip {C : Int → Prop} {ks : List Int} {k k' : Int} {ps : List (Int × Int)} (h : Upto C ks k ps) (hk : k < k') (hC : ∀ n, k ≤ n → n < k' → (C n ↔ C k)) (hno : ¬ C k) : Upto C ks k' ps := by
  refine ⟨h.lt, h.named, fun p hp => by have := h.le p hp; omega, fun n => ?_⟩
  rw [h.cov n]
  constructor
  · rintro ⟨a, b⟩; exact ⟨a, by omega⟩
  · rintro ⟨a, b⟩
    refine ⟨a, ?_⟩
    rcases Int.lt_or_le n k with h1 | h1
    · exact h1
    · exact absurd ((hC n h1 b).1 a) hno
theorem Upto.put {C : Int → Prop} {ks : List Int} {k k' : Int} {ps : List (Int × Int)} (h : Upto C ks k ps) (hk : k < k') (hC : ∀ n, k ≤ n → n < k' → (C n ↔ C k)) (hyes : C k) (m1 : k ∈ ks) (m2 : k' ∈ ks) : Upto C ks k' (ps ++ [(k, k')]) := by
  refine ⟨?_, ?_, ?_, fun n => ?_⟩
  · intro p hp
    rcases List.mem_append.1 hp with e | e
    · exact h.lt p e
    · rw [List.mem_singleton.1 e]; exact hk
  · intro p hp
    rcases List.mem_append.1 hp with e | e
    · exact h.named p e
    · rw [List.mem_singleton.1 e]; exact ⟨m1, m2⟩
  · intro p hp
    rcases List.mem_append.1 hp with e | e
    · have := h.le p e; omega
    · rw [List.mem_singleton.1 e]; exact Int.le_refl _
  · rw [cov_append, h.cov n, cov_cons]
    constructor
    · rintro (⟨a, b⟩ | a | a)
      · exact ⟨a, by omega⟩
      · exact ⟨(hC n a.1 a.2).2 hyes, a.2⟩
      · exact absurd a (cov_nil _)
    · rintro ⟨a, b⟩
      rcases Int.lt_or_le n k with h1 | h1
      · exact .inl ⟨a, h1⟩
      · exact .inr (.inl ⟨h1, b⟩)
theorem Upto.join {C : Int → Prop} {ks : List Int} {k k' x : Int} {ps : List (Int × Int)} (h : Upto C ks k (ps ++ [(x, k)])) (hk : k < k') (hC : ∀ n, k ≤ n → n < k' → (C n ↔ C k)) (hyes : C k) (m2 : k' ∈ ks) : Upto C ks k' (ps ++ [(x, k')]) := by
  have hx : x < k := h.lt (x, k) (by simp)
  refine ⟨?_, ?_, ?_, fun n => ?_⟩
  · intro p hp
    rcases List.mem_append.1 hp with e | e
    · exact h.lt p (List.mem_append_left _ e)
    · rw [List.mem_singleton.1 e]; show x < k'; omega
  · intro p hp
    rcases List.mem_append.1 hp with e | e
    · exact h.named p (List.mem_append_left _ e)
    · rw [List.mem_singleton.1 e]; exact ⟨(h.named (x, k) (by simp)).1, m2⟩
  · intro p hp
    rcases List.mem_append.1 hp with e | e
    · have := h.le p (List.mem_append_left _ e); omega
    · rw [List.mem_singleton.1 e]; exact Int.le_refl _
  · have h1 := h.cov n
    rw [cov_append, cov_cons] at h1 ⊢
    constructor
    · rintro (a | a | a)
      · have := h1.1 (.inl a); exact ⟨this.1, by omega⟩
      · rcases Int.lt_or_le n k with h2 | h2
        · exact ⟨(h1.1 (.inr (.inl ⟨a.1, h2⟩))).1, a.2⟩
        · exact ⟨(hC n h2 a.2).2 hyes, a.2⟩
      · exact absurd a (cov_nil _)
    · rintro ⟨a, b⟩
      rcases Int.lt_or_le n k with h2 | h2
      · rcases h1.2 ⟨a, h2⟩ with c | c | c
        · exact .inl c
        · exact .inr (.inl ⟨c.1, by have := c.2; show n < k'; omega⟩)
        · exact absurd c (cov_nil _)
      · exact .inr (.inl ⟨by show x ≤ n; omega, b⟩)
theorem norm_put {ps : List (Int × Int)} {k k' : Int} (h : Norm ps) (hk : k < k') (hl : ∀ p ∈ ps, p.2 < k) : Norm (ps ++ [(k, k')]) := by
  refine ⟨?_, List.pairwise_append.2 ⟨h.2, List.pairwise_singleton .., ?_⟩⟩
  · intro p hp
    rcases List.mem_append.1 hp with e | e
    · exact h.1 p e
    · rw [List.mem_singleton.1 e]; exact hk
  · intro p hp q hq
    rw [List.mem_singleton.1 hq]; exact hl p hp
theorem norm_join {ps : List (Int × Int)} {k k' x : Int} (h : Norm (ps ++ [(x, k)])) (hk : k < k') : Norm (ps ++ [(x, k')]) := by
  obtain ⟨h1, h2⟩ := h
  obtain ⟨a, b, c⟩ := List.pairwise_append.1 h2
  have hx : x < k := h1 (x, k) (by simp)
  refine ⟨?_, List.pairwise_append.2 ⟨a, List.pairwise_singleton .., ?_⟩⟩
  · intro p hp
    rcases List.mem_append.1 hp with e | e
    · exact h1 p (List.mem_append_left _ e)
    · rw [List.mem_singleton.1 e]; show x < k'; omega
  · intro p hp q hq
    rw [List.mem_singleton.1 hq]; exact c p hp (x, k) (by simp)
/-- The last one's end, where it is not k, lies below: and so do all. -/
theorem norm_all_lt {ps : List (Int × Int)} {k : Int} {p : Int × Int} (h : Norm (ps ++ [p])) (hp : p.2 < k) : ∀ q ∈ ps ++ [p], q.2 < k := by
  obtain ⟨h1, h2⟩ := h
  obtain ⟨a, b, c⟩ := List.pairwise_append.1 h2
  intro q hq
  rcases List.mem_append.1 hq with e | e
  · have h3 := c q e p (by simp)
    have h4 := h1 p (by simp)
    omega
  · rw [List.mem_singleton.1 e]; exact hp
theorem upto_nil (C : Int → Prop) (ks : List Int) (k : Int) (h : ∀ n, C n → k ≤ n) : Upto C ks k [] :=
  ⟨by simp, (fun p hp => by simp at hp), by simp, fun n => ⟨fun a => absurd a (cov_nil _), fun ⟨a, b⟩ => by have := h n a; omega⟩⟩
theorem named_rights (ps : List (Int × Int)) (ks : List Int) (h : ∀ p ∈ ps, ∀ x, (x = p.1 ∨ x = p.2) → x ∈ ks) : Named ps ks := fun p hp => ⟨h p hp _ (.inl rfl), h p hp _ (.inr rfl)⟩
end Go.Proofs.YthojkbmffiibdaaDoor.Bo

/- Contracts of the reference's spans: List. -/
namespace Go.Proofs.YthojkbmffiibdaaDoor
open Go.RowKit Go.Sort Go.Proofs.YthojkbmffiibdaaDoor.Bo
set_option linter.unusedVariables false

theorem Tryd.infoSpan : (Tryd.prog.info? 27).map (fun i => (i.zero, i.size, i.bytes)) = some (some (.agg #[.int .i64 0, .int .i64 0, .int .i64 0, .int .i64 0]), 4, 32) := by kernel_rfl
theorem keysOf_get (ps : List (Int × Int)) (j : Nat) (hj : j < ps.length) : ∃ (h1 : j * 2 < (keysOf ps).length) (h2 : j * 2 + 1 < (keysOf ps).length), (keysOf ps)[j * 2] = ps[j].1 ∧ (keysOf ps)[j * 2 + 1] = ps[j].2 := by
  have hl := keysOf_len ps
  refine ⟨by omega, by omega, ?_⟩
  induction ps generalizing j with
  | nil => simp at hj
  | cons a l ih =>
    cases j with
    | zero => exact ⟨rfl, rfl⟩
    | succ j =>
      have := ih j (by simpa using hj) (keysOf_len l)
      have e1 : keysOf (a :: l) = a.1 :: a.2 :: keysOf l := rfl
      simp only [e1, show (j + 1) * 2 = j * 2 + 1 + 1 by omega, List.getElem_cons_succ]
      exact this
theorem flatL_len (ks : List Int) : (flatL ks).length = ks.length * 2 := by
  unfold flatL
  induction ks with
  | nil => rfl
  | cons a l ih => rw [List.flatMap_cons, List.length_append, ih]; simp; omega
theorem CellsAt.far {w w' : World} {row : Option Nat} {b o : Nat} {c1 c2 : Int} (h : CellsAt w b o c1 c2) (hg : w.grownBy w' row) (hne : some b ≠ row) : CellsAt w' b o c1 c2 := ⟨hg.cell h.1 hne, hg.cell h.2 hne⟩
theorem own_put {w : World} {base g cap n size : Nat} {e : TypeId} {xs : List Value} (h : w.ownsRow base e size (.slice (some ⟨g, 0, none⟩) n cap) n xs) (i : Nat) (v : Value) : (w.setCell ⟨g, i, none⟩ v).ownsRow base e size (.slice (some ⟨g, 0, none⟩) n cap) n (xs.set i v) := by
  obtain ⟨h1, h2⟩ := h
  refine ⟨by rw [List.length_set]; exact h1, ?_⟩
  rcases h2 with ⟨h2, _⟩ | ⟨g', cap', cur, hv, hg, hh, h3, h4, h5, h6⟩
  · cases h2
  · injection hv with e1 e2 e3
    injection e1 with e1
    injection e1 with e1
    subst e1 e3
    refine .inr ⟨g, cap, _, rfl, hg, heap_setCell_same _ _ _ _ _ _ hh, h3, h4, by simpa using h5, ?_⟩
    rw [← h6]
    simp [List.take_set]
/-- A slice of spans of one's own reads as such. -/
theorem own_srow {w : World} {base cap n : Nat} {a : Option Addr} {ps : List (Int × Int)} (h : w.ownsRow base 27 4 (.slice a n cap) n (flatL (keysOf ps))) (hn : n = ps.length) : SRow w a (ps.map sp) := by
  intro hp
  rw [List.length_map] at hp
  rcases h.2 with ⟨h1, h2⟩ | ⟨g, cap', cur, h1, hb, hh, hnc, hcm, hcs, htake⟩
  · omega
  · injection h1 with e1 e2 e3
    subst e1
    refine ⟨g, 0, rfl, fun j hj => ?_⟩
    rw [List.length_map] at hj
    rw [List.getElem_map]
    obtain ⟨k1, k2, e3, e4⟩ := keysOf_get ps j hj
    obtain ⟨f1, f2⟩ := flatL_get (keysOf ps) (j * 2) k1
    obtain ⟨f3, f4⟩ := flatL_get (keysOf ps) (j * 2 + 1) k2
    rw [e3] at f1 f2
    rw [e4] at f3 f4
    rw [← htake, List.getElem?_take, if_pos (by omega)] at f1 f2 f3 f4
    rw [show 0 + j * 4 = j * 2 * 2 by omega]
    refine ⟨(cell_of_row _ _ _ _ _ _ hh).trans (by simpa [sp] using f1), (cell_of_row _ _ _ _ _ _ hh).trans (by simpa [sp] using f2), ?_, ?_⟩
    · rw [show j * 2 * 2 + 2 = (j * 2 + 1) * 2 by omega]
      exact (cell_of_row _ _ _ _ _ _ hh).trans (by simpa [sp] using f3)
    · rw [show j * 2 * 2 + 3 = (j * 2 + 1) * 2 + 1 by omega]
      exact (cell_of_row _ _ _ _ _ _ hh).trans (by simpa [sp] using f4)
/-- The last span's end is put anew. -/
theorem own_join {w : World} {base cap n g : Nat} {ps : List (Int × Int)} {x k : Int} (k' : Int) (h : w.ownsRow base 27 4 (.slice (some ⟨g, 0, none⟩) n cap) n (flatL (keysOf (ps ++ [(x, k)])))) (o : Nat) (ho : o = ps.length * 4) :
    ((((w.setCell ⟨g, o, none⟩ (.int .i64 (sd x))).setCell ⟨g, o + 1, none⟩ (.int .i64 (pa x))).setCell ⟨g, o + 2, none⟩ (.int .i64 (sd k'))).setCell ⟨g, o + 3, none⟩ (.int .i64 (pa k'))).ownsRow base 27 4 (.slice (some ⟨g, 0, none⟩) n cap) n (flatL (keysOf (ps ++ [(x, k')]))) := by
  have hl : (flatL (keysOf ps)).length = o := by rw [flatL_len, keysOf_len]; omega
  have := own_put (own_put (own_put (own_put h o (.int .i64 (sd x))) (o + 1) (.int .i64 (pa x))) (o + 2) (.int .i64 (sd k'))) (o + 3) (.int .i64 (pa k'))
  rw [keysOf_snoc, flatL_two] at this ⊢
  subst hl
  simpa using this

abbrev put4 (w : World) (g o : Nat) (v1 v2 v3 v4 : Value) : World := (((w.setCell ⟨g, o, none⟩ v1).setCell ⟨g, o + 1, none⟩ v2).setCell ⟨g, o + 2, none⟩ v3).setCell ⟨g, o + 3, none⟩ v4
theorem cell_drew (w : World) (a : Addr) : w.drew.cell? a = w.cell? a := by rfl
theorem put4_keep {X : World} {g o b i1 i2 : Nat} {v1 v2 v3 v4 u1 u2 : Value} (hne : b ≠ g) (h1 : X.cell? ⟨b, i1, none⟩ = some u1) (h2 : X.cell? ⟨b, i2, none⟩ = some u2) (h3 : X.cell? ⟨g, o, none⟩ = some v1) (h4 : X.cell? ⟨g, o + 1, none⟩ = some v2) :
    (put4 X g o v1 v2 v3 v4).drew.cell? ⟨b, i1, none⟩ = some u1 ∧ (put4 X g o v1 v2 v3 v4).drew.cell? ⟨b, i2, none⟩ = some u2 ∧ (put4 X g o v1 v2 v3 v4).drew.cell? ⟨g, o, none⟩ = some v1 ∧ (put4 X g o v1 v2 v3 v4).drew.cell? ⟨g, o + 1, none⟩ = some v2 := by
  have far : ∀ i, (put4 X g o v1 v2 v3 v4).cell? ⟨b, i, none⟩ = X.cell? ⟨b, i, none⟩ := by
    intro i
    unfold put4
    rw [World.cell?_setCell_other _ _ _ _ (by simp <;> omega), World.cell?_setCell_other _ _ _ _ (by simp <;> omega), World.cell?_setCell_other _ _ _ _ (by simp <;> omega), World.cell?_setCell_other _ _ _ _ (by simp <;> omega)]
  refine ⟨(cell_drew _ _).trans ((far _).trans h1), (cell_drew _ _).trans ((far _).trans h2), (cell_drew _ _).trans ?_, (cell_drew _ _).trans ?_⟩
  · unfold put4
    rw [World.cell?_setCell_other _ _ _ _ (by simp), World.cell?_setCell_other _ _ _ _ (by simp), World.cell?_setCell_other _ _ _ _ (by simp)]
    exact World.cell?_setCell_same _ _ _ h3
  · unfold put4
    rw [World.cell?_setCell_other _ _ _ _ (by simp), World.cell?_setCell_other _ _ _ _ (by simp)]
    exact World.cell?_setCell_same _ _ _ ((World.cell?_setCell_other _ _ _ _ (by simp)).trans h4)
/-- The same numbers, as few spans as can be. -/
def ListPost (C : Int → Prop) (N : Nat) (w : World) (e : Ending) (w' : World) : Prop :=
  ∃ (a : Option Addr) (cap : Nat) (ps : List (Int × Int)), (e = .returned (.slice a ps.length cap) ∧ Norm ps ∧ (∀ n, cov ps n ↔ C n) ∧ (∀ p ∈ ps, Ky p.1 ∧ Ky p.2) ∧ ps.length ≤ N ∧ SRow w' a (ps.map sp)) ∧ Go.RowKit.Below w.heap.size w w'

end Go.Proofs.YthojkbmffiibdaaDoor

/- Contracts of the reference's spans: Of, Shift. -/
namespace Go.Proofs.YthojkbmffiibdaaDoor
open Go.RowKit Go.Sort Go.Proofs.YthojkbmffiibdaaDoor.Bo
set_option linter.unusedVariables false

abbrev OfTwo (w X : World) (s a t b : Int) (w' : World) : Prop := w'.cell? ⟨w.heap.size, 0, none⟩ = some (.int .i64 s) ∧ w'.cell? ⟨w.heap.size, 1, none⟩ = some (.int .i64 a) ∧ w'.cell? ⟨w.heap.size + 1, 0, none⟩ = some (.int .i64 t) ∧ w'.cell? ⟨w.heap.size + 1, 1, none⟩ = some (.int .i64 b) ∧ Go.RowKit.Below X.heap.size X w'
theorem OfTwo.call {w X : World} {s a t b : Int} {w' w'' : World} (h : OfTwo w X s a t b w') (hb : Go.RowKit.Below w'.heap.size w' w'') : OfTwo w X s a t b w'' :=
  ⟨(hb.cell (World.block_lt_of_cell? w' _ h.1)).trans h.1, (hb.cell (World.block_lt_of_cell? w' _ h.2.1)).trans h.2.1, (hb.cell (World.block_lt_of_cell? w' _ h.2.2.1)).trans h.2.2.1, (hb.cell (World.block_lt_of_cell? w' _ h.2.2.2.1)).trans h.2.2.2.1, bt h.2.2.2.2 hb⟩
theorem OfTwo.alloc {w X : World} {s a t b : Int} {w' : World} (h : OfTwo w X s a t b w') (o : Obj) : OfTwo w X s a t b (w'.alloc o) := h.call (below_new w' o)
theorem OfTwo.drew {w X : World} {s a t b : Int} {w' : World} (h : OfTwo w X s a t b w') : OfTwo w X s a t b w'.drew := h.call (Go.RowKit.Below.refl _ _).drew
theorem OfTwo.put {w X : World} {s a t b : Int} {w' : World} (h : OfTwo w X s a t b w') (hX : w.heap.size + 1 < X.heap.size) (N : Nat) (hN : X.heap.size ≤ N) (v1 v2 v3 v4 : Value) : OfTwo w X s a t b ((((w'.setCell ⟨N, 0, none⟩ v1).setCell ⟨N, 1, none⟩ v2).setCell ⟨N, 2, none⟩ v3).setCell ⟨N, 3, none⟩ v4) := by
  have far : ∀ B i, B < X.heap.size → ((((w'.setCell ⟨N, 0, none⟩ v1).setCell ⟨N, 1, none⟩ v2).setCell ⟨N, 2, none⟩ v3).setCell ⟨N, 3, none⟩ v4).cell? ⟨B, i, none⟩ = w'.cell? ⟨B, i, none⟩ := by
    intro B i hB
    have hne : N ≠ B := by omega
    rw [World.cell?_setCell_other _ _ _ _ (by simp <;> omega), World.cell?_setCell_other _ _ _ _ (by simp <;> omega), World.cell?_setCell_other _ _ _ _ (by simp <;> omega), World.cell?_setCell_other _ _ _ _ (by simp <;> omega)]
  exact ⟨(far _ _ (by omega)).trans h.1, (far _ _ (by omega)).trans h.2.1, (far _ _ (by omega)).trans h.2.2.1, (far _ _ (by omega)).trans h.2.2.2.1, (((h.2.2.2.2.setCell hN _).setCell hN _).setCell hN _).setCell hN _⟩
abbrev z4 : S4 := ⟨0, 0, 0, 0⟩
theorem Box4.new (w : World) : Box4 (w.alloc (.cells #[.int .i64 0, .int .i64 0, .int .i64 0, .int .i64 0] 27)) w.heap.size z4 := heap_alloc_new _ _
theorem Box4.drew {w : World} {b : Nat} {q : S4} (h : Box4 w b q) : Box4 w.drew b q := h
theorem Box4.zero {w : World} {b : Nat} (h : Box4 w b z4) : (w.cell? ⟨b, 0, none⟩ = some (.int .i64 0) ∧ w.cell? ⟨b, 1, none⟩ = some (.int .i64 0) ∧ w.cell? ⟨b, 2, none⟩ = some (.int .i64 0) ∧ w.cell? ⟨b, 3, none⟩ = some (.int .i64 0)) ∧ w.frozen? ⟨b, 0, none⟩ = false ∧ w.frozen? ⟨b, 1, none⟩ = false ∧ w.frozen? ⟨b, 2, none⟩ = false ∧ w.frozen? ⟨b, 3, none⟩ = false :=
  ⟨h.cells, h.free 0, h.free 1, h.free 2, h.free 3⟩
theorem box_put4 {w : World} {N : Nat} {q : S4} (h : Box4 w N q) (r : S4) : Box4 ((((w.setCell ⟨N, 0, none⟩ (.int .i64 r.ls)).setCell ⟨N, 1, none⟩ (.int .i64 r.la)).setCell ⟨N, 2, none⟩ (.int .i64 r.hs)).setCell ⟨N, 3, none⟩ (.int .i64 r.ha)) N r :=
  heap_setCell_same _ _ _ _ _ _ (heap_setCell_same _ _ _ _ _ _ (heap_setCell_same _ _ _ _ _ _ (heap_setCell_same _ _ _ _ _ _ h)))
theorem box_far4 {w : World} {N M : Nat} {q : S4} (h : Box4 w M q) (hne : M ≠ N) (v1 v2 v3 v4 : Value) : Box4 ((((w.setCell ⟨N, 0, none⟩ v1).setCell ⟨N, 1, none⟩ v2).setCell ⟨N, 2, none⟩ v3).setCell ⟨N, 3, none⟩ v4) M q := by
  unfold Box4
  rw [heap_setCell_other _ _ _ _ (by simpa using hne), heap_setCell_other _ _ _ _ (by simpa using hne), heap_setCell_other _ _ _ _ (by simpa using hne), heap_setCell_other _ _ _ _ (by simpa using hne)]
  exact h
/-- The span stands in its block, nothing yet in the result's. -/
structure CutAt (w : World) (x1 y1 x2 y2 : Int) (N : Nat) (wx : World) : Prop where
  far : w.heap.size + 2 < N
  box : Box4 wx N ⟨x1, y1, x2, y2⟩
  res : Box4 wx (w.heap.size + 1 + 1) z4
  below : Go.RowKit.Below w.heap.size w wx
theorem CutAt.put {w : World} {x1 y1 x2 y2 : Int} {N : Nat} {Y : World} (hN : w.heap.size + 2 < N) (hb : Box4 Y N z4) (hr : Box4 Y (w.heap.size + 1 + 1) z4) (hl : Go.RowKit.Below w.heap.size w Y) :
    CutAt w x1 y1 x2 y2 N ((((Y.setCell ⟨N, 0, none⟩ (.int .i64 x1)).setCell ⟨N, 1, none⟩ (.int .i64 y1)).setCell ⟨N, 2, none⟩ (.int .i64 x2)).setCell ⟨N, 3, none⟩ (.int .i64 y2)) :=
  have h1 : w.heap.size ≤ N := by omega
  ⟨hN, box_put4 hb ⟨x1, y1, x2, y2⟩, box_far4 hr (by omega) _ _ _ _, (((hl.setCell h1 _).setCell h1 _).setCell h1 _).setCell h1 _⟩
/-- What Of answers of two keys. -/
def ofS (k l : Int) : S4 := if k < l then sp (k, l) else ⟨0, 0, 0, 0⟩
def ofE (k l : Int) : Int := if k < l then 0 else 30

set_option maxRecDepth 100000 in
set_option maxHeartbeats 1000000 in
theorem rof_any (s a t b : Int) (w : World) (ha : I64 a) (hb : I64 b) :
    Calls Tryd.prog 26 #[.agg #[.int .i64 s, .int .i64 a], .agg #[.int .i64 t, .int .i64 b]] w fun e w' => e = .returned (.tuple #[vS (ofS (key s a) (key t b)), .int .i64 (ofE (key s a) (key t b))]) ∧ Go.RowKit.Below w.heap.size w w' := by
  have HC1 := Lib.hid (fun W => rcanon_any s a W ha)
  have HC2 := Lib.hid (fun W => rcanon_any t b W hb)
  have hk := key_ky s a ha
  have hl := key_ky t b hb
  generalize key s a = k at *
  generalize key t b = l at *
  have HRT := Lib.hid (fun W => rright_any (sp (k, l)) W (sp_ok (k, l) hk hl))
  rw [sp_right (k, l) hk hl] at HRT
  have HOS : Hid (decide (k < l) = true → ofS k l = sp (k, l) ∧ ofE k l = 0) := by
    intro h; have := of_decide_eq_true h; unfold ofS ofE; rw [if_pos this, if_pos this]; exact ⟨rfl, rfl⟩
  have HOS2 : Hid (decide (k < l) = false → ofS k l = ⟨0, 0, 0, 0⟩ ∧ ofE k l = 30) := by
    intro h; have := of_decide_eq_false h; unfold ofS ofE; rw [if_neg this, if_neg this]; exact ⟨rfl, rfl⟩
  dsimp only at HRT
  dsimp only [sp] at HRT HOS
  generalize decide (k < l) = D at *
  generalize sd k = x1 at *
  generalize pa k = y1 at *
  generalize sd l = x2 at *
  generalize pa l = y2 at *
  have hR0 : Box4 (((w.alloc (.cells #[.int .i64 s, .int .i64 a] 25)).alloc (.cells #[.int .i64 t, .int .i64 b] 25)).alloc (.cells #[.int .i64 0, .int .i64 0, .int .i64 0, .int .i64 0] 27)) (w.heap.size + 1 + 1) ⟨0, 0, 0, 0⟩ := by
    have h := heap_alloc_new ((w.alloc (.cells #[.int .i64 s, .int .i64 a] 25)).alloc (.cells #[.int .i64 t, .int .i64 b] 25)) (.cells #[.int .i64 0, .int .i64 0, .int .i64 0, .int .i64 0] 27)
    simpa [Box4] using h
  have hT0 : Two w.heap.size s a t b ((w.alloc (.cells #[.int .i64 s, .int .i64 a] 25)).alloc (.cells #[.int .i64 t, .int .i64 b] 25)) := ⟨heap_alloc2_old _ _ _, heap_alloc2_new _ _ _⟩
  have hT1 := hT0.below (below_new _ (.cells #[.int .i64 0, .int .i64 0, .int .i64 0, .int .i64 0] 27))
  have hL0 : Go.RowKit.Below w.heap.size w (((w.alloc (.cells #[.int .i64 s, .int .i64 a] 25)).alloc (.cells #[.int .i64 t, .int .i64 b] 25)).alloc (.cells #[.int .i64 0, .int .i64 0, .int .i64 0, .int .i64 0] 27)) := bt (bt (below_new w _) (below_new _ _)) (below_new _ _)
  have hsX : (((w.alloc (.cells #[.int .i64 s, .int .i64 a] 25)).alloc (.cells #[.int .i64 t, .int .i64 b] 25)).alloc (.cells #[.int .i64 0, .int .i64 0, .int .i64 0, .int .i64 0] 27)).heap.size = w.heap.size + 3 := by simp
  clear hT0
  go_enter Tryd.func26, Tryd.ntmps26
  go_upto_region 1 with fail
  generalize (((w.alloc (.cells #[.int .i64 s, .int .i64 a] 25)).alloc (.cells #[.int .i64 t, .int .i64 b] 25)).alloc (.cells #[.int .i64 0, .int .i64 0, .int .i64 0, .int .i64 0] 27)) = X at *
  have hsX2 : w.heap.size + 2 < X.heap.size := by omega
  clear hsX
  have HT := Lib.hid hT1
  have HRB := Lib.hid hR0
  clear hR0
  go_cut [6] from 7 to 16 (fun s6 wx => ∃ N, s6 = .pointer (some ⟨N, 0, none⟩) ∧ CutAt w x1 y1 x2 y2 N wx)
  case first =>
    obtain ⟨p1, p2, p3, p4, _, _, _, _⟩ := hT1.cells
    have HX : Hid (OfTwo w X s a t b X) := ⟨p1, p2, p3, p4, Go.RowKit.Below.refl _ _⟩
    have p0 : Go.RowKit.Below X.heap.size X X := Go.RowKit.Below.refl _ _
    clear hT1
    go_region_held3 (fun w' => w'.cell? ⟨w.heap.size, 0, none⟩ = some (.int .i64 s) ∧ w'.cell? ⟨w.heap.size, 1, none⟩ = some (.int .i64 a) ∧ w'.cell? ⟨w.heap.size + 1, 0, none⟩ = some (.int .i64 t) ∧ w'.cell? ⟨w.heap.size + 1, 1, none⟩ = some (.int .i64 b) ∧ Go.RowKit.Below X.heap.size X w')
      (with_reducible first | exact hS1 | exact hS2 | exact OfTwo.alloc hS2 _ | exact OfTwo.put hS2 (by omega) _ (by omega) _ _ _ _ | exact OfTwo.alloc hS1 _ | exact OfTwo.alloc HX.out _ | exact OfTwo.drew (OfTwo.alloc HX.out _) | exact OfTwo.drew HX.out | exact HX.out)
      (first
        | (go_at_call 38; (with_reducible refine (HC1.out _).mono ?_); rintro e Y1 ⟨rfl, hB1⟩; have hS1 : OfTwo w X s a t b Y1 := (by with_reducible first | exact OfTwo.call HX.out.drew hB1 | exact OfTwo.call (OfTwo.drew (OfTwo.alloc HX.out _)) hB1 | exact OfTwo.call (OfTwo.alloc HX.out.drew _) hB1); have hs1 := hS1.2.2.2.2.size; (try first | (with_reducible have hN1 := Lib.hid (Box4.on (Box4.drew (Box4.new X)) hB1)) | (with_reducible have hN1 := Lib.hid (Box4.on (Box4.new X.drew) hB1))))
        | (go_at_call 38; (with_reducible refine (HC2.out _).mono ?_); rintro e Y2 ⟨rfl, hB2⟩; have hS2 : OfTwo w X s a t b Y2 := (by with_reducible first | exact OfTwo.call hS1 hB2 | exact OfTwo.call (OfTwo.alloc hS1 _) hB2); have hs2 := hS2.2.2.2.2.size; (try first | (with_reducible have hN2 := Box4.on hN1.out hB2; obtain ⟨⟨d1, d2, d3, d4⟩, e1, e2, e3, e4⟩ := Box4.zero hN2) | (with_reducible have hN2 := Box4.on (Box4.new Y1) hB2; obtain ⟨⟨d1, d2, d3, d4⟩, e1, e2, e3, e4⟩ := Box4.zero hN2))))
    · have HR2 := Lib.hid (HRB.out.on hS2.2.2.2.2)
      have HL2 := Lib.hid (bt hL0 hS2.2.2.2.2)
      have HQ : Hid (CutAt w x1 y1 x2 y2 Y2.heap.size (Y2.alloc (.cells #[.int .i64 x1, .int .i64 y1, .int .i64 x2, .int .i64 y2] 27))) := ⟨by omega, heap_alloc_new Y2 (.cells #[.int .i64 x1, .int .i64 y1, .int .i64 x2, .int .i64 y2] 27), HR2.out.on (below_new Y2 (.cells #[.int .i64 x1, .int .i64 y1, .int .i64 x2, .int .i64 y2] 27)), bt HL2.out (below_new Y2 (.cells #[.int .i64 x1, .int .i64 y1, .int .i64 x2, .int .i64 y2] 27))⟩
      go_wp2_with fail
      go_meet
      exact ⟨_, rfl, HQ.out⟩
    · have HR2 := Lib.hid (HRB.out.on hS2.2.2.2.2)
      have HL2 := Lib.hid (bt hL0 hS2.2.2.2.2)
      have HQ : Hid (CutAt w x1 y1 x2 y2 (Y1.heap.size) ((((Y2.setCell ⟨Y1.heap.size, 0, none⟩ (.int .i64 x1)).setCell ⟨Y1.heap.size, 1, none⟩ (.int .i64 y1)).setCell ⟨Y1.heap.size, 2, none⟩ (.int .i64 x2)).setCell ⟨Y1.heap.size, 3, none⟩ (.int .i64 y2))) := CutAt.put (by omega) hN2 HR2.out HL2.out
      go_wp2_with fail
      go_meet
      exact ⟨_, rfl, HQ.out⟩
    · have HR2 := Lib.hid (HRB.out.on hS2.2.2.2.2)
      have HL2 := Lib.hid (bt hL0 hS2.2.2.2.2)
      have HQ : Hid (CutAt w x1 y1 x2 y2 (X.heap.size) ((((Y2.setCell ⟨X.heap.size, 0, none⟩ (.int .i64 x1)).setCell ⟨X.heap.size, 1, none⟩ (.int .i64 y1)).setCell ⟨X.heap.size, 2, none⟩ (.int .i64 x2)).setCell ⟨X.heap.size, 3, none⟩ (.int .i64 y2))) := CutAt.put (by omega) hN2 HR2.out HL2.out
      go_wp2_with fail
      go_meet
      exact ⟨_, rfl, HQ.out⟩
  case rest =>
    obtain ⟨N, rfl, hN, hbox, hres, hL⟩ := hcut
    have HB := Lib.hid hbox
    have HRS := Lib.hid hres
    clear hT1 HT HRB hL0 hsX2 hbox hres HC1 HC2
    obtain ⟨c1, c2, c3, c4⟩ := HB.out.cells
    cases D with
    | false =>
      go_wp2_with fail
      refine (HRT.out _).mono ?_
      rintro e Y3 ⟨rfl, hB3⟩
      have hL3 := bt hL hB3
      have HR3 := Lib.hid (HRS.out.on hB3)
      obtain ⟨⟨d1, d2, d3, d4⟩, e1, e2, e3, e4⟩ := Box4.zero HR3.out
      clear c1 c2 c3 c4
      obtain ⟨f1, f2, f3, f4⟩ := (box_put4 HR3.out ⟨0, 0, 0, 0⟩).cells
      dsimp only at f1 f2 f3 f4
      have hgy : w.heap.size ≤ w.heap.size + 1 + 1 := by omega
      have hL4 := (((hL3.setCell (p := ⟨w.heap.size + 1 + 1, 0, none⟩) hgy (.int .i64 0)).setCell (p := ⟨w.heap.size + 1 + 1, 1, none⟩) hgy (.int .i64 0)).setCell (p := ⟨w.heap.size + 1 + 1, 2, none⟩) hgy (.int .i64 0)).setCell (p := ⟨w.heap.size + 1 + 1, 3, none⟩) hgy (.int .i64 0)
      go_wp2_with fail
      refine bodyPost_ret (v := .tuple #[.agg #[.int .i64 0, .int .i64 0, .int .i64 0, .int .i64 0], .int .i64 30]) (by simp [results, Tryd.results26, go_sem, f1, f2, f3, f4]) rfl ?_
      refine ⟨?_, hL4⟩
      obtain ⟨g1, g2⟩ := HOS2.out (by trivial)
      rw [g1, g2]
    | true =>
      go_wp2_with fail
      refine (HRT.out _).mono ?_
      rintro e Y3 ⟨rfl, hB3⟩
      have hL3 := bt hL hB3
      have HR3 := Lib.hid (HRS.out.on hB3)
      have HB3 := Lib.hid (HB.out.on hB3)
      obtain ⟨⟨d1, d2, d3, d4⟩, e1, e2, e3, e4⟩ := Box4.zero HR3.out
      clear c1 c2 c3 c4
      obtain ⟨c1, c2, c3, c4⟩ := HB3.out.cells
      obtain ⟨f1, f2, f3, f4⟩ := (box_put4 HR3.out ⟨x1, y1, x2, y2⟩).cells
      dsimp only at f1 f2 f3 f4
      have hgy : w.heap.size ≤ w.heap.size + 1 + 1 := by omega
      have hL4 := (((hL3.setCell (p := ⟨w.heap.size + 1 + 1, 0, none⟩) hgy (.int .i64 x1)).setCell (p := ⟨w.heap.size + 1 + 1, 1, none⟩) hgy (.int .i64 y1)).setCell (p := ⟨w.heap.size + 1 + 1, 2, none⟩) hgy (.int .i64 x2)).setCell (p := ⟨w.heap.size + 1 + 1, 3, none⟩) hgy (.int .i64 y2)
      go_wp2_with fail
      refine bodyPost_ret (v := .tuple #[.agg #[.int .i64 x1, .int .i64 y1, .int .i64 x2, .int .i64 y2], .int .i64 0]) (by simp [results, Tryd.results26, go_sem, f1, f2, f3, f4]) rfl ?_
      refine ⟨?_, hL4⟩
      obtain ⟨g1, g2⟩ := HOS.out (by trivial)
      rw [g1, g2]
end Go.Proofs.YthojkbmffiibdaaDoor

/- Contract of the reference's Text. -/
namespace Go.Proofs.YthojkbmffiibdaaDoor
open Go.RowKit Go.Proofs.YthojkbmffiibdaaDoor.Bo
set_option linter.unusedVariables false

def tenDigits : ByteArray := ⟨#[48, 49, 50, 51, 52, 53, 54, 55, 56, 57]⟩
theorem ten_slice (d : Nat) (h : d < 10) : tenDigits.extract d (d + 1) = ⟨#[ch d]⟩ := by
  match d, h with
  | 0, _ => rfl
  | 1, _ => rfl
  | 2, _ => rfl
  | 3, _ => rfl
  | 4, _ => rfl
  | 5, _ => rfl
  | 6, _ => rfl
  | 7, _ => rfl
  | 8, _ => rfl
  | 9, _ => rfl

theorem ten_run (D : Nat) (h : D < 10) (W : World) : (Instr.slice 9 (.string ⟨#[48, 49, 50, 51, 52, 53, 54, 55, 56, 57]⟩) (some (.int .i64 (D : Int))) (some (.int .i64 ((D : Int) + 1))) none).run Tryd.prog W = .ok (.string ⟨#[ch D]⟩) W := by
  have e := ten_slice D h
  have h2 := run_slice_string (P := Tryd.prog) W 9 ⟨#[48, 49, 50, 51, 52, 53, 54, 55, 56, 57]⟩ .i64 .i64 (D : Int) ((D : Int) + 1) Tryd.underlying9 (by omega) (by omega) (by show (D : Int) + 1 ≤ ((10 : Nat) : Int); omega)
  rw [h2]
  unfold tenDigits at e
  rw [show (D : Int).toNat = D from rfl, show ((D : Int) + 1).toNat = D + 1 from by omega, e]

set_option maxRecDepth 100000 in
set_option maxHeartbeats 2000000 in
theorem rtext_any (n : Int) (w : World) (hn : I64 n) :
    Calls Tryd.prog 55 #[.int .i64 n] w fun e w' => e = .returned (.string ⟨(textOf n).toArray⟩) ∧ Below w.heap.size w w' := by
  have HN := Lib.hid hn
  have HL := Lib.hid (low_len 20 n.natAbs (by obtain ⟨h1, h2⟩ := hn; omega))
  have HO := Lib.hid (low_ok n.natAbs)
  clear hn
  go_enter Tryd.func55, Tryd.ntmps55
  go_wp2_with fail
  refine (of_any _ _ HN.out).mono ?_
  rintro e x1 ⟨v, rfl, hd, hB1⟩
  obtain ⟨a, cap, rfl, hcap, hg⟩ := id hd
  clear hg
  generalize hxs : low n.natAbs = xs at *
  have HXS := Lib.hid hxs
  clear hxs
  have hlen := HL.out
  have hB2 : Below x1.heap.size x1 (x1.alloc (.cells #[.int .i64 (sgn n), .slice a xs.length cap] 77)) := (Below.refl _ _).alloc (Nat.le_refl _) _
  have HD := Lib.hid (hd.below hB2)
  have hm := heap_alloc_new x1 (.cells #[.int .i64 (sgn n), .slice a xs.length cap] 77)
  clear hd
  go_wp2_with fail
  generalize x1.alloc (.cells #[.int .i64 (sgn n), .slice a xs.length cap] 77) = x2 at *
  have u0 := cell_of_row _ _ 0 _ _ _ hm
  have u1 := cell_of_row _ _ 1 _ _ _ hm
  simp at u0 u1
  clear hm
  go_loopw [4, 5] (fun out i wr => ∃ k : Nat, i = .int .i64 (k : Int) ∧ k ≤ xs.length ∧ out = .string ⟨((xs.take k).reverse.map ch).toArray⟩ ∧ Below x2.heap.size x2 wr) (fun _ i _ => xs.length - (intOf i).toNat)
  case atStart => exact ⟨0, rfl, Nat.zero_le _, rfl, Below.refl _ _⟩
  case round =>
    obtain ⟨k, rfl, hk, rfl, hBr⟩ := hrel
    have c0 := (hBr.cell (p := ⟨x1.heap.size, 0, none⟩) (World.block_lt_of_cell? x2 _ u0)).trans u0
    have c1 := (hBr.cell (p := ⟨x1.heap.size, 1, none⟩) (World.block_lt_of_cell? x2 _ u1)).trans u1
    by_cases hlt : k < xs.length
    · obtain ⟨_, _, hg⟩ := (HD.out.below hBr).cellAt
      obtain ⟨g, rfl, hgl, hcell⟩ := hg (by omega)
      have hc := hcell k hlt
      have hd10 := HO.out _ (List.getElem_mem hlt)
      have hsl := ten_run xs[k] hd10
      have hsz : (⟨((xs.take k).reverse.map ch).toArray⟩ : ByteArray).size ≤ 20 := by simp [ByteArray.size]; omega
      have HNX : Hid (((xs.take (k + 1)).reverse.map ch) = ch xs[k] :: ((xs.take k).reverse.map ch)) := by
        show _ = _
        rw [List.take_succ_eq_append_getElem hlt, List.reverse_append, List.map_append]; rfl
      clear hg hcell
      generalize xs[k] = D at *
      generalize hL : (xs.take k).reverse.map ch = L at *
      clear hL
      have HFIN : Hid ((⟨#[ch D]⟩ : ByteArray) ++ ⟨L.toArray⟩ = ⟨(ch D :: L).toArray⟩) := by
        show _ = _
        apply ByteArray.ext
        simp
      generalize (⟨L.toArray⟩ : ByteArray) = B at *
      have hadd : ∀ W : World, (Op.stringOp .add ⟨#[ch D]⟩ B).run Tryd.prog W = .ok (.string (⟨#[ch D]⟩ ++ B)) W := fun W => run_string_add_sum W _ _ (by show 1 + B.size ≤ _; omega)
      have i1 : (0 : Int) ≤ (k : Int) := by omega
      have i2 : (k : Int) < (xs.length : Int) := by omega
      go_wp2_with fail
      have q1 : IntKind.i64.wrap ((D : Int) + 1) = (D : Int) + 1 := IntWalk.i64_in _ (by omega)
      go_quiet (fail)
      clear q1 hadd hsl
      go_wp2_with fail
      go_roundw
      case rel => exact ⟨k + 1, by go_num, by omega, by rw [HNX.out]; exact congrArg Value.string HFIN.out, below_drewN hBr nq⟩
      case measure => simp [intOf]; omega
    · obtain rfl : k = xs.length := by omega
      have hpre : (xs.take xs.length).reverse.map ch = pre n.natAbs := by rw [List.take_length]; unfold pre; rw [HXS.out]
      have hsz : (⟨((xs.take xs.length).reverse.map ch).toArray⟩ : ByteArray).size ≤ 20 := by simp [ByteArray.size]; omega
      have hBf := bt (bt hB1 hB2) hBr
      rw [hpre] at hsz ⊢
      clear hpre
      by_cases hneg : n < 0
      · have e1 : sgn n = -1 := by unfold sgn; rw [if_pos hneg]
        have HFIN : Hid ((⟨#[45]⟩ : ByteArray) ++ ⟨(pre n.natAbs).toArray⟩ = ⟨(textOf n).toArray⟩) := by
          show _ = _
          apply ByteArray.ext
          unfold textOf
          rw [if_pos hneg, dg, if_neg (by omega)]
          simp
        rw [e1] at c0
        clear e1
        generalize (⟨(pre n.natAbs).toArray⟩ : ByteArray) = B at *
        have hadd : ∀ W : World, (Op.stringOp .add ⟨#[45]⟩ B).run Tryd.prog W = .ok (.string (⟨#[45]⟩ ++ B)) W := fun W => run_string_add_sum W _ _ (by show 1 + B.size ≤ _; omega)
        go_wp2_with fail
        go_ret
        exact ⟨congrArg (fun b => Ending.returned (Value.string b)) HFIN.out, hBf⟩
      · by_cases hz : n = 0
        · have e1 : sgn n = 0 := by unfold sgn; rw [if_neg hneg, if_pos hz]
          have HFIN : Hid ((⟨#[48]⟩ : ByteArray) = ⟨(textOf n).toArray⟩) := by
            show _ = _
            rw [hz]; rfl
          rw [e1] at c0
          clear e1 hz
          go_wp2_with fail
          go_ret
          exact ⟨congrArg (fun b => Ending.returned (Value.string b)) HFIN.out, hBf⟩
        · have e1 : sgn n = 1 := by unfold sgn; rw [if_neg hneg, if_neg hz]
          have HFIN : Hid ((⟨(pre n.natAbs).toArray⟩ : ByteArray) = ⟨(textOf n).toArray⟩) := by
            show _ = _
            unfold textOf
            rw [if_neg hneg, dg, if_neg (by omega)]
          rw [e1] at c0
          clear e1 hz
          generalize (⟨(pre n.natAbs).toArray⟩ : ByteArray) = B at *
          go_wp2_with fail
          go_ret
          exact ⟨congrArg (fun b => Ending.returned (Value.string b)) HFIN.out, hBf⟩
end Go.Proofs.YthojkbmffiibdaaDoor
