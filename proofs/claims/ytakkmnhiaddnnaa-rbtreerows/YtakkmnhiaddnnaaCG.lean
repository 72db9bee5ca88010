/- A part of the proof: contracts of the functions that the statements reach. -/
import Derived.Test.YtakkmnhiaddnnaaRows
import Derived.Test.YtakkmnhiaddnnaaCA
import Derived.Test.YtakkmnhiaddnnaaCB
import Derived.Test.YtakkmnhiaddnnaaCC
import Derived.Test.YtakkmnhiaddnnaaCD
import Derived.Test.YtakkmnhiaddnnaaCE
import Derived.Test.YtakkmnhiaddnnaaCF
import Derived.Deep.RegionHeld3
import Derived.Deep.Upon

/- The joining of pieces between rising cuts. -/
namespace Go.Proofs.Ytakkmnhiaddnnaa.Bo
theorem up_lt (ks : List Int) (h : Up ks) (i j : Nat) (hj : j < ks.length) (hij : i < j) : ks[i] < ks[j] := List.pairwise_iff_getElem.1 h i j (by omega) hj hij
theorem up_le (ks : List Int) (h : Up ks) (i j : Nat) (hj : j < ks.length) (hij : i ≤ j) : ks[i] ≤ ks[j] := by
  rcases Nat.lt_or_ge i j with h1 | h1
  · exact Int.le_of_lt (up_lt ks h i j hj h1)
  · have : i = j := by omega
    subst this; exact Int.le_refl _
/-- All cuts of a row are named. -/
def Named (ps : List (Int × Int)) (ks : List Int) : Prop := ∀ p ∈ ps, p.1 ∈ ks ∧ p.2 ∈ ks
theorem cov_piece (ps : List (Int × Int)) (ks : List Int) (hup : Up ks) (hs : Named ps ks) (i : Nat) (hi : i + 1 < ks.length) (n : Int) (h1 : ks[i] ≤ n) (h2 : n < ks[i + 1]) : cov ps n ↔ cov ps ks[i] := by
  constructor
  · rintro ⟨p, hp, h3, h4⟩
    obtain ⟨a, b⟩ := hs p hp
    obtain ⟨x, hx, ex⟩ := List.mem_iff_getElem.1 a
    refine ⟨p, hp, ?_, by omega⟩
    rcases Nat.lt_or_ge i x with h5 | h5
    · have := up_le ks hup (i + 1) x hx (by omega); omega
    · have := up_le ks hup x i (by omega) h5; omega
  · rintro ⟨p, hp, h3, h4⟩
    obtain ⟨a, b⟩ := hs p hp
    obtain ⟨x, hx, ex⟩ := List.mem_iff_getElem.1 b
    refine ⟨p, hp, by omega, ?_⟩
    rcases Nat.lt_or_ge i x with h5 | h5
    · have := up_le ks hup (i + 1) x hx (by omega); omega
    · have := up_le ks hup x i (by omega) h5; omega
theorem cov_first (ps : List (Int × Int)) (ks : List Int) (hup : Up ks) (hs : Named ps ks) (n : Int) (h : cov ps n) : ∃ h : 0 < ks.length, ks[0] ≤ n := by
  obtain ⟨p, hp, h3, h4⟩ := h
  obtain ⟨x, hx, ex⟩ := List.mem_iff_getElem.1 (hs p hp).1
  refine ⟨by omega, ?_⟩
  have := up_le ks hup 0 x hx (by omega); omega
theorem cov_last (ps : List (Int × Int)) (ks : List Int) (hup : Up ks) (hs : Named ps ks) (n : Int) (h : cov ps n) : ∃ h : ks.length - 1 < ks.length, n < ks[ks.length - 1] := by
  obtain ⟨p, hp, h3, h4⟩ := h
  obtain ⟨x, hx, ex⟩ := List.mem_iff_getElem.1 (hs p hp).2
  refine ⟨by omega, ?_⟩
  have := up_le ks hup x (ks.length - 1) (by omega) (by omega); omega

/-- Up to the key k, ps has just the numbers of C. -/
structure Upto (C : Int → Prop) (ks : List Int) (k : Int) (ps : List (Int × Int)) : Prop where
  lt : ∀ p ∈ ps, p.1 < p.2
  named : Named ps ks
  le : ∀ p ∈ ps, p.2 ≤ k
  cov : ∀ n, cov ps n ↔ C n ∧ n < k
theorem Upto.skip {C : Int → Prop} {ks : List Int} {k k' : Int} {ps : List (Int × Int)} (h : Upto C ks k ps) (hk : k < k') (hC : ∀ n, k ≤ n → n < k' → (C n ↔ C k)) (hno : ¬ C k) : Upto C ks k' ps := by
  refine ⟨h.lt, h.named, fun p hp => by have := h.le p hp; omega, fun n => ?_⟩
  rw [h.cov n]
  constructor
  · rintro ⟨a, b⟩; exact ⟨a, by omega⟩
  · rintro ⟨a, b⟩
    refine ⟨a, ?_⟩
    rcases Int.lt_or_le n k with h1 | h1
    · exact h1
    · exact absurd ((hC n h1 b).1 a) hno
theorem Upto.put {C : Int → Prop} {ks : List Int} {k k' : Int} {ps : List (Int × Int)} (h : Upto C ks k ps) (hk : k < k') (hC : ∀ n, k ≤ n → n < k' → (C n ↔ C k)) (hyes : C k) (m1 : k ∈ ks) (m2 : k' ∈ ks) : Upto C ks k' (ps ++ [(k, k')]) := by
  refine ⟨?_, ?_, ?_, fun n => ?_⟩
  · intro p hp
    rcases List.mem_append.1 hp with e | e
    · exact h.lt p e
    · rw [List.mem_singleton.1 e]; exact hk
  · intro p hp
    rcases List.mem_append.1 hp with e | e
    · exact h.named p e
    · rw [List.mem_singleton.1 e]; exact ⟨m1, m2⟩
  · intro p hp
    rcases List.mem_append.1 hp with e | e
    · have := h.le p e; omega
    · rw [List.mem_singleton.1 e]; exact Int.le_refl _
  · rw [cov_append, h.cov n, cov_cons]
    constructor
    · rintro (⟨a, b⟩ | a | a)
      · exact ⟨a, by omega⟩
      · exact ⟨(hC n a.1 a.2).2 hyes, a.2⟩
      · exact absurd a (cov_nil _)
    · rintro ⟨a, b⟩
      rcases Int.lt_or_le n k with h1 | h1
      · exact .inl ⟨a, h1⟩
      · exact .inr (.inl ⟨h1, b⟩)
theorem Upto.join {C : Int → Prop} {ks : List Int} {k k' x : Int} {ps : List (Int × Int)} (h : Upto C ks k (ps ++ [(x, k)])) (hk : k < k') (hC : ∀ n, k ≤ n → n < k' → (C n ↔ C k)) (hyes : C k) (m2 : k' ∈ ks) : Upto C ks k' (ps ++ [(x, k')]) := by
  have hx : x < k := h.lt (x, k) (by simp)
  refine ⟨?_, ?_, ?_, fun n => ?_⟩
  · intro p hp
    rcases List.mem_append.1 hp with e | e
    · exact h.lt p (List.mem_append_left _ e)
    · rw [List.mem_singleton.1 e]; show x < k'; omega
  · intro p hp
    rcases List.mem_append.1 hp with e | e
    · exact h.named p (List.mem_append_left _ e)
    · rw [List.mem_singleton.1 e]; exact ⟨(h.named (x, k) (by simp)).1, m2⟩
  · intro p hp
    rcases List.mem_append.1 hp with e | e
    · have := h.le p (List.mem_append_left _ e); omega
    · rw [List.mem_singleton.1 e]; exact Int.le_refl _
  · have h1 := h.cov n
    rw [cov_append, cov_cons] at h1 ⊢
    constructor
    · rintro (a | a | a)
      · have := h1.1 (.inl a); exact ⟨this.1, by omega⟩
      · rcases Int.lt_or_le n k with h2 | h2
        · exact ⟨(h1.1 (.inr (.inl ⟨a.1, h2⟩))).1, a.2⟩
        · exact ⟨(hC n h2 a.2).2 hyes, a.2⟩
      · exact absurd a (cov_nil _)
    · rintro ⟨a, b⟩
      rcases Int.lt_or_le n k with h2 | h2
      · rcases h1.2 ⟨a, h2⟩ with c | c | c
        · exact .inl c
        · exact .inr (.inl ⟨c.1, by have := c.2; show n < k'; omega⟩)
        · exact absurd c (cov_nil _)
      · exact .inr (.inl ⟨by show x ≤ n; omega, b⟩)
theorem norm_put {ps : List (Int × Int)} {k k' : Int} (h : Norm ps) (hk : k < k') (hl : ∀ p ∈ ps, p.2 < k) : Norm (ps ++ [(k, k')]) := by
  refine ⟨?_, List.pairwise_append.2 ⟨h.2, List.pairwise_singleton .., ?_⟩⟩
  · intro p hp
    rcases List.mem_append.1 hp with e | e
    · exact h.1 p e
    · rw [List.mem_singleton.1 e]; exact hk
  · intro p hp q hq
    rw [List.mem_singleton.1 hq]; exact hl p hp
theorem norm_join {ps : List (Int × Int)} {k k' x : Int} (h : Norm (ps ++ [(x, k)])) (hk : k < k') : Norm (ps ++ [(x, k')]) := by
  obtain ⟨h1, h2⟩ := h
  obtain ⟨a, b, c⟩ := List.pairwise_append.1 h2
  have hx : x < k := h1 (x, k) (by simp)
  refine ⟨?_, List.pairwise_append.2 ⟨a, List.pairwise_singleton .., ?_⟩⟩
  · intro p hp
    rcases List.mem_append.1 hp with e | e
    · exact h1 p (List.mem_append_left _ e)
    · rw [List.mem_singleton.1 e]; show x < k'; omega
  · intro p hp q hq
    rw [List.mem_singleton.1 hq]; exact c p hp (x, k) (by simp)
/-- The last one's end, where it is not k, lies below: and so do all. -/
theorem norm_all_lt {ps : List (Int × Int)} {k : Int} {p : Int × Int} (h : Norm (ps ++ [p])) (hp : p.2 < k) : ∀ q ∈ ps ++ [p], q.2 < k := by
  obtain ⟨h1, h2⟩ := h
  obtain ⟨a, b, c⟩ := List.pairwise_append.1 h2
  intro q hq
  rcases List.mem_append.1 hq with e | e
  · have h3 := c q e p (by simp)
    have h4 := h1 p (by simp)
    omega
  · rw [List.mem_singleton.1 e]; exact hp
theorem upto_nil (C : Int → Prop) (ks : List Int) (k : Int) (h : ∀ n, C n → k ≤ n) : Upto C ks k [] :=
  ⟨by simp, (fun p hp => by simp at hp), by simp, fun n => ⟨fun a => absurd a (cov_nil _), fun ⟨a, b⟩ => by have := h n a; omega⟩⟩
theorem named_rights (ps : List (Int × Int)) (ks : List Int) (h : ∀ p ∈ ps, ∀ x, (x = p.1 ∨ x = p.2) → x ∈ ks) : Named ps ks := fun p hp => ⟨h p hp _ (.inl rfl), h p hp _ (.inr rfl)⟩
end Go.Proofs.Ytakkmnhiaddnnaa.Bo

/- Contracts of the reference's spans: List. -/
namespace Go.Proofs.Ytakkmnhiaddnnaa
open Go.RowKit Go.Sort Go.Proofs.Ytakkmnhiaddnnaa.Bo
set_option linter.unusedVariables false

theorem Try.infoSpan : (Try.prog.info? 33).map (fun i => (i.zero, i.size, i.bytes)) = some (some (.agg #[.int .i64 0, .int .i64 0, .int .i64 0, .int .i64 0]), 4, 32) := by kernel_rfl
theorem keysOf_get (ps : List (Int × Int)) (j : Nat) (hj : j < ps.length) : ∃ (h1 : j * 2 < (keysOf ps).length) (h2 : j * 2 + 1 < (keysOf ps).length), (keysOf ps)[j * 2] = ps[j].1 ∧ (keysOf ps)[j * 2 + 1] = ps[j].2 := by
  have hl := keysOf_len ps
  refine ⟨by omega, by omega, ?_⟩
  induction ps generalizing j with
  | nil => simp at hj
  | cons a l ih =>
    cases j with
    | zero => exact ⟨rfl, rfl⟩
    | succ j =>
      have := ih j (by simpa using hj) (keysOf_len l)
      have e1 : keysOf (a :: l) = a.1 :: a.2 :: keysOf l := rfl
      simp only [e1, show (j + 1) * 2 = j * 2 + 1 + 1 by omega, List.getElem_cons_succ]
      exact this
theorem flatL_len (ks : List Int) : (flatL ks).length = ks.length * 2 := by
  unfold flatL
  induction ks with
  | nil => rfl
  | cons a l ih => rw [List.flatMap_cons, List.length_append, ih]; simp; omega
theorem CellsAt.far {w w' : World} {row : Option Nat} {b o : Nat} {c1 c2 : Int} (h : CellsAt w b o c1 c2) (hg : w.grownBy w' row) (hne : some b ≠ row) : CellsAt w' b o c1 c2 := ⟨hg.cell h.1 hne, hg.cell h.2 hne⟩
theorem own_put {w : World} {base g cap n size : Nat} {e : TypeId} {xs : List Value} (h : w.ownsRow base e size (.slice (some ⟨g, 0, none⟩) n cap) n xs) (i : Nat) (v : Value) : (w.setCell ⟨g, i, none⟩ v).ownsRow base e size (.slice (some ⟨g, 0, none⟩) n cap) n (xs.set i v) := by
  obtain ⟨h1, h2⟩ := h
  refine ⟨by rw [List.length_set]; exact h1, ?_⟩
  rcases h2 with ⟨h2, _⟩ | ⟨g', cap', cur, hv, hg, hh, h3, h4, h5, h6⟩
  · cases h2
  · injection hv with e1 e2 e3
    injection e1 with e1
    injection e1 with e1
    subst e1 e3
    refine .inr ⟨g, cap, _, rfl, hg, heap_setCell_same _ _ _ _ _ _ hh, h3, h4, by simpa using h5, ?_⟩
    rw [← h6]
    simp [List.take_set]
/-- A slice of spans of one's own reads as such. -/
theorem own_srow {w : World} {base cap n : Nat} {a : Option Addr} {ps : List (Int × Int)} (h : w.ownsRow base 33 4 (.slice a n cap) n (flatL (keysOf ps))) (hn : n = ps.length) : SRow w a (ps.map sp) := by
  intro hp
  rw [List.length_map] at hp
  rcases h.2 with ⟨h1, h2⟩ | ⟨g, cap', cur, h1, hb, hh, hnc, hcm, hcs, htake⟩
  · omega
  · injection h1 with e1 e2 e3
    subst e1
    refine ⟨g, 0, rfl, fun j hj => ?_⟩
    rw [List.length_map] at hj
    rw [List.getElem_map]
    obtain ⟨k1, k2, e3, e4⟩ := keysOf_get ps j hj
    obtain ⟨f1, f2⟩ := flatL_get (keysOf ps) (j * 2) k1
    obtain ⟨f3, f4⟩ := flatL_get (keysOf ps) (j * 2 + 1) k2
    rw [e3] at f1 f2
    rw [e4] at f3 f4
    rw [← htake, List.getElem?_take, if_pos (by omega)] at f1 f2 f3 f4
    rw [show 0 + j * 4 = j * 2 * 2 by omega]
    refine ⟨(cell_of_row _ _ _ _ _ _ hh).trans (by simpa [sp] using f1), (cell_of_row _ _ _ _ _ _ hh).trans (by simpa [sp] using f2), ?_, ?_⟩
    · rw [show j * 2 * 2 + 2 = (j * 2 + 1) * 2 by omega]
      exact (cell_of_row _ _ _ _ _ _ hh).trans (by simpa [sp] using f3)
    · rw [show j * 2 * 2 + 3 = (j * 2 + 1) * 2 + 1 by omega]
      exact (cell_of_row _ _ _ _ _ _ hh).trans (by simpa [sp] using f4)
/-- The last span's end is put anew. -/
theorem own_join {w : World} {base cap n g : Nat} {ps : List (Int × Int)} {x k : Int} (k' : Int) (h : w.ownsRow base 33 4 (.slice (some ⟨g, 0, none⟩) n cap) n (flatL (keysOf (ps ++ [(x, k)])))) (o : Nat) (ho : o = ps.length * 4) :
    ((((w.setCell ⟨g, o, none⟩ (.int .i64 (sd x))).setCell ⟨g, o + 1, none⟩ (.int .i64 (pa x))).setCell ⟨g, o + 2, none⟩ (.int .i64 (sd k'))).setCell ⟨g, o + 3, none⟩ (.int .i64 (pa k'))).ownsRow base 33 4 (.slice (some ⟨g, 0, none⟩) n cap) n (flatL (keysOf (ps ++ [(x, k')]))) := by
  have hl : (flatL (keysOf ps)).length = o := by rw [flatL_len, keysOf_len]; omega
  have := own_put (own_put (own_put (own_put h o (.int .i64 (sd x))) (o + 1) (.int .i64 (pa x))) (o + 2) (.int .i64 (sd k'))) (o + 3) (.int .i64 (pa k'))
  rw [keysOf_snoc, flatL_two] at this ⊢
  subst hl
  simpa using this

abbrev put4 (w : World) (g o : Nat) (v1 v2 v3 v4 : Value) : World := (((w.setCell ⟨g, o, none⟩ v1).setCell ⟨g, o + 1, none⟩ v2).setCell ⟨g, o + 2, none⟩ v3).setCell ⟨g, o + 3, none⟩ v4
theorem cell_drew (w : World) (a : Addr) : w.drew.cell? a = w.cell? a := by rfl
theorem put4_keep {X : World} {g o b i1 i2 : Nat} {v1 v2 v3 v4 u1 u2 : Value} (hne : b ≠ g) (h1 : X.cell? ⟨b, i1, none⟩ = some u1) (h2 : X.cell? ⟨b, i2, none⟩ = some u2) (h3 : X.cell? ⟨g, o, none⟩ = some v1) (h4 : X.cell? ⟨g, o + 1, none⟩ = some v2) :
    (put4 X g o v1 v2 v3 v4).drew.cell? ⟨b, i1, none⟩ = some u1 ∧ (put4 X g o v1 v2 v3 v4).drew.cell? ⟨b, i2, none⟩ = some u2 ∧ (put4 X g o v1 v2 v3 v4).drew.cell? ⟨g, o, none⟩ = some v1 ∧ (put4 X g o v1 v2 v3 v4).drew.cell? ⟨g, o + 1, none⟩ = some v2 := by
  have far : ∀ i, (put4 X g o v1 v2 v3 v4).cell? ⟨b, i, none⟩ = X.cell? ⟨b, i, none⟩ := by
    intro i
    unfold put4
    rw [World.cell?_setCell_other _ _ _ _ (by simp <;> omega), World.cell?_setCell_other _ _ _ _ (by simp <;> omega), World.cell?_setCell_other _ _ _ _ (by simp <;> omega), World.cell?_setCell_other _ _ _ _ (by simp <;> omega)]
  refine ⟨(cell_drew _ _).trans ((far _).trans h1), (cell_drew _ _).trans ((far _).trans h2), (cell_drew _ _).trans ?_, (cell_drew _ _).trans ?_⟩
  · unfold put4
    rw [World.cell?_setCell_other _ _ _ _ (by simp), World.cell?_setCell_other _ _ _ _ (by simp), World.cell?_setCell_other _ _ _ _ (by simp)]
    exact World.cell?_setCell_same _ _ _ h3
  · unfold put4
    rw [World.cell?_setCell_other _ _ _ _ (by simp), World.cell?_setCell_other _ _ _ _ (by simp)]
    exact World.cell?_setCell_same _ _ _ ((World.cell?_setCell_other _ _ _ _ (by simp)).trans h4)
/-- The same numbers, as few spans as can be. -/
def ListPost (C : Int → Prop) (N : Nat) (w : World) (e : Ending) (w' : World) : Prop :=
  ∃ (a : Option Addr) (cap : Nat) (ps : List (Int × Int)), (e = .returned (.slice a ps.length cap) ∧ Norm ps ∧ (∀ n, cov ps n ↔ C n) ∧ (∀ p ∈ ps, Ky p.1 ∧ Ky p.2) ∧ ps.length ≤ N ∧ SRow w' a (ps.map sp)) ∧ Go.RowKit.Below w.heap.size w w'

end Go.Proofs.Ytakkmnhiaddnnaa

/- Contracts of the reference's spans: Of, Shift. -/
namespace Go.Proofs.Ytakkmnhiaddnnaa
open Go.RowKit Go.Sort Go.Proofs.Ytakkmnhiaddnnaa.Bo
set_option linter.unusedVariables false

abbrev OfTwo (w X : World) (s a t b : Int) (w' : World) : Prop := w'.cell? ⟨w.heap.size, 0, none⟩ = some (.int .i64 s) ∧ w'.cell? ⟨w.heap.size, 1, none⟩ = some (.int .i64 a) ∧ w'.cell? ⟨w.heap.size + 1, 0, none⟩ = some (.int .i64 t) ∧ w'.cell? ⟨w.heap.size + 1, 1, none⟩ = some (.int .i64 b) ∧ Go.RowKit.Below X.heap.size X w'
theorem OfTwo.call {w X : World} {s a t b : Int} {w' w'' : World} (h : OfTwo w X s a t b w') (hb : Go.RowKit.Below w'.heap.size w' w'') : OfTwo w X s a t b w'' :=
  ⟨(hb.cell (World.block_lt_of_cell? w' _ h.1)).trans h.1, (hb.cell (World.block_lt_of_cell? w' _ h.2.1)).trans h.2.1, (hb.cell (World.block_lt_of_cell? w' _ h.2.2.1)).trans h.2.2.1, (hb.cell (World.block_lt_of_cell? w' _ h.2.2.2.1)).trans h.2.2.2.1, bt h.2.2.2.2 hb⟩
theorem OfTwo.alloc {w X : World} {s a t b : Int} {w' : World} (h : OfTwo w X s a t b w') (o : Obj) : OfTwo w X s a t b (w'.alloc o) := h.call (below_new w' o)
theorem OfTwo.drew {w X : World} {s a t b : Int} {w' : World} (h : OfTwo w X s a t b w') : OfTwo w X s a t b w'.drew := h.call (Go.RowKit.Below.refl _ _).drew
theorem OfTwo.put {w X : World} {s a t b : Int} {w' : World} (h : OfTwo w X s a t b w') (hX : w.heap.size + 1 < X.heap.size) (N : Nat) (hN : X.heap.size ≤ N) (v1 v2 v3 v4 : Value) : OfTwo w X s a t b ((((w'.setCell ⟨N, 0, none⟩ v1).setCell ⟨N, 1, none⟩ v2).setCell ⟨N, 2, none⟩ v3).setCell ⟨N, 3, none⟩ v4) := by
  have far : ∀ B i, B < X.heap.size → ((((w'.setCell ⟨N, 0, none⟩ v1).setCell ⟨N, 1, none⟩ v2).setCell ⟨N, 2, none⟩ v3).setCell ⟨N, 3, none⟩ v4).cell? ⟨B, i, none⟩ = w'.cell? ⟨B, i, none⟩ := by
    intro B i hB
    have hne : N ≠ B := by omega
    rw [World.cell?_setCell_other _ _ _ _ (by simp <;> omega), World.cell?_setCell_other _ _ _ _ (by simp <;> omega), World.cell?_setCell_other _ _ _ _ (by simp <;> omega), World.cell?_setCell_other _ _ _ _ (by simp <;> omega)]
  exact ⟨(far _ _ (by omega)).trans h.1, (far _ _ (by omega)).trans h.2.1, (far _ _ (by omega)).trans h.2.2.1, (far _ _ (by omega)).trans h.2.2.2.1, (((h.2.2.2.2.setCell hN _).setCell hN _).setCell hN _).setCell hN _⟩
abbrev z4 : S4 := ⟨0, 0, 0, 0⟩
theorem Box4.new (w : World) : Box4 (w.alloc (.cells #[.int .i64 0, .int .i64 0, .int .i64 0, .int .i64 0] 33)) w.heap.size z4 := heap_alloc_new _ _
theorem Box4.drew {w : World} {b : Nat} {q : S4} (h : Box4 w b q) : Box4 w.drew b q := h
theorem Box4.zero {w : World} {b : Nat} (h : Box4 w b z4) : (w.cell? ⟨b, 0, none⟩ = some (.int .i64 0) ∧ w.cell? ⟨b, 1, none⟩ = some (.int .i64 0) ∧ w.cell? ⟨b, 2, none⟩ = some (.int .i64 0) ∧ w.cell? ⟨b, 3, none⟩ = some (.int .i64 0)) ∧ w.frozen? ⟨b, 0, none⟩ = false ∧ w.frozen? ⟨b, 1, none⟩ = false ∧ w.frozen? ⟨b, 2, none⟩ = false ∧ w.frozen? ⟨b, 3, none⟩ = false :=
  ⟨h.cells, h.free 0, h.free 1, h.free 2, h.free 3⟩
theorem box_put4 {w : World} {N : Nat} {q : S4} (h : Box4 w N q) (r : S4) : Box4 ((((w.setCell ⟨N, 0, none⟩ (.int .i64 r.ls)).setCell ⟨N, 1, none⟩ (.int .i64 r.la)).setCell ⟨N, 2, none⟩ (.int .i64 r.hs)).setCell ⟨N, 3, none⟩ (.int .i64 r.ha)) N r :=
  heap_setCell_same _ _ _ _ _ _ (heap_setCell_same _ _ _ _ _ _ (heap_setCell_same _ _ _ _ _ _ (heap_setCell_same _ _ _ _ _ _ h)))
theorem box_far4 {w : World} {N M : Nat} {q : S4} (h : Box4 w M q) (hne : M ≠ N) (v1 v2 v3 v4 : Value) : Box4 ((((w.setCell ⟨N, 0, none⟩ v1).setCell ⟨N, 1, none⟩ v2).setCell ⟨N, 2, none⟩ v3).setCell ⟨N, 3, none⟩ v4) M q := by
  unfold Box4
  rw [heap_setCell_other _ _ _ _ (by simpa using hne), heap_setCell_other _ _ _ _ (by simpa using hne), heap_setCell_other _ _ _ _ (by simpa using hne), heap_setCell_other _ _ _ _ (by simpa using hne)]
  exact h
/-- The span stands in its block, nothing yet in the result's. -/
structure CutAt (w : World) (x1 y1 x2 y2 : Int) (N : Nat) (wx : World) : Prop where
  far : w.heap.size + 2 < N
  box : Box4 wx N ⟨x1, y1, x2, y2⟩
  res : Box4 wx (w.heap.size + 1 + 1) z4
  below : Go.RowKit.Below w.heap.size w wx
theorem CutAt.put {w : World} {x1 y1 x2 y2 : Int} {N : Nat} {Y : World} (hN : w.heap.size + 2 < N) (hb : Box4 Y N z4) (hr : Box4 Y (w.heap.size + 1 + 1) z4) (hl : Go.RowKit.Below w.heap.size w Y) :
    CutAt w x1 y1 x2 y2 N ((((Y.setCell ⟨N, 0, none⟩ (.int .i64 x1)).setCell ⟨N, 1, none⟩ (.int .i64 y1)).setCell ⟨N, 2, none⟩ (.int .i64 x2)).setCell ⟨N, 3, none⟩ (.int .i64 y2)) :=
  have h1 : w.heap.size ≤ N := by omega
  ⟨hN, box_put4 hb ⟨x1, y1, x2, y2⟩, box_far4 hr (by omega) _ _ _ _, (((hl.setCell h1 _).setCell h1 _).setCell h1 _).setCell h1 _⟩
/-- What Of answers of two keys. -/
def ofS (k l : Int) : S4 := if k < l then sp (k, l) else ⟨0, 0, 0, 0⟩
def ofE (k l : Int) : Int := if k < l then 0 else 30

end Go.Proofs.Ytakkmnhiaddnnaa

/- Rows of numbers; contracts of the reference's arena: New, Is, put, Do. -/
namespace Go.Proofs.Ytakkmnhiaddnnaa
open Go.RowKit Go.Sort Go.Proofs.Ytakkmnhiaddnnaa.Bo
set_option linter.unusedVariables false

def nv (z : Int) : Value := .int .i64 z
theorem nv_one (l : List Int) : ∀ u ∈ l.map nv, u.oneCell' = true := by
  intro u hu
  obtain ⟨d, _, rfl⟩ := List.mem_map.1 hu
  rfl
/-- A slice of numbers that holds zs, in a block of its elements' type. -/
def NRow (w : World) (t : TypeId) (a : Option Addr) (zs : List Int) : Prop := 0 < zs.length → ∃ b off, a = some ⟨b, off, none⟩ ∧ (∃ cur, w.heap[b]? = some (.cells cur t (0, 0))) ∧ ∀ (j : Nat) (h : j < zs.length), w.cell? ⟨b, off + j, none⟩ = some (.int .i64 zs[j])
theorem NRow.below {w w' : World} {t : TypeId} {a : Option Addr} {zs : List Int} (h : NRow w t a zs) (hb : Go.RowKit.Below w.heap.size w w') : NRow w' t a zs := by
  intro hp
  obtain ⟨b, off, e, ⟨cur, hh⟩, hc⟩ := h hp
  exact ⟨b, off, e, ⟨cur, box_on hh hb⟩, fun j hj => (hb.cell (p := ⟨b, off + j, none⟩) (World.block_lt_of_cell? w _ (hc j hj))).trans (hc j hj)⟩
theorem NRow.take {w : World} {t : TypeId} {a : Option Addr} {zs : List Int} (h : NRow w t a zs) (n : Nat) : NRow w t a (zs.take n) := by
  intro hp
  rw [List.length_take] at hp
  obtain ⟨b, off, e, hh, hc⟩ := h (by omega)
  refine ⟨b, off, e, hh, fun j hj => ?_⟩
  rw [List.length_take] at hj
  rw [hc j (by omega), List.getElem_take]
theorem nrow_nil (w : World) (t : TypeId) (a : Option Addr) : NRow w t a [] := fun h => by simp at h
theorem own_nrow {w : World} {base cap n : Nat} {e : TypeId} {a : Option Addr} {l : List Int} (h : w.ownsRow base e 1 (.slice a n cap) n (l.map nv)) (hn : n = l.length) : NRow w e a l := by
  intro hp
  rcases h.2 with ⟨h1, h2⟩ | ⟨g, cap', cur, h1, hb, hh, hnc, hcm, hcs, htake⟩
  · omega
  · injection h1 with e1 e2 e3
    subst e1
    refine ⟨g, 0, rfl, ⟨cur, hh⟩, fun j hj => ?_⟩
    rw [Nat.zero_add, cell_of_row _ _ j cur _ _ hh]
    have h2 : (cur.toList.take (n * 1))[j]? = some (nv l[j]) := by rw [htake]; simp [hj]
    rw [List.getElem?_take, if_pos (by omega)] at h2
    simpa [nv] using h2
theorem own_cap {w : World} {base cap n size : Nat} {e : TypeId} {a : Option Addr} {xs : List Value} (h : w.ownsRow base e size (.slice a n cap) n xs) : n ≤ cap := by
  rcases h.2 with ⟨h1, h2⟩ | ⟨g, cap', cur, h1, hb, hh, hnc, hcm, hcs, htake⟩
  · omega
  · injection h1 with e1 e2 e3
    subst e3
    exact hnc
/-- A place of a row of one's own: what is there, and that it may be written. -/
theorem own_at {w : World} {base cap n : Nat} {e : TypeId} {a : Option Addr} {l : List Int} (h : w.ownsRow base e 1 (.slice a n cap) n (l.map nv)) (hn : n = l.length) (i : Nat) (hi : i < n) :
    ∃ g, a = some ⟨g, 0, none⟩ ∧ base ≤ g ∧ w.cell? ⟨g, i, none⟩ = some (.int .i64 (l[i]'(by omega))) ∧ w.frozen? ⟨g, i, none⟩ = false := by
  rcases h.2 with ⟨h1, h2⟩ | ⟨g, cap', cur, h1, hb, hh, hnc, hcm, hcs, htake⟩
  · omega
  · injection h1 with e1 e2 e3
    subst e1
    refine ⟨g, rfl, hb, ?_, frozen_of_row _ _ i _ _ hh⟩
    rw [cell_of_row _ _ i cur _ _ hh]
    have h2 : (cur.toList.take (n * 1))[i]? = some (nv (l[i]'(by omega))) := by rw [htake]; simp [show i < l.length by omega]
    rw [List.getElem?_take, if_pos (by omega)] at h2
    simpa [nv] using h2
theorem own_set {w : World} {base cap n g : Nat} {e : TypeId} {l : List Int} (h : w.ownsRow base e 1 (.slice (some ⟨g, 0, none⟩) n cap) n (l.map nv)) (i : Nat) (z : Int) : (w.setCell ⟨g, i, none⟩ (.int .i64 z)).ownsRow base e 1 (.slice (some ⟨g, 0, none⟩) n cap) n ((l.set i z).map nv) := by
  have := own_put h i (.int .i64 z)
  rw [List.map_set]
  exact this
/-- append of a row of numbers, also of none. -/
theorem run_append_nums (w : World) (t ty e : TypeId) (base : Nat) (i : TypeInfo) (ht : Try.prog.underlying t = some (.slice e)) (hi : Try.prog.info? e = some i) (hz : i.zero = some (.int .i64 0))
    (hsize : i.size = 1) (hby : i.bytes = 8) (v : Value) (n : Nat) (xs : List Value) (hown : w.ownsRow base e 1 v n xs)
    (a : Option Addr) (c : Nat) (l : List Int) (te : TypeId) (hr : NRow w te a l) (h63 : n + l.length ≤ 1000000) (hbase : base ≤ w.heap.size) :
    ∃ a' cap w', (Builtin.append_ #[t, t] ty #[v, .slice a l.length c]).run Try.prog w = .ok (.slice a' (n + l.length) cap) w' ∧
      w'.ownsRow base e 1 (.slice a' (n + l.length) cap) (n + l.length) (xs ++ l.map nv) ∧ w.grownBy w' v.ownBlock := by
  rcases Nat.eq_zero_or_pos l.length with h0 | h0
  · obtain rfl : l = [] := List.length_eq_zero_iff.1 h0
    have hsrc : Src Try.prog i.size t (.slice a 0 c) 0 [] w := by
      cases a with
      | none => exact Src.ofNil w ht c
      | some ad => exact Src.ofSlice w ht ad 0 c [] (by simp) (by simp) (by simp)
    have key : ∀ base' cap', v = .slice base' n cap' → n ≤ cap' → (Builtin.append_ #[t, t] ty #[v, .slice a 0 c]).run Try.prog w = .ok (.slice base' n cap') w := by
      intro base' cap' hv hle
      rw [hv]
      exact run_append_nothing w t t ty e i ht hi base' n cap' hle _ hsrc
    have hxs : xs ++ ([] : List Int).map nv = xs := by simp
    rw [hxs]
    rcases hown.2 with ⟨hv, hn⟩ | ⟨g, cap, cur, hv, r⟩
    · subst hn
      refine ⟨none, 0, w, key none 0 hv (Nat.le_refl _), ?_, World.grownBy.refl _ _⟩
      rw [hv] at hown; exact hown
    · refine ⟨some ⟨g, 0, none⟩, cap, w, key _ _ hv r.2.2.1, ?_, World.grownBy.refl _ _⟩
      rw [hv] at hown; exact hown
  · obtain ⟨b, off, rfl, _, hc⟩ := hr h0
    obtain ⟨g, cap, w', h1, h2, h3, _, _⟩ := run_append_lies (P := Try.prog) w t ty base e i (.int .i64 0) 1 8 ht hi hz hsize hby rfl (by omega) v n xs hown ⟨b, off, none⟩ l.length c (l.map nv) (by simp) (fun j u hu => by
      have hj : j < l.length := by have := (List.getElem?_eq_some_iff.1 hu).1; simpa using this
      rw [Addr.add_lit, hc j hj]
      simp [hj, nv] at hu
      rw [hu]) (nv_one l) h0 (by unfold maxLen; omega) (by omega) hbase _ rfl
    exact ⟨_, cap, w', h1, h2, h3⟩
theorem wpList_append_nums {ops : Array Oper} {rest : List Oper} {o : Oper} {a : Act} {Q : Exit → Act → World → Prop} (w : World) (hgd : o.guard = none) (s x : Operand) (t : TypeId)
    (ho : o.op = .call { callee := .builtin .append, args := #[s, x], argTypes := #[t, t] })
    (base : Nat) (e : TypeId) (i : TypeInfo) (ht : Try.prog.underlying t = some (.slice e)) (hi : Try.prog.info? e = some i) (hz : i.zero = some (.int .i64 0))
    (hsize : i.size = 1) (hby : i.bytes = 8)
    (v : Value) (n : Nat) (xs : List Value) (hs : a.eval s = v) (hown : w.ownsRow base e 1 v n xs)
    (ax : Option Addr) (c : Nat) (l : List Int) (te : TypeId) (hx : a.eval x = .slice ax l.length c) (hr : NRow w te ax l)
    (h63 : n + l.length ≤ 1000000) (hbase : base ≤ w.heap.size)
    (h : ∀ a' cap w', w'.ownsRow base e 1 (.slice a' (n + l.length) cap) (n + l.length) (xs ++ l.map nv) → w.grownBy w' v.ownBlock → wpList Try.prog ops Q rest (a.put o.dst (.slice a' (n + l.length) cap)) w') : wpList Try.prog ops Q (o :: rest) a w := by
  refine wpList_plain hgd fun _ hK => ?_
  obtain ⟨a', cap, w', hr', h2, h3⟩ := run_append_nums w t o.type e base i ht hi hz hsize hby v n xs hown ax c l te hr h63 hbase
  unfold Oper.wp execOp
  simp only [ho, resolve, invoke, builtin, Sem.run_bind, Sem.run_pure, Result.andThen_ok, List.map_toArray, List.map_cons, List.map_nil, hs, hx, hr']
  exact hK _ _ (h a' cap w' h2 h3)
theorem Try.infoI64 : (Try.prog.info? 2).map (fun i => (i.zero, i.size, i.bytes)) = some (some (.int .i64 0), 1, 8) := by kernel_rfl
/-- A block of four cells: what is read there, and that it may be written. -/
theorem four_cells {W : World} {b : Nat} {x0 x1 x2 x3 : Value} {t : TypeId} (h : W.heap[b]? = some (.cells #[x0, x1, x2, x3] t (0, 0))) :
    (W.cell? ⟨b, 0, none⟩ = some x0 ∧ W.cell? ⟨b, 1, none⟩ = some x1 ∧ W.cell? ⟨b, 2, none⟩ = some x2 ∧ W.cell? ⟨b, 3, none⟩ = some x3) ∧ W.frozen? ⟨b, 0, none⟩ = false ∧ W.frozen? ⟨b, 1, none⟩ = false ∧ W.frozen? ⟨b, 2, none⟩ = false ∧ W.frozen? ⟨b, 3, none⟩ = false :=
  ⟨⟨(cell_of_row _ _ 0 _ _ _ h).trans rfl, (cell_of_row _ _ 1 _ _ _ h).trans rfl, (cell_of_row _ _ 2 _ _ _ h).trans rfl, (cell_of_row _ _ 3 _ _ _ h).trans rfl⟩, frozen_of_row _ _ 0 _ _ h, frozen_of_row _ _ 1 _ _ h, frozen_of_row _ _ 2 _ _ h, frozen_of_row _ _ 3 _ _ h⟩
abbrev set4 (W : World) (b : Nat) (y0 y1 y2 y3 : Value) : World := (((W.setCell ⟨b, 0, none⟩ y0).setCell ⟨b, 1, none⟩ y1).setCell ⟨b, 2, none⟩ y2).setCell ⟨b, 3, none⟩ y3
theorem four_put {W : World} {b : Nat} {x0 x1 x2 x3 : Value} {t : TypeId} (h : W.heap[b]? = some (.cells #[x0, x1, x2, x3] t (0, 0))) (y0 y1 y2 y3 : Value) : (set4 W b y0 y1 y2 y3).heap[b]? = some (.cells #[y0, y1, y2, y3] t (0, 0)) :=
  heap_setCell_same _ _ _ _ _ _ (heap_setCell_same _ _ _ _ _ _ (heap_setCell_same _ _ _ _ _ _ (heap_setCell_same _ _ _ _ _ _ h)))
theorem set_far {W : World} {b c i : Nat} {o : Obj} {v : Value} (h : W.heap[b]? = some o) (hne : b ≠ c) : (W.setCell ⟨c, i, none⟩ v).heap[b]? = some o := by
  rw [heap_setCell_other _ _ _ _ (by simpa using hne)]; exact h
theorem four_far {W : World} {b c : Nat} {o : Obj} (h : W.heap[b]? = some o) (hne : b ≠ c) (y0 y1 y2 y3 : Value) : (set4 W c y0 y1 y2 y3).heap[b]? = some o := set_far (set_far (set_far (set_far h hne) hne) hne) hne
theorem four_below {w W : World} {b : Nat} (h : Go.RowKit.Below w.heap.size w W) (hb : w.heap.size ≤ b) (y0 y1 y2 y3 : Value) : Go.RowKit.Below w.heap.size w (set4 W b y0 y1 y2 y3) := (((h.setCell hb _).setCell hb _).setCell hb _).setCell hb _
theorem cell_far {W : World} {b i c j : Nat} {v u : Value} (h : W.cell? ⟨b, i, none⟩ = some u) (hne : b ≠ c) : (W.setCell ⟨c, j, none⟩ v).cell? ⟨b, i, none⟩ = some u := (World.cell?_setCell_other _ _ _ _ (by simp <;> omega)).trans h
theorem nrow_far {W : World} {t : TypeId} {a : Option Addr} {zs : List Int} {c j : Nat} {v : Value} (h : NRow W t a zs) (hne : 0 < zs.length → ∀ b off, a = some ⟨b, off, none⟩ → b ≠ c) : NRow (W.setCell ⟨c, j, none⟩ v) t a zs := by
  intro hp
  obtain ⟨b, off, e, ⟨cur, hh⟩, hc⟩ := h hp
  exact ⟨b, off, e, ⟨cur, set_far hh (hne hp b off e)⟩, fun i hi => cell_far (hc i hi) (hne hp b off e)⟩
/-- A row is in no block of another type. -/
theorem nrow_ne {W : World} {t t' : TypeId} {a : Option Addr} {zs : List Int} {c : Nat} {cur' : Array Value} (h : NRow W t a zs) (hc : W.heap[c]? = some (.cells cur' t' (0, 0))) (ht : t' ≠ t) : 0 < zs.length → ∀ b off, a = some ⟨b, off, none⟩ → b ≠ c := by
  intro hp b off e hbc
  obtain ⟨b', off', e', ⟨cur, hh⟩, _⟩ := h hp
  rw [e] at e'
  injection e' with e'
  injection e' with e1
  subst e1
  subst hbc
  rw [hh] at hc
  injection hc with hc
  injection hc with _ hc _
  exact ht hc.symm
theorem nrow_set4 {W : World} {t t' : TypeId} {a : Option Addr} {zs : List Int} {c : Nat} {cur' : Array Value} (h : NRow W t a zs) (hc : W.heap[c]? = some (.cells cur' t' (0, 0))) (ht : t' ≠ t) (y0 y1 y2 y3 : Value) : NRow (set4 W c y0 y1 y2 y3) t a zs :=
  nrow_far (nrow_far (nrow_far (nrow_far h (nrow_ne h hc ht)) (nrow_ne h hc ht)) (nrow_ne h hc ht)) (nrow_ne h hc ht)
/-- The document's arena as a value, and its rows. -/
abbrev arV (a : Ar) (fa : Option Addr) (fc : Nat) (la : Option Addr) (lc : Nat) : Value := .agg #[.int .i64 a.room, .int .i64 a.ever, .slice fa a.free.length fc, .slice la a.l.length lc]
abbrev anV (x : An) : Value := .agg #[.int .i64 x.i, .int .i64 x.v, .bool x.b, .int .i64 x.e]
structure ArAt (w : World) (a : Ar) (fa : Option Addr) (fc : Nat) (la : Option Addr) (lc : Nat) : Prop where
  fr : NRow w 3 fa a.free
  fn : a.free.length ≤ fc
  lr : NRow w 2 la a.l
  ln : a.l.length ≤ lc
theorem ArAt.below {w w' : World} {a : Ar} {fa : Option Addr} {fc : Nat} {la : Option Addr} {lc : Nat} (h : ArAt w a fa fc la lc) (hb : Go.RowKit.Below w.heap.size w w') : ArAt w' a fa fc la lc := ⟨h.fr.below hb, h.fn, h.lr.below hb, h.ln⟩
/-- A row of free places is where the one ahead of the call was, or in a new block. -/
def Frm (w w' : World) (fa0 fa : Option Addr) : Prop := ∀ b off, fa = some ⟨b, off, none⟩ → (∃ o, fa0 = some ⟨b, o, none⟩) ∨ (w.heap.size ≤ b ∧ b < w'.heap.size)
theorem frm_same (w w' : World) (fa : Option Addr) : Frm w w' fa fa := fun b off h => .inl ⟨off, h⟩
theorem frm_none (w w' : World) (fa : Option Addr) : Frm w w' fa none := fun b off h => by cases h
theorem frm_new {w w' : World} {fa : Option Addr} {g o : Nat} (h : w.heap.size ≤ g) (h2 : g < w'.heap.size) : Frm w w' fa (some ⟨g, o, none⟩) := fun b off e => by injection e with e; injection e with e1; exact .inr (e1 ▸ ⟨h, h2⟩)
theorem Frm.up {w w' W W' : World} {fa0 fa : Option Addr} (h : Frm W W' fa0 fa) (hs : w.heap.size ≤ W.heap.size) (hs2 : W'.heap.size ≤ w'.heap.size) : Frm w w' fa0 fa := fun b off e => (h b off e).imp id (fun h2 => ⟨Nat.le_trans hs h2.1, Nat.lt_of_lt_of_le h2.2 hs2⟩)
theorem nrow_lt {W : World} {t : TypeId} {g o : Nat} {zs : List Int} (h : NRow W t (some ⟨g, o, none⟩) zs) (hp : 0 < zs.length) : g < W.heap.size := by
  obtain ⟨b, off, e, ⟨cur, hh⟩, _⟩ := h hp
  injection e with e
  injection e with e1
  subst e1
  exact lt_of_block hh
/-- What a call of the document's arena leaves. -/
def ArPost (x : Ar × An) (w : World) (fa0 : Option Addr) (e : Ending) (w' : World) : Prop := ∃ fa fc la lc, (e = .returned (.tuple #[arV x.1 fa fc la lc, anV x.2]) ∧ ArAt w' x.1 fa fc la lc) ∧ Go.RowKit.Below w.heap.size w w' ∧ Frm w w' fa0 fa

theorem contains_snoc (l : List Int) (z i : Int) : (l ++ [z]).contains i = (l.contains i || (z == i)) := by
  rw [Bool.eq_iff_iff, Bool.or_eq_true, List.contains_iff_mem, List.contains_iff_mem, List.mem_append, beq_iff_eq, List.mem_singleton]
  exact or_congr_right eq_comm
end Go.Proofs.Ytakkmnhiaddnnaa

/- Contracts of the reference's arena: put, Do. -/
namespace Go.Proofs.Ytakkmnhiaddnnaa
open Go.RowKit Go.Sort Go.Proofs.Ytakkmnhiaddnnaa.Bo
set_option linter.unusedVariables false

theorem new_at' {W : World} {n : Nat} (o : Obj) (h : W.heap.size = n) : (W.alloc o).heap[n]? = some o := h ▸ heap_alloc_new W o
/-- The results are laid. -/
abbrev arEnd (w W : World) (x0 x1 x2 x3 y0 y1 y2 y3 : Value) : World := set4 (set4 W (w.heap.size + 1) x0 x1 x2 x3) (w.heap.size + 1 + 1) y0 y1 y2 y3
end Go.Proofs.Ytakkmnhiaddnnaa

/- Contract of the reference's put. -/
namespace Go.Proofs.Ytakkmnhiaddnnaa
open Go.RowKit Go.Sort Go.Proofs.Ytakkmnhiaddnnaa.Bo
set_option linter.unusedVariables false
theorem own_empty (X : World) (e : TypeId) : (X.alloc (.cells #[] e)).ownsRow X.heap.size e 1 (.slice (some ⟨X.heap.size, 0, none⟩) 0 0) 0 [] := ⟨rfl, .inr ⟨X.heap.size, 0, #[], rfl, Nat.le_refl _, heap_alloc_new _ _, Nat.le_refl _, Nat.zero_le _, rfl, rfl⟩⟩
theorem four_drew {W : World} {b : Nat} {o : Obj} (h : W.heap[b]? = some o) : W.drew.heap[b]? = some o := h
theorem nrow_drew {W : World} {t : TypeId} {a : Option Addr} {zs : List Int} (h : NRow W t a zs) : NRow W.drew t a zs := h
/-- What a put that takes a place leaves. -/
def PutPost5 (w : World) (R E : Int) (F : Value) (l' : List Int) (I : Int) (e : Ending) (w' : World) : Prop := ∃ (g cap : Nat), (e = .returned (.tuple #[.agg #[.int .i64 R, .int .i64 E, F, .slice (some ⟨g, 0, none⟩) l'.length cap], anV ⟨I, 0, false, 0⟩]) ∧ NRow w' 2 (some ⟨g, 0, none⟩) l' ∧ l'.length ≤ cap) ∧ Go.RowKit.Below w.heap.size w w'
end Go.Proofs.Ytakkmnhiaddnnaa
