/- A part of the proof: contracts of the functions that the statements reach. -/
import Derived.Test.YtakkmnhiaddnnaaRows
import Derived.Test.YtakkmnhiaddnnaaCA
import Derived.Test.YtakkmnhiaddnnaaCB
import Derived.Test.YtakkmnhiaddnnaaCC
import Derived.Test.YtakkmnhiaddnnaaCD
import Derived.Test.YtakkmnhiaddnnaaCE
import Derived.Test.YtakkmnhiaddnnaaCF
import Derived.Test.YtakkmnhiaddnnaaCG

/- Contract of the reference's Do. -/
namespace Go.Proofs.Ytakkmnhiaddnnaa
open Go.RowKit Go.Sort Go.Proofs.Ytakkmnhiaddnnaa.Bo
set_option linter.unusedVariables false

abbrev arEnd4 (w W : World) (x0 x1 x2 x3 y0 y1 y2 y3 : Value) : World := set4 (set4 W (w.heap.size + 1 + 1) x0 x1 x2 x3) (w.heap.size + 1 + 1 + 1) y0 y1 y2 y3
theorem end4_size (w W : World) (x0 x1 x2 x3 y0 y1 y2 y3 : Value) : (arEnd4 w W x0 x1 x2 x3 y0 y1 y2 y3).heap.size = W.heap.size := by simp [World.setCell]
theorem three_cells {W : World} {b : Nat} {x0 x1 x2 : Value} {t : TypeId} (h : W.heap[b]? = some (.cells #[x0, x1, x2] t (0, 0))) :
    W.cell? ⟨b, 0, none⟩ = some x0 ∧ W.cell? ⟨b, 1, none⟩ = some x1 ∧ W.cell? ⟨b, 2, none⟩ = some x2 :=
  ⟨(cell_of_row _ _ 0 _ _ _ h).trans rfl, (cell_of_row _ _ 1 _ _ _ h).trans rfl, (cell_of_row _ _ 2 _ _ _ h).trans rfl⟩
abbrev opV (k i v : Int) : Value := .agg #[.int .i64 k, .int .i64 i, .int .i64 v]
/-- What a call leaves, over plain numbers. -/
def DoPost (w : World) (fa0 : Option Addr) (R E : Int) (F L : List Int) (I V : Int) (B : Bool) (ER : Int) (e : Ending) (w' : World) : Prop := ∃ fa fc la lc, (e = .returned (.tuple #[.agg #[.int .i64 R, .int .i64 E, .slice fa F.length fc, .slice la L.length lc], .agg #[.int .i64 I, .int .i64 V, .bool B, .int .i64 ER]]) ∧ (NRow w' 3 fa F ∧ F.length ≤ fc) ∧ NRow w' 2 la L ∧ L.length ≤ lc) ∧ Go.RowKit.Below w.heap.size w w' ∧ Frm w w' fa0 fa
end Go.Proofs.Ytakkmnhiaddnnaa

/- Contract of the reference's Do: the other calls. -/
namespace Go.Proofs.Ytakkmnhiaddnnaa
open Go.RowKit Go.Sort Go.Proofs.Ytakkmnhiaddnnaa.Bo
set_option linter.unusedVariables false

theorem get_keep' {W : World} {P lb x : Nat} {r e f l k i v u : Value} {t t' : TypeId} (hb : W.heap[P]? = some (.cells #[r, e, f, l] t (0, 0))) (ho : W.heap[P + 1]? = some (.cells #[k, i, v] t' (0, 0))) (hc : W.cell? ⟨lb, x, none⟩ = some u) :
    (W.drew.cell? ⟨P, 0, none⟩ = some r ∧ W.drew.cell? ⟨P, 1, none⟩ = some e ∧ W.drew.cell? ⟨P, 2, none⟩ = some f ∧ W.drew.cell? ⟨P, 3, none⟩ = some l) ∧ (W.drew.cell? ⟨P + 1, 0, none⟩ = some k ∧ W.drew.cell? ⟨P + 1, 1, none⟩ = some i ∧ W.drew.cell? ⟨P + 1, 2, none⟩ = some v) ∧ W.drew.cell? ⟨lb, x, none⟩ = some u :=
  ⟨(four_cells hb).1, three_cells ho, hc⟩
theorem cell_far4 {W : World} {b i c : Nat} {u : Value} (h : W.cell? ⟨b, i, none⟩ = some u) (hne : b ≠ c) (y0 y1 y2 y3 : Value) : (set4 W c y0 y1 y2 y3).cell? ⟨b, i, none⟩ = some u := cell_far (cell_far (cell_far (cell_far h hne) hne) hne) hne
end Go.Proofs.Ytakkmnhiaddnnaa

/- What follows for the document's arena, for the laws of layer 5. No Go in sight. -/
namespace Go.Proofs.Ytakkmnhiaddnnaa.Bo
/-- How many things there are. -/
def Ar.len (a : Ar) : Int := a.ever - a.free.length
def Ar.new (room : Int) : Ar := ⟨room, 0, [], []⟩
theorem Ar.new_ok (room : Int) (h : 0 ≤ room ∧ room ≤ 65536) : (Ar.new room).ok :=
  ⟨h, rfl, fun i hi => by simp [Ar.new] at hi, List.nodup_nil, by simp [Ar.new]; omega, fun z hz => by simp [Ar.new] at hz⟩
/-- No more places were ever taken than there is room for. -/
theorem Ar.put_le (a : Ar) (v : Int) (h : a.ever ≤ a.room) : (a.put v).1.ever ≤ a.room ∧ (a.put v).1.room = a.room := by
  unfold Ar.put
  by_cases h1 : a.room ≤ a.ever - a.free.length
  · rw [if_pos h1]; exact ⟨h, rfl⟩
  · rw [if_neg h1]
    by_cases h2 : 0 < a.free.length
    · rw [if_pos h2]; exact ⟨h, rfl⟩
    · rw [if_neg h2]; exact ⟨by show a.ever + 1 ≤ _; omega, rfl⟩
theorem Ar.does_le (a : Ar) (k i v : Int) (hr : 0 ≤ a.room) (h : a.ever ≤ a.room) : (a.does k i v).1.ever ≤ a.room ∧ (a.does k i v).1.room = a.room := by
  unfold Ar.does
  by_cases h1 : k = 0
  · rw [if_pos h1]; exact a.put_le v h
  rw [if_neg h1]
  by_cases h2 : k = 4
  · rw [if_pos h2]; exact ⟨hr, rfl⟩
  rw [if_neg h2]
  by_cases h3 : k < 0 ∨ 4 < k ∨ a.is i = false
  · rw [if_pos h3]; exact ⟨h, rfl⟩
  rw [if_neg h3]
  by_cases h4 : k = 1
  · rw [if_pos h4]; exact ⟨h, rfl⟩
  rw [if_neg h4]
  by_cases h5 : k = 2
  · rw [if_pos h5]; exact ⟨h, rfl⟩
  · rw [if_neg h5]; exact ⟨h, rfl⟩
theorem getD_set_ne (l : List Int) (m n : Nat) (v d : Int) (h : m ≠ n) : (l.set m v).getD n d = l.getD n d := by
  rw [List.getD_eq_getElem?_getD, List.getD_eq_getElem?_getD, List.getElem?_set_ne h]
theorem Ar.is_iff (a : Ar) (i : Int) : a.is i = true ↔ i ∉ a.free ∧ 0 ≤ i ∧ i < a.ever := by
  unfold Ar.is; simp
/-- What was put is got, whatever is done in other places. -/
theorem Ar.does_keeps (a : Ar) (p w k i v : Int) (h : a.ok) (hp : a.is p = true) (hw : a.l.getD p.toNat 0 = w) (hk : k = 0 ∨ (i ≠ p ∧ k ≠ 4)) :
    (a.does k i v).1.is p = true ∧ (a.does k i v).1.l.getD p.toNat 0 = w ∧ (k = 0 → (a.does k i v).2.e = 0 → (a.does k i v).2.i ≠ p) := by
  obtain ⟨p1, p2, p3⟩ := (a.is_iff p).1 hp
  have he := h.ever
  unfold Ar.does
  by_cases h1 : k = 0
  · rw [if_pos h1]
    unfold Ar.put
    by_cases h2 : a.room ≤ a.ever - a.free.length
    · rw [if_pos h2]; exact ⟨hp, hw, fun _ h0 => by cases h0⟩
    rw [if_neg h2]
    by_cases h3 : 0 < a.free.length
    · rw [if_pos h3]
      have hm := last_mem a.free h3
      have hf := h.free _ hm
      generalize a.free.getD (a.free.length - 1) 0 = f at *
      have hne : f ≠ p := fun e => p1 (e ▸ hm)
      refine ⟨(Ar.is_iff _ p).2 ⟨fun h4 => p1 (List.mem_of_mem_take h4), p2, p3⟩, ?_, fun _ _ => hne⟩
      show (a.l.set f.toNat v).getD p.toNat 0 = w
      rw [getD_set_ne _ _ _ _ _ (by omega)]
      exact hw
    · rw [if_neg h3]
      refine ⟨(Ar.is_iff _ p).2 ⟨p1, p2, by show p < a.ever + 1; omega⟩, ?_, fun _ _ => by show a.ever ≠ p; omega⟩
      show (a.l ++ [v]).getD p.toNat 0 = w
      rw [List.getD_eq_getElem?_getD, List.getElem?_append_left (by omega), ← List.getD_eq_getElem?_getD]
      exact hw
  obtain ⟨k1, k2⟩ := hk.resolve_left h1
  rw [if_neg h1, if_neg k2]
  by_cases h3 : k < 0 ∨ 4 < k ∨ a.is i = false
  · rw [if_pos h3]; exact ⟨hp, hw, fun h0 => absurd h0 h1⟩
  rw [if_neg h3]
  have hi : a.is i = true := by
    cases hi : a.is i with
    | true => rfl
    | false => exact absurd (Or.inr (Or.inr hi)) h3
  obtain ⟨i1, i2, i3⟩ := (a.is_iff i).1 hi
  by_cases h4 : k = 1
  · rw [if_pos h4]; exact ⟨hp, hw, fun h0 => absurd h0 h1⟩
  rw [if_neg h4]
  by_cases h5 : k = 2
  · rw [if_pos h5]
    refine ⟨(Ar.is_iff _ p).2 ⟨p1, p2, p3⟩, ?_, fun h0 => absurd h0 h1⟩
    show (a.l.set i.toNat v).getD p.toNat 0 = w
    rw [getD_set_ne _ _ _ _ _ (by omega)]
    exact hw
  · rw [if_neg h5]
    refine ⟨(Ar.is_iff _ p).2 ⟨fun h6 => ?_, p2, p3⟩, hw, fun h0 => absurd h0 h1⟩
    rcases List.mem_append.1 h6 with h7 | h7
    · exact p1 h7
    · simp at h7; exact k1 h7.symm
/-- As long as there is room, a thing is put, in a place below Room. -/
theorem Ar.put_room (a : Ar) (v : Int) (h : a.ok) (hle : a.ever ≤ a.room) (hr : a.len < a.room) :
    (a.put v).2.e = 0 ∧ 0 ≤ (a.put v).2.i ∧ (a.put v).2.i < a.room ∧ (a.put v).1.len = a.len + 1 ∧ (a.put v).1.is (a.put v).2.i = true ∧ (a.put v).1.l.getD (a.put v).2.i.toNat 0 = v := by
  unfold Ar.len at *
  have he := h.ever
  unfold Ar.put
  rw [if_neg (by omega)]
  by_cases h3 : 0 < a.free.length
  · rw [if_pos h3]
    have hm := last_mem a.free h3
    have hf := h.free _ hm
    have hnd := h.once
    have hsp : a.free = a.free.take (a.free.length - 1) ++ [a.free.getD (a.free.length - 1) 0] := by
      rw [List.getD_eq_getElem?_getD, List.getElem?_eq_getElem (by omega)]
      show a.free = a.free.take (a.free.length - 1) ++ [a.free[a.free.length - 1]]
      rw [← List.take_succ_eq_append_getElem, Nat.sub_add_cancel h3, List.take_length]
    have hnot : a.free.getD (a.free.length - 1) 0 ∉ a.free.take (a.free.length - 1) := by
      intro h9
      rw [hsp, List.nodup_append] at hnd
      exact hnd.2.2 _ h9 _ (List.mem_singleton.2 rfl) rfl
    have hlt : (a.free.take (a.free.length - 1)).length = a.free.length - 1 := by rw [List.length_take]; omega
    generalize a.free.getD (a.free.length - 1) 0 = f at *
    refine ⟨rfl, hf.1, by show f < a.room; omega, ?_, (Ar.is_iff _ f).2 ⟨hnot, hf.1, hf.2⟩, ?_⟩
    · show a.ever - ((a.free.take (a.free.length - 1)).length : Int) = _
      rw [hlt]; omega
    · show (a.l.set f.toNat v).getD f.toNat 0 = v
      rw [List.getD_eq_getElem?_getD, List.getElem?_set_self (by omega)]; rfl
  · rw [if_neg h3]
    have hnil : a.free = [] := List.length_eq_zero_iff.1 (by omega)
    refine ⟨rfl, by show 0 ≤ a.ever; omega, by show a.ever < a.room; omega, by show a.ever + 1 - (a.free.length : Int) = _; omega, (Ar.is_iff _ a.ever).2 ⟨by show a.ever ∉ a.free; rw [hnil]; simp, by omega, by show a.ever < a.ever + 1; omega⟩, ?_⟩
    show (a.l ++ [v]).getD a.ever.toNat 0 = v
    rw [List.getD_eq_getElem?_getD, List.getElem?_append_right (by omega)]
    have : a.ever.toNat - a.l.length = 0 := by omega
    rw [this]; rfl
theorem Ar.put_full (a : Ar) (v : Int) (hr : a.room ≤ a.len) : a.put v = (a, ⟨0, 0, false, 50⟩) := by
  unfold Ar.len at hr
  unfold Ar.put; rw [if_pos hr]
/-- The place that was freed last is taken. -/
theorem Ar.put_last (a : Ar) (v f : Int) (fs : List Int) (hf : a.free = fs ++ [f]) (hr : a.len < a.room) : a.put v = ({ a with free := fs, l := a.l.set f.toNat v }, ⟨f, 0, false, 0⟩) := by
  unfold Ar.len at hr
  unfold Ar.put
  rw [if_neg (by omega), if_pos (by rw [hf]; simp)]
  have e1 : a.free.getD (a.free.length - 1) 0 = f := by rw [hf]; simp
  have e2 : a.free.take (a.free.length - 1) = fs := by rw [hf]; simp
  rw [e1, e2]
theorem filter_in (n : Nat) : ∀ (f : List Int), f.Nodup → (∀ i ∈ f, 0 ≤ i ∧ i < (n : Int)) → ((List.range n).filter (fun i : Nat => f.contains (i : Int))).length = f.length := by
  induction n with
  | zero =>
    intro f _ h
    cases f with
    | nil => rfl
    | cons a t => have := h a (List.mem_cons_self ..); omega
  | succ n ih =>
    intro f hnd h
    rw [List.range_succ, List.filter_append, List.length_append]
    by_cases hn : (n : Int) ∈ f
    · have h1 : (f.erase (n : Int)).Nodup := hnd.erase _
      have h2 : ∀ i ∈ f.erase (n : Int), 0 ≤ i ∧ i < (n : Int) := fun i hi => by
        have h3 := (hnd.mem_erase_iff).1 hi
        have := h i h3.2
        omega
      have h3 := ih (f.erase (n : Int)) h1 h2
      have h4 : (List.range n).filter (fun i : Nat => f.contains (i : Int)) = (List.range n).filter (fun i : Nat => (f.erase (n : Int)).contains (i : Int)) := by
        apply List.filter_congr
        intro i hi
        have h5 : i < n := List.mem_range.1 hi
        rw [Bool.eq_iff_iff, List.contains_iff_mem, List.contains_iff_mem, hnd.mem_erase_iff]
        exact ⟨fun h6 => ⟨by omega, h6⟩, fun h6 => h6.2⟩
      have h5 : [n].filter (fun i : Nat => f.contains (i : Int)) = [n] := by simp [hn]
      have h6 := List.length_erase_of_mem hn
      have h7 : 0 < f.length := List.length_pos_of_mem hn
      rw [h4, h3, h5, h6]
      show f.length - 1 + 1 = _
      omega
    · have h2 : ∀ i ∈ f, 0 ≤ i ∧ i < (n : Int) := fun i hi => by
        have := h i hi
        have : i ≠ (n : Int) := fun e => hn (e ▸ hi)
        omega
      have h5 : [n].filter (fun i : Nat => f.contains (i : Int)) = [] := by simp [hn]
      rw [ih f hnd h2, h5]
      rfl
theorem filter_not_len (l : List Nat) (p : Nat → Bool) : (l.filter p).length + (l.filter (fun i => !p i)).length = l.length := by
  induction l with
  | nil => rfl
  | cons a t ih => cases h : p a <;> simp [h] <;> omega
/-- As many places are taken as there are things. -/
theorem Ar.count (a : Ar) (h : a.ok) : (((List.range a.ever.toNat).filter (fun i : Nat => a.is (i : Int))).length : Int) = a.len := by
  have he := h.ever
  have h1 := filter_in a.ever.toNat a.free h.once (fun i hi => by have := h.free i hi; omega)
  have h2 := filter_not_len (List.range a.ever.toNat) (fun i : Nat => a.free.contains (i : Int))
  have h3 : (List.range a.ever.toNat).filter (fun i : Nat => a.is (i : Int)) = (List.range a.ever.toNat).filter (fun i : Nat => !a.free.contains (i : Int)) := by
    apply List.filter_congr
    intro i hi
    have h5 : i < a.ever.toNat := List.mem_range.1 hi
    have h6 : (decide (0 ≤ (i : Int)) && decide ((i : Int) < a.ever)) = true := by simp; omega
    unfold Ar.is
    rw [h6, Bool.and_true]
  rw [List.length_range] at h2
  rw [h3]
  unfold Ar.len
  omega
end Go.Proofs.Ytakkmnhiaddnnaa.Bo

/- The document's arena as rows of places. No Go in sight. -/
namespace Go.Proofs.Ytakkmnhiaddnnaa.Bo
/-- What lies in a place: the thing, and whether it is taken. -/
def Ar.pl (a : Ar) (i : Nat) : Int × Bool := if a.is (i : Int) = true then (a.l.getD i 0, true) else (0, false)
def Ar.ps (a : Ar) : List (Int × Bool) := (List.range a.l.length).map a.pl
theorem Ar.ps_len (a : Ar) : a.ps.length = a.l.length := by simp [Ar.ps]
theorem Ar.ps_at (a : Ar) (i : Nat) (h : i < a.l.length) : a.ps[i]? = some (a.pl i) := by
  simp [Ar.ps, h]
theorem Ar.ps_none (a : Ar) (i : Nat) (h : ¬ i < a.l.length) : a.ps[i]? = none := by
  rw [List.getElem?_eq_none]; rw [a.ps_len]; omega
theorem ps_ext (ps : List (Int × Bool)) (a : Ar) (hl : ps.length = a.l.length) (h : ∀ i, i < a.l.length → ps[i]? = some (a.pl i)) : ps = a.ps := by
  apply List.ext_getElem?
  intro i
  by_cases hi : i < a.l.length
  · rw [h i hi, a.ps_at i hi]
  · rw [a.ps_none i hi, List.getElem?_eq_none (by omega)]
theorem Ar.pl_is (a : Ar) (i : Nat) (h : a.is (i : Int) = true) : a.pl i = (a.l.getD i 0, true) := by unfold Ar.pl; rw [if_pos h]
theorem Ar.pl_no (a : Ar) (i : Nat) (h : a.is (i : Int) = false) : a.pl i = (0, false) := by unfold Ar.pl; rw [if_neg (by rw [h]; simp)]
/-- One place is written: the others are as they were. -/
theorem ps_put (a b : Ar) (i : Nat) (p : Int × Bool) (hl : b.l.length = a.l.length) (hi : i < a.l.length) (hp : b.pl i = p) (ho : ∀ j, j < a.l.length → j ≠ i → b.pl j = a.pl j) : a.ps.set i p = b.ps := by
  apply ps_ext
  · rw [List.length_set, a.ps_len, hl]
  · intro j hj
    rw [hl] at hj
    by_cases e : j = i
    · subst e
      rw [List.getElem?_set_self (by rw [a.ps_len]; exact hj), hp]
    · rw [List.getElem?_set_ne (fun h => e h.symm), a.ps_at j hj, ho j hj e]
theorem pl_congr (a b : Ar) (j : Nat) (h1 : b.is (j : Int) = a.is (j : Int)) (h2 : b.l.getD j 0 = a.l.getD j 0) : b.pl j = a.pl j := by unfold Ar.pl; rw [h1, h2]
theorem is_congr (a b : Ar) (i : Int) (h1 : i ∈ b.free ↔ i ∈ a.free) (h2 : i < b.ever ↔ i < a.ever) : b.is i = a.is i := by
  rw [Bool.eq_iff_iff, Ar.is_iff, Ar.is_iff, h1, h2]
theorem getD_set_self (l : List Int) (n : Nat) (v d : Int) (h : n < l.length) : (l.set n v).getD n d = v := by
  rw [List.getD_eq_getElem?_getD, List.getElem?_set_self h]; rfl
/-- A thing is set. -/
theorem Ar.ps_set (a : Ar) (i : Nat) (v : Int) (hok : a.ok) (hi : a.is (i : Int) = true) : a.ps.set i (v, true) = ({ a with l := a.l.set i v } : Ar).ps := by
  obtain ⟨_, _, h3, _⟩ := a.is_in i hok hi
  rw [Int.toNat_natCast] at h3
  refine ps_put a _ i _ (by show (a.l.set i v).length = _; rw [List.length_set]) h3 ?_ ?_
  · refine (Ar.pl_is { a with l := a.l.set i v } i hi).trans ?_
    show ((a.l.set i v).getD i 0, true) = _
    rw [getD_set_self _ _ _ _ h3]
  · intro j hj hne
    exact pl_congr a _ j rfl (getD_set_ne _ _ _ _ _ (fun h => hne h.symm))
/-- A place is freed. -/
theorem Ar.ps_free (a : Ar) (i : Nat) (hok : a.ok) (hi : a.is (i : Int) = true) : a.ps.set i (0, false) = ({ a with free := a.free ++ [(i : Int)] } : Ar).ps := by
  obtain ⟨_, _, h3, _⟩ := a.is_in i hok hi
  rw [Int.toNat_natCast] at h3
  refine ps_put a _ i _ rfl h3 ?_ ?_
  · refine Ar.pl_no _ i ?_
    cases e : Ar.is { a with free := a.free ++ [(i : Int)] } (i : Int) with
    | false => rfl
    | true => exact absurd (List.mem_append.2 (.inr (List.mem_singleton.2 rfl))) ((Ar.is_iff _ _).1 e).1
  · intro j hj hne
    refine pl_congr a _ j (is_congr a _ _ ?_ Iff.rfl) rfl
    show (j : Int) ∈ a.free ++ [(i : Int)] ↔ _
    rw [List.mem_append, List.mem_singleton]
    exact ⟨fun h => h.elim id (fun e => absurd e (by omega)), .inl⟩
/-- The place that was freed last is taken. -/
theorem Ar.ps_take (a : Ar) (f : Nat) (fs : List Int) (v : Int) (hok : a.ok) (hf : a.free = fs ++ [(f : Int)]) : f < a.l.length ∧ a.ps.set f (v, true) = ({ a with free := fs, l := a.l.set f v } : Ar).ps := by
  have hfi := hok.free (f : Int) (by rw [hf]; simp)
  have hev := hok.ever
  have hlt : f < a.l.length := by omega
  have hnd := hok.once
  rw [hf, List.nodup_append] at hnd
  have hnot : (f : Int) ∉ fs := fun h => hnd.2.2 _ h _ (List.mem_singleton.2 rfl) rfl
  refine ⟨hlt, ps_put a _ f _ (by show (a.l.set f v).length = _; rw [List.length_set]) hlt ?_ ?_⟩
  · refine (Ar.pl_is { a with free := fs, l := a.l.set f v } f ((Ar.is_iff _ _).2 ⟨hnot, hfi.1, hfi.2⟩)).trans ?_
    show ((a.l.set f v).getD f 0, true) = _
    rw [getD_set_self _ _ _ _ hlt]
  · intro j hj hne
    refine pl_congr a _ j (is_congr a _ _ ?_ Iff.rfl) (getD_set_ne _ _ _ _ _ (fun h => hne h.symm))
    show (j : Int) ∈ fs ↔ _
    rw [hf, List.mem_append, List.mem_singleton]
    exact ⟨.inl, fun h => h.elim id (fun e => absurd e (by omega))⟩
/-- A new place is taken. -/
theorem Ar.ps_new (a : Ar) (v : Int) (hok : a.ok) (hf : a.free = []) : (a.ps ++ [(0, false)]).set a.l.length (v, true) = ({ a with ever := a.ever + 1, l := a.l ++ [v] } : Ar).ps := by
  have hev := hok.ever
  apply ps_ext
  · show _ = (a.l ++ [v]).length
    rw [List.length_set, List.length_append, List.length_append, a.ps_len]; rfl
  · intro j hj
    have hj' : j < a.l.length + 1 := by
      have : (a.l ++ [v]).length = a.l.length + 1 := by rw [List.length_append]; rfl
      rw [← this]; exact hj
    have hnf : ∀ z : Int, z ∉ a.free := by rw [hf]; simp
    have his : Ar.is { a with ever := a.ever + 1, l := a.l ++ [v] } (j : Int) = true := (Ar.is_iff _ _).2 ⟨hnf _, by omega, by show (j : Int) < a.ever + 1; omega⟩
    rw [Ar.pl_is _ j his]
    by_cases e : j = a.l.length
    · subst e
      rw [List.getElem?_set_self (by rw [List.length_append, a.ps_len]; simp)]
      show _ = some ((a.l ++ [v]).getD a.l.length 0, true)
      rw [List.getD_eq_getElem?_getD, List.getElem?_append_right (Nat.le_refl _)]; simp
    · rw [List.getElem?_set_ne (fun h => e h.symm), List.getElem?_append_left (by rw [a.ps_len]; omega), a.ps_at j (by omega)]
      have his2 : a.is (j : Int) = true := (Ar.is_iff _ _).2 ⟨hnf _, by omega, by omega⟩
      rw [Ar.pl_is _ j his2]
      show _ = some ((a.l ++ [v]).getD j 0, true)
      rw [List.getD_eq_getElem?_getD, List.getD_eq_getElem?_getD, List.getElem?_append_left (by omega)]
/-- What the row of places says of a place. -/
theorem Ar.ps_is (a : Ar) (hok : a.ok) (i : Int) : a.is i = true ↔ ∃ n : Nat, i = (n : Int) ∧ n < a.l.length ∧ (a.pl n).2 = true := by
  constructor
  · intro h
    obtain ⟨h1, h2, h3, _⟩ := a.is_in i hok h
    refine ⟨i.toNat, by omega, h3, ?_⟩
    rw [Ar.pl_is a i.toNat (by rw [Int.toNat_of_nonneg h1]; exact h)]
  · rintro ⟨n, rfl, _, h⟩
    cases e : a.is (n : Int) with
    | true => rfl
    | false => rw [Ar.pl_no a n e] at h; cases h
/-- All things, by rising places: what Each goes through. -/
def Ar.things (a : Ar) : List (Int × Int) := ((List.range a.l.length).filter (fun i : Nat => a.is (i : Int))).map (fun i : Nat => ((i : Int), a.l.getD i 0))
def Ar.upto (a : Ar) (k : Nat) : List (Int × Int) := ((List.range k).filter (fun i : Nat => a.is (i : Int))).map (fun i : Nat => ((i : Int), a.l.getD i 0))
theorem Ar.upto_zero (a : Ar) : a.upto 0 = [] := rfl
theorem Ar.upto_is (a : Ar) (k : Nat) (h : a.is (k : Int) = true) : a.upto (k + 1) = a.upto k ++ [((k : Int), a.l.getD k 0)] := by
  unfold Ar.upto
  rw [List.range_succ, List.filter_append, List.map_append]
  simp [h]
theorem Ar.upto_no (a : Ar) (k : Nat) (h : a.is (k : Int) = false) : a.upto (k + 1) = a.upto k := by
  unfold Ar.upto
  rw [List.range_succ, List.filter_append, List.map_append]
  simp [h]
theorem Ar.upto_all (a : Ar) : a.upto a.l.length = a.things := rfl
theorem Ar.upto_len (a : Ar) (k : Nat) : (a.upto k).length ≤ k := by
  unfold Ar.upto
  rw [List.length_map]
  exact Nat.le_trans (List.length_filter_le _ _) (by simp)
theorem Ar.things_len (a : Ar) (hok : a.ok) : (a.things.length : Int) = a.len := by
  have := a.count hok
  have he := hok.ever
  unfold Ar.things
  rw [List.length_map]
  rw [show a.l.length = a.ever.toNat by omega]
  exact this
theorem Ar.upto_pre (a : Ar) : ∀ (k n : Nat), a.upto k <+: a.upto (k + n) := by
  intro k n
  induction n with
  | zero => exact List.prefix_refl _
  | succ n ih =>
    refine ih.trans ?_
    rw [← Nat.add_assoc]
    cases h : a.is ((k + n : Nat) : Int) with
    | true => rw [a.upto_is _ h]; exact List.prefix_append _ _
    | false => rw [a.upto_no _ h]; exact List.prefix_refl _
theorem Ar.upto_pre_things (a : Ar) (k : Nat) (h : k ≤ a.l.length) : a.upto k <+: a.things := by
  obtain ⟨n, hn⟩ := Nat.exists_eq_add_of_le h
  rw [← a.upto_all, hn]
  exact a.upto_pre k n
/-- The last place that came, or -1. -/
def lastPl (pre : List (Int × Int)) : Int := (pre.getLast?.map (·.1)).getD (-1)
theorem lastPl_nil : lastPl [] = -1 := rfl
theorem lastPl_snoc (pre : List (Int × Int)) (x : Int × Int) : lastPl (pre ++ [x]) = x.1 := by unfold lastPl; simp
/-- A thing that may come behind pre. -/
def goodT (a : Ar) (pre : List (Int × Int)) (x : Int × Int) : Bool := !(decide (x.1 ≤ lastPl pre) || !(a.is x.1) || (a.l.getD x.1.toNat 0 != x.2))
theorem lastPl_lt (a : Ar) : ∀ k, lastPl (a.upto k) < (k : Int) := by
  intro k
  induction k with
  | zero => rw [a.upto_zero]; decide
  | succ k ih =>
    cases h : a.is (k : Int) with
    | true => rw [a.upto_is k h, lastPl_snoc]; show (k : Int) < _; omega
    | false => rw [a.upto_no k h]; omega
/-- Whatever begins the things: the last one of it may come behind the others. -/
theorem things_good (a : Ar) : ∀ (k : Nat) (pre : List (Int × Int)) (x : Int × Int), pre ++ [x] <+: a.upto k → goodT a pre x = true := by
  intro k
  induction k with
  | zero =>
    intro pre x h
    rw [a.upto_zero] at h
    have := h.length_le
    simp at this
  | succ k ih =>
    intro pre x h
    cases hk : a.is (k : Int) with
    | false => rw [a.upto_no k hk] at h; exact ih pre x h
    | true =>
      rw [a.upto_is k hk] at h
      rcases List.prefix_concat_iff.1 h with h1 | h1
      · have h2 := List.append_inj' h1 rfl
        obtain ⟨rfl, h3⟩ := h2
        obtain rfl : x = ((k : Int), a.l.getD k 0) := by simpa using h3
        unfold goodT
        have := lastPl_lt a k
        have e1 : decide ((k : Int) ≤ lastPl (a.upto k)) = false := decide_eq_false (by omega)
        simp only [e1, hk, Int.toNat_natCast, bne_self_eq_false]
        rfl
      · exact ih pre x h1
end Go.Proofs.Ytakkmnhiaddnnaa.Bo

/- The program's arena in memory: what a call may touch, and what stays. -/
namespace Go.Proofs.Ytakkmnhiaddnnaa
open Go.RowKit Go.Sort Go.Proofs.Ytakkmnhiaddnnaa.Bo
set_option linter.unusedVariables false

/-- All blocks but those of S are as they were. -/
structure Kp (S : Nat → Prop) (w w' : World) : Prop where
  os : w'.os = w.os
  tape : w'.tape = w.tape
  output : w'.output = w.output
  size : w.heap.size ≤ w'.heap.size
  block : ∀ k, k < w.heap.size → ¬ S k → w'.heap[k]? = w.heap[k]?
theorem Kp.refl (S : Nat → Prop) (w : World) : Kp S w w := ⟨rfl, rfl, rfl, Nat.le_refl _, fun _ _ _ => rfl⟩
theorem Kp.trans {S T : Nat → Prop} {a b c : World} (h : Kp S a b) (k : Kp T b c) (hs : ∀ n, n < a.heap.size → T n → S n) : Kp S a c :=
  ⟨k.os.trans h.os, k.tape.trans h.tape, k.output.trans h.output, Nat.le_trans h.size k.size, fun i hi hn => (k.block i (Nat.lt_of_lt_of_le hi h.size) (fun ht => hn (hs i hi ht))).trans (h.block i hi hn)⟩
theorem Kp.of_below (S : Nat → Prop) {w w' : World} (h : Go.RowKit.Below w.heap.size w w') : Kp S w w' := ⟨h.os, h.tape, h.output, h.size, fun k hk _ => h.block k hk⟩
theorem Kp.to_below {S : Nat → Prop} {w w' : World} (h : Kp S w w') (B : Nat) (hB : B ≤ w.heap.size) (hs : ∀ b, S b → B ≤ b) : Go.RowKit.Below B w w' :=
  ⟨h.os, h.tape, h.output, h.size, fun k hk => h.block k (Nat.lt_of_lt_of_le hk hB) (fun hS => by have := hs k hS; omega)⟩
theorem Kp.drew {S : Nat → Prop} {a w : World} (h : Kp S a w) : Kp S a w.drew := ⟨h.os, h.tape, h.output, h.size, h.block⟩
theorem Kp.alloc {S : Nat → Prop} {a w : World} (h : Kp S a w) (o : Obj) : Kp S a (w.alloc o) :=
  ⟨h.os, h.tape, h.output, by have := h.size; simp; omega, fun k hk hn => (Go.RowKit.Below.heap_alloc w o k (Nat.lt_of_lt_of_le hk h.size)).trans (h.block k hk hn)⟩
theorem Kp.setCell {S : Nat → Prop} {a w : World} (h : Kp S a w) (p : Addr) (hp : S p.block ∨ a.heap.size ≤ p.block) (u : Value) : Kp S a (w.setCell p u) :=
  ⟨h.os, h.tape, h.output, by have := h.size; simp [World.setCell]; omega, fun k hk hn => (Go.RowKit.Below.heap_setCell w p u k (fun e => by subst e; rcases hp with h1 | h1; exact hn h1; omega)).trans (h.block k hk hn)⟩
theorem Kp.grown {S : Nat → Prop} {a w w' : World} {row : Option Nat} (h : Kp S a w) (hg : w.grownBy w' row) (hr : ∀ k, row = some k → S k ∨ a.heap.size ≤ k) : Kp S a w' :=
  ⟨hg.os.trans h.os, hg.tape.trans h.tape, hg.output.trans h.output, Nat.le_trans h.size hg.size, fun k hk hn => (hg.block k (Nat.lt_of_lt_of_le hk h.size) (fun e => by rcases hr k e.symm with h1 | h1; exact hn h1; omega)).trans (h.block k hk hn)⟩
theorem Kp.mono {S T : Nat → Prop} {w w' : World} (h : Kp S w w') (hs : ∀ b, S b → T b) : Kp T w w' := ⟨h.os, h.tape, h.output, h.size, fun k hk hn => h.block k hk (fun hS => hn (hs k hS))⟩
/-- A block outside S is as it was. -/
theorem Kp.at {S : Nat → Prop} {w w' : World} (h : Kp S w w') {b : Nat} {o : Obj} (hb : w.heap[b]? = some o) (hn : ¬ S b) : w'.heap[b]? = some o := (h.block b (lt_of_block hb) hn).trans hb
theorem own_kp {S : Nat → Prop} {w w' : World} {base : Nat} {e : TypeId} {size : Nat} {v : Value} {n : Nat} {xs : List Value} (h : w.ownsRow base e size v n xs) (hk : Kp S w w') (hn : ∀ b, v.ownBlock = some b → ¬ S b) : w'.ownsRow base e size v n xs := by
  refine ⟨h.1, ?_⟩
  rcases h.2 with hz | ⟨g, cap, cur, rfl, hb, hgg, rest⟩
  · exact .inl hz
  · exact .inr ⟨g, cap, cur, rfl, hb, hk.at hgg (hn g rfl), rest⟩
/-- The type of an owned row's block. -/
theorem own_type {w : World} {base : Nat} {e : TypeId} {size : Nat} {v : Value} {n : Nat} {xs : List Value} (h : w.ownsRow base e size v n xs) {b : Nat} (hb : v.ownBlock = some b) : ∃ cur, w.heap[b]? = some (.cells cur e (0, 0)) := by
  rcases h.2 with ⟨rfl, _⟩ | ⟨g, cap, cur, rfl, _, hgg, _⟩
  · simp [Value.ownBlock] at hb
  · simp [Value.ownBlock] at hb; subst hb; exact ⟨cur, hgg⟩
theorem type_ne {w : World} {b c : Nat} {cs ds : Array Value} {t u : TypeId} (h : w.heap[b]? = some (.cells cs t (0, 0))) (k : w.heap[c]? = some (.cells ds u (0, 0))) (hne : t ≠ u) : b ≠ c := by
  rintro rfl
  rw [h] at k
  injection k with k
  injection k with _ k _
  exact hne k

/-- A row of places, cell by cell. -/
def flatP : List (Int × Bool) → List Value
  | [] => []
  | p :: t => .int .i64 p.1 :: .bool p.2 :: flatP t
theorem flatP_len (l : List (Int × Bool)) : (flatP l).length = l.length * 2 := by
  induction l with
  | nil => rfl
  | cons p t ih => simp only [flatP, List.length_cons, ih]; omega
theorem flatP_append (l m : List (Int × Bool)) : flatP (l ++ m) = flatP l ++ flatP m := by
  induction l with
  | nil => rfl
  | cons p t ih => simp only [List.cons_append, flatP, ih]
theorem flatP_at (l : List (Int × Bool)) : ∀ (i : Nat) (h : i < l.length), (flatP l)[i * 2]? = some (.int .i64 l[i].1) ∧ (flatP l)[i * 2 + 1]? = some (.bool l[i].2) := by
  induction l with
  | nil => intro i h; simp at h
  | cons p t ih =>
    intro i h
    cases i with
    | zero => exact ⟨rfl, rfl⟩
    | succ i =>
      have := ih i (by simpa using h)
      rw [show (i + 1) * 2 = i * 2 + 1 + 1 by omega]
      simp only [flatP, List.getElem?_cons_succ, List.getElem_cons_succ]
      exact this
theorem flatP_set (l : List (Int × Bool)) : ∀ (i : Nat) (p : Int × Bool), ((flatP l).set (i * 2) (.int .i64 p.1)).set (i * 2 + 1) (.bool p.2) = flatP (l.set i p) := by
  induction l with
  | nil => intro i p; simp [flatP]
  | cons q t ih =>
    intro i p
    cases i with
    | zero => rfl
    | succ i =>
      rw [show (i + 1) * 2 = i * 2 + 1 + 1 by omega]
      simp only [flatP, List.set_cons_succ]
      rw [ih i p]
theorem flatP_set1 (l : List (Int × Bool)) : ∀ (i : Nat) (v : Int) (b : Bool) (h : i < l.length), l[i].2 = b → (flatP l).set (i * 2) (.int .i64 v) = flatP (l.set i (v, b)) := by
  induction l with
  | nil => intro i v b h; simp at h
  | cons q t ih =>
    intro i v b h hb
    cases i with
    | zero => simp at hb; subst hb; rfl
    | succ i =>
      rw [show (i + 1) * 2 = i * 2 + 1 + 1 by omega]
      simp only [flatP, List.set_cons_succ]
      rw [ih i v b (by simpa using h) (by simpa using hb)]
theorem flatP_one (l : List (Int × Bool)) : ∀ u ∈ flatP l, u.oneCell' = true := by
  induction l with
  | nil => intro u h; simp [flatP] at h
  | cons p t ih =>
    intro u h
    simp only [flatP, List.mem_cons] at h
    rcases h with rfl | rfl | h
    · rfl
    · rfl
    · exact ih u h

/-- The blocks of an arena. -/
def FP (A : Nat) (pv fv : Value) : Nat → Prop := fun b => b = A ∨ pv.ownBlock = some b ∨ fv.ownBlock = some b
/-- The slices of an arena, as slices. -/
theorem own_slice {w : World} {base : Nat} {e : TypeId} {size : Nat} {v : Value} {n : Nat} {xs : List Value} (h : w.ownsRow base e size v n xs) : ∃ a cap, v = .slice a n cap ∧ n ≤ cap ∧ cap ≤ maxLen := by
  rcases h.2 with ⟨rfl, rfl⟩ | ⟨g, cap, cur, rfl, _, _, h1, h2, _⟩
  · exact ⟨none, 0, rfl, Nat.le_refl _, Nat.zero_le _⟩
  · exact ⟨_, cap, rfl, h1, h2⟩
theorem box3 {W : World} {b : Nat} {x0 x1 x2 : Value} {t : TypeId} (h : W.heap[b]? = some (.cells #[x0, x1, x2] t (0, 0))) :
    (W.cell? ⟨b, 0, none⟩ = some x0 ∧ W.cell? ⟨b, 1, none⟩ = some x1 ∧ W.cell? ⟨b, 2, none⟩ = some x2) ∧ W.frozen? ⟨b, 0, none⟩ = false ∧ W.frozen? ⟨b, 1, none⟩ = false ∧ W.frozen? ⟨b, 2, none⟩ = false :=
  ⟨three_cells h, frozen_of_row _ _ 0 _ _ h, frozen_of_row _ _ 1 _ _ h, frozen_of_row _ _ 2 _ _ h⟩
end Go.Proofs.Ytakkmnhiaddnnaa

/- An arena of things of whatever make, as lists. No Go in sight. -/
namespace Go.Proofs.Ytakkmnhiaddnnaa.Bo
/-- Room, how many places were ever taken, which are free (in the order in which they were freed), what is where. -/
structure Ag (α : Type) where
  room : Int
  ever : Int
  free : List Int
  l : List α
variable {α : Type}
def Ag.new (room : Int) : Ag α := ⟨room, 0, [], []⟩
def Ag.is (a : Ag α) (i : Int) : Bool := !(a.free.contains i) && (decide (0 ≤ i) && decide (i < a.ever))
def Ag.len (a : Ag α) : Int := a.ever - a.free.length
structure Ag.ok (a : Ag α) : Prop where
  room : 0 ≤ a.room ∧ a.room ≤ 65536
  ever : a.ever = a.l.length
  free : ∀ i ∈ a.free, 0 ≤ i ∧ i < a.ever
  once : a.free.Nodup
  fits : a.ever - a.free.length ≤ a.room
  le : a.ever ≤ a.room
theorem Ag.new_ok (room : Int) (h : 0 ≤ room ∧ room ≤ 65536) : (Ag.new room : Ag α).ok :=
  ⟨h, rfl, (fun i hi => by simp [Ag.new] at hi), List.nodup_nil, by simp [Ag.new]; omega, h.1⟩
theorem Ag.lens (a : Ag α) (h : a.ok) : a.l.length ≤ 65536 ∧ a.free.length ≤ a.l.length := by
  have h1 := h.ever
  have h2 := h.room
  have h3 := h.le
  have h5 := nodup_len a.l.length a.free h.once (fun i hi => by have := h.free i hi; omega)
  omega
theorem Ag.is_iff (a : Ag α) (i : Int) : a.is i = true ↔ i ∉ a.free ∧ 0 ≤ i ∧ i < a.ever := by
  unfold Ag.is; simp
theorem Ag.is_in (a : Ag α) (i : Int) (h : a.ok) (hi : a.is i = true) : 0 ≤ i ∧ i < a.ever ∧ i.toNat < a.l.length ∧ i ∉ a.free := by
  obtain ⟨h1, h2, h3⟩ := (a.is_iff i).1 hi
  have := h.ever
  exact ⟨h2, h3, by omega, h1⟩
/-- A thing is set. -/
def Ag.set (a : Ag α) (i : Nat) (v : α) : Ag α := { a with l := a.l.set i v }
/-- A place is freed. -/
def Ag.drop (a : Ag α) (i : Int) : Ag α := { a with free := a.free ++ [i] }
/-- A place that was freed last is taken. -/
def Ag.take (a : Ag α) (fs : List Int) (f : Nat) (v : α) : Ag α := { a with free := fs, l := a.l.set f v }
/-- A new place is taken. -/
def Ag.grow (a : Ag α) (v : α) : Ag α := { a with ever := a.ever + 1, l := a.l ++ [v] }
theorem Ag.set_ok (a : Ag α) (i : Nat) (v : α) (h : a.ok) : (a.set i v).ok := ⟨h.room, by show a.ever = ((a.l.set i v).length : Int); rw [List.length_set]; exact h.ever, h.free, h.once, h.fits, h.le⟩
theorem Ag.drop_ok (a : Ag α) (i : Int) (h : a.ok) (hi : a.is i = true) : (a.drop i).ok := by
  obtain ⟨g1, g2, g3, g4⟩ := a.is_in i h hi
  refine ⟨h.room, h.ever, ?_, ?_, ?_, h.le⟩
  · intro j hj
    rcases List.mem_append.1 hj with h6 | h6
    · exact h.free j h6
    · simp at h6; subst h6; exact ⟨g1, g2⟩
  · show (a.free ++ [i]).Nodup
    rw [List.nodup_append]
    exact ⟨h.once, by simp, fun x hx y hy => by simp at hy; subst hy; intro e; subst e; exact g4 hx⟩
  · show a.ever - ((a.free ++ [i]).length : Int) ≤ a.room
    have := h.fits
    rw [List.length_append]; simp; omega
theorem Ag.take_ok (a : Ag α) (fs : List Int) (f : Nat) (v : α) (h : a.ok) (hf : a.free = fs ++ [(f : Int)]) (hr : a.len < a.room) : (a.take fs f v).ok := by
  unfold Ag.len at hr
  have hl : a.free.length = fs.length + 1 := by rw [hf]; simp
  refine ⟨h.room, by show a.ever = ((a.l.set f v).length : Int); rw [List.length_set]; exact h.ever, fun i hi => h.free i (by rw [hf]; exact List.mem_append.2 (.inl hi)), ?_, ?_, h.le⟩
  · show fs.Nodup
    have := h.once
    rw [hf, List.nodup_append] at this
    exact this.1
  · show a.ever - (fs.length : Int) ≤ a.room
    omega
theorem Ag.grow_ok (a : Ag α) (v : α) (h : a.ok) (hf : a.free = []) (hr : a.len < a.room) : (a.grow v).ok := by
  unfold Ag.len at hr
  have he := h.ever
  rw [hf] at hr
  simp at hr
  refine ⟨h.room, by show a.ever + 1 = ((a.l ++ [v]).length : Int); rw [List.length_append]; simp; omega, fun i hi => ?_, h.once, ?_, by show a.ever + 1 ≤ a.room; omega⟩
  · have := h.free i hi
    show 0 ≤ i ∧ i < a.ever + 1
    omega
  · show a.ever + 1 - (a.free.length : Int) ≤ a.room
    rw [hf]; simp; omega
/-- What lies in a place: the thing, and whether it is taken. -/
def Ag.pl (d : α) (a : Ag α) (i : Nat) : α × Bool := if a.is (i : Int) = true then (a.l.getD i d, true) else (d, false)
def Ag.ps (d : α) (a : Ag α) : List (α × Bool) := (List.range a.l.length).map (a.pl d)
theorem Ag.ps_len (d : α) (a : Ag α) : (a.ps d).length = a.l.length := by simp [Ag.ps]
theorem Ag.ps_at (d : α) (a : Ag α) (i : Nat) (h : i < a.l.length) : (a.ps d)[i]? = some (a.pl d i) := by
  simp [Ag.ps, h]
theorem Ag.ps_none (d : α) (a : Ag α) (i : Nat) (h : ¬ i < a.l.length) : (a.ps d)[i]? = none := by
  rw [List.getElem?_eq_none]; rw [a.ps_len]; omega
theorem agps_ext (d : α) (ps : List (α × Bool)) (a : Ag α) (hl : ps.length = a.l.length) (h : ∀ i, i < a.l.length → ps[i]? = some (a.pl d i)) : ps = a.ps d := by
  apply List.ext_getElem?
  intro i
  by_cases hi : i < a.l.length
  · rw [h i hi, a.ps_at d i hi]
  · rw [a.ps_none d i hi, List.getElem?_eq_none (by omega)]
theorem Ag.pl_is (d : α) (a : Ag α) (i : Nat) (h : a.is (i : Int) = true) : a.pl d i = (a.l.getD i d, true) := by unfold Ag.pl; rw [if_pos h]
theorem Ag.pl_no (d : α) (a : Ag α) (i : Nat) (h : a.is (i : Int) = false) : a.pl d i = (d, false) := by unfold Ag.pl; rw [if_neg (by rw [h]; simp)]
theorem agps_put (d : α) (a b : Ag α) (i : Nat) (p : α × Bool) (hl : b.l.length = a.l.length) (hi : i < a.l.length) (hp : b.pl d i = p) (ho : ∀ j, j < a.l.length → j ≠ i → b.pl d j = a.pl d j) : (a.ps d).set i p = b.ps d := by
  apply agps_ext
  · rw [List.length_set, a.ps_len, hl]
  · intro j hj
    rw [hl] at hj
    by_cases e : j = i
    · subst e
      rw [List.getElem?_set_self (by rw [a.ps_len]; exact hj), hp]
    · rw [List.getElem?_set_ne (fun h => e h.symm), a.ps_at d j hj, ho j hj e]
theorem agpl_congr (d : α) (a b : Ag α) (j : Nat) (h1 : b.is (j : Int) = a.is (j : Int)) (h2 : b.l.getD j d = a.l.getD j d) : b.pl d j = a.pl d j := by unfold Ag.pl; rw [h1, h2]
theorem agis_congr (a b : Ag α) (i : Int) (h1 : i ∈ b.free ↔ i ∈ a.free) (h2 : i < b.ever ↔ i < a.ever) : b.is i = a.is i := by
  rw [Bool.eq_iff_iff, Ag.is_iff, Ag.is_iff, h1, h2]
theorem agetD_set_self (l : List α) (n : Nat) (v d : α) (h : n < l.length) : (l.set n v).getD n d = v := by
  rw [List.getD_eq_getElem?_getD, List.getElem?_set_self h]; rfl
theorem agetD_set_ne (l : List α) (m n : Nat) (v d : α) (h : m ≠ n) : (l.set m v).getD n d = l.getD n d := by
  rw [List.getD_eq_getElem?_getD, List.getD_eq_getElem?_getD, List.getElem?_set_ne h]
theorem Ag.ps_set (d : α) (a : Ag α) (i : Nat) (v : α) (hok : a.ok) (hi : a.is (i : Int) = true) : (a.ps d).set i (v, true) = (a.set i v).ps d := by
  obtain ⟨_, _, h3, _⟩ := a.is_in i hok hi
  rw [Int.toNat_natCast] at h3
  refine agps_put d a _ i _ (by show (a.l.set i v).length = _; rw [List.length_set]) h3 ?_ ?_
  · refine (Ag.pl_is d (a.set i v) i hi).trans ?_
    show ((a.l.set i v).getD i d, true) = _
    rw [agetD_set_self _ _ _ _ h3]
  · intro j hj hne
    exact agpl_congr d a _ j rfl (agetD_set_ne _ _ _ _ _ (fun h => hne h.symm))
theorem Ag.ps_drop (d : α) (a : Ag α) (i : Nat) (hok : a.ok) (hi : a.is (i : Int) = true) : (a.ps d).set i (d, false) = (a.drop (i : Int)).ps d := by
  obtain ⟨_, _, h3, _⟩ := a.is_in i hok hi
  rw [Int.toNat_natCast] at h3
  refine agps_put d a _ i _ rfl h3 ?_ ?_
  · refine Ag.pl_no d _ i ?_
    cases e : Ag.is (a.drop (i : Int)) (i : Int) with
    | false => rfl
    | true => exact absurd (List.mem_append.2 (.inr (List.mem_singleton.2 rfl))) ((Ag.is_iff _ _).1 e).1
  · intro j hj hne
    refine agpl_congr d a _ j (agis_congr a _ _ ?_ Iff.rfl) rfl
    show (j : Int) ∈ a.free ++ [(i : Int)] ↔ _
    rw [List.mem_append, List.mem_singleton]
    exact ⟨fun h => h.elim id (fun e => absurd e (by omega)), .inl⟩
theorem Ag.ps_take (d : α) (a : Ag α) (f : Nat) (fs : List Int) (v : α) (hok : a.ok) (hf : a.free = fs ++ [(f : Int)]) : f < a.l.length ∧ (a.ps d).set f (v, true) = (a.take fs f v).ps d := by
  have hfi := hok.free (f : Int) (by rw [hf]; simp)
  have hev := hok.ever
  have hlt : f < a.l.length := by omega
  have hnd := hok.once
  rw [hf, List.nodup_append] at hnd
  have hnot : (f : Int) ∉ fs := fun h => hnd.2.2 _ h _ (List.mem_singleton.2 rfl) rfl
  refine ⟨hlt, agps_put d a _ f _ (by show (a.l.set f v).length = _; rw [List.length_set]) hlt ?_ ?_⟩
  · refine (Ag.pl_is d (a.take fs f v) f ((Ag.is_iff _ _).2 ⟨hnot, hfi.1, hfi.2⟩)).trans ?_
    show ((a.l.set f v).getD f d, true) = _
    rw [agetD_set_self _ _ _ _ hlt]
  · intro j hj hne
    refine agpl_congr d a _ j (agis_congr a _ _ ?_ Iff.rfl) (agetD_set_ne _ _ _ _ _ (fun h => hne h.symm))
    show (j : Int) ∈ fs ↔ _
    rw [hf, List.mem_append, List.mem_singleton]
    exact ⟨.inl, fun h => h.elim id (fun e => absurd e (by omega))⟩
theorem Ag.ps_grow (d : α) (a : Ag α) (v : α) (hok : a.ok) (hf : a.free = []) : ((a.ps d) ++ [(d, false)]).set a.l.length (v, true) = (a.grow v).ps d := by
  have hev := hok.ever
  apply agps_ext
  · show _ = (a.l ++ [v]).length
    rw [List.length_set, List.length_append, List.length_append, a.ps_len]; rfl
  · intro j hj
    have hj' : j < a.l.length + 1 := by
      have : (a.l ++ [v]).length = a.l.length + 1 := by rw [List.length_append]; rfl
      rw [← this]; exact hj
    have hnf : ∀ z : Int, z ∉ a.free := by rw [hf]; simp
    have his : Ag.is (a.grow v) (j : Int) = true := (Ag.is_iff _ _).2 ⟨hnf _, by omega, by show (j : Int) < a.ever + 1; omega⟩
    rw [Ag.pl_is d _ j his]
    by_cases e : j = a.l.length
    · subst e
      rw [List.getElem?_set_self (by rw [List.length_append, a.ps_len]; simp)]
      show _ = some ((a.l ++ [v]).getD a.l.length d, true)
      rw [List.getD_eq_getElem?_getD, List.getElem?_append_right (Nat.le_refl _)]; simp
    · rw [List.getElem?_set_ne (fun h => e h.symm), List.getElem?_append_left (by rw [a.ps_len]; omega), a.ps_at d j (by omega)]
      have his2 : a.is (j : Int) = true := (Ag.is_iff _ _).2 ⟨hnf _, by omega, by omega⟩
      rw [Ag.pl_is d _ j his2]
      show _ = some ((a.l ++ [v]).getD j d, true)
      rw [List.getD_eq_getElem?_getD, List.getD_eq_getElem?_getD, List.getElem?_append_left (by omega)]
theorem ag_ps_no (d : α) (a : Ag α) (i : Int) (h : a.is i = false) : ∀ (n : Nat) (hn : n < (a.ps d).length), i = (n : Int) → (a.ps d)[n].2 = false := by
  rintro n hn rfl
  have := a.ps_at d n (by rw [← a.ps_len d]; exact hn)
  rw [List.getElem?_eq_getElem hn] at this
  injection this with this
  rw [this, Ag.pl_no d a n h]
theorem ag_ps_yes (d : α) (a : Ag α) (n : Nat) (hn : n < (a.ps d).length) (h : a.is (n : Int) = true) : (a.ps d)[n] = (a.l.getD n d, true) := by
  have := a.ps_at d n (by rw [← a.ps_len d]; exact hn)
  rw [List.getElem?_eq_getElem hn] at this
  injection this with this
  rw [this, Ag.pl_is d a n h]
end Go.Proofs.Ytakkmnhiaddnnaa.Bo
