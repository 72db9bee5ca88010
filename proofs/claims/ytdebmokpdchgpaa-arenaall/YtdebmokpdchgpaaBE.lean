/- A part of the proof: contracts of the functions that the statements reach. -/
import Derived.Test.YtdebmokpdchgpaaRows
import Derived.Test.YtdebmokpdchgpaaBA
import Derived.Test.YtdebmokpdchgpaaBB
import Derived.Test.YtdebmokpdchgpaaBC
import Derived.Test.YtdebmokpdchgpaaBD

/- What follows for the document's arena, for the laws of layer 5. No Go in sight. -/
namespace Go.Proofs.Ytdebmokpdchgpaa.Bo
/-- How many things there are. -/
def Ar.len (a : Ar) : Int := a.ever - a.free.length
def Ar.new (room : Int) : Ar := ⟨room, 0, [], []⟩
theorem Ar.new_ok (room : Int) (h : 0 ≤ room ∧ room ≤ 65536) : (Ar.new room).ok :=
  ⟨h, rfl, fun i hi => by simp [Ar.new] at hi, List.nodup_nil, by simp [Ar.new]; omega, fun z hz => by simp [Ar.new] at hz⟩
/-- No more places were ever taken than there is room for. -/
theorem Ar.put_le (a : Ar) (v : Int) (h : a.ever ≤ a.room) : (a.put v).1.ever ≤ a.room ∧ (a.put v).1.room = a.room := by
  unfold Ar.put
  by_cases h1 : a.room ≤ a.ever - a.free.length
  · rw [if_pos h1]; exact ⟨h, rfl⟩
  · rw [if_neg h1]
    by_cases h2 : 0 < a.free.length
    · rw [if_pos h2]; exact ⟨h, rfl⟩
    · rw [if_neg h2]; exact ⟨by show a.ever + 1 ≤ _; omega, rfl⟩
theorem Ar.does_le (a : Ar) (k i v : Int) (hr : 0 ≤ a.room) (h : a.ever ≤ a.room) : (a.does k i v).1.ever ≤ a.room ∧ (a.does k i v).1.room = a.room := by
  unfold Ar.does
  by_cases h1 : k = 0
  · rw [if_pos h1]; exact a.put_le v h
  rw [if_neg h1]
  by_cases h2 : k = 4
  · rw [if_pos h2]; exact ⟨hr, rfl⟩
  rw [if_neg h2]
  by_cases h3 : k < 0 ∨ 4 < k ∨ a.is i = false
  · rw [if_pos h3]; exact ⟨h, rfl⟩
  rw [if_neg h3]
  by_cases h4 : k = 1
  · rw [if_pos h4]; exact ⟨h, rfl⟩
  rw [if_neg h4]
  by_cases h5 : k = 2
  · rw [if_pos h5]; exact ⟨h, rfl⟩
  · rw [if_neg h5]; exact ⟨h, rfl⟩
theorem getD_set_ne (l : List Int) (m n : Nat) (v d : Int) (h : m ≠ n) : (l.set m v).getD n d = l.getD n d := by
  rw [List.getD_eq_getElem?_getD, List.getD_eq_getElem?_getD, List.getElem?_set_ne h]
theorem Ar.is_iff (a : Ar) (i : Int) : a.is i = true ↔ i ∉ a.free ∧ 0 ≤ i ∧ i < a.ever := by
  unfold Ar.is; simp
/-- What was put is got, whatever is done in other places. -/
theorem Ar.does_keeps (a : Ar) (p w k i v : Int) (h : a.ok) (hp : a.is p = true) (hw : a.l.getD p.toNat 0 = w) (hk : k = 0 ∨ (i ≠ p ∧ k ≠ 4)) :
    (a.does k i v).1.is p = true ∧ (a.does k i v).1.l.getD p.toNat 0 = w ∧ (k = 0 → (a.does k i v).2.e = 0 → (a.does k i v).2.i ≠ p) := by
  obtain ⟨p1, p2, p3⟩ := (a.is_iff p).1 hp
  have he := h.ever
  unfold Ar.does
  by_cases h1 : k = 0
  · rw [if_pos h1]
    unfold Ar.put
    by_cases h2 : a.room ≤ a.ever - a.free.length
    · rw [if_pos h2]; exact ⟨hp, hw, fun _ h0 => by cases h0⟩
    rw [if_neg h2]
    by_cases h3 : 0 < a.free.length
    · rw [if_pos h3]
      have hm := last_mem a.free h3
      have hf := h.free _ hm
      generalize a.free.getD (a.free.length - 1) 0 = f at *
      have hne : f ≠ p := fun e => p1 (e ▸ hm)
      refine ⟨(Ar.is_iff _ p).2 ⟨fun h4 => p1 (List.mem_of_mem_take h4), p2, p3⟩, ?_, fun _ _ => hne⟩
      show (a.l.set f.toNat v).getD p.toNat 0 = w
      rw [getD_set_ne _ _ _ _ _ (by omega)]
      exact hw
    · rw [if_neg h3]
      refine ⟨(Ar.is_iff _ p).2 ⟨p1, p2, by show p < a.ever + 1; omega⟩, ?_, fun _ _ => by show a.ever ≠ p; omega⟩
      show (a.l ++ [v]).getD p.toNat 0 = w
      rw [List.getD_eq_getElem?_getD, List.getElem?_append_left (by omega), ← List.getD_eq_getElem?_getD]
      exact hw
  obtain ⟨k1, k2⟩ := hk.resolve_left h1
  rw [if_neg h1, if_neg k2]
  by_cases h3 : k < 0 ∨ 4 < k ∨ a.is i = false
  · rw [if_pos h3]; exact ⟨hp, hw, fun h0 => absurd h0 h1⟩
  rw [if_neg h3]
  have hi : a.is i = true := by
    cases hi : a.is i with
    | true => rfl
    | false => exact absurd (Or.inr (Or.inr hi)) h3
  obtain ⟨i1, i2, i3⟩ := (a.is_iff i).1 hi
  by_cases h4 : k = 1
  · rw [if_pos h4]; exact ⟨hp, hw, fun h0 => absurd h0 h1⟩
  rw [if_neg h4]
  by_cases h5 : k = 2
  · rw [if_pos h5]
    refine ⟨(Ar.is_iff _ p).2 ⟨p1, p2, p3⟩, ?_, fun h0 => absurd h0 h1⟩
    show (a.l.set i.toNat v).getD p.toNat 0 = w
    rw [getD_set_ne _ _ _ _ _ (by omega)]
    exact hw
  · rw [if_neg h5]
    refine ⟨(Ar.is_iff _ p).2 ⟨fun h6 => ?_, p2, p3⟩, hw, fun h0 => absurd h0 h1⟩
    rcases List.mem_append.1 h6 with h7 | h7
    · exact p1 h7
    · simp at h7; exact k1 h7.symm
/-- As long as there is room, a thing is put, in a place below Room. -/
theorem Ar.put_room (a : Ar) (v : Int) (h : a.ok) (hle : a.ever ≤ a.room) (hr : a.len < a.room) :
    (a.put v).2.e = 0 ∧ 0 ≤ (a.put v).2.i ∧ (a.put v).2.i < a.room ∧ (a.put v).1.len = a.len + 1 ∧ (a.put v).1.is (a.put v).2.i = true ∧ (a.put v).1.l.getD (a.put v).2.i.toNat 0 = v := by
  unfold Ar.len at *
  have he := h.ever
  unfold Ar.put
  rw [if_neg (by omega)]
  by_cases h3 : 0 < a.free.length
  · rw [if_pos h3]
    have hm := last_mem a.free h3
    have hf := h.free _ hm
    have hnd := h.once
    have hsp : a.free = a.free.take (a.free.length - 1) ++ [a.free.getD (a.free.length - 1) 0] := by
      rw [List.getD_eq_getElem?_getD, List.getElem?_eq_getElem (by omega)]
      show a.free = a.free.take (a.free.length - 1) ++ [a.free[a.free.length - 1]]
      rw [← List.take_succ_eq_append_getElem, Nat.sub_add_cancel h3, List.take_length]
    have hnot : a.free.getD (a.free.length - 1) 0 ∉ a.free.take (a.free.length - 1) := by
      intro h9
      rw [hsp, List.nodup_append] at hnd
      exact hnd.2.2 _ h9 _ (List.mem_singleton.2 rfl) rfl
    have hlt : (a.free.take (a.free.length - 1)).length = a.free.length - 1 := by rw [List.length_take]; omega
    generalize a.free.getD (a.free.length - 1) 0 = f at *
    refine ⟨rfl, hf.1, by show f < a.room; omega, ?_, (Ar.is_iff _ f).2 ⟨hnot, hf.1, hf.2⟩, ?_⟩
    · show a.ever - ((a.free.take (a.free.length - 1)).length : Int) = _
      rw [hlt]; omega
    · show (a.l.set f.toNat v).getD f.toNat 0 = v
      rw [List.getD_eq_getElem?_getD, List.getElem?_set_self (by omega)]; rfl
  · rw [if_neg h3]
    have hnil : a.free = [] := List.length_eq_zero_iff.1 (by omega)
    refine ⟨rfl, by show 0 ≤ a.ever; omega, by show a.ever < a.room; omega, by show a.ever + 1 - (a.free.length : Int) = _; omega, (Ar.is_iff _ a.ever).2 ⟨by show a.ever ∉ a.free; rw [hnil]; simp, by omega, by show a.ever < a.ever + 1; omega⟩, ?_⟩
    show (a.l ++ [v]).getD a.ever.toNat 0 = v
    rw [List.getD_eq_getElem?_getD, List.getElem?_append_right (by omega)]
    have : a.ever.toNat - a.l.length = 0 := by omega
    rw [this]; rfl
theorem Ar.put_full (a : Ar) (v : Int) (hr : a.room ≤ a.len) : a.put v = (a, ⟨0, 0, false, 50⟩) := by
  unfold Ar.len at hr
  unfold Ar.put; rw [if_pos hr]
/-- The place that was freed last is taken. -/
theorem Ar.put_last (a : Ar) (v f : Int) (fs : List Int) (hf : a.free = fs ++ [f]) (hr : a.len < a.room) : a.put v = ({ a with free := fs, l := a.l.set f.toNat v }, ⟨f, 0, false, 0⟩) := by
  unfold Ar.len at hr
  unfold Ar.put
  rw [if_neg (by omega), if_pos (by rw [hf]; simp)]
  have e1 : a.free.getD (a.free.length - 1) 0 = f := by rw [hf]; simp
  have e2 : a.free.take (a.free.length - 1) = fs := by rw [hf]; simp
  rw [e1, e2]
theorem filter_in (n : Nat) : ∀ (f : List Int), f.Nodup → (∀ i ∈ f, 0 ≤ i ∧ i < (n : Int)) → ((List.range n).filter (fun i : Nat => f.contains (i : Int))).length = f.length := by
  induction n with
  | zero =>
    intro f _ h
    cases f with
    | nil => rfl
    | cons a t => have := h a (List.mem_cons_self ..); omega
  | succ n ih =>
    intro f hnd h
    rw [List.range_succ, List.filter_append, List.length_append]
    by_cases hn : (n : Int) ∈ f
    · have h1 : (f.erase (n : Int)).Nodup := hnd.erase _
      have h2 : ∀ i ∈ f.erase (n : Int), 0 ≤ i ∧ i < (n : Int) := fun i hi => by
        have h3 := (hnd.mem_erase_iff).1 hi
        have := h i h3.2
        omega
      have h3 := ih (f.erase (n : Int)) h1 h2
      have h4 : (List.range n).filter (fun i : Nat => f.contains (i : Int)) = (List.range n).filter (fun i : Nat => (f.erase (n : Int)).contains (i : Int)) := by
        apply List.filter_congr
        intro i hi
        have h5 : i < n := List.mem_range.1 hi
        rw [Bool.eq_iff_iff, List.contains_iff_mem, List.contains_iff_mem, hnd.mem_erase_iff]
        exact ⟨fun h6 => ⟨by omega, h6⟩, fun h6 => h6.2⟩
      have h5 : [n].filter (fun i : Nat => f.contains (i : Int)) = [n] := by simp [hn]
      have h6 := List.length_erase_of_mem hn
      have h7 : 0 < f.length := List.length_pos_of_mem hn
      rw [h4, h3, h5, h6]
      show f.length - 1 + 1 = _
      omega
    · have h2 : ∀ i ∈ f, 0 ≤ i ∧ i < (n : Int) := fun i hi => by
        have := h i hi
        have : i ≠ (n : Int) := fun e => hn (e ▸ hi)
        omega
      have h5 : [n].filter (fun i : Nat => f.contains (i : Int)) = [] := by simp [hn]
      rw [ih f hnd h2, h5]
      rfl
theorem filter_not_len (l : List Nat) (p : Nat → Bool) : (l.filter p).length + (l.filter (fun i => !p i)).length = l.length := by
  induction l with
  | nil => rfl
  | cons a t ih => cases h : p a <;> simp [h] <;> omega
/-- As many places are taken as there are things. -/
theorem Ar.count (a : Ar) (h : a.ok) : (((List.range a.ever.toNat).filter (fun i : Nat => a.is (i : Int))).length : Int) = a.len := by
  have he := h.ever
  have h1 := filter_in a.ever.toNat a.free h.once (fun i hi => by have := h.free i hi; omega)
  have h2 := filter_not_len (List.range a.ever.toNat) (fun i : Nat => a.free.contains (i : Int))
  have h3 : (List.range a.ever.toNat).filter (fun i : Nat => a.is (i : Int)) = (List.range a.ever.toNat).filter (fun i : Nat => !a.free.contains (i : Int)) := by
    apply List.filter_congr
    intro i hi
    have h5 : i < a.ever.toNat := List.mem_range.1 hi
    have h6 : (decide (0 ≤ (i : Int)) && decide ((i : Int) < a.ever)) = true := by simp; omega
    unfold Ar.is
    rw [h6, Bool.and_true]
  rw [List.length_range] at h2
  rw [h3]
  unfold Ar.len
  omega
end Go.Proofs.Ytdebmokpdchgpaa.Bo

/- The document's arena as rows of places. No Go in sight. -/
namespace Go.Proofs.Ytdebmokpdchgpaa.Bo
/-- What lies in a place: the thing, and whether it is taken. -/
def Ar.pl (a : Ar) (i : Nat) : Int × Bool := if a.is (i : Int) = true then (a.l.getD i 0, true) else (0, false)
def Ar.ps (a : Ar) : List (Int × Bool) := (List.range a.l.length).map a.pl
theorem Ar.ps_len (a : Ar) : a.ps.length = a.l.length := by simp [Ar.ps]
theorem Ar.ps_at (a : Ar) (i : Nat) (h : i < a.l.length) : a.ps[i]? = some (a.pl i) := by
  simp [Ar.ps, h]
theorem Ar.ps_none (a : Ar) (i : Nat) (h : ¬ i < a.l.length) : a.ps[i]? = none := by
  rw [List.getElem?_eq_none]; rw [a.ps_len]; omega
theorem ps_ext (ps : List (Int × Bool)) (a : Ar) (hl : ps.length = a.l.length) (h : ∀ i, i < a.l.length → ps[i]? = some (a.pl i)) : ps = a.ps := by
  apply List.ext_getElem?
  intro i
  by_cases hi : i < a.l.length
  · rw [h i hi, a.ps_at i hi]
  · rw [a.ps_none i hi, List.getElem?_eq_none (by omega)]
theorem Ar.pl_is (a : Ar) (i : Nat) (h : a.is (i : Int) = true) : a.pl i = (a.l.getD i 0, true) := by unfold Ar.pl; rw [if_pos h]
theorem Ar.pl_no (a : Ar) (i : Nat) (h : a.is (i : Int) = false) : a.pl i = (0, false) := by unfold Ar.pl; rw [if_neg (by rw [h]; simp)]
/-- One place is written: the others are as they were. -/
theorem ps_put (a b : Ar) (i : Nat) (p : Int × Bool) (hl : b.l.length = a.l.length) (hi : i < a.l.length) (hp : b.pl i = p) (ho : ∀ j, j < a.l.length → j ≠ i → b.pl j = a.pl j) : a.ps.set i p = b.ps := by
  apply ps_ext
  · rw [List.length_set, a.ps_len, hl]
  · intro j hj
    rw [hl] at hj
    by_cases e : j = i
    · subst e
      rw [List.getElem?_set_self (by rw [a.ps_len]; exact hj), hp]
    · rw [List.getElem?_set_ne (fun h => e h.symm), a.ps_at j hj, ho j hj e]
theorem pl_congr (a b : Ar) (j : Nat) (h1 : b.is (j : Int) = a.is (j : Int)) (h2 : b.l.getD j 0 = a.l.getD j 0) : b.pl j = a.pl j := by unfold Ar.pl; rw [h1, h2]
theorem is_congr (a b : Ar) (i : Int) (h1 : i ∈ b.free ↔ i ∈ a.free) (h2 : i < b.ever ↔ i < a.ever) : b.is i = a.is i := by
  rw [Bool.eq_iff_iff, Ar.is_iff, Ar.is_iff, h1, h2]
theorem getD_set_self (l : List Int) (n : Nat) (v d : Int) (h : n < l.length) : (l.set n v).getD n d = v := by
  rw [List.getD_eq_getElem?_getD, List.getElem?_set_self h]; rfl
/-- A thing is set. -/
theorem Ar.ps_set (a : Ar) (i : Nat) (v : Int) (hok : a.ok) (hi : a.is (i : Int) = true) : a.ps.set i (v, true) = ({ a with l := a.l.set i v } : Ar).ps := by
  obtain ⟨_, _, h3, _⟩ := a.is_in i hok hi
  rw [Int.toNat_natCast] at h3
  refine ps_put a _ i _ (by show (a.l.set i v).length = _; rw [List.length_set]) h3 ?_ ?_
  · refine (Ar.pl_is { a with l := a.l.set i v } i hi).trans ?_
    show ((a.l.set i v).getD i 0, true) = _
    rw [getD_set_self _ _ _ _ h3]
  · intro j hj hne
    exact pl_congr a _ j rfl (getD_set_ne _ _ _ _ _ (fun h => hne h.symm))
/-- A place is freed. -/
theorem Ar.ps_free (a : Ar) (i : Nat) (hok : a.ok) (hi : a.is (i : Int) = true) : a.ps.set i (0, false) = ({ a with free := a.free ++ [(i : Int)] } : Ar).ps := by
  obtain ⟨_, _, h3, _⟩ := a.is_in i hok hi
  rw [Int.toNat_natCast] at h3
  refine ps_put a _ i _ rfl h3 ?_ ?_
  · refine Ar.pl_no _ i ?_
    cases e : Ar.is { a with free := a.free ++ [(i : Int)] } (i : Int) with
    | false => rfl
    | true => exact absurd (List.mem_append.2 (.inr (List.mem_singleton.2 rfl))) ((Ar.is_iff _ _).1 e).1
  · intro j hj hne
    refine pl_congr a _ j (is_congr a _ _ ?_ Iff.rfl) rfl
    show (j : Int) ∈ a.free ++ [(i : Int)] ↔ _
    rw [List.mem_append, List.mem_singleton]
    exact ⟨fun h => h.elim id (fun e => absurd e (by omega)), .inl⟩
/-- The place that was freed last is taken. -/
theorem Ar.ps_take (a : Ar) (f : Nat) (fs : List Int) (v : Int) (hok : a.ok) (hf : a.free = fs ++ [(f : Int)]) : f < a.l.length ∧ a.ps.set f (v, true) = ({ a with free := fs, l := a.l.set f v } : Ar).ps := by
  have hfi := hok.free (f : Int) (by rw [hf]; simp)
  have hev := hok.ever
  have hlt : f < a.l.length := by omega
  have hnd := hok.once
  rw [hf, List.nodup_append] at hnd
  have hnot : (f : Int) ∉ fs := fun h => hnd.2.2 _ h _ (List.mem_singleton.2 rfl) rfl
  refine ⟨hlt, ps_put a _ f _ (by show (a.l.set f v).length = _; rw [List.length_set]) hlt ?_ ?_⟩
  · refine (Ar.pl_is { a with free := fs, l := a.l.set f v } f ((Ar.is_iff _ _).2 ⟨hnot, hfi.1, hfi.2⟩)).trans ?_
    show ((a.l.set f v).getD f 0, true) = _
    rw [getD_set_self _ _ _ _ hlt]
  · intro j hj hne
    refine pl_congr a _ j (is_congr a _ _ ?_ Iff.rfl) (getD_set_ne _ _ _ _ _ (fun h => hne h.symm))
    show (j : Int) ∈ fs ↔ _
    rw [hf, List.mem_append, List.mem_singleton]
    exact ⟨.inl, fun h => h.elim id (fun e => absurd e (by omega))⟩
/-- A new place is taken. -/
theorem Ar.ps_new (a : Ar) (v : Int) (hok : a.ok) (hf : a.free = []) : (a.ps ++ [(0, false)]).set a.l.length (v, true) = ({ a with ever := a.ever + 1, l := a.l ++ [v] } : Ar).ps := by
  have hev := hok.ever
  apply ps_ext
  · show _ = (a.l ++ [v]).length
    rw [List.length_set, List.length_append, List.length_append, a.ps_len]; rfl
  · intro j hj
    have hj' : j < a.l.length + 1 := by
      have : (a.l ++ [v]).length = a.l.length + 1 := by rw [List.length_append]; rfl
      rw [← this]; exact hj
    have hnf : ∀ z : Int, z ∉ a.free := by rw [hf]; simp
    have his : Ar.is { a with ever := a.ever + 1, l := a.l ++ [v] } (j : Int) = true := (Ar.is_iff _ _).2 ⟨hnf _, by omega, by show (j : Int) < a.ever + 1; omega⟩
    rw [Ar.pl_is _ j his]
    by_cases e : j = a.l.length
    · subst e
      rw [List.getElem?_set_self (by rw [List.length_append, a.ps_len]; simp)]
      show _ = some ((a.l ++ [v]).getD a.l.length 0, true)
      rw [List.getD_eq_getElem?_getD, List.getElem?_append_right (Nat.le_refl _)]; simp
    · rw [List.getElem?_set_ne (fun h => e h.symm), List.getElem?_append_left (by rw [a.ps_len]; omega), a.ps_at j (by omega)]
      have his2 : a.is (j : Int) = true := (Ar.is_iff _ _).2 ⟨hnf _, by omega, by omega⟩
      rw [Ar.pl_is _ j his2]
      show _ = some ((a.l ++ [v]).getD j 0, true)
      rw [List.getD_eq_getElem?_getD, List.getD_eq_getElem?_getD, List.getElem?_append_left (by omega)]
/-- What the row of places says of a place. -/
theorem Ar.ps_is (a : Ar) (hok : a.ok) (i : Int) : a.is i = true ↔ ∃ n : Nat, i = (n : Int) ∧ n < a.l.length ∧ (a.pl n).2 = true := by
  constructor
  · intro h
    obtain ⟨h1, h2, h3, _⟩ := a.is_in i hok h
    refine ⟨i.toNat, by omega, h3, ?_⟩
    rw [Ar.pl_is a i.toNat (by rw [Int.toNat_of_nonneg h1]; exact h)]
  · rintro ⟨n, rfl, _, h⟩
    cases e : a.is (n : Int) with
    | true => rfl
    | false => rw [Ar.pl_no a n e] at h; cases h
/-- All things, by rising places: what Each goes through. -/
def Ar.things (a : Ar) : List (Int × Int) := ((List.range a.l.length).filter (fun i : Nat => a.is (i : Int))).map (fun i : Nat => ((i : Int), a.l.getD i 0))
def Ar.upto (a : Ar) (k : Nat) : List (Int × Int) := ((List.range k).filter (fun i : Nat => a.is (i : Int))).map (fun i : Nat => ((i : Int), a.l.getD i 0))
theorem Ar.upto_zero (a : Ar) : a.upto 0 = [] := rfl
theorem Ar.upto_is (a : Ar) (k : Nat) (h : a.is (k : Int) = true) : a.upto (k + 1) = a.upto k ++ [((k : Int), a.l.getD k 0)] := by
  unfold Ar.upto
  rw [List.range_succ, List.filter_append, List.map_append]
  simp [h]
theorem Ar.upto_no (a : Ar) (k : Nat) (h : a.is (k : Int) = false) : a.upto (k + 1) = a.upto k := by
  unfold Ar.upto
  rw [List.range_succ, List.filter_append, List.map_append]
  simp [h]
theorem Ar.upto_all (a : Ar) : a.upto a.l.length = a.things := rfl
theorem Ar.upto_len (a : Ar) (k : Nat) : (a.upto k).length ≤ k := by
  unfold Ar.upto
  rw [List.length_map]
  exact Nat.le_trans (List.length_filter_le _ _) (by simp)
theorem Ar.things_len (a : Ar) (hok : a.ok) : (a.things.length : Int) = a.len := by
  have := a.count hok
  have he := hok.ever
  unfold Ar.things
  rw [List.length_map]
  rw [show a.l.length = a.ever.toNat by omega]
  exact this
theorem Ar.upto_pre (a : Ar) : ∀ (k n : Nat), a.upto k <+: a.upto (k + n) := by
  intro k n
  induction n with
  | zero => exact List.prefix_refl _
  | succ n ih =>
    refine ih.trans ?_
    rw [← Nat.add_assoc]
    cases h : a.is ((k + n : Nat) : Int) with
    | true => rw [a.upto_is _ h]; exact List.prefix_append _ _
    | false => rw [a.upto_no _ h]; exact List.prefix_refl _
theorem Ar.upto_pre_things (a : Ar) (k : Nat) (h : k ≤ a.l.length) : a.upto k <+: a.things := by
  obtain ⟨n, hn⟩ := Nat.exists_eq_add_of_le h
  rw [← a.upto_all, hn]
  exact a.upto_pre k n
/-- The last place that came, or -1. -/
def lastPl (pre : List (Int × Int)) : Int := (pre.getLast?.map (·.1)).getD (-1)
theorem lastPl_nil : lastPl [] = -1 := rfl
theorem lastPl_snoc (pre : List (Int × Int)) (x : Int × Int) : lastPl (pre ++ [x]) = x.1 := by unfold lastPl; simp
/-- A thing that may come behind pre. -/
def goodT (a : Ar) (pre : List (Int × Int)) (x : Int × Int) : Bool := !(decide (x.1 ≤ lastPl pre) || !(a.is x.1) || (a.l.getD x.1.toNat 0 != x.2))
theorem lastPl_lt (a : Ar) : ∀ k, lastPl (a.upto k) < (k : Int) := by
  intro k
  induction k with
  | zero => rw [a.upto_zero]; decide
  | succ k ih =>
    cases h : a.is (k : Int) with
    | true => rw [a.upto_is k h, lastPl_snoc]; show (k : Int) < _; omega
    | false => rw [a.upto_no k h]; omega
/-- Whatever begins the things: the last one of it may come behind the others. -/
theorem things_good (a : Ar) : ∀ (k : Nat) (pre : List (Int × Int)) (x : Int × Int), pre ++ [x] <+: a.upto k → goodT a pre x = true := by
  intro k
  induction k with
  | zero =>
    intro pre x h
    rw [a.upto_zero] at h
    have := h.length_le
    simp at this
  | succ k ih =>
    intro pre x h
    cases hk : a.is (k : Int) with
    | false => rw [a.upto_no k hk] at h; exact ih pre x h
    | true =>
      rw [a.upto_is k hk] at h
      rcases List.prefix_concat_iff.1 h with h1 | h1
      · have h2 := List.append_inj' h1 rfl
        obtain ⟨rfl, h3⟩ := h2
        obtain rfl : x = ((k : Int), a.l.getD k 0) := by simpa using h3
        unfold goodT
        have := lastPl_lt a k
        have e1 : decide ((k : Int) ≤ lastPl (a.upto k)) = false := decide_eq_false (by omega)
        simp only [e1, hk, Int.toNat_natCast, bne_self_eq_false]
        rfl
      · exact ih pre x h1
end Go.Proofs.Ytdebmokpdchgpaa.Bo

/- The program's arena in memory: what a call may touch, and what stays. -/
namespace Go.Proofs.Ytdebmokpdchgpaa
open Go.RowKit Go.Sort Go.Proofs.Ytdebmokpdchgpaa.Bo
set_option linter.unusedVariables false

/-- All blocks but those of S are as they were. -/
structure Kp (S : Nat → Prop) (w w' : World) : Prop where
  os : w'.os = w.os
  tape : w'.tape = w.tape
  output : w'.output = w.output
  size : w.heap.size ≤ w'.heap.size
  block : ∀ k, k < w.heap.size → ¬ S k → w'.heap[k]? = w.heap[k]?
theorem Kp.refl (S : Nat → Prop) (w : World) : Kp S w w := ⟨rfl, rfl, rfl, Nat.le_refl _, fun _ _ _ => rfl⟩
theorem Kp.trans {S T : Nat → Prop} {a b c : World} (h : Kp S a b) (k : Kp T b c) (hs : ∀ n, n < a.heap.size → T n → S n) : Kp S a c :=
  ⟨k.os.trans h.os, k.tape.trans h.tape, k.output.trans h.output, Nat.le_trans h.size k.size, fun i hi hn => (k.block i (Nat.lt_of_lt_of_le hi h.size) (fun ht => hn (hs i hi ht))).trans (h.block i hi hn)⟩
theorem Kp.of_below (S : Nat → Prop) {w w' : World} (h : Go.RowKit.Below w.heap.size w w') : Kp S w w' := ⟨h.os, h.tape, h.output, h.size, fun k hk _ => h.block k hk⟩
theorem Kp.to_below {S : Nat → Prop} {w w' : World} (h : Kp S w w') (B : Nat) (hB : B ≤ w.heap.size) (hs : ∀ b, S b → B ≤ b) : Go.RowKit.Below B w w' :=
  ⟨h.os, h.tape, h.output, h.size, fun k hk => h.block k (Nat.lt_of_lt_of_le hk hB) (fun hS => by have := hs k hS; omega)⟩
theorem Kp.drew {S : Nat → Prop} {a w : World} (h : Kp S a w) : Kp S a w.drew := ⟨h.os, h.tape, h.output, h.size, h.block⟩
theorem Kp.alloc {S : Nat → Prop} {a w : World} (h : Kp S a w) (o : Obj) : Kp S a (w.alloc o) :=
  ⟨h.os, h.tape, h.output, by have := h.size; simp; omega, fun k hk hn => (Go.RowKit.Below.heap_alloc w o k (Nat.lt_of_lt_of_le hk h.size)).trans (h.block k hk hn)⟩
theorem Kp.setCell {S : Nat → Prop} {a w : World} (h : Kp S a w) (p : Addr) (hp : S p.block ∨ a.heap.size ≤ p.block) (u : Value) : Kp S a (w.setCell p u) :=
  ⟨h.os, h.tape, h.output, by have := h.size; simp [World.setCell]; omega, fun k hk hn => (Go.RowKit.Below.heap_setCell w p u k (fun e => by subst e; rcases hp with h1 | h1; exact hn h1; omega)).trans (h.block k hk hn)⟩
theorem Kp.grown {S : Nat → Prop} {a w w' : World} {row : Option Nat} (h : Kp S a w) (hg : w.grownBy w' row) (hr : ∀ k, row = some k → S k ∨ a.heap.size ≤ k) : Kp S a w' :=
  ⟨hg.os.trans h.os, hg.tape.trans h.tape, hg.output.trans h.output, Nat.le_trans h.size hg.size, fun k hk hn => (hg.block k (Nat.lt_of_lt_of_le hk h.size) (fun e => by rcases hr k e.symm with h1 | h1; exact hn h1; omega)).trans (h.block k hk hn)⟩
theorem Kp.mono {S T : Nat → Prop} {w w' : World} (h : Kp S w w') (hs : ∀ b, S b → T b) : Kp T w w' := ⟨h.os, h.tape, h.output, h.size, fun k hk hn => h.block k hk (fun hS => hn (hs k hS))⟩
/-- A block outside S is as it was. -/
theorem Kp.at {S : Nat → Prop} {w w' : World} (h : Kp S w w') {b : Nat} {o : Obj} (hb : w.heap[b]? = some o) (hn : ¬ S b) : w'.heap[b]? = some o := (h.block b (lt_of_block hb) hn).trans hb
theorem own_kp {S : Nat → Prop} {w w' : World} {base : Nat} {e : TypeId} {size : Nat} {v : Value} {n : Nat} {xs : List Value} (h : w.ownsRow base e size v n xs) (hk : Kp S w w') (hn : ∀ b, v.ownBlock = some b → ¬ S b) : w'.ownsRow base e size v n xs := by
  refine ⟨h.1, ?_⟩
  rcases h.2 with hz | ⟨g, cap, cur, rfl, hb, hgg, rest⟩
  · exact .inl hz
  · exact .inr ⟨g, cap, cur, rfl, hb, hk.at hgg (hn g rfl), rest⟩
/-- The type of an owned row's block. -/
theorem own_type {w : World} {base : Nat} {e : TypeId} {size : Nat} {v : Value} {n : Nat} {xs : List Value} (h : w.ownsRow base e size v n xs) {b : Nat} (hb : v.ownBlock = some b) : ∃ cur, w.heap[b]? = some (.cells cur e (0, 0)) := by
  rcases h.2 with ⟨rfl, _⟩ | ⟨g, cap, cur, rfl, _, hgg, _⟩
  · simp [Value.ownBlock] at hb
  · simp [Value.ownBlock] at hb; subst hb; exact ⟨cur, hgg⟩
theorem type_ne {w : World} {b c : Nat} {cs ds : Array Value} {t u : TypeId} (h : w.heap[b]? = some (.cells cs t (0, 0))) (k : w.heap[c]? = some (.cells ds u (0, 0))) (hne : t ≠ u) : b ≠ c := by
  rintro rfl
  rw [h] at k
  injection k with k
  injection k with _ k _
  exact hne k

/-- A row of places, cell by cell. -/
def flatP : List (Int × Bool) → List Value
  | [] => []
  | p :: t => .int .i64 p.1 :: .bool p.2 :: flatP t
theorem flatP_len (l : List (Int × Bool)) : (flatP l).length = l.length * 2 := by
  induction l with
  | nil => rfl
  | cons p t ih => simp only [flatP, List.length_cons, ih]; omega
theorem flatP_append (l m : List (Int × Bool)) : flatP (l ++ m) = flatP l ++ flatP m := by
  induction l with
  | nil => rfl
  | cons p t ih => simp only [List.cons_append, flatP, ih]
theorem flatP_at (l : List (Int × Bool)) : ∀ (i : Nat) (h : i < l.length), (flatP l)[i * 2]? = some (.int .i64 l[i].1) ∧ (flatP l)[i * 2 + 1]? = some (.bool l[i].2) := by
  induction l with
  | nil => intro i h; simp at h
  | cons p t ih =>
    intro i h
    cases i with
    | zero => exact ⟨rfl, rfl⟩
    | succ i =>
      have := ih i (by simpa using h)
      rw [show (i + 1) * 2 = i * 2 + 1 + 1 by omega]
      simp only [flatP, List.getElem?_cons_succ, List.getElem_cons_succ]
      exact this
theorem flatP_set (l : List (Int × Bool)) : ∀ (i : Nat) (p : Int × Bool), ((flatP l).set (i * 2) (.int .i64 p.1)).set (i * 2 + 1) (.bool p.2) = flatP (l.set i p) := by
  induction l with
  | nil => intro i p; simp [flatP]
  | cons q t ih =>
    intro i p
    cases i with
    | zero => rfl
    | succ i =>
      rw [show (i + 1) * 2 = i * 2 + 1 + 1 by omega]
      simp only [flatP, List.set_cons_succ]
      rw [ih i p]
theorem flatP_set1 (l : List (Int × Bool)) : ∀ (i : Nat) (v : Int) (b : Bool) (h : i < l.length), l[i].2 = b → (flatP l).set (i * 2) (.int .i64 v) = flatP (l.set i (v, b)) := by
  induction l with
  | nil => intro i v b h; simp at h
  | cons q t ih =>
    intro i v b h hb
    cases i with
    | zero => simp at hb; subst hb; rfl
    | succ i =>
      rw [show (i + 1) * 2 = i * 2 + 1 + 1 by omega]
      simp only [flatP, List.set_cons_succ]
      rw [ih i v b (by simpa using h) (by simpa using hb)]
theorem flatP_one (l : List (Int × Bool)) : ∀ u ∈ flatP l, u.oneCell' = true := by
  induction l with
  | nil => intro u h; simp [flatP] at h
  | cons p t ih =>
    intro u h
    simp only [flatP, List.mem_cons] at h
    rcases h with rfl | rfl | h
    · rfl
    · rfl
    · exact ih u h

/-- The program's arena: its struct, its row of places, its row of free ones. -/
structure AAt (w : World) (base A : Nat) (room : Int) (pv fv : Value) (ps : List (Int × Bool)) (fs : List Int) : Prop where
  box : w.heap[A]? = some (.cells #[.int .i64 room, pv, fv] 62 (0, 0))
  prow : w.ownsRow base 66 2 pv ps.length (flatP ps)
  frow : w.ownsRow base 3 1 fv fs.length (fs.map nv)
  le : base ≤ A
/-- The blocks of an arena. -/
def FP (A : Nat) (pv fv : Value) : Nat → Prop := fun b => b = A ∨ pv.ownBlock = some b ∨ fv.ownBlock = some b
theorem AAt.lt {w : World} {base A : Nat} {room : Int} {pv fv : Value} {ps : List (Int × Bool)} {fs : List Int} (h : AAt w base A room pv fv ps fs) : ∀ b, FP A pv fv b → base ≤ b ∧ b < w.heap.size := by
  rintro b (rfl | hb | hb)
  · exact ⟨h.le, lt_of_block h.box⟩
  · exact h.prow.lt b hb
  · exact h.frow.lt b hb
theorem AAt.kp {S : Nat → Prop} {w w' : World} {base A : Nat} {room : Int} {pv fv : Value} {ps : List (Int × Bool)} {fs : List Int} (h : AAt w base A room pv fv ps fs) (hk : Kp S w w') (hn : ∀ b, FP A pv fv b → ¬ S b) : AAt w' base A room pv fv ps fs :=
  ⟨hk.at h.box (hn A (.inl rfl)), own_kp h.prow hk (fun b hb => hn b (.inr (.inl hb))), own_kp h.frow hk (fun b hb => hn b (.inr (.inr hb))), h.le⟩
theorem AAt.below {w w' : World} {base A : Nat} {room : Int} {pv fv : Value} {ps : List (Int × Bool)} {fs : List Int} (h : AAt w base A room pv fv ps fs) (hb : Go.RowKit.Below w.heap.size w w') : AAt w' base A room pv fv ps fs :=
  h.kp (S := fun _ => False) (Kp.of_below _ hb) (fun _ _ => id)
/-- The place row's block, what is in a place, and that it may be written. -/
theorem AAt.at {w : World} {base A : Nat} {room : Int} {pv fv : Value} {ps : List (Int × Bool)} {fs : List Int} (h : AAt w base A room pv fv ps fs) (i : Nat) (hi : i < ps.length) :
    ∃ g cap, pv = .slice (some ⟨g, 0, none⟩) ps.length cap ∧ g ≠ A ∧ w.cell? ⟨g, i * 2, none⟩ = some (.int .i64 ps[i].1) ∧ w.cell? ⟨g, i * 2 + 1, none⟩ = some (.bool ps[i].2) ∧ w.frozen? ⟨g, i * 2, none⟩ = false ∧ w.frozen? ⟨g, i * 2 + 1, none⟩ = false := by
  rcases h.prow.2 with ⟨h1, h2⟩ | ⟨g, cap, cur, h1, hb, hh, hnc, hcm, hcs, htake⟩
  · omega
  · have hf := flatP_at ps i hi
    rw [← htake] at hf
    rw [List.getElem?_take, if_pos (by omega), List.getElem?_take, if_pos (by omega)] at hf
    refine ⟨g, cap, h1, fun e => type_ne hh (e ▸ h.box) (by decide) rfl, ?_, ?_, frozen_of_row _ _ _ _ _ hh, frozen_of_row _ _ _ _ _ hh⟩
    · rw [cell_of_row _ _ _ cur _ _ hh]; simpa using hf.1
    · rw [cell_of_row _ _ _ cur _ _ hh]; simpa using hf.2
/-- The slices of an arena, as slices. -/
theorem own_slice {w : World} {base : Nat} {e : TypeId} {size : Nat} {v : Value} {n : Nat} {xs : List Value} (h : w.ownsRow base e size v n xs) : ∃ a cap, v = .slice a n cap ∧ n ≤ cap ∧ cap ≤ maxLen := by
  rcases h.2 with ⟨rfl, rfl⟩ | ⟨g, cap, cur, rfl, _, _, h1, h2, _⟩
  · exact ⟨none, 0, rfl, Nat.le_refl _, Nat.zero_le _⟩
  · exact ⟨_, cap, rfl, h1, h2⟩
theorem box3 {W : World} {b : Nat} {x0 x1 x2 : Value} {t : TypeId} (h : W.heap[b]? = some (.cells #[x0, x1, x2] t (0, 0))) :
    (W.cell? ⟨b, 0, none⟩ = some x0 ∧ W.cell? ⟨b, 1, none⟩ = some x1 ∧ W.cell? ⟨b, 2, none⟩ = some x2) ∧ W.frozen? ⟨b, 0, none⟩ = false ∧ W.frozen? ⟨b, 1, none⟩ = false ∧ W.frozen? ⟨b, 2, none⟩ = false :=
  ⟨three_cells h, frozen_of_row _ _ 0 _ _ h, frozen_of_row _ _ 1 _ _ h, frozen_of_row _ _ 2 _ _ h⟩
/-- What a call that may turn the arena leaves. -/
def APost (w : World) (base A : Nat) (room : Int) (pv fv : Value) (ps' : List (Int × Bool)) (fs' : List Int) (ans : Value) (e : Ending) (w' : World) : Prop :=
  ∃ pv' fv', (e = .returned ans ∧ AAt w' base A room pv' fv' ps' fs') ∧ Kp (FP A pv fv) w w' ∧ ∀ b, FP A pv' fv' b → FP A pv fv b ∨ w.heap.size ≤ b
end Go.Proofs.Ytdebmokpdchgpaa

/- Contracts of the program's arena: New, Room, Len, At, Get, Set, Reset. -/
namespace Go.Proofs.Ytdebmokpdchgpaa
open Go.RowKit Go.Sort Go.Proofs.Ytdebmokpdchgpaa.Bo
set_option linter.unusedVariables false

abbrev aP (A : Nat) : Value := .pointer (some ⟨A, 0, none⟩)
abbrev aZ (room : Int) : Obj := .cells #[.int .i64 room, .slice none 0 0, .slice none 0 0] 62
set_option maxRecDepth 100000 in
theorem anew_ok (room : Int) (w : World) (h : 0 ≤ room ∧ room ≤ 65536) :
    Calls Try.prog 11 #[.int .i64 room] w fun e w' => e = .returned (.tuple #[aP w.heap.size, .int .i64 0]) ∧ w.alloc (aZ room) = w' := by
  have t1 : decide (room < 0) = false := decide_eq_false (by omega)
  have t2 : decide (65536 < room) = false := decide_eq_false (by omega)
  clear h
  go_enter Try.func11, Try.ntmps11
  go_wp2_with fail
  go_ret2
  exact ⟨rfl, rfl⟩
set_option maxRecDepth 100000 in
theorem anew_no (room : Int) (w : World) (h : ¬ (0 ≤ room ∧ room ≤ 65536)) :
    Calls Try.prog 11 #[.int .i64 room] w fun e w' => e = .returned (.tuple #[.pointer none, .int .i64 1]) ∧ w = w' := by
  by_cases h1 : room < 0
  · have t1 : decide (room < 0) = true := decide_eq_true h1
    clear h h1
    go_enter Try.func11, Try.ntmps11
    go_wp2_with fail
    go_ret2
    exact ⟨rfl, rfl⟩
  · have t1 : decide (room < 0) = false := decide_eq_false h1
    have t2 : decide (65536 < room) = true := decide_eq_true (by omega)
    clear h h1
    go_enter Try.func11, Try.ntmps11
    go_wp2_with fail
    go_ret2
    exact ⟨rfl, rfl⟩
theorem aat_new (room : Int) (w : World) : AAt (w.alloc (aZ room)) w.heap.size w.heap.size room (.slice none 0 0) (.slice none 0 0) [] [] :=
  ⟨heap_alloc_new _ _, World.ownsRow_nil _ _ _ _, World.ownsRow_nil _ _ _ _, Nat.le_refl _⟩
set_option maxRecDepth 100000 in
theorem aroom_core (A : Nat) (room : Int) (pv fv : Value) (w : World) (H : Hid (w.heap[A]? = some (.cells #[.int .i64 room, pv, fv] 62 (0, 0)))) :
    Calls Try.prog 27 #[aP A] w fun e w' => e = .returned (.int .i64 room) ∧ w = w' := by
  obtain ⟨⟨c1, c2, c3⟩, _⟩ := box3 H.out
  go_enter Try.func27, Try.ntmps27
  go_wp2_with fail
  go_ret
  exact ⟨rfl, rfl⟩
set_option maxRecDepth 100000 in
set_option maxHeartbeats 1000000 in
theorem alen_core (A pn pc fn fc : Nat) (pa fa : Option Addr) (room : Int) (w : World) (H : Hid (w.heap[A]? = some (.cells #[.int .i64 room, .slice pa pn pc, .slice fa fn fc] 62 (0, 0)))) (hp : pn ≤ 1000000) (hf : fn ≤ 1000000) :
    Calls Try.prog 22 #[aP A] w fun e w' => e = .returned (.int .i64 ((pn : Int) - (fn : Int))) ∧ Go.RowKit.Below w.heap.size w w' := by
  have mx := mixed
  obtain ⟨⟨c1, c2, c3⟩, _⟩ := box3 H.out
  have p2 := cell_regrown c2
  have p3 := cell_regrown c3
  have q : IntKind.i64.wrap ((pn : Int) - (fn : Int)) = (pn : Int) - (fn : Int) := IntWalk.i64_in _ (by omega)
  clear c1 c2 c3
  go_enter Try.func22, Try.ntmps22
  go_wp2_with fail
  refine wp_region_quiet_below (by assumption) (by kernel_rfl) ?_
  repeat (go_big_quiet_step (fail))
  refine wpQuiet_nil ?_
  intro _ hw'
  obtain ⟨⟨nq, osq⟩, hw''⟩ := hw'
  subst hw''
  have hB := below_regrown w nq osq
  show Exit.then _ _ Exit.normal _ (grow (redrawn w nq) osq)
  generalize grow (redrawn w nq) osq = Y at *
  clear p2 p3
  go_wp2_with fail
  go_ret
  exact ⟨rfl, hB⟩

set_option maxRecDepth 100000 in
set_option maxHeartbeats 1000000 in
theorem aat_yes_core (A g pn pc n : Nat) (fv : Value) (room : Int) (w : World) (H : Hid (w.heap[A]? = some (.cells #[.int .i64 room, .slice (some ⟨g, 0, none⟩) pn pc, fv] 62 (0, 0)))) (hp : pn ≤ 1000000) (hn : n < pn) (HC : Hid (w.cell? ⟨g, n * 2 + 1, none⟩ = some (.bool true))) :
    Calls Try.prog 16 #[aP A, .int .i64 (n : Int)] w fun e w' => e = .returned (.pointer (some ⟨g, n * 2, none⟩)) ∧ w = w' := by
  obtain ⟨⟨c1, c2, c3⟩, _⟩ := box3 H.out
  have hc := HC.out
  have t1 : decide ((n : Int) < 0) = false := decide_eq_false (by omega)
  have t2 : decide ((pn : Int) ≤ (n : Int)) = false := decide_eq_false (by omega)
  have t3 : decide (pn ≤ n) = false := decide_eq_false (by omega)
  have i1 : (0 : Int) ≤ (n : Int) := by omega
  have i2 : (n : Int) < (pn : Int) := by omega
  go_enter Try.func16, Try.ntmps16
  go_wp2_with fail
  go_ret
  exact ⟨rfl, rfl⟩
set_option maxRecDepth 100000 in
set_option maxHeartbeats 1000000 in
theorem aat_free_core (A g pn pc n : Nat) (fv : Value) (room : Int) (w : World) (H : Hid (w.heap[A]? = some (.cells #[.int .i64 room, .slice (some ⟨g, 0, none⟩) pn pc, fv] 62 (0, 0)))) (hp : pn ≤ 1000000) (hn : n < pn) (HC : Hid (w.cell? ⟨g, n * 2 + 1, none⟩ = some (.bool false))) :
    Calls Try.prog 16 #[aP A, .int .i64 (n : Int)] w fun e w' => e = .returned (.pointer none) ∧ w = w' := by
  obtain ⟨⟨c1, c2, c3⟩, _⟩ := box3 H.out
  have hc := HC.out
  have t1 : decide ((n : Int) < 0) = false := decide_eq_false (by omega)
  have t2 : decide ((pn : Int) ≤ (n : Int)) = false := decide_eq_false (by omega)
  have t3 : decide (pn ≤ n) = false := decide_eq_false (by omega)
  have i1 : (0 : Int) ≤ (n : Int) := by omega
  have i2 : (n : Int) < (pn : Int) := by omega
  go_enter Try.func16, Try.ntmps16
  go_wp2_with fail
  go_ret
  exact ⟨rfl, rfl⟩
set_option maxRecDepth 100000 in
set_option maxHeartbeats 1000000 in
theorem aat_lo_core (A : Nat) (pv fv : Value) (i room : Int) (w : World) (H : Hid (w.heap[A]? = some (.cells #[.int .i64 room, pv, fv] 62 (0, 0)))) (hi : i < 0) :
    Calls Try.prog 16 #[aP A, .int .i64 i] w fun e w' => e = .returned (.pointer none) ∧ w = w' := by
  obtain ⟨⟨c1, c2, c3⟩, _⟩ := box3 H.out
  have t1 : decide (i < 0) = true := decide_eq_true hi
  clear hi
  go_enter Try.func16, Try.ntmps16
  go_wp2_with fail
  go_ret
  exact ⟨rfl, rfl⟩
set_option maxRecDepth 100000 in
set_option maxHeartbeats 1000000 in
theorem aat_hi_core (A pn pc : Nat) (pa : Option Addr) (fv : Value) (i room : Int) (w : World) (H : Hid (w.heap[A]? = some (.cells #[.int .i64 room, .slice pa pn pc, fv] 62 (0, 0)))) (hi : (pn : Int) ≤ i) :
    Calls Try.prog 16 #[aP A, .int .i64 i] w fun e w' => e = .returned (.pointer none) ∧ w = w' := by
  obtain ⟨⟨c1, c2, c3⟩, _⟩ := box3 H.out
  have t1 : decide (i < 0) = false := decide_eq_false (by omega)
  have t2 : decide ((pn : Int) ≤ i) = true := decide_eq_true hi
  clear hi
  go_enter Try.func16, Try.ntmps16
  go_wp2_with fail
  go_ret
  exact ⟨rfl, rfl⟩
/-- Where a thing stands. -/
theorem aat_yes {w : World} {base A : Nat} {room : Int} {pv fv : Value} {ps : List (Int × Bool)} {fs : List Int} (h : AAt w base A room pv fv ps fs) (hl : ps.length ≤ 1000000) (n g cap : Nat) (hn : n < ps.length) (ht : ps[n].2 = true) (hpv : pv = .slice (some ⟨g, 0, none⟩) ps.length cap) :
    Calls Try.prog 16 #[aP A, .int .i64 (n : Int)] w fun e w' => e = .returned (.pointer (some ⟨g, n * 2, none⟩)) ∧ w = w' := by
  obtain ⟨g', cap', e1, _, _, hc, _⟩ := h.at n hn
  have hb := h.box
  subst hpv
  injection e1 with e1 _ e3
  injection e1 with e1
  injection e1 with e1
  subst e1
  rw [ht] at hc
  exact aat_yes_core A g ps.length cap n fv room w hb hl hn hc
theorem aat_no {w : World} {base A : Nat} {room : Int} {pv fv : Value} {ps : List (Int × Bool)} {fs : List Int} (h : AAt w base A room pv fv ps fs) (hl : ps.length ≤ 1000000) (i : Int) (hno : ∀ (n : Nat) (hn : n < ps.length), i = (n : Int) → ps[n].2 = false) :
    Calls Try.prog 16 #[aP A, .int .i64 i] w fun e w' => e = .returned (.pointer none) ∧ w = w' := by
  by_cases h0 : i < 0
  · exact aat_lo_core A pv fv i room w h.box h0
  · by_cases h1 : i < (ps.length : Int)
    · obtain ⟨n, rfl⟩ : ∃ n : Nat, i = (n : Int) := ⟨i.toNat, by omega⟩
      obtain ⟨g, cap, e1, _, _, hc, _⟩ := h.at n (by omega)
      have hb := h.box
      rw [hno n (by omega) rfl] at hc
      rw [e1] at hb
      exact aat_free_core A g ps.length cap n fv room w hb hl (by omega) hc
    · obtain ⟨a, cap, e1, _⟩ := own_slice h.prow
      have hb := h.box
      rw [e1] at hb
      exact aat_hi_core A ps.length cap a fv i room w hb (by omega)

set_option maxRecDepth 100000 in
theorem aget_yes_core (A g o n : Nat) (v : Int) (w : World) (HA : Hid (Calls Try.prog 16 #[aP A, .int .i64 (n : Int)] w fun e w' => e = .returned (.pointer (some ⟨g, o, none⟩)) ∧ w = w')) (HC : Hid (w.cell? ⟨g, o, none⟩ = some (.int .i64 v))) :
    Calls Try.prog 19 #[aP A, .int .i64 (n : Int)] w fun e w' => e = .returned (.tuple #[.int .i64 v, .bool true]) ∧ w = w' := by
  have hc := HC.out
  go_enter Try.func19, Try.ntmps19
  go_wp2_with fail
  refine HA.out.mono ?_
  rintro e w' ⟨rfl, rfl⟩
  go_wp2_with fail
  go_ret2
  exact ⟨rfl, rfl⟩
set_option maxRecDepth 100000 in
theorem aget_no_core (A : Nat) (i : Int) (w : World) (HA : Hid (Calls Try.prog 16 #[aP A, .int .i64 i] w fun e w' => e = .returned (.pointer none) ∧ w = w')) :
    Calls Try.prog 19 #[aP A, .int .i64 i] w fun e w' => e = .returned (.tuple #[.int .i64 0, .bool false]) ∧ w = w' := by
  go_enter Try.func19, Try.ntmps19
  go_wp2_with fail
  refine HA.out.mono ?_
  rintro e w' ⟨rfl, rfl⟩
  go_wp2_with fail
  go_ret2
  exact ⟨rfl, rfl⟩
set_option maxRecDepth 100000 in
theorem aset_yes_core (A g o n : Nat) (u v : Int) (w : World) (HA : Hid (Calls Try.prog 16 #[aP A, .int .i64 (n : Int)] w fun e w' => e = .returned (.pointer (some ⟨g, o, none⟩)) ∧ w = w')) (HC : Hid (w.cell? ⟨g, o, none⟩ = some (.int .i64 u))) (HF : Hid (w.frozen? ⟨g, o, none⟩ = false)) :
    Calls Try.prog 25 #[aP A, .int .i64 (n : Int), .int .i64 v] w fun e w' => e = .returned (.bool true) ∧ w.setCell ⟨g, o, none⟩ (.int .i64 v) = w' := by
  have hc := HC.out
  have hf := HF.out
  go_enter Try.func25, Try.ntmps25
  go_wp2_with fail
  refine HA.out.mono ?_
  rintro e w' ⟨rfl, rfl⟩
  go_wp2_with fail
  go_ret
  exact ⟨rfl, rfl⟩
set_option maxRecDepth 100000 in
theorem aset_no_core (A : Nat) (i v : Int) (w : World) (HA : Hid (Calls Try.prog 16 #[aP A, .int .i64 i] w fun e w' => e = .returned (.pointer none) ∧ w = w')) :
    Calls Try.prog 25 #[aP A, .int .i64 i, .int .i64 v] w fun e w' => e = .returned (.bool false) ∧ w = w' := by
  go_enter Try.func25, Try.ntmps25
  go_wp2_with fail
  refine HA.out.mono ?_
  rintro e w' ⟨rfl, rfl⟩
  go_wp2_with fail
  go_ret
  exact ⟨rfl, rfl⟩
set_option maxRecDepth 100000 in
theorem areset_core (A : Nat) (pv fv : Value) (room : Int) (w : World) (H : Hid (w.heap[A]? = some (.cells #[.int .i64 room, pv, fv] 62 (0, 0)))) :
    Calls Try.prog 26 #[aP A] w fun e w' => e = .returned (.tuple #[]) ∧ (w.setCell ⟨A, 1, none⟩ (.slice none 0 0)).setCell ⟨A, 2, none⟩ (.slice none 0 0) = w' := by
  obtain ⟨⟨c1, c2, c3⟩, e1, e2, e3⟩ := box3 H.out
  obtain ⟨⟨_, _, d3⟩, _, _, d4⟩ := box3 (heap_setCell_same w A 1 _ _ (.slice none 0 0) H.out)
  go_enter Try.func26, Try.ntmps26
  go_wp2_with fail
  go_end0
  exact ⟨rfl, rfl⟩
end Go.Proofs.Ytdebmokpdchgpaa

/- Contracts of the program's arena: Free, take, Put. -/
namespace Go.Proofs.Ytdebmokpdchgpaa
open Go.RowKit Go.Sort Go.Proofs.Ytdebmokpdchgpaa.Bo
set_option linter.unusedVariables false

theorem Try.infoPl : (Try.prog.info? 66).map (fun i => (i.zero, i.size, i.bytes)) = some (some (.agg #[.int .i64 0, .bool false]), 2, 16) := by kernel_rfl
/-- The rows and the struct are three blocks. -/
theorem AAt.apart {w : World} {base A : Nat} {room : Int} {pv fv : Value} {ps : List (Int × Bool)} {fs : List Int} (h : AAt w base A room pv fv ps fs) : (∀ b, pv.ownBlock = some b → b ≠ A) ∧ (∀ b, fv.ownBlock = some b → b ≠ A) ∧ ∀ b c, pv.ownBlock = some b → fv.ownBlock = some c → b ≠ c := by
  refine ⟨fun b hb => ?_, fun b hb => ?_, fun b c hb hc => ?_⟩
  · obtain ⟨cur, h1⟩ := own_type h.prow hb
    exact type_ne h1 h.box (by decide)
  · obtain ⟨cur, h1⟩ := own_type h.frow hb
    exact type_ne h1 h.box (by decide)
  · obtain ⟨cur, h1⟩ := own_type h.prow hb
    obtain ⟨cur', h2⟩ := own_type h.frow hc
    exact type_ne h1 h2 (by decide)
theorem own_put' {w : World} {base g cap n m size : Nat} {e : TypeId} {xs ys : List Value} (h : w.ownsRow base e size (.slice (some ⟨g, 0, none⟩) n cap) n xs) (i : Nat) (v : Value) (hm : m = n) (hy : xs.set i v = ys) : (w.setCell ⟨g, i, none⟩ v).ownsRow base e size (.slice (some ⟨g, 0, none⟩) n cap) m ys := by
  subst hm; subst hy; exact own_put h i v
/-- A place is written. -/
theorem AAt.put {w : World} {base A g cap : Nat} {room : Int} {fv : Value} {ps : List (Int × Bool)} {fs : List Int} (h : AAt w base A room (.slice (some ⟨g, 0, none⟩) ps.length cap) fv ps fs) (n : Nat) (p : Int × Bool) :
    AAt ((w.setCell ⟨g, n * 2, none⟩ (.int .i64 p.1)).setCell ⟨g, n * 2 + 1, none⟩ (.bool p.2)) base A room (.slice (some ⟨g, 0, none⟩) ps.length cap) fv (ps.set n p) fs ∧
    Kp (FP A (.slice (some ⟨g, 0, none⟩) ps.length cap) fv) w ((w.setCell ⟨g, n * 2, none⟩ (.int .i64 p.1)).setCell ⟨g, n * 2 + 1, none⟩ (.bool p.2)) := by
  obtain ⟨a1, a2, a3⟩ := h.apart
  have hgA := a1 g rfl
  refine ⟨⟨set_far (set_far h.box (fun e => hgA e.symm)) (fun e => hgA e.symm), ?_, own_far (own_far h.frow g _ _ (fun k hk => fun e => a3 g k rfl hk e.symm)) g _ _ (fun k hk => fun e => a3 g k rfl hk e.symm), h.le⟩, ?_⟩
  · refine own_put' (own_put h.prow (n * 2) (.int .i64 p.1)) (n * 2 + 1) (.bool p.2) (by rw [List.length_set]) (flatP_set ps n p)
  · exact ((Kp.refl _ w).setCell ⟨g, n * 2, none⟩ (.inl (.inr (.inl rfl))) _).setCell ⟨g, n * 2 + 1, none⟩ (.inl (.inr (.inl rfl))) _
/-- A thing is written where it stands. -/
theorem AAt.put1 {w : World} {base A g cap : Nat} {room : Int} {fv : Value} {ps : List (Int × Bool)} {fs : List Int} (h : AAt w base A room (.slice (some ⟨g, 0, none⟩) ps.length cap) fv ps fs) (n : Nat) (v : Int) (hn : n < ps.length) (ht : ps[n].2 = true) :
    AAt (w.setCell ⟨g, n * 2, none⟩ (.int .i64 v)) base A room (.slice (some ⟨g, 0, none⟩) ps.length cap) fv (ps.set n (v, true)) fs ∧
    Kp (FP A (.slice (some ⟨g, 0, none⟩) ps.length cap) fv) w (w.setCell ⟨g, n * 2, none⟩ (.int .i64 v)) := by
  obtain ⟨a1, a2, a3⟩ := h.apart
  have hgA := a1 g rfl
  refine ⟨⟨set_far h.box (fun e => hgA e.symm), ?_, own_far h.frow g _ _ (fun k hk => fun e => a3 g k rfl hk e.symm), h.le⟩, ?_⟩
  · exact own_put' h.prow (n * 2) (.int .i64 v) (by rw [List.length_set]) (flatP_set1 ps n v true hn ht)
  · exact (Kp.refl _ w).setCell ⟨g, n * 2, none⟩ (.inl (.inr (.inl rfl))) _
/-- The row of free places is another one. -/
theorem AAt.setF {w w1 : World} {base A : Nat} {room : Int} {pv fv fv' : Value} {ps : List (Int × Bool)} {fs fs' : List Int} (h : AAt w base A room pv fv ps fs) (hg : w.grownBy w1 fv.ownBlock) (hown : w1.ownsRow base 3 1 fv' fs'.length (fs'.map nv)) (hat : ∀ b, fv'.ownBlock = some b → fv.ownBlock = some b ∨ w.heap.size ≤ b) :
    AAt (w1.setCell ⟨A, 2, none⟩ fv') base A room pv fv' ps fs' ∧ Kp (FP A pv fv) w (w1.setCell ⟨A, 2, none⟩ fv') := by
  obtain ⟨a1, a2, a3⟩ := h.apart
  have hA1 : w1.heap[A]? = some (.cells #[.int .i64 room, pv, fv] 62 (0, 0)) := (hg.block A (lt_of_block h.box) (fun e => a2 A e.symm rfl)).trans h.box
  have hp1 : w1.ownsRow base 66 2 pv ps.length (flatP ps) := h.prow.kept hg (by
    rcases hpo : pv.ownBlock with _ | b
    · exact .inl rfl
    · exact .inr (fun e => a3 b b hpo e.symm rfl))
  refine ⟨⟨heap_setCell_same _ _ _ _ _ _ hA1, own_far hp1 A _ _ a1, own_far hown A _ _ (fun k hk => ?_), h.le⟩, ?_⟩
  · obtain ⟨cur, h1⟩ := own_type hown hk
    exact type_ne h1 hA1 (by decide)
  · exact ((Kp.refl _ w).grown hg (fun k hk => .inl (.inr (.inr hk)))).setCell ⟨A, 2, none⟩ (.inl (.inl rfl)) _
/-- The row of places is another one. -/
theorem AAt.setP {w w1 : World} {base A : Nat} {room : Int} {pv fv pv' : Value} {ps ps' : List (Int × Bool)} {fs : List Int} (h : AAt w base A room pv fv ps fs) (hg : w.grownBy w1 pv.ownBlock) (hown : w1.ownsRow base 66 2 pv' ps'.length (flatP ps')) :
    AAt (w1.setCell ⟨A, 1, none⟩ pv') base A room pv' fv ps' fs ∧ Kp (FP A pv fv) w (w1.setCell ⟨A, 1, none⟩ pv') := by
  obtain ⟨a1, a2, a3⟩ := h.apart
  have hA1 : w1.heap[A]? = some (.cells #[.int .i64 room, pv, fv] 62 (0, 0)) := (hg.block A (lt_of_block h.box) (fun e => a1 A e.symm rfl)).trans h.box
  have hf1 : w1.ownsRow base 3 1 fv fs.length (fs.map nv) := h.frow.kept hg (by
    rcases hfo : fv.ownBlock with _ | b
    · exact .inl rfl
    · exact .inr (fun e => a3 b b e.symm hfo rfl))
  refine ⟨⟨heap_setCell_same _ _ _ _ _ _ hA1, own_far hown A _ _ (fun k hk => ?_), own_far hf1 A _ _ a2, h.le⟩, ?_⟩
  · obtain ⟨cur, h1⟩ := own_type hown hk
    exact type_ne h1 hA1 (by decide)
  · exact ((Kp.refl _ w).grown hg (fun k hk => .inl (.inr (.inl hk)))).setCell ⟨A, 1, none⟩ (.inl (.inl rfl)) _
theorem AAt.alloc {w : World} {base A : Nat} {room : Int} {pv fv : Value} {ps : List (Int × Bool)} {fs : List Int} (h : AAt w base A room pv fv ps fs) (o : Obj) : AAt (w.alloc o) base A room pv fv ps fs := h.below (below_new w o)
theorem AAt.base_le {w : World} {base A : Nat} {room : Int} {pv fv : Value} {ps : List (Int × Bool)} {fs : List Int} (h : AAt w base A room pv fv ps fs) : base ≤ w.heap.size := Nat.le_of_lt (Nat.lt_of_le_of_lt h.le (lt_of_block h.box))

set_option maxRecDepth 100000 in
theorem afree_no_core (A : Nat) (i : Int) (w : World) (HA : Hid (Calls Try.prog 16 #[aP A, .int .i64 i] w fun e w' => e = .returned (.pointer none) ∧ w = w')) :
    Calls Try.prog 23 #[aP A, .int .i64 i] w fun e w' => e = .returned (.bool false) ∧ w = w' := by
  go_enter Try.func23, Try.ntmps23
  go_wp2_with fail
  refine HA.out.mono ?_
  rintro e w' ⟨rfl, rfl⟩
  go_wp2_with fail
  go_ret
  exact ⟨rfl, rfl⟩
set_option maxRecDepth 100000 in
set_option maxHeartbeats 2000000 in
theorem afree_yes_core (A g cap fn fc n base : Nat) (fa : Option Addr) (room z : Int) (ps : List (Int × Bool)) (fs : List Int) (w : World) (hfn : fn = fs.length) (hn : n < ps.length) (hl : ps.length ≤ 1000000) (hl2 : fs.length ≤ 1000000)
    (HS : Hid (AAt w base A room (.slice (some ⟨g, 0, none⟩) ps.length cap) (.slice fa fn fc) ps fs)) (HA : Hid (Calls Try.prog 16 #[aP A, .int .i64 (n : Int)] w fun e w' => e = .returned (.pointer (some ⟨g, n * 2, none⟩)) ∧ w = w')) :
    Calls Try.prog 23 #[aP A, .int .i64 (n : Int)] w (APost w base A room (.slice (some ⟨g, 0, none⟩) ps.length cap) (.slice fa fn fc) (ps.set n (0, false)) (fs ++ [(n : Int)]) (.bool true)) := by
  obtain ⟨i0, hi, hz0, hz1, hz2⟩ := info_parts Try.infoInt
  obtain ⟨⟨c1, c2, c3⟩, _⟩ := box3 HS.out.box
  obtain ⟨g', cap', e0, hgA, u1, u2, v1, v2⟩ := HS.out.at n hn
  injection e0 with e0 _ _
  injection e0 with e0
  injection e0 with e0
  subst e0
  have HS1 := Lib.hid (HS.out.put n (0, false))
  have i1 : (0 : Int) ≤ (n : Int) := by omega
  have i2 : (n : Int) < (ps.length : Int) := by omega
  have HFN := Lib.hid hfn
  obtain ⟨P0, hP0⟩ : ∃ P0, ps[n] = P0 := ⟨_, rfl⟩
  rw [hP0] at u1 u2
  clear hP0 hfn
  have u3 : (w.setCell ⟨g, n * 2, none⟩ (.int .i64 0)).cell? ⟨g, n * 2 + 1, none⟩ = some (.bool P0.2) := (World.cell?_setCell_other _ _ _ _ (by simp)).trans u2
  have v3 : (w.setCell ⟨g, n * 2, none⟩ (.int .i64 0)).frozen? ⟨g, n * 2 + 1, none⟩ = false := by rw [World.frozen?_setCell]; exact v2
  go_enter Try.func23, Try.ntmps23
  go_wp2_with fail
  refine HA.out.mono ?_
  rintro e w' ⟨rfl, rfl⟩
  go_upto_region 4 with fail
  obtain ⟨hA1, hK1⟩ := HS1.out
  clear HS1 u1 u2 v1 v2 c1 c2 c3 HA u3 v3
  generalize (w.setCell ⟨g, n * 2, none⟩ (.int .i64 0)).setCell ⟨g, n * 2 + 1, none⟩ (.bool false) = X at *
  have HA1 := Lib.hid hA1
  have HK1 := Lib.hid hK1
  clear hA1 hK1
  have HA2 := Lib.hid (HA1.out.alloc (.cells #[.int .i64 (n : Int)] 3))
  obtain ⟨⟨c1, c2, c3⟩, _⟩ := box3 HA1.out.box
  have HOW : Hid ((X.alloc (.cells #[.int .i64 (n : Int)] 3)).ownsRow base 3 1 (.slice fa fn fc) fn (fs.map nv)) := by
    have := HA2.out.frow
    rw [← HFN.out] at this
    exact this
  have hbl := HA2.out.base_le
  have hfb : fn ≤ 1000000 := by have := HFN.out; omega
  go_upto_region 5 with (at_builtin; refine wpList_append_lies _ rfl _ _ 28 rfl base 3 i0 _ 1 8 Try.underlying28 hi hz0 hz1 hz2 rfl (by omega) _ fn (fs.map nv) (by rfl) HOW.out ⟨X.heap.size, 0, none⟩ 1 1 [.int .i64 (n : Int)] (by rfl) rfl (World.news_of_block (heap_alloc_new X _)) (by simp [Value.oneCell']) (by omega) (by unfold maxLen; omega) (by omega) hbl _ rfl ?_; intro g2 cap2 w1 hown1 hgrow1 hat1 hlt1; have HO1 := Lib.hid hown1; have HG1 := Lib.hid hgrow1; have HT1 := Lib.hid hat1; have hA1b := (HG1.out.block A (lt_of_block HA2.out.box) (fun e => HA2.out.apart.2.1 A e.symm rfl)).trans HA2.out.box; obtain ⟨⟨d1, d2, d3⟩, _, _, d4⟩ := box3 hA1b; clear hown1 hgrow1 hat1 hA1b)
  have HO2 : Hid (w1.ownsRow base 3 1 (.slice (some ⟨g2, 0, none⟩) (fn + 1) cap2) (fs ++ [(n : Int)]).length ((fs ++ [(n : Int)]).map nv)) := by
    have h := HO1.out
    rw [List.map_append, List.length_append]
    rw [HFN.out] at h ⊢
    exact h
  have HZ := Lib.hid (HA2.out.setF HG1.out HO2.out (fun b hb => by
    have e : g2 = b := by simpa [Value.ownBlock] using hb
    subst e
    exact HT1.out.imp id (fun h => by rw [h]; exact Nat.le_refl _)))
  clear d1 d2 d3 d4 c1 c2 c3
  go_wp2_with fail
  go_ret
  obtain ⟨z1, z2⟩ := HZ.out
  refine ⟨.slice (some ⟨g, 0, none⟩) ps.length cap, .slice (some ⟨g2, 0, none⟩) (fn + 1) cap2, ⟨rfl, z1⟩, ?_, ?_⟩
  · exact (HK1.out.alloc _).trans z2 (fun _ _ h => h)
  · rintro b (rfl | hb | hb)
    · exact .inl (.inl rfl)
    · exact .inl (.inr (.inl hb))
    · have e : g2 = b := by simpa [Value.ownBlock] using hb
      subst e
      rcases HT1.out with h | h
      · exact .inl (.inr (.inr h))
      · right; rw [h]; have := HK1.out.size; simp; omega
end Go.Proofs.Ytdebmokpdchgpaa

/- Contracts of the program's arena: take, Put. -/
namespace Go.Proofs.Ytdebmokpdchgpaa
open Go.RowKit Go.Sort Go.Proofs.Ytdebmokpdchgpaa.Bo
set_option linter.unusedVariables false

set_option maxRecDepth 100000 in
set_option maxHeartbeats 2000000 in
theorem atake_new_core (A pn pc fc base : Nat) (pa fa : Option Addr) (room : Int) (ps : List (Int × Bool)) (w : World) (hpn : pn = ps.length) (hl : ps.length ≤ 1000000)
    (HS : Hid (AAt w base A room (.slice pa pn pc) (.slice fa 0 fc) ps [])) :
    Calls Try.prog 30 #[aP A] w (APost w base A room (.slice pa pn pc) (.slice fa 0 fc) (ps ++ [(0, false)]) [] (.int .i64 (pn : Int))) := by
  obtain ⟨i0, hi, hz0, hz1, hz2⟩ := info_parts Try.infoPl
  obtain ⟨⟨c1, c2, c3⟩, _⟩ := box3 HS.out.box
  have HPN := Lib.hid hpn
  have hpb : pn ≤ 1000000 := by omega
  clear hpn
  have HA2 := Lib.hid (HS.out.alloc (.cells #[.int .i64 0, .bool false] 66))
  have HOW : Hid ((w.alloc (.cells #[.int .i64 0, .bool false] 66)).ownsRow base 66 2 (.slice pa pn pc) pn (flatP ps)) := by
    have := HA2.out.prow
    rw [← HPN.out] at this
    exact this
  have hbl := HA2.out.base_le
  go_enter Try.func30, Try.ntmps30
  go_upto_region 4 with (at_builtin; refine wpList_append_lies _ rfl _ _ 60 rfl base 66 i0 _ 2 16 Try.underlying60 hi hz0 hz1 hz2 rfl (by omega) _ pn (flatP ps) (by rfl) HOW.out ⟨w.heap.size, 0, none⟩ 1 1 [.int .i64 0, .bool false] (by rfl) rfl (World.news_of_block (heap_alloc_new w _)) (by simp [Value.oneCell']) (by omega) (by unfold maxLen; omega) (by omega) hbl _ rfl ?_; intro g2 cap2 w1 hown1 hgrow1 hat1 hlt1; have HO1 := Lib.hid hown1; have HG1 := Lib.hid hgrow1; have HT1 := Lib.hid hat1; have hA1b := (HG1.out.block A (lt_of_block HA2.out.box) (fun e => HA2.out.apart.1 A e.symm rfl)).trans HA2.out.box; obtain ⟨⟨d1, d2, d3⟩, _, d4, _⟩ := box3 hA1b; clear hown1 hgrow1 hat1 hA1b)
  have HO2 : Hid (w1.ownsRow base 66 2 (.slice (some ⟨g2, 0, none⟩) (pn + 1) cap2) (ps ++ [(0, false)]).length (flatP (ps ++ [(0, false)]))) := by
    have h := HO1.out
    rw [flatP_append, List.length_append]
    rw [HPN.out] at h ⊢
    exact h
  have HZ := Lib.hid (HA2.out.setP HG1.out HO2.out)
  clear d1 d2 d3 d4 c1 c2 c3
  obtain ⟨⟨d1, d2, d3⟩, _⟩ := box3 HZ.out.1.box
  go_wp2_with fail
  go_ret
  obtain ⟨z1, z2⟩ := HZ.out
  refine ⟨.slice (some ⟨g2, 0, none⟩) (pn + 1) cap2, .slice fa 0 fc, ⟨by first | rfl | (congr 2; omega), z1⟩, ?_, ?_⟩
  · exact ((Kp.refl _ w).alloc _).trans z2 (fun _ _ h => h)
  · rintro b (rfl | hb | hb)
    · exact .inl (.inl rfl)
    · have e : g2 = b := by simpa [Value.ownBlock] using hb
      subst e
      rcases HT1.out with h | h
      · exact .inl (.inr (.inl h))
      · right; rw [h]; simp
    · exact .inl (.inr (.inr hb))
theorem own_shrink {w : World} {base g fn fc : Nat} {e : TypeId} {fs : List Int} {f : Int} (h : w.ownsRow base e 1 (.slice (some ⟨g, 0, none⟩) fn fc) fn ((fs ++ [f]).map nv)) : w.ownsRow base e 1 (.slice (some ⟨g, 0, none⟩) (fn - 1) fc) fs.length (fs.map nv) ∧ fn = fs.length + 1 := by
  have hlen := h.1
  simp at hlen
  rcases h.2 with ⟨h1, h2⟩ | ⟨g', cap, cur, h1, hb, hh, hnc, hcm, hcs, htake⟩
  · cases h1
  · injection h1 with e1 e2 e3
    injection e1 with e1
    injection e1 with e1
    subst e1; subst e3
    refine ⟨⟨by simp, .inr ⟨g, fc, cur, by rw [← hlen]; rfl, hb, hh, by omega, hcm, hcs, ?_⟩⟩, by omega⟩
    have : (cur.toList.take (fn * 1)).take fs.length = fs.map nv := by
      rw [htake, List.map_append, List.take_left' (by simp)]
    rw [List.take_take] at this
    rw [Nat.mul_one, ← this]
    congr 1
    omega
set_option maxRecDepth 100000 in
set_option maxHeartbeats 2000000 in
theorem atake_free_core (A gf fn fc base : Nat) (pv : Value) (room f : Int) (ps : List (Int × Bool)) (fs : List Int) (w : World) (hfn : fn = fs.length + 1) (hl2 : fn ≤ 1000000)
    (HS : Hid (AAt w base A room pv (.slice (some ⟨gf, 0, none⟩) fn fc) ps (fs ++ [f]))) :
    Calls Try.prog 30 #[aP A] w (APost w base A room pv (.slice (some ⟨gf, 0, none⟩) fn fc) ps fs (.int .i64 f)) := by
  obtain ⟨⟨c1, c2, c3⟩, _, _, c4⟩ := box3 HS.out.box
  have HFR : Hid (w.ownsRow base 3 1 (.slice (some ⟨gf, 0, none⟩) fn fc) fn ((fs ++ [f]).map nv)) := by
    have := HS.out.frow
    rw [List.length_append] at this
    rw [hfn]
    rw [hfn] at this
    exact this
  have hcf : w.cell? ⟨gf, fn - 1, none⟩ = some (.int .i64 f) := by
    obtain ⟨g', e1, _, hc, _⟩ := own_at HFR.out (by simp; omega) (fn - 1) (by omega)
    injection e1 with e1
    injection e1 with e1
    subst e1
    rw [hc]
    congr 2
    rw [List.getElem_append_right (by omega)]
    simp
  have hcap : fn ≤ fc := own_cap HFR.out
  have HSH := Lib.hid (own_shrink HFR.out)
  have HZ := Lib.hid (HS.out.setF (World.grownBy.refl w _) HSH.out.1 (fun b hb => .inl hb))
  have hpos : 0 < fn := by omega
  have t1 : decide ((fn : Int) - 1 < 0) = false := decide_eq_false (by omega)
  have t2 : decide ((fn : Int) < 1) = false := decide_eq_false (by omega)
  have i1 : (0 : Int) ≤ (fn : Int) - 1 := by omega
  have i2 : (fn : Int) - 1 < (fn : Int) := by omega
  have i3 : ((fn : Int) - 1).toNat = fn - 1 := by omega
  have i4 : (fn : Int) - 1 ≤ (fc : Int) := by omega
  clear hfn
  go_enter Try.func30, Try.ntmps30
  go_wp2_with fail
  go_ret
  obtain ⟨z1, z2⟩ := HZ.out
  refine ⟨pv, .slice (some ⟨gf, 0, none⟩) (fn - 1) fc, ⟨rfl, z1⟩, z2, ?_⟩
  rintro b (rfl | hb | hb)
  · exact .inl (.inl rfl)
  · exact .inl (.inr (.inl hb))
  · exact .inl (.inr (.inr hb))
set_option maxRecDepth 100000 in
set_option maxHeartbeats 2000000 in
theorem aput_full_core (A pn fn : Nat) (pv fv : Value) (room v : Int) (w : World) (hp : pn ≤ 1000000) (hf : fn ≤ 1000000) (H : Hid (w.heap[A]? = some (.cells #[.int .i64 room, pv, fv] 62 (0, 0))))
    (HL : Hid (∀ W, Go.RowKit.Below w.heap.size w W → Calls Try.prog 22 #[aP A] W fun e w' => e = .returned (.int .i64 ((pn : Int) - (fn : Int))) ∧ Go.RowKit.Below W.heap.size W w')) (hfull : room ≤ (pn : Int) - (fn : Int)) :
    Calls Try.prog 18 #[aP A, .int .i64 v] w fun e w' => e = .returned (.tuple #[.int .i64 0, .int .i64 50]) ∧ Go.RowKit.Below w.heap.size w w' := by
  have mx := mixed
  obtain ⟨⟨c1, c2, c3⟩, _⟩ := box3 H.out
  have p1 := cell_regrown c1
  have t1 : decide (room ≤ (pn : Int) - (fn : Int)) = true := decide_eq_true hfull
  clear c1 c2 c3 hfull
  go_enter Try.func18, Try.ntmps18
  go_wp2_with fail
  refine wp_region_quiet_below (by assumption) (by kernel_rfl) ?_
  repeat (go_big_quiet_step (first | (go_at_call 22; exact Calls.regrown_of (HL.out _ (below_regrown _ _ _)))))
  refine wpQuiet_nil ?_
  intro _ hw'
  obtain ⟨⟨nq, osq⟩, hw''⟩ := hw'
  subst hw''
  have hB := below_regrown w nq osq
  show Exit.then _ _ Exit.normal _ (grow (redrawn w nq) osq)
  generalize grow (redrawn w nq) osq = Y at *
  clear p1 HL
  go_wp2_with fail
  go_ret2
  exact ⟨rfl, hB⟩
set_option maxRecDepth 100000 in
set_option maxHeartbeats 2000000 in
theorem aput_core (A pn fn i base : Nat) (pv fv : Value) (room v : Int) (ps' : List (Int × Bool)) (fs' : List Int) (w : World) (hp : pn ≤ 1000000) (hf : fn ≤ 1000000) (H : Hid (w.heap[A]? = some (.cells #[.int .i64 room, pv, fv] 62 (0, 0))))
    (HL : Hid (∀ W, Go.RowKit.Below w.heap.size w W → Calls Try.prog 22 #[aP A] W fun e w' => e = .returned (.int .i64 ((pn : Int) - (fn : Int))) ∧ Go.RowKit.Below W.heap.size W w')) (hno : (pn : Int) - (fn : Int) < room) (hi : i < ps'.length)
    (HT : Hid (∀ W, Go.RowKit.Below w.heap.size w W → Calls Try.prog 30 #[aP A] W (APost W base A room pv fv ps' fs' (.int .i64 (i : Int))))) :
    Calls Try.prog 18 #[aP A, .int .i64 v] w (APost w base A room pv fv (ps'.set i (v, true)) fs' (.tuple #[.int .i64 (i : Int), .int .i64 0])) := by
  have mx := mixed
  obtain ⟨⟨c1, c2, c3⟩, _⟩ := box3 H.out
  have p1 := cell_regrown c1
  have t1 : decide (room ≤ (pn : Int) - (fn : Int)) = false := decide_eq_false (by omega)
  clear c1 c2 c3 hno
  go_enter Try.func18, Try.ntmps18
  go_wp2_with fail
  refine wp_region_quiet_below (by assumption) (by kernel_rfl) ?_
  repeat (go_big_quiet_step (first | (go_at_call 22; exact Calls.regrown_of (HL.out _ (below_regrown _ _ _)))))
  refine wpQuiet_nil ?_
  intro _ hw'
  obtain ⟨⟨nq, osq⟩, hw''⟩ := hw'
  subst hw''
  have hB := below_regrown w nq osq
  show Exit.then _ _ Exit.normal _ (grow (redrawn w nq) osq)
  generalize grow (redrawn w nq) osq = Y at *
  clear p1 HL
  go_wp2_with fail
  refine (HT.out Y hB).mono ?_
  rintro e w1 ⟨pv1, fv1, ⟨rfl, hA⟩, hK, hsub⟩
  have HA := Lib.hid hA
  have HK := Lib.hid hK
  have HSUB := Lib.hid hsub
  have HB := Lib.hid hB
  clear hA hK hsub hB HT
  obtain ⟨⟨c1, c2, c3⟩, _⟩ := box3 HA.out.box
  obtain ⟨g, cap, rfl, hgA, u1, u2, v1, v2⟩ := HA.out.at i hi
  have HZ := Lib.hid (HA.out.put i (v, true))
  obtain ⟨P0, hP0⟩ : ∃ P0, ps'[i] = P0 := ⟨_, rfl⟩
  rw [hP0] at u1 u2
  clear hP0
  have u3 : (w1.setCell ⟨g, i * 2, none⟩ (.int .i64 v)).cell? ⟨g, i * 2 + 1, none⟩ = some (.bool P0.2) := (World.cell?_setCell_other _ _ _ _ (by simp)).trans u2
  have v3 : (w1.setCell ⟨g, i * 2, none⟩ (.int .i64 v)).frozen? ⟨g, i * 2 + 1, none⟩ = false := by rw [World.frozen?_setCell]; exact v2
  have i1 : (0 : Int) ≤ (i : Int) := by omega
  have i2 : (i : Int) < (ps'.length : Int) := by omega
  go_wp2_with fail
  go_ret2
  obtain ⟨z1, z2⟩ := HZ.out
  refine ⟨_, fv1, ⟨rfl, z1⟩, ?_, ?_⟩
  · refine ((Kp.of_below _ HB.out).trans HK.out (fun _ _ h => h)).trans z2 (fun n hn h => ?_)
    rcases HSUB.out n h with h1 | h1
    · exact h1
    · have := HB.out.size; omega
  · intro b hb
    rcases HSUB.out b hb with h1 | h1
    · exact .inl h1
    · exact .inr (Nat.le_trans HB.out.size h1)
end Go.Proofs.Ytdebmokpdchgpaa

/- Contracts of the program's arena, told by the document's: Len, Room, At, Get, Set, Free, Put, Reset. -/
namespace Go.Proofs.Ytdebmokpdchgpaa
open Go.RowKit Go.Sort Go.Proofs.Ytdebmokpdchgpaa.Bo
set_option linter.unusedVariables false

/-- The block A is an arena as a says, in the blocks S. -/
def AIs (w : World) (base A : Nat) (a : Ar) (S : Nat → Prop) : Prop := ∃ pv fv, S = FP A pv fv ∧ AAt w base A a.room pv fv a.ps a.free
theorem AIs.kp {T S : Nat → Prop} {w w' : World} {base A : Nat} {a : Ar} (h : AIs w base A a S) (hk : Kp T w w') (hn : ∀ b, S b → ¬ T b) : AIs w' base A a S := by
  obtain ⟨pv, fv, rfl, h1⟩ := h
  exact ⟨pv, fv, rfl, h1.kp hk hn⟩
theorem AIs.below {S : Nat → Prop} {w w' : World} {base A : Nat} {a : Ar} (h : AIs w base A a S) (hb : Go.RowKit.Below w.heap.size w w') : AIs w' base A a S := by
  obtain ⟨pv, fv, rfl, h1⟩ := h
  exact ⟨pv, fv, rfl, h1.below hb⟩
theorem AIs.lt {S : Nat → Prop} {w : World} {base A : Nat} {a : Ar} (h : AIs w base A a S) : ∀ b, S b → base ≤ b ∧ b < w.heap.size := by
  obtain ⟨pv, fv, rfl, h1⟩ := h
  exact h1.lt
theorem AIs.base_le {S : Nat → Prop} {w : World} {base A : Nat} {a : Ar} (h : AIs w base A a S) : base ≤ w.heap.size := by
  obtain ⟨pv, fv, rfl, h1⟩ := h
  exact h1.base_le
/-- The blocks of an arena are of its three types. -/
theorem AIs.type {S : Nat → Prop} {w : World} {base A : Nat} {a : Ar} (h : AIs w base A a S) (b : Nat) (hb : S b) {cs : Array Value} {t : TypeId} (ho : w.heap[b]? = some (.cells cs t (0, 0))) : t = 62 ∨ t = 66 ∨ t = 3 := by
  obtain ⟨pv, fv, rfl, h1⟩ := h
  have key : ∀ {ds : Array Value} {u : TypeId}, w.heap[b]? = some (.cells ds u (0, 0)) → t = u := fun k => by
    rw [ho] at k; injection k with k; injection k with _ k _
  rcases hb with rfl | hb | hb
  · exact .inl (key h1.box)
  · obtain ⟨cur, k⟩ := own_type h1.prow hb; exact .inr (.inl (key k))
  · obtain ⟨cur, k⟩ := own_type h1.frow hb; exact .inr (.inr (key k))
theorem ais_new (room : Int) (w : World) : AIs (w.alloc (aZ room)) w.heap.size w.heap.size (Ar.new room) (FP w.heap.size (.slice none 0 0) (.slice none 0 0)) := ⟨_, _, rfl, aat_new room w⟩
/-- What a call that may turn the arena leaves. -/
def MPost (w : World) (base A : Nat) (S : Nat → Prop) (a' : Ar) (ans : Value) (e : Ending) (w' : World) : Prop :=
  ∃ S', (e = .returned ans ∧ AIs w' base A a' S') ∧ Kp S w w' ∧ ∀ b, S' b → S b ∨ w.heap.size ≤ b
theorem mpost_of {w : World} {base A : Nat} {room : Int} {pv fv : Value} {a' : Ar} {ps' : List (Int × Bool)} {fs' : List Int} {ans : Value} {e : Ending} {w' : World} (h : APost w base A room pv fv ps' fs' ans e w') (h1 : a'.room = room) (h2 : ps' = a'.ps) (h3 : fs' = a'.free) : MPost w base A (FP A pv fv) a' ans e w' := by
  obtain ⟨pv', fv', ⟨he, hA⟩, hk, hs⟩ := h
  subst h1; subst h2; subst h3
  exact ⟨FP A pv' fv', ⟨he, pv', fv', rfl, hA⟩, hk, hs⟩
theorem mpost_same {w w' : World} {base A : Nat} {S : Nat → Prop} {a : Ar} {ans : Value} {e : Ending} (h : AIs w base A a S) (he : e = .returned ans) (hb : Go.RowKit.Below w.heap.size w w') : MPost w base A S a ans e w' :=
  ⟨S, ⟨he, h.below hb⟩, Kp.of_below _ hb, fun b hb => .inl hb⟩

theorem aroom_any {S : Nat → Prop} {w : World} {base A : Nat} {a : Ar} (h : AIs w base A a S) : Calls Try.prog 27 #[aP A] w fun e w' => e = .returned (.int .i64 a.room) ∧ w = w' := by
  obtain ⟨pv, fv, rfl, h1⟩ := h
  exact aroom_core A a.room pv fv w h1.box
theorem alen_at {w : World} {base A : Nat} {room : Int} {pv fv : Value} {ps : List (Int × Bool)} {fs : List Int} (h : AAt w base A room pv fv ps fs) (hl : ps.length ≤ 1000000) (hl2 : fs.length ≤ 1000000) : Calls Try.prog 22 #[aP A] w fun e w' => e = .returned (.int .i64 ((ps.length : Int) - (fs.length : Int))) ∧ Go.RowKit.Below w.heap.size w w' := by
  obtain ⟨pa, pc, rfl, _⟩ := own_slice h.prow
  obtain ⟨fa, fc, rfl, _⟩ := own_slice h.frow
  exact alen_core A ps.length pc fs.length fc pa fa room w h.box hl hl2
theorem alen_any {S : Nat → Prop} {w : World} {base A : Nat} {a : Ar} (h : AIs w base A a S) (hok : a.ok) (hl : a.l.length ≤ 1000000) (hl2 : a.free.length ≤ 1000000) : Calls Try.prog 22 #[aP A] w fun e w' => e = .returned (.int .i64 a.len) ∧ Go.RowKit.Below w.heap.size w w' := by
  obtain ⟨pv, fv, rfl, h1⟩ := h
  have := alen_at h1 (by rw [a.ps_len]; exact hl) hl2
  rw [a.ps_len] at this
  unfold Ar.len
  rw [hok.ever]
  exact this
theorem ar_ps_no (a : Ar) (hok : a.ok) (i : Int) (h : a.is i = false) : ∀ (n : Nat) (hn : n < a.ps.length), i = (n : Int) → a.ps[n].2 = false := by
  rintro n hn rfl
  have := a.ps_at n (by rw [← a.ps_len]; exact hn)
  rw [List.getElem?_eq_getElem hn] at this
  injection this with this
  rw [this, Ar.pl_no a n h]
theorem ar_ps_yes (a : Ar) (n : Nat) (hn : n < a.ps.length) (h : a.is (n : Int) = true) : a.ps[n] = (a.l.getD n 0, true) := by
  have := a.ps_at n (by rw [← a.ps_len]; exact hn)
  rw [List.getElem?_eq_getElem hn] at this
  injection this with this
  rw [this, Ar.pl_is a n h]
theorem aat_nil {S : Nat → Prop} {w : World} {base A : Nat} {a : Ar} (h : AIs w base A a S) (hok : a.ok) (hl : a.l.length ≤ 1000000) (i : Int) (hi : a.is i = false) : Calls Try.prog 16 #[aP A, .int .i64 i] w fun e w' => e = .returned (.pointer none) ∧ w = w' := by
  obtain ⟨pv, fv, rfl, h1⟩ := h
  exact aat_no h1 (by rw [a.ps_len]; exact hl) i (ar_ps_no a hok i hi)
/-- Where a thing stands: it is read and written there. -/
theorem aat_is {S : Nat → Prop} {w : World} {base A : Nat} {a : Ar} (h : AIs w base A a S) (hok : a.ok) (hl : a.l.length ≤ 1000000) (n : Nat) (hi : a.is (n : Int) = true) :
    ∃ g o, (Calls Try.prog 16 #[aP A, .int .i64 (n : Int)] w fun e w' => e = .returned (.pointer (some ⟨g, o, none⟩)) ∧ w = w') ∧ S g ∧ w.cell? ⟨g, o, none⟩ = some (.int .i64 (a.l.getD n 0)) ∧ w.frozen? ⟨g, o, none⟩ = false ∧
      ∀ v : Int, AIs (w.setCell ⟨g, o, none⟩ (.int .i64 v)) base A { a with l := a.l.set n v } S ∧ Kp S w (w.setCell ⟨g, o, none⟩ (.int .i64 v)) := by
  obtain ⟨pv, fv, rfl, h1⟩ := h
  obtain ⟨_, _, h3, _⟩ := a.is_in n hok hi
  rw [Int.toNat_natCast] at h3
  have hn : n < a.ps.length := by rw [a.ps_len]; exact h3
  have hy := ar_ps_yes a n hn hi
  obtain ⟨g, cap, e1, hgA, u1, u2, v1, v2⟩ := h1.at n hn
  rw [hy] at u1
  refine ⟨g, n * 2, aat_yes h1 (by rw [a.ps_len]; exact hl) n g cap hn (by rw [hy]) e1, .inr (.inl (by rw [e1]; rfl)), u1, v1, fun v => ?_⟩
  subst e1
  obtain ⟨z1, z2⟩ := h1.put1 n v hn (by rw [hy])
  rw [a.ps_set n v hok hi] at z1
  exact ⟨⟨_, fv, rfl, z1⟩, z2⟩
theorem aget_any {S : Nat → Prop} {w : World} {base A : Nat} {a : Ar} (h : AIs w base A a S) (hok : a.ok) (hl : a.l.length ≤ 1000000) (i : Int) :
    Calls Try.prog 19 #[aP A, .int .i64 i] w fun e w' => e = .returned (.tuple #[.int .i64 (if a.is i = true then a.l.getD i.toNat 0 else 0), .bool (a.is i)]) ∧ w = w' := by
  cases hi : a.is i with
  | false =>
    rw [if_neg (by simp)]
    exact aget_no_core A i w (aat_nil h hok hl i hi)
  | true =>
    rw [if_pos rfl]
    obtain ⟨h1, _⟩ := a.is_in i hok hi
    obtain ⟨n, rfl⟩ : ∃ n : Nat, i = (n : Int) := ⟨i.toNat, by omega⟩
    obtain ⟨g, o, hc, _, hv, _⟩ := aat_is h hok hl n hi
    rw [Int.toNat_natCast]
    exact aget_yes_core A g o n _ w hc hv
theorem aset_yes {S : Nat → Prop} {w : World} {base A : Nat} {a : Ar} (h : AIs w base A a S) (hok : a.ok) (hl : a.l.length ≤ 1000000) (i v : Int) (hi : a.is i = true) :
    Calls Try.prog 25 #[aP A, .int .i64 i, .int .i64 v] w (MPost w base A S { a with l := a.l.set i.toNat v } (.bool true)) := by
  obtain ⟨h1, _⟩ := a.is_in i hok hi
  obtain ⟨n, rfl⟩ : ∃ n : Nat, i = (n : Int) := ⟨i.toNat, by omega⟩
  obtain ⟨g, o, hc, _, hv, hf, hw⟩ := aat_is h hok hl n hi
  refine (aset_yes_core A g o n _ v w hc hv hf).mono ?_
  rintro e w' ⟨rfl, rfl⟩
  rw [Int.toNat_natCast]
  exact ⟨S, ⟨rfl, (hw v).1⟩, (hw v).2, fun b hb => .inl hb⟩
theorem aset_no {S : Nat → Prop} {w : World} {base A : Nat} {a : Ar} (h : AIs w base A a S) (hok : a.ok) (hl : a.l.length ≤ 1000000) (i v : Int) (hi : a.is i = false) :
    Calls Try.prog 25 #[aP A, .int .i64 i, .int .i64 v] w (MPost w base A S a (.bool false)) := by
  refine (aset_no_core A i v w (aat_nil h hok hl i hi)).mono ?_
  rintro e w' ⟨rfl, rfl⟩
  exact mpost_same h rfl (Go.RowKit.Below.refl _ _)
theorem afree_no {S : Nat → Prop} {w : World} {base A : Nat} {a : Ar} (h : AIs w base A a S) (hok : a.ok) (hl : a.l.length ≤ 1000000) (i : Int) (hi : a.is i = false) :
    Calls Try.prog 23 #[aP A, .int .i64 i] w (MPost w base A S a (.bool false)) := by
  refine (afree_no_core A i w (aat_nil h hok hl i hi)).mono ?_
  rintro e w' ⟨rfl, rfl⟩
  exact mpost_same h rfl (Go.RowKit.Below.refl _ _)
theorem afree_yes {S : Nat → Prop} {w : World} {base A : Nat} {a : Ar} (h : AIs w base A a S) (hok : a.ok) (hl : a.l.length ≤ 1000000) (hl2 : a.free.length ≤ 1000000) (i : Int) (hi : a.is i = true) :
    Calls Try.prog 23 #[aP A, .int .i64 i] w (MPost w base A S { a with free := a.free ++ [i] } (.bool true)) := by
  obtain ⟨h1, _, h3, _⟩ := a.is_in i hok hi
  obtain ⟨n, rfl⟩ : ∃ n : Nat, i = (n : Int) := ⟨i.toNat, by omega⟩
  rw [Int.toNat_natCast] at h3
  have hn : n < a.ps.length := by rw [a.ps_len]; exact h3
  have hy := ar_ps_yes a n hn hi
  obtain ⟨pv, fv, rfl, hA⟩ := h
  obtain ⟨g, cap, rfl, _⟩ := hA.at n hn
  obtain ⟨fa, fc, rfl, _⟩ := own_slice hA.frow
  refine (afree_yes_core A g cap a.free.length fc n base fa a.room 0 a.ps a.free w rfl hn (by rw [a.ps_len]; exact hl) hl2 hA (aat_yes hA (by rw [a.ps_len]; exact hl) n g cap hn (by rw [hy]) rfl)).mono ?_
  intro e w' hp
  exact mpost_of hp rfl (a.ps_free n hok hi) rfl
theorem areset_any {S : Nat → Prop} {w : World} {base A : Nat} {a : Ar} (h : AIs w base A a S) :
    Calls Try.prog 26 #[aP A] w (MPost w base A S (Ar.new a.room) (.tuple #[])) := by
  obtain ⟨pv, fv, rfl, hA⟩ := h
  refine (areset_core A pv fv a.room w hA.box).mono ?_
  rintro e w' ⟨rfl, rfl⟩
  refine ⟨FP A (.slice none 0 0) (.slice none 0 0), ⟨rfl, _, _, rfl, ⟨heap_setCell_same _ _ _ _ _ _ (heap_setCell_same _ _ _ _ _ _ hA.box), World.ownsRow_nil _ _ _ _, World.ownsRow_nil _ _ _ _, hA.le⟩⟩, ?_, ?_⟩
  · exact ((Kp.refl _ w).setCell ⟨A, 1, none⟩ (.inl (.inl rfl)) _).setCell ⟨A, 2, none⟩ (.inl (.inl rfl)) _
  · rintro b (rfl | hb | hb)
    · exact .inl (.inl rfl)
    · cases hb
    · cases hb
theorem aput_any {S : Nat → Prop} {w : World} {base A : Nat} {a : Ar} (h : AIs w base A a S) (hok : a.ok) (hl : a.l.length ≤ 999999) (hl2 : a.free.length ≤ 999999) (v : Int) :
    Calls Try.prog 18 #[aP A, .int .i64 v] w (MPost w base A S (a.put v).1 (.tuple #[.int .i64 (a.put v).2.i, .int .i64 (a.put v).2.e])) := by
  have hS := h
  obtain ⟨pv, fv, rfl, hA⟩ := h
  have hev := hok.ever
  have hpl := a.ps_len
  have HL : ∀ W, Go.RowKit.Below w.heap.size w W → Calls Try.prog 22 #[aP A] W fun e w' => e = .returned (.int .i64 ((a.ps.length : Int) - (a.free.length : Int))) ∧ Go.RowKit.Below W.heap.size W w' := fun W hb => alen_at (hA.below hb) (by omega) (by omega)
  by_cases hfull : a.room ≤ a.ever - (a.free.length : Int)
  · have e : a.put v = (a, ⟨0, 0, false, 50⟩) := by unfold Ar.put; rw [if_pos hfull]
    rw [e]
    refine (aput_full_core A a.ps.length a.free.length pv fv a.room v w (by omega) (by omega) hA.box HL (by omega)).mono ?_
    rintro e w' ⟨rfl, hb⟩
    exact mpost_same hS rfl hb
  · by_cases hfr : 0 < a.free.length
    · obtain ⟨fs, f0, hf0⟩ : ∃ fs f0, a.free = fs ++ [f0] := ⟨a.free.dropLast, a.free.getLast (by intro e; rw [e] at hfr; simp at hfr), (List.dropLast_concat_getLast _).symm⟩
      have hfi := hok.free f0 (by rw [hf0]; simp)
      obtain ⟨f, rfl⟩ : ∃ f : Nat, f0 = (f : Int) := ⟨f0.toNat, by omega⟩
      have e := a.put_last v (f : Int) fs hf0 (by unfold Ar.len; omega)
      rw [Int.toNat_natCast] at e
      rw [e]
      obtain ⟨hlt, hps⟩ := a.ps_take f fs v hok hf0
      have hlen : a.free.length = fs.length + 1 := by rw [hf0]; simp
      refine (aput_core A a.ps.length a.free.length f base pv fv a.room v a.ps fs w (by omega) (by omega) hA.box HL (by omega) (by omega) (fun W hb => ?_)).mono (fun e w' hp => mpost_of hp rfl hps rfl)
      have hA' := hA.below hb
      rw [hf0] at hA'
      obtain ⟨gf, fc, e1, _⟩ := hA'.frow.form (by simp)
      rw [show (fs ++ [(f : Int)]).length = fs.length + 1 by simp] at e1
      subst e1
      exact atake_free_core A gf (fs.length + 1) fc base pv a.room f a.ps fs W rfl (by omega) hA'
    · have hnil : a.free = [] := List.length_eq_zero_iff.1 (by omega)
      have e : a.put v = ({ a with ever := a.ever + 1, l := a.l ++ [v] }, ⟨a.ever, 0, false, 0⟩) := by unfold Ar.put; rw [if_neg hfull, if_neg hfr]
      rw [e]
      have hps := a.ps_new v hok hnil
      rw [← hpl] at hps
      have hev2 : a.ever = (a.ps.length : Int) := by omega
      rw [show (({ a with ever := a.ever + 1, l := a.l ++ [v] } : Ar), (⟨a.ever, 0, false, 0⟩ : An)).2.i = (a.ps.length : Int) from hev2]
      refine (aput_core A a.ps.length a.free.length a.ps.length base pv fv a.room v (a.ps ++ [(0, false)]) [] w (by omega) (by omega) hA.box HL (by omega) (by simp) (fun W hb => ?_)).mono (fun e w' hp => mpost_of hp rfl hps hnil.symm)
      have hA' := hA.below hb
      rw [hnil] at hA'
      obtain ⟨pa, pc, e1, _⟩ := own_slice hA'.prow
      obtain ⟨fa, fc, e2, _⟩ := own_slice hA'.frow
      subst e1; subst e2
      exact atake_new_core A a.ps.length pc fc base pa fa a.room a.ps W rfl (by omega) hA'
end Go.Proofs.Ytdebmokpdchgpaa
