/- A part of the proof: contracts of the functions that the statements reach. -/
import Derived.Test.YtakkmnhiaddnnaaRows
import Derived.Shelf.SlSortCmp.WholeK
import Derived.WalkKit
import Derived.WalkSpells
import Derived.WalkLawsBesides
import Derived.Lib.Hide
import Derived.Laws.StructEq
import Derived.Shelf.SlSortCmp.QuietGrown

/- Plain arithmetic for layer 1: the number that ends. No Go in sight. -/
namespace Go.Proofs.Ytakkmnhiaddnnaa.Bo
/-- The number that it is, or the end beyond which it is. -/
def clamp (n : Int) : Int := if n < -9223372036854775808 then -9223372036854775808 else if 9223372036854775807 < n then 9223372036854775807 else n
def I64 (n : Int) : Prop := -9223372036854775808 ≤ n ∧ n ≤ 9223372036854775807
theorem clamp_i64 (n : Int) : I64 (clamp n) := by unfold I64 clamp; split <;> (try split) <;> omega
theorem clamp_mono (a b : Int) (h : a ≤ b) : clamp a ≤ clamp b := by unfold clamp; split <;> split <;> (try split) <;> (try split) <;> omega
theorem clamp_hi (c : Int) (h : 0 ≤ c) : clamp (9223372036854775807 + c) = 9223372036854775807 := by unfold clamp; split <;> (try split) <;> omega
theorem clamp_lo (c : Int) (h : c ≤ 0) : clamp (-9223372036854775808 + c) = -9223372036854775808 := by unfold clamp; split <;> (try split) <;> omega
theorem clamp_in (n : Int) (h : I64 n) : clamp n = n := by unfold I64 at h; unfold clamp; split <;> (try split) <;> omega
theorem clamp_up (n : Int) (h : 9223372036854775807 ≤ n) : clamp n = 9223372036854775807 := by unfold clamp; split <;> (try split) <;> omega
theorem clamp_down (n : Int) (h : n ≤ -9223372036854775808) : clamp n = -9223372036854775808 := by unfold clamp; split <;> (try split) <;> omega

/-- The least multiple of s that is not below n. -/
def cl (n s : Int) : Int := n + (-n) % s
theorem cl_ge (n s : Int) (hs : 1 ≤ s) : n ≤ cl n s ∧ cl n s < n + s := by
  unfold cl; have h1 := Int.emod_nonneg (-n) (show s ≠ 0 by omega); have h2 := Int.emod_lt_of_pos (-n) (show 0 < s by omega); omega
theorem cl_mul (n s : Int) : (cl n s) % s = 0 := by
  unfold cl; rw [Int.add_emod, Int.emod_emod, ← Int.add_emod]; simp [Int.add_right_neg]
theorem neg_emod_eq (n s : Int) (hs : 1 ≤ s) (h : 0 < n % s) : (-n) % s = s - n % s := by
  have h2 := Int.emod_lt_of_pos n (show 0 < s by omega)
  have e : -n = (s - n % s) + s * (-(n / s) - 1) := by
    have := Int.emod_add_mul_ediv n s
    rw [Int.mul_sub, Int.mul_neg]; omega
  rw [e, Int.add_mul_emod_self_left]
  exact Int.emod_eq_of_lt (by omega) (by omega)
theorem neg_emod_zero (n s : Int) (h : n % s = 0) : (-n) % s = 0 := by
  have := Int.dvd_of_emod_eq_zero h
  exact Int.emod_eq_zero_of_dvd ((Int.dvd_neg).2 this)
theorem emod_le_self (n s : Int) (hs : 1 ≤ s) (hn : 0 ≤ n) : n % s ≤ n := by
  have h := Int.emod_add_mul_ediv n s
  have h2 : 0 ≤ s * (n / s) := Int.mul_nonneg (by omega) (Int.ediv_nonneg hn (by omega))
  omega
theorem cl_pos (n s : Int) (hs : 1 ≤ s) (hn : 0 ≤ n) : 0 ≤ n % s ∧ n % s < s ∧ n % s ≤ n ∧ (0 < n % s → cl n s = n + (s - n % s)) := by
  refine ⟨Int.emod_nonneg _ (by omega), Int.emod_lt_of_pos _ (by omega), emod_le_self n s hs hn, fun h => ?_⟩
  unfold cl; rw [neg_emod_eq n s hs h]
theorem cl_pos0 (n s : Int) (hs : 1 ≤ s) (hn : 0 ≤ n) (h : n % s ≤ 0) : cl n s = n - n % s := by
  have h0 := (cl_pos n s hs hn).1
  unfold cl; rw [neg_emod_zero n s (by omega)]; omega
theorem cl_neg (n s : Int) (hs : 1 ≤ s) (hn : n ≤ 0) : n.tmod s ≤ 0 ∧ n ≤ n.tmod s ∧ cl n s = n - n.tmod s := by
  have e : n.tmod s = -((-n) % s) := by
    have : n = -(-n) := by omega
    rw [this, Int.neg_tmod, Int.neg_neg, Int.tmod_eq_emod_of_nonneg (by omega)]
  have h1 := Int.emod_nonneg (-n) (show s ≠ 0 by omega)
  have h2 := emod_le_self (-n) s hs (by omega)
  rw [e]; unfold cl; omega
theorem cl_big_pos (n s : Int) (hs : 1 ≤ s) (h : 9223372036854775807 < cl n s) : 0 ≤ n := by
  by_cases h0 : 0 ≤ n
  · exact h0
  · have := cl_neg n s hs (by omega); omega

/-! ### digits -/
/-- The digits of a number, the lowest one first, without noughts at the end. -/
def low (m : Nat) : List Nat := if m = 0 then [] else (m % 10) :: low (m / 10)
  termination_by m
  decreasing_by omega
def ch (d : Nat) : UInt8 := UInt8.ofNat (48 + d)
def pre (m : Nat) : List UInt8 := (low m).reverse.map ch
def dg (m : Nat) : List UInt8 := if m = 0 then [48] else pre m
/-- The text of a number. -/
def textOf (n : Int) : List UInt8 := if n < 0 then 45 :: dg n.natAbs else dg n.natAbs
theorem low_zero : low 0 = [] := by unfold low; simp
theorem low_pos (m : Nat) (h : m ≠ 0) : low m = (m % 10) :: low (m / 10) := by rw [low]; simp [h]
theorem pre_zero : pre 0 = [] := by simp [pre, low_zero]
theorem pre_pos (m : Nat) (h : m ≠ 0) : pre m = pre (m / 10) ++ [ch (m % 10)] := by simp [pre, low_pos m h]
theorem dg_step (m : Nat) : dg m = pre (m / 10) ++ [ch (m % 10)] := by
  by_cases h : m = 0
  · subst h; simp [dg, pre_zero]; rfl
  · simp [dg, h, pre_pos m h]
theorem low_len (k : Nat) : ∀ m : Nat, m < 10 ^ k → (low m).length ≤ k := by
  induction k with
  | zero => intro m h; have : m = 0 := by simpa using h
            subst this; simp [low_zero]
  | succ k ih =>
    intro m h
    by_cases h0 : m = 0
    · subst h0; simp [low_zero]
    · rw [low_pos m h0]
      have := ih (m / 10) (by rw [Nat.pow_succ] at h; omega)
      simp; omega
theorem dg_len (m : Nat) (h : m ≤ 9223372036854775808) : 1 ≤ (dg m).length ∧ (dg m).length ≤ 19 := by
  by_cases h0 : m = 0
  · subst h0; simp [dg]
  · have := low_len 19 m (by omega)
    simp only [dg, h0, if_false, pre, List.length_map, List.length_reverse]
    refine ⟨?_, this⟩
    rw [low_pos m h0]; simp
theorem ch_toNat (d : Nat) (h : d < 10) : (ch d).toNat = 48 + d := by simp [ch]; omega

/-! ### reading digits -/
/-- Goes on no more at sign c, number i, with v read: noughts ahead, no digit, or too much. -/
def stops (M : Nat) (c : UInt8) (i v : Nat) : Prop := (i = 1 ∧ v = 0) ∨ c.toNat < 48 ∨ 57 < c.toNat ∨ (M - (c.toNat - 48)) / 10 < v
instance (M : Nat) (c : UInt8) (i v : Nat) : Decidable (stops M c i v) := by unfold stops; exact inferInstance
/-- As many digits as make one number's text, of at most M. -/
def rd (M : Nat) : List UInt8 → Nat → Nat → Nat × Nat
  | [], i, v => (v, i)
  | c :: l, i, v => if stops M c i v then (v, i) else rd M l (i + 1) (10 * v + (c.toNat - 48))
theorem rd_nil (M i v : Nat) : rd M [] i v = (v, i) := rfl
theorem rd_stop (M : Nat) (c : UInt8) (l : List UInt8) (i v : Nat) (h : stops M c i v) : rd M (c :: l) i v = (v, i) := by simp [rd, h]
theorem rd_go (M : Nat) (c : UInt8) (l : List UInt8) (i v : Nat) (h : ¬ stops M c i v) : rd M (c :: l) i v = rd M l (i + 1) (10 * v + (c.toNat - 48)) := by simp [rd, h]
theorem rd_bounds (M : Nat) (hM : 9 ≤ M) : ∀ (l : List UInt8) (i v : Nat), v ≤ M → (rd M l i v).1 ≤ M ∧ i ≤ (rd M l i v).2 ∧ (rd M l i v).2 ≤ i + l.length := by
  intro l
  induction l with
  | nil => intro i v h; simp [rd, h]
  | cons c l ih =>
    intro i v h
    by_cases hs : stops M c i v
    · rw [rd_stop _ _ _ _ _ hs]; simp; omega
    · rw [rd_go _ _ _ _ _ hs]
      have := ih (i + 1) (10 * v + (c.toNat - 48)) (by unfold stops at hs; omega)
      simp; omega
/-- The longest beginning that is a number's text: the number, and how long. -/
def rdAll (l : List UInt8) : Int × Nat :=
  if l[0]? = some 45 then
    if (rd 9223372036854775808 (l.drop 1) 0 0).1 = 0 then (0, 0) else (-((rd 9223372036854775808 (l.drop 1) 0 0).1 : Int), (rd 9223372036854775808 (l.drop 1) 0 0).2 + 1)
  else (((rd 9223372036854775807 l 0 0).1 : Int), (rd 9223372036854775807 l 0 0).2)
theorem rdAll_bounds (l : List UInt8) : I64 (rdAll l).1 ∧ (rdAll l).2 ≤ l.length := by
  unfold rdAll I64
  split
  · rename_i h
    have h1 := rd_bounds 9223372036854775808 (by omega) (l.drop 1) 0 0 (by omega)
    have h2 : 0 < l.length := by
      cases l with
      | nil => simp at h
      | cons a t => simp
    rw [List.length_drop] at h1
    split
    · simp
    · simp only; omega
  · have h1 := rd_bounds 9223372036854775807 (by omega) l 0 0 (by omega)
    simp only; omega
end Go.Proofs.Ytakkmnhiaddnnaa.Bo

/- The document's arena, as lists of numbers. No Go in sight. -/
namespace Go.Proofs.Ytakkmnhiaddnnaa.Bo
/-- Room, how many places were ever taken, which are free (in the order in which they were freed), what is where. -/
structure Ar where
  room : Int
  ever : Int
  free : List Int
  l : List Int
/-- What a call tells. -/
structure An where
  i : Int
  v : Int
  b : Bool
  e : Int
def an0 : An := ⟨0, 0, false, 0⟩
def Ar.is (a : Ar) (i : Int) : Bool := !(a.free.contains i) && (decide (0 ≤ i) && decide (i < a.ever))
def Ar.put (a : Ar) (v : Int) : Ar × An :=
  if a.room ≤ a.ever - a.free.length then (a, ⟨0, 0, false, 50⟩)
  else if 0 < a.free.length then ({ a with free := a.free.take (a.free.length - 1), l := a.l.set (a.free.getD (a.free.length - 1) 0).toNat v }, ⟨a.free.getD (a.free.length - 1) 0, 0, false, 0⟩)
  else ({ a with ever := a.ever + 1, l := a.l ++ [v] }, ⟨a.ever, 0, false, 0⟩)
def Ar.does (a : Ar) (k i v : Int) : Ar × An :=
  if k = 0 then a.put v
  else if k = 4 then (⟨a.room, 0, [], []⟩, an0)
  else if k < 0 ∨ 4 < k ∨ a.is i = false then (a, an0)
  else if k = 1 then (a, ⟨0, a.l.getD i.toNat 0, true, 0⟩)
  else if k = 2 then ({ a with l := a.l.set i.toNat v }, ⟨0, 0, true, 0⟩)
  else ({ a with free := a.free ++ [i] }, ⟨0, 0, true, 0⟩)
/-- As it must be: each free place was taken once, and is there once. -/
structure Ar.ok (a : Ar) : Prop where
  room : 0 ≤ a.room ∧ a.room ≤ 65536
  ever : a.ever = a.l.length
  free : ∀ i ∈ a.free, 0 ≤ i ∧ i < a.ever
  once : a.free.Nodup
  fits : a.ever - a.free.length ≤ a.room
  nums : ∀ z ∈ a.l, I64 z
theorem last_mem (l : List Int) (h : 0 < l.length) : l.getD (l.length - 1) 0 ∈ l := by
  rw [List.getD_eq_getElem?_getD, List.getElem?_eq_getElem (by omega)]
  exact List.getElem_mem _
theorem Ar.put_ok (a : Ar) (v : Int) (h : a.ok) (hv : I64 v) : (a.put v).1.ok := by
  unfold Ar.put
  by_cases h1 : a.room ≤ a.ever - a.free.length
  · rw [if_pos h1]; exact h
  · rw [if_neg h1]
    by_cases h2 : 0 < a.free.length
    · rw [if_pos h2]
      have hd : ∀ i ∈ a.free.take (a.free.length - 1), i ∈ a.free := fun i hi => List.mem_of_mem_take hi
      refine ⟨h.room, by show a.ever = _; rw [List.length_set]; exact h.ever, fun i hi => h.free i (hd i hi), ?_, ?_, ?_⟩
      · exact h.once.sublist (List.take_sublist _ _)
      · show a.ever - ((a.free.take (a.free.length - 1)).length : Int) ≤ a.room
        rw [List.length_take]; omega
      · intro z hz
        rcases List.mem_or_eq_of_mem_set hz with h3 | rfl
        · exact h.nums z h3
        · exact hv
    · rw [if_neg h2]
      have he := h.ever
      refine ⟨h.room, by show a.ever + 1 = _; rw [List.length_append]; simp; omega, fun i hi => ?_, h.once, ?_, ?_⟩
      · have := h.free i hi
        show 0 ≤ i ∧ i < a.ever + 1
        omega
      · show a.ever + 1 - (a.free.length : Int) ≤ a.room
        omega
      · intro z hz
        rcases List.mem_append.1 hz with h3 | h3
        · exact h.nums z h3
        · simp at h3; subst h3; exact hv
theorem Ar.is_in (a : Ar) (i : Int) (h : a.ok) (hi : a.is i = true) : 0 ≤ i ∧ i < a.ever ∧ i.toNat < a.l.length ∧ i ∉ a.free := by
  unfold Ar.is at hi
  simp at hi
  have := h.ever
  exact ⟨hi.2.1, hi.2.2, by omega, hi.1⟩
theorem nodup_len (n : Nat) : ∀ (l : List Int), l.Nodup → (∀ i ∈ l, 0 ≤ i ∧ i < (n : Int)) → l.length ≤ n := by
  induction n with
  | zero =>
    intro l _ h
    cases l with
    | nil => exact Nat.le_refl _
    | cons a t => have := h a (List.mem_cons_self ..); omega
  | succ n ih =>
    intro l hn h
    by_cases hm : (n : Int) ∈ l
    · have h1 := ih (l.erase n) (hn.erase _) (fun i hi => by
        have hm' := (hn.mem_erase_iff).1 hi
        have := h i hm'.2
        have hne := hm'.1
        omega)
      rw [List.length_erase_of_mem hm] at h1
      omega
    · have h1 := ih l hn (fun i hi => by
        have := h i hi
        have hne : i ≠ n := fun e => hm (e ▸ hi)
        omega)
      omega
theorem Ar.does_ok (a : Ar) (k i v : Int) (h : a.ok) (hv : I64 v) : (a.does k i v).1.ok := by
  unfold Ar.does
  by_cases h1 : k = 0
  · rw [if_pos h1]; exact a.put_ok v h hv
  · rw [if_neg h1]
    by_cases h2 : k = 4
    · rw [if_pos h2]
      exact ⟨h.room, rfl, by simp, List.nodup_nil, by show (0 : Int) - ((0 : Nat) : Int) ≤ a.room; have := h.room.1; omega, by simp⟩
    · rw [if_neg h2]
      by_cases h3 : k < 0 ∨ 4 < k ∨ a.is i = false
      · rw [if_pos h3]; exact h
      · rw [if_neg h3]
        have hi : a.is i = true := by
          cases e : a.is i with
          | true => rfl
          | false => exact absurd (.inr (.inr e)) h3
        obtain ⟨g1, g2, g3, g4⟩ := a.is_in i h hi
        by_cases h4 : k = 1
        · rw [if_pos h4]; exact h
        · rw [if_neg h4]
          by_cases h5 : k = 2
          · rw [if_pos h5]
            refine ⟨h.room, by show a.ever = _; rw [List.length_set]; exact h.ever, h.free, h.once, h.fits, ?_⟩
            intro z hz
            rcases List.mem_or_eq_of_mem_set hz with h6 | rfl
            · exact h.nums z h6
            · exact hv
          · rw [if_neg h5]
            refine ⟨h.room, h.ever, ?_, ?_, ?_, h.nums⟩
            · intro j hj
              rcases List.mem_append.1 hj with h6 | h6
              · exact h.free j h6
              · simp at h6; subst h6; exact ⟨g1, g2⟩
            · rw [List.nodup_append]
              exact ⟨h.once, by simp, fun x hx y hy => by simp at hy; subst hy; intro e; subst e; exact g4 hx⟩
            · show a.ever - ((a.free ++ [i]).length : Int) ≤ a.room
              have := h.fits
              rw [List.length_append]; simp; omega
theorem Ar.does_len (a : Ar) (k i v : Int) : (a.does k i v).1.l.length ≤ a.l.length + 1 ∧ (a.does k i v).1.free.length ≤ a.free.length + 1 := by
  unfold Ar.does Ar.put
  repeat' split
  all_goals simp
  all_goals omega
end Go.Proofs.Ytakkmnhiaddnnaa.Bo

/- Cuts as keys: a right cut is a whole number from -2^63 (ahead of all) to 2^63 (behind all). -/
namespace Go.Proofs.Ytakkmnhiaddnnaa.Bo
/-- The key of a cut: the number behind it; of the last one 2^63. -/
def key (s a : Int) : Int := if s < 0 then -9223372036854775808 else if 0 < s then 9223372036854775808 else a
/-- Side and At of the right cut of a key. -/
def sd (k : Int) : Int := if k = -9223372036854775808 then -1 else if k = 9223372036854775808 then 1 else 0
def pa (k : Int) : Int := if k = -9223372036854775808 then 0 else if k = 9223372036854775808 then 0 else k
/-- A key. -/
def Ky (k : Int) : Prop := -9223372036854775808 ≤ k ∧ k ≤ 9223372036854775808
theorem key_ky (s a : Int) (ha : I64 a) : Ky (key s a) := by unfold I64 at ha; unfold key Ky; split <;> (try split) <;> omega
theorem sd_lo : sd (-9223372036854775808) = -1 := by decide
theorem pa_lo : pa (-9223372036854775808) = 0 := by decide
theorem sd_hi : sd 9223372036854775808 = 1 := by decide
theorem pa_hi : pa 9223372036854775808 = 0 := by decide
theorem sd_mid (k : Int) (h : k ≠ -9223372036854775808) (h2 : k ≠ 9223372036854775808) : sd k = 0 := by unfold sd; rw [if_neg h, if_neg h2]
theorem pa_mid (k : Int) (h : k ≠ -9223372036854775808) (h2 : k ≠ 9223372036854775808) : pa k = k := by unfold pa; rw [if_neg h, if_neg h2]
theorem key_neg (s a : Int) (h : s < 0) : key s a = -9223372036854775808 := by unfold key; rw [if_pos h]
theorem key_pos (s a : Int) (h : 0 < s) : key s a = 9223372036854775808 := by unfold key; rw [if_neg (by omega), if_pos h]
theorem key_zero (a : Int) : key 0 a = a := by unfold key; simp
/-- A key's three kinds. -/
theorem ky_cases (k : Int) (h : Ky k) : (k = -9223372036854775808 ∧ sd k = -1 ∧ pa k = 0) ∨ (k = 9223372036854775808 ∧ sd k = 1 ∧ pa k = 0) ∨ (-9223372036854775808 < k ∧ k < 9223372036854775808 ∧ sd k = 0 ∧ pa k = k) := by
  unfold Ky at h
  by_cases h1 : k = -9223372036854775808
  · subst h1; exact .inl ⟨rfl, sd_lo, pa_lo⟩
  · by_cases h2 : k = 9223372036854775808
    · subst h2; exact .inr (.inl ⟨rfl, sd_hi, pa_hi⟩)
    · exact .inr (.inr ⟨by omega, by omega, sd_mid k h1 h2, pa_mid k h1 h2⟩)
/-- Going back: a key's cut has that key. -/
theorem key_back (k : Int) (h : Ky k) : key (sd k) (pa k) = k := by
  rcases ky_cases k h with ⟨rfl, h1, h2⟩ | ⟨rfl, h1, h2⟩ | ⟨_, _, h1, h2⟩ <;> rw [h1, h2] <;> unfold key <;> simp
theorem ky_inj (k l : Int) (hk : Ky k) (hl : Ky l) (h1 : sd k = sd l) (h2 : pa k = pa l) : k = l := by rw [← key_back k hk, ← key_back l hl, h1, h2]
theorem pa_i64 (k : Int) (h : Ky k) : I64 (pa k) := by
  unfold I64
  rcases ky_cases k h with ⟨rfl, h1, h2⟩ | ⟨rfl, h1, h2⟩ | ⟨_, _, h1, h2⟩ <;> rw [h2] <;> omega
theorem sd_i64 (k : Int) : I64 (sd k) := by unfold sd I64; split <;> (try split) <;> omega
/-- The order of two keys, as a number. -/
def kcmp (a b : Int) : Int := if a < b then -1 else if b < a then 1 else 0
theorem kcmp_lt (a b : Int) (h : a < b) : kcmp a b = -1 := by unfold kcmp; rw [if_pos h]
theorem kcmp_gt (a b : Int) (h : b < a) : kcmp a b = 1 := by unfold kcmp; rw [if_neg (by omega), if_pos h]
theorem kcmp_eq (a b : Int) (h : a = b) : kcmp a b = 0 := by unfold kcmp; rw [if_neg (by omega), if_neg (by omega)]
theorem lt_side (k l : Int) (hk : Ky k) (hl : Ky l) (h : sd k ≠ sd l) : decide (sd k < sd l) = decide (k < l) := by
  unfold Ky at hk hl
  rcases ky_cases k hk with ⟨g, h1, h2⟩ | ⟨g, h1, h2⟩ | ⟨g, g', h1, h2⟩ <;> rcases ky_cases l hl with ⟨f, h3, h4⟩ | ⟨f, h3, h4⟩ | ⟨f, f', h3, h4⟩ <;> rw [h1, h3] at h ⊢ <;>
    first
      | exact absurd rfl h
      | (rw [decide_eq_true (show (_ : Int) < _ by omega), decide_eq_true (show (_ : Int) < _ by omega)])
      | (rw [decide_eq_false (show ¬ (_ : Int) < _ by omega), decide_eq_false (show ¬ (_ : Int) < _ by omega)])
theorem lt_at (k l : Int) (hk : Ky k) (hl : Ky l) (h : sd k = sd l) : decide (pa k < pa l) = decide (k < l) := by
  unfold Ky at hk hl
  rcases ky_cases k hk with ⟨g, h1, h2⟩ | ⟨g, h1, h2⟩ | ⟨g, g', h1, h2⟩ <;> rcases ky_cases l hl with ⟨f, h3, h4⟩ | ⟨f, h3, h4⟩ | ⟨f, f', h3, h4⟩ <;> rw [h1, h3] at h <;> rw [h2, h4] <;>
    first
      | rfl
      | (exfalso; revert h; decide)
      | (rw [g, f]; rfl)
/-- The number behind a cut, and whether there is one; the number ahead of it, and whether there is one. -/
def nx (k : Int) : Int := if k = 9223372036854775808 then 0 else k
def nxb (k : Int) : Bool := decide (k ≠ 9223372036854775808)
def pv (k : Int) : Int := if k = -9223372036854775808 then 0 else k - 1
def pvb (k : Int) : Bool := decide (k ≠ -9223372036854775808)
theorem nx_in (k : Int) (h : k < 9223372036854775808) : nx k = k ∧ nxb k = true := by unfold nx nxb; rw [if_neg (by omega)]; exact ⟨rfl, decide_eq_true (by omega)⟩
theorem pv_in (k : Int) (h : -9223372036854775808 < k) : pv k = k - 1 ∧ pvb k = true := by unfold pv pvb; rw [if_neg (by omega)]; exact ⟨rfl, decide_eq_true (by omega)⟩
theorem nx_hi : nx 9223372036854775808 = 0 ∧ nxb 9223372036854775808 = false := by decide
theorem pv_lo : pv (-9223372036854775808) = 0 ∧ pvb (-9223372036854775808) = false := by decide
/-- A cut taken elsewhere: its key (0 where there is none), and whether there is one. -/
def shk (k d : Int) : Int := if k = -9223372036854775808 ∨ k = 9223372036854775808 then k else if -9223372036854775808 < k + d ∧ k + d < 9223372036854775808 then k + d else 0
def shb (k d : Int) : Bool := if k = -9223372036854775808 ∨ k = 9223372036854775808 then true else decide (-9223372036854775808 < k + d ∧ k + d < 9223372036854775808)
theorem sh_end (k d : Int) (h : k = -9223372036854775808 ∨ k = 9223372036854775808) : shk k d = k ∧ shb k d = true := by unfold shk shb; rw [if_pos h, if_pos h]; exact ⟨rfl, rfl⟩
theorem sh_in (k d : Int) (h1 : -9223372036854775808 < k) (h2 : k < 9223372036854775808) (h3 : -9223372036854775808 < k + d ∧ k + d < 9223372036854775808) : shk k d = k + d ∧ shb k d = true := by
  unfold shk shb; rw [if_neg (by omega), if_pos h3, if_neg (by omega)]; exact ⟨rfl, decide_eq_true h3⟩
theorem sh_out (k d : Int) (h1 : -9223372036854775808 < k) (h2 : k < 9223372036854775808) (h3 : ¬ (-9223372036854775808 < k + d ∧ k + d < 9223372036854775808)) : shk k d = 0 ∧ shb k d = false := by
  unfold shk shb; rw [if_neg (by omega), if_neg h3, if_neg (by omega)]; exact ⟨rfl, decide_eq_false h3⟩
/-- The way back from an end is another one. -/
theorem short_iff (k d : Int) (hk : I64 k) (hd : I64 d) : clamp (clamp (k + d) - d) = k ↔ I64 (k + d) := by
  unfold I64 at hk hd ⊢
  constructor
  · intro h
    by_cases h1 : 9223372036854775807 < k + d
    · rw [clamp_up (k + d) (by omega)] at h
      rw [clamp_in _ ⟨by omega, by omega⟩] at h
      omega
    · by_cases h2 : k + d < -9223372036854775808
      · rw [clamp_down (k + d) (by omega)] at h
        rw [clamp_in _ ⟨by omega, by omega⟩] at h
        omega
      · omega
  · intro h
    rw [clamp_in (k + d) h, show k + d - d = k by omega, clamp_in k hk]
end Go.Proofs.Ytakkmnhiaddnnaa.Bo

/- Rows of keys: strictly rising ones, and what takes doubles out. -/
namespace Go.Proofs.Ytakkmnhiaddnnaa.Bo
/-- Rising, each once. -/
def Up (l : List Int) : Prop := l.Pairwise (· < ·)
theorem up_ext : ∀ (l m : List Int), Up l → Up m → (∀ x, x ∈ l ↔ x ∈ m) → l = m
  | [], [], _, _, _ => rfl
  | [], b :: m, _, _, h => absurd ((h b).2 (List.mem_cons_self ..)) (by simp)
  | a :: l, [], _, _, h => absurd ((h a).1 (List.mem_cons_self ..)) (by simp)
  | a :: l, b :: m, hl, hm, h => by
    have hl' := List.pairwise_cons.1 hl
    have hm' := List.pairwise_cons.1 hm
    have e : a = b := by
      rcases List.mem_cons.1 ((h a).1 (List.mem_cons_self ..)) with e | e
      · exact e
      · rcases List.mem_cons.1 ((h b).2 (List.mem_cons_self ..)) with e2 | e2
        · exact e2.symm
        · have h1 := hm'.1 a e
          have h2 := hl'.1 b e2
          omega
    subst e
    congr 1
    refine up_ext l m hl'.2 hm'.2 fun x => ⟨fun hx => ?_, fun hx => ?_⟩
    · rcases List.mem_cons.1 ((h x).1 (List.mem_cons_of_mem _ hx)) with e | e
      · have := hl'.1 x hx; omega
      · exact e
    · rcases List.mem_cons.1 ((h x).2 (List.mem_cons_of_mem _ hx)) with e | e
      · have := hm'.1 x hx; omega
      · exact e
theorem up_get (l : List Int) (h : Up l) (i : Nat) (hi : i + 1 < l.length) : l[i] < l[i + 1] := by
  exact List.pairwise_iff_getElem.1 h i (i + 1) (by omega) hi (by omega)
/-- Behind one that was put: what follows, without doubles that stand side by side. -/
def ddGo : Int → List Int → List Int
  | _, [] => []
  | p, x :: l => if x = p then ddGo p l else x :: ddGo x l
def dd : List Int → List Int
  | [] => []
  | x :: l => x :: ddGo x l
theorem ddGo_snoc (l : List Int) : ∀ (p x : Int), ddGo p (l ++ [x]) = ddGo p l ++ (if x = (l.getLast?).getD p then [] else [x]) := by
  induction l with
  | nil => intro p x; by_cases h : x = p <;> simp [ddGo, h]
  | cons a l ih =>
    intro p x
    have e : ∀ q, ((a :: l).getLast?).getD q = (l.getLast?).getD a := by
      intro q
      cases l with
      | nil => rfl
      | cons b t => rw [List.getLast?_cons_cons]; simp [List.getLast?_eq_some_getLast]
    rw [e p]
    simp only [List.cons_append, ddGo]
    by_cases h : a = p
    · subst h
      simp only [if_true]
      exact ih a x
    · simp only [h, if_false]
      rw [ih a x, List.cons_append]
theorem dd_snoc (l : List Int) (hl : 0 < l.length) (x : Int) : dd (l ++ [x]) = dd l ++ (if x = l[l.length - 1] then [] else [x]) := by
  cases l with
  | nil => simp at hl
  | cons a l =>
    show a :: ddGo a (l ++ [x]) = a :: ddGo a l ++ _
    rw [ddGo_snoc, List.cons_append]
    congr 2
    have e : (l.getLast?).getD a = (a :: l)[(a :: l).length - 1] := by
      cases l with
      | nil => rfl
      | cons b t => rw [List.getLast?_eq_some_getLast (by simp), List.getLast_eq_getElem]; simp
    rw [e]
theorem ddGo_up (l : List Int) : ∀ (p : Int), (p :: l).Pairwise (· ≤ ·) → Up (p :: ddGo p l) ∧ (∀ x, x ∈ p :: ddGo p l ↔ x ∈ p :: l) := by
  induction l with
  | nil => intro p _; exact ⟨List.pairwise_singleton .., fun x => Iff.rfl⟩
  | cons a l ih =>
    intro p h
    have h' := List.pairwise_cons.1 h
    by_cases e : a = p
    · subst e
      simp only [ddGo, if_true]
      obtain ⟨h1, h2⟩ := ih a h'.2
      refine ⟨h1, fun x => ?_⟩
      rw [h2 x]; simp
    · simp only [ddGo, e, if_false]
      obtain ⟨h1, h2⟩ := ih a h'.2
      have hpa := h'.1 a (List.mem_cons_self ..)
      refine ⟨List.pairwise_cons.2 ⟨fun x hx => ?_, h1⟩, fun x => ?_⟩
      · have h3 := (h2 x).1 hx
        rcases List.mem_cons.1 h3 with h4 | h4
        · subst h4; omega
        · have := (List.pairwise_cons.1 h'.2).1 x h4; omega
      · rw [List.mem_cons, h2 x, List.mem_cons, List.mem_cons, List.mem_cons]
theorem dd_up (l : List Int) (h : l.Pairwise (· ≤ ·)) : Up (dd l) ∧ (∀ x, x ∈ dd l ↔ x ∈ l) := by
  cases l with
  | nil => exact ⟨List.Pairwise.nil, fun x => Iff.rfl⟩
  | cons a l => exact ddGo_up l a h
theorem dd_le (l : List Int) : (dd l).length ≤ l.length := by
  have : ∀ (l : List Int) (p : Int), (ddGo p l).length ≤ l.length := by
    intro l; induction l with
    | nil => intro p; simp [ddGo]
    | cons a l ih => intro p; simp only [ddGo]; split
                     · have := ih p; simp; omega
                     · have := ih a; simp; omega
  cases l with
  | nil => simp [dd]
  | cons a l => have := this l a; simp [dd]; exact this
end Go.Proofs.Ytakkmnhiaddnnaa.Bo

/- Spans as pairs of keys, and rows of them as sets of numbers. -/
namespace Go.Proofs.Ytakkmnhiaddnnaa.Bo
/-- A span as it lies in memory: Side and At of Low, Side and At of High. -/
structure S4 where
  ls : Int
  la : Int
  hs : Int
  ha : Int
/-- The keys of its cuts. -/
def S4.lo (q : S4) : Int := key q.ls q.la
def S4.hi (q : S4) : Int := key q.hs q.ha
/-- Its numbers fit. -/
def S4.ok (q : S4) : Prop := I64 q.la ∧ I64 q.ha
theorem S4.ky_lo (q : S4) (h : q.ok) : Ky q.lo := key_ky _ _ h.1
theorem S4.ky_hi (q : S4) (h : q.ok) : Ky q.hi := key_ky _ _ h.2
/-- Are its cuts right ones? -/
def S4.lowR (q : S4) : Bool := sd q.lo == q.ls && pa q.lo == q.la
def S4.highR (q : S4) : Bool := sd q.hi == q.hs && pa q.hi == q.ha
/-- Is it right? -/
def S4.right (q : S4) : Bool := q.lowR && q.highR && decide (q.lo < q.hi)
/-- Is a number one of a span's? -/
def S4.has (q : S4) (n : Int) : Bool := q.right && decide (q.lo ≤ n) && decide (n < q.hi)
/-- The span of two keys. -/
def sp (p : Int × Int) : S4 := ⟨sd p.1, pa p.1, sd p.2, pa p.2⟩
theorem sp_lo (p : Int × Int) (h : Ky p.1) : (sp p).lo = p.1 := key_back _ h
theorem sp_hi (p : Int × Int) (h : Ky p.2) : (sp p).hi = p.2 := key_back _ h
theorem sp_ok (p : Int × Int) (h1 : Ky p.1) (h2 : Ky p.2) : (sp p).ok := ⟨pa_i64 _ h1, pa_i64 _ h2⟩
theorem sp_right (p : Int × Int) (h1 : Ky p.1) (h2 : Ky p.2) : (sp p).right = decide (p.1 < p.2) := by
  unfold S4.right S4.lowR S4.highR
  rw [sp_lo p h1, sp_hi p h2]
  simp [sp]
/-- A right span is that of its keys. -/
theorem sp_of_right (q : S4) (h : q.right = true) : q = sp (q.lo, q.hi) ∧ q.lo < q.hi := by
  unfold S4.right S4.lowR S4.highR at h
  simp at h
  obtain ⟨⟨⟨h1, h2⟩, h3, h4⟩, h5⟩ := h
  refine ⟨?_, h5⟩
  unfold sp
  obtain ⟨a, b, c, d⟩ := q
  simp only at h1 h2 h3 h4 ⊢
  rw [h1, h2, h3, h4]

/-- A number is one of a row's of pairs of keys. -/
def cov (ps : List (Int × Int)) (n : Int) : Prop := ∃ p ∈ ps, p.1 ≤ n ∧ n < p.2
/-- As few as can be, rising: none overlap, none touch. -/
def Norm (ps : List (Int × Int)) : Prop := (∀ p ∈ ps, p.1 < p.2) ∧ ps.Pairwise fun p q => p.2 < q.1
theorem norm_tail {p : Int × Int} {ps : List (Int × Int)} (h : Norm (p :: ps)) : Norm ps := ⟨fun q hq => h.1 q (List.mem_cons_of_mem _ hq), (List.pairwise_cons.1 h.2).2⟩
theorem cov_ge {p : Int × Int} {ps : List (Int × Int)} (h : Norm (p :: ps)) (n : Int) (hn : cov ps n) : p.2 < n := by
  obtain ⟨q, hq, h1, h2⟩ := hn
  have := (List.pairwise_cons.1 h.2).1 q hq
  omega
theorem cov_cons (p : Int × Int) (ps : List (Int × Int)) (n : Int) : cov (p :: ps) n ↔ (p.1 ≤ n ∧ n < p.2) ∨ cov ps n := by
  unfold cov
  constructor
  · rintro ⟨q, hq, h⟩
    rcases List.mem_cons.1 hq with e | e
    · subst e; exact .inl h
    · exact .inr ⟨q, e, h⟩
  · rintro (h | ⟨q, hq, h⟩)
    · exact ⟨p, List.mem_cons_self .., h⟩
    · exact ⟨q, List.mem_cons_of_mem _ hq, h⟩
theorem cov_nil (n : Int) : ¬ cov [] n := by rintro ⟨_, h, _⟩; simp at h
theorem cov_append (ps qs : List (Int × Int)) (n : Int) : cov (ps ++ qs) n ↔ cov ps n ∨ cov qs n := by
  unfold cov
  constructor
  · rintro ⟨q, hq, h⟩
    rcases List.mem_append.1 hq with e | e
    · exact .inl ⟨q, e, h⟩
    · exact .inr ⟨q, e, h⟩
  · rintro (⟨q, hq, h⟩ | ⟨q, hq, h⟩)
    · exact ⟨q, List.mem_append_left _ hq, h⟩
    · exact ⟨q, List.mem_append_right _ hq, h⟩
/-- Two such rows with the same numbers are one. -/
theorem norm_ext : ∀ (ps qs : List (Int × Int)), Norm ps → Norm qs → (∀ n, cov ps n ↔ cov qs n) → ps = qs
  | [], [], _, _, _ => rfl
  | [], q :: qs, _, hq, h => by
    have h1 := hq.1 q (List.mem_cons_self ..)
    exact absurd ((h q.1).2 ((cov_cons q qs q.1).2 (.inl ⟨Int.le_refl _, h1⟩))) (cov_nil _)
  | p :: ps, [], hp, _, h => by
    have h1 := hp.1 p (List.mem_cons_self ..)
    exact absurd ((h p.1).1 ((cov_cons p ps p.1).2 (.inl ⟨Int.le_refl _, h1⟩))) (cov_nil _)
  | p :: ps, q :: qs, hp, hq, h => by
    have hp1 := hp.1 p (List.mem_cons_self ..)
    have hq1 := hq.1 q (List.mem_cons_self ..)
    have inP := fun n => cov_cons p ps n
    have inQ := fun n => cov_cons q qs n
    have geP := fun n hn => cov_ge hp n hn
    have geQ := fun n hn => cov_ge hq n hn
    have e1 : p.1 = q.1 := by
      have a := (inQ p.1).1 ((h p.1).1 ((inP p.1).2 (.inl ⟨Int.le_refl _, hp1⟩)))
      have b := (inP q.1).1 ((h q.1).2 ((inQ q.1).2 (.inl ⟨Int.le_refl _, hq1⟩)))
      have a' : q.1 ≤ p.1 := by
        rcases a with a | a
        · omega
        · have := geQ _ a; omega
      have b' : p.1 ≤ q.1 := by
        rcases b with b | b
        · omega
        · have := geP _ b; omega
      omega
    have e2 : p.2 = q.2 := by
      rcases Int.lt_trichotomy p.2 q.2 with c | c | c
      · exfalso
        have a := (inP p.2).1 ((h p.2).2 ((inQ p.2).2 (.inl ⟨by omega, c⟩)))
        rcases a with a | a
        · omega
        · have := geP _ a; omega
      · exact c
      · exfalso
        have a := (inQ q.2).1 ((h q.2).1 ((inP q.2).2 (.inl ⟨by omega, c⟩)))
        rcases a with a | a
        · omega
        · have := geQ _ a; omega
    have ep : p = q := Prod.ext e1 e2
    subst ep
    congr 1
    refine norm_ext ps qs (norm_tail hp) (norm_tail hq) fun n => ⟨fun hn => ?_, fun hn => ?_⟩
    · rcases (inQ n).1 ((h n).1 ((inP n).2 (.inr hn))) with a | a
      · have := geP _ hn; omega
      · exact a
    · rcases (inP n).1 ((h n).2 ((inQ n).2 (.inr hn))) with a | a
      · have := geQ _ hn; omega
      · exact a
/-- The keys of the right ones of a row. -/
def rights (l : List S4) : List (Int × Int) := (l.filter S4.right).map fun q => (q.lo, q.hi)
theorem rights_lt (l : List S4) : ∀ p ∈ rights l, p.1 < p.2 := by
  intro p hp
  unfold rights at hp
  obtain ⟨q, hq, rfl⟩ := List.mem_map.1 hp
  exact (sp_of_right q (List.mem_filter.1 hq).2).2
theorem rights_ky (l : List S4) (h : ∀ q ∈ l, q.ok) : ∀ p ∈ rights l, Ky p.1 ∧ Ky p.2 := by
  intro p hp
  unfold rights at hp
  obtain ⟨q, hq, rfl⟩ := List.mem_map.1 hp
  have := h q (List.mem_filter.1 hq).1
  exact ⟨q.ky_lo this, q.ky_hi this⟩
theorem rights_sp (ps : List (Int × Int)) (h : ∀ p ∈ ps, p.1 < p.2 ∧ Ky p.1 ∧ Ky p.2) : rights (ps.map sp) = ps := by
  unfold rights
  rw [List.filter_map, List.map_map]
  have e : ps.filter (S4.right ∘ sp) = ps := by
    rw [List.filter_eq_self]
    intro p hp
    obtain ⟨h1, h2, h3⟩ := h p hp
    show (sp p).right = true
    rw [sp_right p h2 h3]; exact decide_eq_true h1
  rw [e]
  conv => rhs; rw [← List.map_id ps]
  refine List.map_congr_left fun p hp => ?_
  obtain ⟨_, h2, h3⟩ := h p hp
  show ((sp p).lo, (sp p).hi) = p
  rw [sp_lo p h2, sp_hi p h3]
theorem has_cov (l : List S4) (n : Int) : l.any (fun q => q.has n) = true ↔ cov (rights l) n := by
  unfold cov rights S4.has
  rw [List.any_eq_true]
  constructor
  · rintro ⟨q, hq, h⟩
    simp at h
    exact ⟨(q.lo, q.hi), List.mem_map.2 ⟨q, List.mem_filter.2 ⟨hq, h.1.1⟩, rfl⟩, h.1.2, h.2⟩
  · rintro ⟨p, hp, h1, h2⟩
    obtain ⟨q, hq, rfl⟩ := List.mem_map.1 hp
    obtain ⟨h3, h4⟩ := List.mem_filter.1 hq
    exact ⟨q, h3, by simp [h4, h1, h2]⟩
theorem cov_ky (ps : List (Int × Int)) (h : ∀ p ∈ ps, Ky p.1 ∧ Ky p.2) (n : Int) (hn : cov ps n) : I64 n := by
  obtain ⟨p, hp, h1, h2⟩ := hn
  obtain ⟨h3, h4⟩ := h p hp
  unfold Ky at h3 h4
  unfold I64
  omega
end Go.Proofs.Ytakkmnhiaddnnaa.Bo

/- slices.SortFunc at rows of cuts: the shelf's contract, laid at this dump. -/
namespace Go.Proofs.Ytakkmnhiaddnnaa
open Go.Shelf
end Go.Proofs.Ytakkmnhiaddnnaa

/- Rows of digits as whole numbers, the lowest one first. No Go in sight. -/
namespace Go.Proofs.Ytakkmnhiaddnnaa.Bo

/-- What a row of digits is worth. -/
def val : List Nat → Nat
  | [] => 0
  | d :: l => d + 10 * val l
/-- All are digits. -/
def Ok (xs : List Nat) : Prop := ∀ d ∈ xs, d < 10
theorem Ok.nil : Ok [] := by intro d h; cases h
theorem Ok.getD {xs : List Nat} (h : Ok xs) (i : Nat) : xs.getD i 0 < 10 := by
  by_cases hi : i < xs.length
  · rw [List.getD_eq_getElem?_getD, List.getElem?_eq_getElem hi]; exact h _ (List.getElem_mem hi)
  · rw [List.getD_eq_getElem?_getD, List.getElem?_eq_none (by omega)]; decide
theorem Ok.snoc {xs : List Nat} (h : Ok xs) {d : Nat} (hd : d < 10) : Ok (xs ++ [d]) := by
  intro e he
  rcases List.mem_append.1 he with h1 | h1
  · exact h e h1
  · rw [List.mem_singleton.1 h1]; exact hd
theorem Ok.take {xs : List Nat} (h : Ok xs) (n : Nat) : Ok (xs.take n) := fun d hd => h d (List.mem_of_mem_take hd)
theorem val_append (xs ys : List Nat) : val (xs ++ ys) = val xs + 10 ^ xs.length * val ys := by
  induction xs with
  | nil => simp [val]
  | cons d l ih => simp only [List.cons_append, val, ih, List.length_cons, Nat.pow_succ, Nat.mul_add]; rw [Nat.mul_comm (10 ^ l.length) 10, Nat.mul_assoc]; omega
theorem val_snoc (xs : List Nat) (d : Nat) : val (xs ++ [d]) = val xs + 10 ^ xs.length * d := by rw [val_append]; simp [val]
theorem val_lt (xs : List Nat) (h : Ok xs) : val xs < 10 ^ xs.length := by
  induction xs with
  | nil => simp [val]
  | cons d l ih =>
    have h1 := ih (fun e he => h e (List.mem_cons_of_mem _ he))
    have h2 := h d (by simp)
    simp only [val, List.length_cons, Nat.pow_succ]; omega
theorem val_low (m : Nat) : val (low m) = m := by
  induction m using Nat.strongRecOn with
  | _ m ih =>
    by_cases h : m = 0
    · subst h; simp [low_zero, val]
    · rw [low_pos m h, val, ih (m / 10) (by omega)]; omega
theorem low_ok (m : Nat) : Ok (low m) := by
  induction m using Nat.strongRecOn with
  | _ m ih =>
    by_cases h : m = 0
    · subst h; rw [low_zero]; exact Ok.nil
    · rw [low_pos m h]
      intro d hd
      rcases List.mem_cons.1 hd with rfl | h1
      · omega
      · exact ih (m / 10) (by omega) d h1
/-- From place i on. -/
theorem val_drop (xs : List Nat) (i : Nat) : val (xs.drop i) = xs.getD i 0 + 10 * val (xs.drop (i + 1)) := by
  by_cases hi : i < xs.length
  · rw [List.drop_eq_getElem_cons hi, val, List.getD_eq_getElem?_getD, List.getElem?_eq_getElem hi]; rfl
  · rw [List.drop_of_length_le (by omega), List.drop_of_length_le (by omega), List.getD_eq_getElem?_getD, List.getElem?_eq_none (by omega)]; rfl
/-- One that is more from place i on is more. -/
theorem val_lt_down (xs ys : List Nat) (h : Ok xs) : ∀ i, val (xs.drop i) < val (ys.drop i) → val xs < val ys := by
  intro i
  induction i with
  | zero => intro hlt; simpa using hlt
  | succ i ih =>
    intro hlt
    refine ih ?_
    rw [val_drop xs i, val_drop ys i]
    have := h.getD i
    omega
theorem val_take_succ (xs : List Nat) (i : Nat) (h : i < xs.length) : val (xs.take (i + 1)) = val (xs.take i) + 10 ^ i * xs[i] := by
  rw [List.take_succ_eq_append_getElem h, val_snoc, List.length_take, Nat.min_eq_left (by omega)]
/-- The number that s times v is, or the end beyond which it is: by the limit of its sign. -/
def lim (s : Int) : Nat := if s < 0 then 9223372036854775808 else 9223372036854775807
theorem clamp_sign (s : Int) (v : Nat) (hs : s = -1 ∨ s = 0 ∨ s = 1) : clamp (s * (v : Int)) = s * ((if lim s < v then lim s else v : Nat) : Int) := by
  rcases hs with rfl | rfl | rfl
  · have e : lim (-1) = 9223372036854775808 := rfl
    rw [e]; unfold clamp; split <;> (try split) <;> (try split) <;> omega
  · simp [clamp]
  · have e : lim 1 = 9223372036854775807 := rfl
    rw [e]; unfold clamp; split <;> (try split) <;> (try split) <;> omega
/-- What was reckoned so far is a number, and goes on to be one. -/
theorem sign_step (s : Int) (v d x : Nat) (hs : s = -1 ∨ s = 0 ∨ s = 1) (hx : x ≤ lim s) (h : d + 10 * v ≤ x) :
    I64 (s * (v : Int)) ∧ I64 (s * (v : Int) * 10) ∧ I64 (s * (d : Int)) ∧ I64 (s * (v : Int) * 10 + s * (d : Int)) ∧ s * (v : Int) * 10 + s * (d : Int) = s * ((d + 10 * v : Nat) : Int) := by
  unfold I64
  rcases hs with rfl | rfl | rfl
  · have e : lim (-1) = 9223372036854775808 := rfl
    omega
  · simp
  · have e : lim 1 = 9223372036854775807 := rfl
    omega
theorem val_drop_le (xs : List Nat) (i : Nat) : val (xs.drop i) ≤ val xs := by
  induction i with
  | zero => simp
  | succ i ih => have := val_drop xs i; omega
theorem val_zeros (xs : List Nat) : val (xs ++ [0]) = val xs := by rw [val_snoc]; simp
end Go.Proofs.Ytakkmnhiaddnnaa.Bo

/- Rows of digits in memory; contracts of digit, more. -/
namespace Go.Proofs.Ytakkmnhiaddnnaa
open Go.RowKit Go.Proofs.Ytakkmnhiaddnnaa.Bo
set_option linter.unusedVariables false

/-- One call behind the other: what was there stays. -/
theorem bt {a b c : World} (h1 : Below a.heap.size a b) (h2 : Below b.heap.size b c) : Below a.heap.size a c := h1.trans (h2.mono h1.size)

/-- The slice v holds the digits xs, at the head of a block, or is empty. -/
def Dg (w : World) (v : Value) (xs : List Nat) : Prop :=
  ∃ (a : Option Addr) (cap : Nat), v = .slice a xs.length cap ∧ xs.length ≤ cap ∧ (0 < xs.length → ∃ g cur, a = some ⟨g, 0, none⟩ ∧ w.heap[g]? = some (.cells cur 3 (0, 0)) ∧ ∀ (j : Nat) (h : j < xs.length), cur[j]? = some (.int .i64 ((xs[j] : Nat) : Int)))
theorem Dg.below {w w' : World} {v : Value} {xs : List Nat} (h : Dg w v xs) (hb : Below w.heap.size w w') : Dg w' v xs := by
  obtain ⟨a, cap, hv, hc, hg⟩ := h
  refine ⟨a, cap, hv, hc, fun hp => ?_⟩
  obtain ⟨g, cur, ha, hgb, hcur⟩ := hg hp
  exact ⟨g, cur, ha, (hb.block g (lt_of_block hgb)).trans hgb, hcur⟩
/-- A store into a block of another make is not seen. -/
theorem Dg.far {w : World} {v : Value} {xs : List Nat} (h : Dg w v xs) {b : Nat} {cs : Array Value} {t : TypeId} (hb : w.heap[b]? = some (.cells cs t (0, 0))) (ht : t ≠ 3) (i : Nat) (u : Value) : Dg (w.setCell ⟨b, i, none⟩ u) v xs := by
  obtain ⟨a, cap, hv, hc, hg⟩ := h
  refine ⟨a, cap, hv, hc, fun hp => ?_⟩
  obtain ⟨g, cur, ha, hgb, hcur⟩ := hg hp
  refine ⟨g, cur, ha, ?_, hcur⟩
  rw [heap_setCell_other _ _ _ _ ?_]
  · exact hgb
  · rintro rfl
    rw [hgb] at hb
    injection hb with hb
    injection hb with _ h2
    exact ht h2.symm

end Go.Proofs.Ytakkmnhiaddnnaa

/- Contracts of package cut's small functions. -/
namespace Go.Proofs.Ytakkmnhiaddnnaa
open Go.RowKit Go.Sort Go.Proofs.Ytakkmnhiaddnnaa.Bo
set_option linter.unusedVariables false

/-- What was there stays, and draws go on: all that the small functions of cut do to the world. -/
def Lays (w w' : World) : Prop := Below w.heap.size w w' ∧ w.drawn ≤ w'.drawn
theorem Lays.refl (w : World) : Lays w w := ⟨Below.refl _ _, Nat.le_refl _⟩
theorem Lays.trans {a b c : World} (h1 : Lays a b) (h2 : Lays b c) : Lays a c := ⟨bt h1.1 h2.1, Nat.le_trans h1.2 h2.2⟩
theorem Lays.drew {a b : World} (h : Lays a b) : Lays a b.drew := ⟨h.1.drew, Nat.le_trans h.2 (Nat.le_succ _)⟩
theorem Lays.alloc {a b : World} (h : Lays a b) (o : Obj) : Lays a (b.alloc o) := ⟨h.1.alloc h.1.size o, h.2⟩
theorem Lays.setCell {a b : World} (h : Lays a b) {p : Addr} (hp : a.heap.size ≤ p.block) (u : Value) : Lays a (b.setCell p u) := ⟨h.1.setCell hp u, h.2⟩
/-- Such a world is the old one, draws on, with blocks behind it. -/
theorem Lays.grown {a b : World} (h : Lays a b) : ∃ q os, b = grow (a.drewN q) os := by
  obtain ⟨⟨h1, h2, h3, h4, h5⟩, h6⟩ := h
  refine ⟨b.drawn - a.drawn, b.heap.extract a.heap.size b.heap.size, ?_⟩
  obtain ⟨bh, bt, bd, bo, bou⟩ := b
  obtain ⟨ah, at_, ad, ao, aou⟩ := a
  simp only at h1 h2 h3 h4 h5 h6
  subst h1 h2 h3
  unfold grow World.drewN
  simp only [World.mk.injEq, and_true, true_and]
  refine ⟨?_, by omega⟩
  apply Array.ext_getElem?
  intro k
  rw [Array.getElem?_append]
  split
  · rename_i hk; exact h5 k hk
  · rename_i hk
    rw [Array.getElem?_extract]
    split
    · congr 1; omega
    · rename_i h7
      rw [Array.getElem?_eq_none]; omega
theorem lays_grow (w : World) (q : Nat) (os : Array Obj) : Lays w (grow (w.drewN q) os) :=
  ⟨⟨rfl, rfl, rfl, by simp, fun k hk => by rw [heap_grow_old _ _ (by exact hk)]; rfl⟩, Nat.le_add_right _ _⟩

theorem two_put {W : World} {b : Nat} {x y p q : Value} {t : TypeId} (h : W.heap[b]? = some (.cells #[x, y] t (0, 0))) :
    ((W.setCell ⟨b, 0, none⟩ p).setCell ⟨b, 1, none⟩ q).heap[b]? = some (.cells #[p, q] t (0, 0)) := by
  have h1 := heap_setCell_same W b 0 _ _ p h
  have h2 := heap_setCell_same _ b 1 _ _ q h1
  rw [h2]; rfl
/-- A block of two cells: what is read there, and that it may be written. -/
theorem two_cells {W : World} {b : Nat} {x y : Value} {t : TypeId} (h : W.heap[b]? = some (.cells #[x, y] t (0, 0))) :
    W.cell? ⟨b, 0, none⟩ = some x ∧ W.cell? ⟨b, 1, none⟩ = some y ∧ W.frozen? ⟨b, 0, none⟩ = false ∧ W.frozen? ⟨b, 1, none⟩ = false :=
  ⟨(cell_of_row _ _ 0 _ _ _ h).trans rfl, (cell_of_row _ _ 1 _ _ _ h).trans rfl, frozen_of_row _ _ 0 _ _ h, frozen_of_row _ _ 1 _ _ h⟩

theorem first_any (w : World) : Calls Try.prog 54 #[] w fun e w' => e = .returned (.agg #[.int .i64 (-1), .int .i64 0]) ∧ Lays w w' := by
  go_enter Try.func54, Try.ntmps54
  go_wp2
  refine bodyPost_ret (v := .agg #[.int .i64 (-1), .int .i64 0]) (by simp [results, Try.results54, go_sem]) rfl ?_
  exact ⟨rfl, (Lays.refl _).alloc _⟩
theorem last_any (w : World) : Calls Try.prog 55 #[] w fun e w' => e = .returned (.agg #[.int .i64 1, .int .i64 0]) ∧ Lays w w' := by
  go_enter Try.func55, Try.ntmps55
  go_wp2
  refine bodyPost_ret (v := .agg #[.int .i64 1, .int .i64 0]) (by simp [results, Try.results55, go_sem]) rfl ?_
  exact ⟨rfl, (Lays.refl _).alloc _⟩

/-- A cut's value, by its key. -/
theorem ret_cut {s a s' a' : Int} (h1 : s = s') (h2 : a = a') : Ending.returned (.agg #[.int .i64 s, .int .i64 a]) = .returned (.agg #[.int .i64 s', .int .i64 a']) := by rw [h1, h2]

theorem canon_first (s a : Int) (w : World) (h : s < 0 ∨ (s = 0 ∧ a = -9223372036854775808)) :
    Calls Try.prog 74 #[.agg #[.int .i64 s, .int .i64 a]] w fun e w' => e = .returned (.agg #[.int .i64 (-1), .int .i64 0]) ∧ Lays w w' := by
  have tail : ∀ w1 : World, Lays ((w.alloc (.cells #[.int .i64 s, .int .i64 a] 31)).alloc (.cells #[.int .i64 0, .int .i64 0] 31)) w1 →
      w1.heap[w.heap.size + 1]? = some (.cells #[.int .i64 0, .int .i64 0] 31 (0, 0)) := fun w1 hL => by
    rw [hL.1.block _ (by simp)]; exact heap_alloc2_new _ _ _
  have HT := Lib.hid tail
  clear tail
  rcases h with h | ⟨rfl, rfl⟩
  · have t1 : decide (s < 0) = true := decide_eq_true h
    go_enter Try.func74, Try.ntmps74
    go_wp2_with fail
    refine (first_any _).mono ?_
    rintro e w1 ⟨rfl, hL⟩
    have hb := HT.out w1 hL
    have hp := two_cells (two_put (p := .int .i64 (-1)) (q := .int .i64 0) hb)
    obtain ⟨p1, p2, _, _⟩ := hp
    obtain ⟨q1, q2, q3, q4⟩ := two_cells hb
    clear hb
    go_wp2_with fail
    refine bodyPost_ret (v := .agg #[.int .i64 (-1), .int .i64 0]) (by simp [results, Try.results74, go_sem, p1, p2]) rfl ?_
    exact ⟨rfl, (((((Lays.refl _).alloc _).alloc _).trans hL).setCell (by simp) _).setCell (by simp) _⟩
  · go_enter Try.func74, Try.ntmps74
    go_wp2_with fail
    refine (first_any _).mono ?_
    rintro e w1 ⟨rfl, hL⟩
    have hb := HT.out w1 hL
    have hp := two_cells (two_put (p := .int .i64 (-1)) (q := .int .i64 0) hb)
    obtain ⟨p1, p2, _, _⟩ := hp
    obtain ⟨q1, q2, q3, q4⟩ := two_cells hb
    clear hb
    go_wp2_with fail
    refine bodyPost_ret (v := .agg #[.int .i64 (-1), .int .i64 0]) (by simp [results, Try.results74, go_sem, p1, p2]) rfl ?_
    exact ⟨rfl, (((((Lays.refl _).alloc _).alloc _).trans hL).setCell (by simp) _).setCell (by simp) _⟩
theorem canon_last (s a : Int) (w : World) (h : 0 < s) :
    Calls Try.prog 74 #[.agg #[.int .i64 s, .int .i64 a]] w fun e w' => e = .returned (.agg #[.int .i64 1, .int .i64 0]) ∧ Lays w w' := by
  have tail : ∀ w1 : World, Lays ((w.alloc (.cells #[.int .i64 s, .int .i64 a] 31)).alloc (.cells #[.int .i64 0, .int .i64 0] 31)) w1 →
      w1.heap[w.heap.size + 1]? = some (.cells #[.int .i64 0, .int .i64 0] 31 (0, 0)) := fun w1 hL => by
    rw [hL.1.block _ (by simp)]; exact heap_alloc2_new _ _ _
  have HT := Lib.hid tail
  clear tail
  have t1 : decide (s < 0) = false := decide_eq_false (by omega)
  have t2 : (s == 0) = false := beq_eq_false_iff_ne.2 (by omega)
  have t3 : decide (0 < s) = true := decide_eq_true h
  go_enter Try.func74, Try.ntmps74
  go_wp2_with fail
  refine (last_any _).mono ?_
  rintro e w1 ⟨rfl, hL⟩
  have hb := HT.out w1 hL
  have hp := two_cells (two_put (p := .int .i64 1) (q := .int .i64 0) hb)
  obtain ⟨p1, p2, _, _⟩ := hp
  obtain ⟨q1, q2, q3, q4⟩ := two_cells hb
  clear hb
  go_wp2_with fail
  refine bodyPost_ret (v := .agg #[.int .i64 1, .int .i64 0]) (by simp [results, Try.results74, go_sem, p1, p2]) rfl ?_
  exact ⟨rfl, (((((Lays.refl _).alloc _).alloc _).trans hL).setCell (by simp) _).setCell (by simp) _⟩
theorem canon_mid (a : Int) (w : World) (h : a ≠ -9223372036854775808) :
    Calls Try.prog 74 #[.agg #[.int .i64 0, .int .i64 a]] w fun e w' => e = .returned (.agg #[.int .i64 0, .int .i64 a]) ∧ Lays w w' := by
  have t2 : (a == -9223372036854775808) = false := beq_eq_false_iff_ne.2 h
  go_enter Try.func74, Try.ntmps74
  go_wp2_with fail
  refine bodyPost_ret (v := .agg #[.int .i64 0, .int .i64 a]) (by simp [results, Try.results74, go_sem]) rfl ?_
  exact ⟨rfl, ((Lays.refl _).alloc _).alloc _⟩
theorem canon_any (s a : Int) (w : World) (ha : I64 a) :
    Calls Try.prog 74 #[.agg #[.int .i64 s, .int .i64 a]] w fun e w' => e = .returned (.agg #[.int .i64 (sd (key s a)), .int .i64 (pa (key s a))]) ∧ Lays w w' := by
  by_cases h1 : s < 0
  · rw [key_neg s a h1, sd_lo, pa_lo]; exact canon_first s a w (.inl h1)
  · by_cases h2 : 0 < s
    · rw [key_pos s a h2, sd_hi, pa_hi]; exact canon_last s a w h2
    · obtain rfl : s = 0 := by omega
      rw [key_zero]
      by_cases h3 : a = -9223372036854775808
      · subst h3; rw [sd_lo, pa_lo]; exact canon_first 0 _ w (.inr ⟨rfl, rfl⟩)
      · have h4 : a ≠ 9223372036854775808 := by unfold I64 at ha; omega
        rw [sd_mid a h3 h4, pa_mid a h3 h4]; exact canon_mid a w h3
/-- Of a right cut it is itself. -/
theorem canon_key (k : Int) (w : World) (hk : Ky k) :
    Calls Try.prog 74 #[.agg #[.int .i64 (sd k), .int .i64 (pa k)]] w fun e w' => e = .returned (.agg #[.int .i64 (sd k), .int .i64 (pa k)]) ∧ Lays w w' := by
  have h := canon_any (sd k) (pa k) w (pa_i64 k hk)
  rw [key_back k hk] at h
  exact h
end Go.Proofs.Ytakkmnhiaddnnaa

/- Contracts of package cut: Right, Next, Prev, Ahead, Behind. -/
namespace Go.Proofs.Ytakkmnhiaddnnaa
open Go.RowKit Go.Sort Go.Proofs.Ytakkmnhiaddnnaa.Bo
set_option linter.unusedVariables false

theorem eql_cut (s a t b : Int) (w : World) : Sem.run Try.prog (binOp .eql 31 (.agg #[.int .i64 s, .int .i64 a]) (.agg #[.int .i64 t, .int .i64 b])) w = .ok (.bool (s == t && a == b)) w := by
  have hS : Try.prog.underlying 31 = some (.struct (Try.prog.fieldsOf 31)) := by kernel_rfl
  have hp : Try.prog.stoodInHeld 31 = false := by kernel_rfl
  have u3 := Try.underlying3
  have u2 := Try.underlying2
  rw [run_eql_struct, show (10000 : Nat) = 9999 + 1 from rfl, run_equalIn_agg w 9999 31 _ _ hS hp]
  simp only [Program.fieldsOf, Try.underlying31]
  go_simp
  by_cases h1 : s = t <;> by_cases h2 : a = b <;> simp [h1, h2]

theorem mixed : Try.prog.follows .mixedOrders = true := by kernel_rfl
theorem first_g (w : World) : Calls Try.prog 54 #[] w fun e w' => e = .returned (.agg #[.int .i64 (-1), .int .i64 0]) ∧ ∃ q os, w' = grow (w.drewN q) os := (first_any w).mono fun _ _ h => ⟨h.1, h.2.grown⟩
theorem last_g (w : World) : Calls Try.prog 55 #[] w fun e w' => e = .returned (.agg #[.int .i64 1, .int .i64 0]) ∧ ∃ q os, w' = grow (w.drewN q) os := (last_any w).mono fun _ _ h => ⟨h.1, h.2.grown⟩

/-- A cut in a block: its two cells in every world that only lays and draws behind it. -/
theorem cut_grown {X : World} {b : Nat} {x y : Value} {t : TypeId} (h : X.heap[b]? = some (.cells #[x, y] t (0, 0))) :
    (∀ n os, (grow (X.drewN n) os).cell? ⟨b, 0, none⟩ = some x) ∧ (∀ n os, (grow (X.drewN n) os).cell? ⟨b, 1, none⟩ = some y) :=
  ⟨cell_grown (lt_of_block h) (two_cells h).1, cell_grown (lt_of_block h) (two_cells h).2.1⟩

theorem ret_ib {a a' : Int} {b b' : Bool} (h : a' = a ∧ b' = b) : Ending.returned (.tuple #[.int .i64 a, .bool b]) = .returned (.tuple #[.int .i64 a', .bool b']) := by rw [h.1, h.2]

set_option maxRecDepth 100000 in
theorem next_any (s a : Int) (w : World) (ha : I64 a) :
    Calls Try.prog 95 #[.agg #[.int .i64 s, .int .i64 a]] w fun e w' => e = .returned (.tuple #[.int .i64 (nx (key s a)), .bool (nxb (key s a))]) ∧ Lays w w' := by
  have mx := mixed
  have HC := Lib.hid (fun W => canon_any s a W ha)
  have hk := key_ky s a ha
  generalize key s a = k at *
  have hcases := ky_cases k hk
  have eqc := eql_cut
  rcases hcases with ⟨rfl, h1, h2⟩ | ⟨rfl, h1, h2⟩ | ⟨g1, g2, h1, h2⟩
  · rw [h1, h2] at HC
    clear h1 h2 hk
    go_enter Try.func95, Try.ntmps95
    go_wp2_with fail
    refine (HC.out _).mono ?_
    rintro e w1 ⟨rfl, hL⟩
    have hb : w1.heap[w.heap.size]? = some (.cells #[.int .i64 s, .int .i64 a] 31 (0, 0)) := by rw [hL.1.block _ (by simp)]; exact heap_alloc_new _ _
    have hL1 := ((((Lays.refl _).alloc _).trans hL).setCell (p := ⟨w.heap.size, 0, none⟩) (by simp) (.int .i64 (-1))).setCell (p := ⟨w.heap.size, 1, none⟩) (by simp) (.int .i64 0)
    have hb2 := two_put (p := .int .i64 (-1)) (q := .int .i64 0) hb
    obtain ⟨q1, q2, q3, q4⟩ := two_cells hb
    have HB := Lib.hid hb2
    clear hb hb2
    go_wp2_with fail
    have hb2 := HB.out
    generalize (w1.setCell ⟨w.heap.size, 0, none⟩ (.int .i64 (-1))).setCell ⟨w.heap.size, 1, none⟩ (.int .i64 0) = X at *
    obtain ⟨p1, p2⟩ := cut_grown hb2
    clear q1 q2 q3 q4 hb2 HC
    go_quiet_grown (first | (go_at_call 54; exact Calls.grown_of (first_g _)))
    have hL2 := hL1.trans (lays_grow X nq osq)
    go_wp2_with fail
    go_ret2
    exact ⟨ret_ib (nx_in _ (by decide)), hL2⟩
  · rw [h1, h2] at HC
    clear h1 h2 hk
    go_enter Try.func95, Try.ntmps95
    go_wp2_with fail
    refine (HC.out _).mono ?_
    rintro e w1 ⟨rfl, hL⟩
    have hb : w1.heap[w.heap.size]? = some (.cells #[.int .i64 s, .int .i64 a] 31 (0, 0)) := by rw [hL.1.block _ (by simp)]; exact heap_alloc_new _ _
    have hL1 := ((((Lays.refl _).alloc _).trans hL).setCell (p := ⟨w.heap.size, 0, none⟩) (by simp) (.int .i64 1)).setCell (p := ⟨w.heap.size, 1, none⟩) (by simp) (.int .i64 0)
    have hb2 := two_put (p := .int .i64 1) (q := .int .i64 0) hb
    obtain ⟨q1, q2, q3, q4⟩ := two_cells hb
    have HB := Lib.hid hb2
    clear hb hb2
    go_wp2_with fail
    have hb2 := HB.out
    generalize (w1.setCell ⟨w.heap.size, 0, none⟩ (.int .i64 1)).setCell ⟨w.heap.size, 1, none⟩ (.int .i64 0) = X at *
    obtain ⟨p1, p2⟩ := cut_grown hb2
    clear q1 q2 q3 q4 hb2 HC
    go_quiet_grown (first | (go_at_call 54; exact Calls.grown_of (first_g _)))
    have hY : (grow (X.drewN nq) osq).heap[w.heap.size]? = some (.cells #[.int .i64 1, .int .i64 0] 31 (0, 0)) := by rw [(lays_grow X nq osq).1.block _ (lt_of_block HB.out)]; exact HB.out
    have hL2 := hL1.trans (lays_grow X nq osq)
    have HY := Lib.hid hY
    clear p1 p2 hY HB hL1
    go_wp2_with fail
    generalize grow (X.drewN nq) osq = Y at *
    obtain ⟨p1, p2⟩ := cut_grown HY.out
    go_quiet_grown (first | (go_at_call 55; exact Calls.grown_of (last_g _)))
    have hL3 := hL2.trans (lays_grow Y nq osq)
    go_wp2_with fail
    go_ret2
    exact ⟨ret_ib nx_hi, hL3⟩
  · rw [h1, h2] at HC
    clear h1 h2 hk
    go_enter Try.func95, Try.ntmps95
    go_wp2_with fail
    refine (HC.out _).mono ?_
    rintro e w1 ⟨rfl, hL⟩
    have hb : w1.heap[w.heap.size]? = some (.cells #[.int .i64 s, .int .i64 a] 31 (0, 0)) := by rw [hL.1.block _ (by simp)]; exact heap_alloc_new _ _
    have hL1 := ((((Lays.refl _).alloc _).trans hL).setCell (p := ⟨w.heap.size, 0, none⟩) (by simp) (.int .i64 0)).setCell (p := ⟨w.heap.size, 1, none⟩) (by simp) (.int .i64 k)
    have hb2 := two_put (p := .int .i64 0) (q := .int .i64 k) hb
    obtain ⟨q1, q2, q3, q4⟩ := two_cells hb
    have HB := Lib.hid hb2
    clear hb hb2
    go_wp2_with fail
    have hb2 := HB.out
    generalize (w1.setCell ⟨w.heap.size, 0, none⟩ (.int .i64 0)).setCell ⟨w.heap.size, 1, none⟩ (.int .i64 k) = X at *
    obtain ⟨p1, p2⟩ := cut_grown hb2
    clear q1 q2 q3 q4 hb2 HC
    go_quiet_grown (first | (go_at_call 54; exact Calls.grown_of (first_g _)))
    have hY : (grow (X.drewN nq) osq).heap[w.heap.size]? = some (.cells #[.int .i64 0, .int .i64 k] 31 (0, 0)) := by rw [(lays_grow X nq osq).1.block _ (lt_of_block HB.out)]; exact HB.out
    have hL2 := hL1.trans (lays_grow X nq osq)
    have HY := Lib.hid hY
    clear p1 p2 hY HB hL1
    go_wp2_with fail
    generalize grow (X.drewN nq) osq = Y at *
    obtain ⟨p1, p2⟩ := cut_grown HY.out
    go_quiet_grown (first | (go_at_call 55; exact Calls.grown_of (last_g _)))
    have hL3 := hL2.trans (lays_grow Y nq osq)
    go_wp2_with fail
    go_ret2
    exact ⟨ret_ib (nx_in k (by omega)), hL3⟩
theorem canon_g (s a : Int) (w : World) (ha : I64 a) : Calls Try.prog 74 #[.agg #[.int .i64 s, .int .i64 a]] w fun e w' => e = .returned (.agg #[.int .i64 (sd (key s a)), .int .i64 (pa (key s a))]) ∧ ∃ q os, w' = grow (w.drewN q) os := (canon_any s a w ha).mono fun _ _ h => ⟨h.1, h.2.grown⟩
theorem right_any (s a : Int) (w : World) (ha : I64 a) :
    Calls Try.prog 63 #[.agg #[.int .i64 s, .int .i64 a]] w fun e w' => e = .returned (.bool (s == sd (key s a) && a == pa (key s a))) ∧ Lays w w' := by
  have mx := mixed
  have HC := Lib.hid (fun W => canon_g s a W ha)
  generalize sd (key s a) = t at *
  generalize pa (key s a) = b at *
  have eqc := eql_cut
  go_enter Try.func63, Try.ntmps63
  go_wp2_with fail
  have hb := heap_alloc_new w (.cells #[.int .i64 s, .int .i64 a] 31)
  have hL1 := (Lays.refl w).alloc (.cells #[.int .i64 s, .int .i64 a] 31)
  generalize w.alloc (.cells #[.int .i64 s, .int .i64 a] 31) = X at *
  obtain ⟨p1, p2⟩ := cut_grown hb
  clear hb
  go_quiet_grown (first | (go_at_call 74; exact Calls.grown_of (HC.out _)))
  have hL2 := hL1.trans (lays_grow X nq osq)
  go_wp2_with fail
  go_ret
  exact ⟨rfl, hL2⟩
theorem behind_any (n : Int) (w : World) (hn : I64 n) :
    Calls Try.prog 96 #[.int .i64 n] w fun e w' => e = .returned (.agg #[.int .i64 (sd (n + 1)), .int .i64 (pa (n + 1))]) ∧ Lays w w' := by
  unfold I64 at hn
  by_cases h : n = 9223372036854775807
  · subst h
    rw [show (9223372036854775807 : Int) + 1 = 9223372036854775808 from by decide, sd_hi, pa_hi]
    go_enter Try.func96, Try.ntmps96
    go_wp2_with fail
    refine (last_any _).mono ?_
    rintro e w1 ⟨rfl, hL⟩
    have hb : w1.heap[w.heap.size]? = some (.cells #[.int .i64 0, .int .i64 0] 31 (0, 0)) := by rw [hL.1.block _ (by simp)]; exact heap_alloc_new _ _
    have hL1 := (((Lays.refl _).alloc _).trans hL).setCell (p := ⟨w.heap.size, 0, none⟩) (by simp) (.int .i64 1) |>.setCell (p := ⟨w.heap.size, 1, none⟩) (by simp) (.int .i64 0)
    obtain ⟨p1, p2, _, _⟩ := two_cells (two_put (p := .int .i64 1) (q := .int .i64 0) hb)
    obtain ⟨q1, q2, q3, q4⟩ := two_cells hb
    clear hb
    go_wp2_with fail
    refine bodyPost_ret (v := .agg #[.int .i64 1, .int .i64 0]) (by simp [results, Try.results96, go_sem, p1, p2]) rfl ?_
    exact ⟨rfl, hL1⟩
  · rw [sd_mid (n + 1) (by omega) (by omega), pa_mid (n + 1) (by omega) (by omega)]
    have t1 : (n == 9223372036854775807) = false := beq_eq_false_iff_ne.2 h
    go_enter Try.func96, Try.ntmps96
    go_wp2_with fail
    refine bodyPost_ret (v := .agg #[.int .i64 0, .int .i64 (n + 1)]) (by simp [results, Try.results96, go_sem]) rfl ?_
    exact ⟨rfl, (Lays.refl _).alloc _⟩
end Go.Proofs.Ytakkmnhiaddnnaa

/- Plain facts on digits and texts of numbers. No Go in sight. -/
namespace Go.Proofs.Ytakkmnhiaddnnaa.Bo

theorem ch_digit (d : Nat) (h : d < 10) : 48 ≤ (ch d).toNat ∧ (ch d).toNat ≤ 57 := by rw [ch_toNat d h]; omega
theorem pre_digits (m : Nat) : ∀ c ∈ pre m, 48 ≤ c.toNat ∧ c.toNat ≤ 57 := by
  induction m using Nat.strongRecOn with
  | _ m ih =>
    by_cases h : m = 0
    · subst h; simp [pre_zero]
    · rw [pre_pos m h]
      intro c hc
      rcases List.mem_append.1 hc with h1 | h1
      · exact ih (m / 10) (by omega) c h1
      · rw [List.mem_singleton.1 h1]; exact ch_digit _ (by omega)
theorem dg_digits (m : Nat) : ∀ c ∈ dg m, 48 ≤ c.toNat ∧ c.toNat ≤ 57 := by
  by_cases h : m = 0
  · subst h; intro c hc; simp [dg] at hc; subst hc; decide
  · simp only [dg, h, if_false]; exact pre_digits m
theorem pre_first (m : Nat) (h : m ≠ 0) : ∃ c t, pre m = c :: t ∧ 49 ≤ c.toNat ∧ c.toNat ≤ 57 := by
  induction m using Nat.strongRecOn with
  | _ m ih =>
    rw [pre_pos m h]
    by_cases h1 : m / 10 = 0
    · rw [h1, pre_zero]; exact ⟨ch (m % 10), [], rfl, by rw [ch_toNat _ (by omega)]; omega, by rw [ch_toNat _ (by omega)]; omega⟩
    · obtain ⟨c, t, e, hc⟩ := ih (m / 10) (by omega) h1
      exact ⟨c, t ++ [ch (m % 10)], by rw [e]; rfl, hc⟩
theorem dg_zero : dg 0 = [48] := by simp [dg]
theorem dg_first (m : Nat) (h : m ≠ 0) : ∃ c t, dg m = c :: t ∧ 49 ≤ c.toNat ∧ c.toNat ≤ 57 := by simp only [dg, h, if_false]; exact pre_first m h
theorem dg_ne (m : Nat) : (dg m)[0]? ≠ some 45 := by
  intro h
  have hm : (45 : UInt8) ∈ dg m := List.mem_of_getElem? h
  have := dg_digits m 45 hm
  exact absurd this (by decide)

theorem rd_pre (M : Nat) : ∀ (m : Nat) (rest : List UInt8), m ≤ M → rd M (pre m ++ rest) 0 0 = rd M rest (pre m).length m := by
  intro m
  induction m using Nat.strongRecOn with
  | _ m ih =>
    intro rest hm
    by_cases h : m = 0
    · subst h; simp [pre_zero]
    · have hlen : (pre m).length = (pre (m / 10)).length + 1 := by rw [pre_pos m h]; simp
      have hz : m / 10 = 0 → (pre (m / 10)).length = 0 := fun e => by rw [e, pre_zero]; rfl
      rw [hlen, pre_pos m h, List.append_assoc, ih (m / 10) (by omega) _ (by omega)]
      have hc := ch_toNat (m % 10) (by omega)
      rw [List.singleton_append, rd_go]
      · rw [hc]; congr 1; omega
      · unfold stops
        rw [hc]
        intro hs
        rcases hs with ⟨h1, h2⟩ | h1 | h1 | h1
        · have := hz h2; omega
        · omega
        · omega
        · omega
theorem rd_dg (M m : Nat) (rest : List UInt8) (hm : m ≤ M) : rd M (dg m ++ rest) 0 0 = rd M rest (dg m).length m := by
  have hlen : (dg m).length = (pre (m / 10)).length + 1 := by rw [dg_step m]; simp
  have hz : m / 10 = 0 → (pre (m / 10)).length = 0 := fun e => by rw [e, pre_zero]; rfl
  rw [hlen, dg_step m, List.append_assoc, rd_pre M (m / 10) _ (by omega)]
  have hc := ch_toNat (m % 10) (by omega)
  rw [List.singleton_append, rd_go]
  · rw [hc]; congr 1; omega
  · unfold stops
    rw [hc]
    intro hs
    rcases hs with ⟨h1, h2⟩ | h1 | h1 | h1
    · have := hz h2; omega
    · omega
    · omega
    · omega
/-- What stands behind a number goes not on with a digit. -/
def NoDigit (l : List UInt8) : Prop := ∀ c, l[0]? = some c → c.toNat < 48 ∨ 57 < c.toNat
theorem rd_rest (M : Nat) (l : List UInt8) (i v : Nat) (h : NoDigit l) : rd M l i v = (v, i) := by
  cases l with
  | nil => rfl
  | cons c t =>
    refine rd_stop _ _ _ _ _ ?_
    have := h c rfl
    unfold stops; omega
theorem rdAll_text (n : Int) (l : List UInt8) (hn : I64 n) (h : NoDigit l) : rdAll (textOf n ++ l) = (n, (textOf n).length) := by
  obtain ⟨h1, h2⟩ := hn
  by_cases hneg : n < 0
  · have ht : textOf n = 45 :: dg n.natAbs := by unfold textOf; rw [if_pos hneg]
    have hr : rd 9223372036854775808 (dg n.natAbs ++ l) 0 0 = (n.natAbs, (dg n.natAbs).length) := by
      rw [rd_dg _ _ _ (by omega), rd_rest _ _ _ _ h]
    unfold rdAll
    rw [ht, if_pos (by simp), List.cons_append, List.drop_one, List.tail_cons, hr]
    simp only
    rw [if_neg (by omega)]
    simp; omega
  · have ht : textOf n = dg n.natAbs := by unfold textOf; rw [if_neg hneg]
    have hr : rd 9223372036854775807 (dg n.natAbs ++ l) 0 0 = (n.natAbs, (dg n.natAbs).length) := by
      rw [rd_dg _ _ _ (by omega), rd_rest _ _ _ _ h]
    unfold rdAll
    have hl := (dg_len n.natAbs (by omega)).1
    rw [ht, if_neg (by rw [List.getElem?_append_left (by omega)]; exact dg_ne _), hr]
    simp; omega
theorem textOf_len (n : Int) (hn : I64 n) : 1 ≤ (textOf n).length ∧ (textOf n).length ≤ 20 := by
  obtain ⟨h1, h2⟩ := hn
  have := dg_len n.natAbs (by omega)
  unfold textOf; split <;> (try simp) <;> omega
end Go.Proofs.Ytakkmnhiaddnnaa.Bo

/- Which texts are numbers', and the longest beginning that is one. No Go in sight. -/
namespace Go.Proofs.Ytakkmnhiaddnnaa.Bo

theorem rd_mono (M : Nat) : ∀ (l : List UInt8) (i v : Nat), v ≤ (rd M l i v).1 := by
  intro l
  induction l with
  | nil => intro i v; exact Nat.le_refl _
  | cons c l ih =>
    intro i v
    by_cases hs : stops M c i v
    · rw [rd_stop _ _ _ _ _ hs]; exact Nat.le_refl _
    · rw [rd_go _ _ _ _ _ hs]
      have := ih (i + 1) (10 * v + (c.toNat - 48))
      omega
theorem ch_of_digit (c : UInt8) (h1 : 48 ≤ c.toNat) (h2 : c.toNat ≤ 57) : ch (c.toNat - 48) = c := by
  apply UInt8.toNat_inj.1
  rw [ch_toNat _ (by omega)]; omega
/-- What was read stands ahead as the number's text. -/
theorem rd_text (M : Nat) : ∀ (l p : List UInt8) (v : Nat), (p = [] ∧ v = 0) ∨ (p = dg v) → 
    ((p ++ l).take (rd M l p.length v).2 = [] ∧ (rd M l p.length v).1 = 0 ∧ (rd M l p.length v).2 = 0) ∨ (p ++ l).take (rd M l p.length v).2 = dg (rd M l p.length v).1 := by
  intro l
  induction l with
  | nil =>
    intro p v h
    rw [rd_nil]
    rcases h with ⟨rfl, rfl⟩ | rfl
    · left; simp
    · right; simp
  | cons c l ih =>
    intro p v h
    by_cases hs : stops M c p.length v
    · rw [rd_stop _ _ _ _ _ hs]
      rcases h with ⟨rfl, rfl⟩ | rfl
      · left; simp
      · right; simp
    · rw [rd_go _ _ _ _ _ hs]
      have hd : 48 ≤ c.toNat ∧ c.toNat ≤ 57 := by unfold stops at hs; omega
      have hp : p ++ [c] = dg (10 * v + (c.toNat - 48)) := by
        rw [dg_step, show (10 * v + (c.toNat - 48)) / 10 = v from by omega, show (10 * v + (c.toNat - 48)) % 10 = c.toNat - 48 from by omega, ch_of_digit c hd.1 hd.2]
        rcases h with ⟨rfl, rfl⟩ | hv
        · rw [pre_zero]
        · have hv0 : v ≠ 0 := by
            rintro rfl
            rw [dg_zero] at hv
            subst hv
            unfold stops at hs
            simp at hs
          rw [hv]
          simp [dg, hv0]
      have := ih (p ++ [c]) (10 * v + (c.toNat - 48)) (Or.inr hp)
      rw [List.length_append, List.length_singleton, List.append_assoc, List.singleton_append] at this
      exact this
theorem dg_pos (m : Nat) : 1 ≤ (dg m).length := by rw [dg_step]; simp
theorem rd_text0 (M : Nat) (l : List UInt8) : ((rd M l 0 0).1 = 0 ∧ (rd M l 0 0).2 = 0) ∨ ((rd M l 0 0).2 ≠ 0 ∧ l.take (rd M l 0 0).2 = dg (rd M l 0 0).1) := by
  have h := rd_text M l [] 0 (Or.inl ⟨rfl, rfl⟩)
  simp only [List.nil_append, List.length_nil] at h
  rcases h with ⟨_, h2, h3⟩ | h
  · left; exact ⟨h2, h3⟩
  · right
    refine ⟨fun h0 => ?_, h⟩
    rw [h0] at h
    have := congrArg List.length h
    have hl := dg_pos (rd M l 0 0).1
    simp at this
    omega
theorem rd_far (M : Nat) (hM : 9 ≤ M) (l : List UInt8) (m j : Nat) (hm : m ≤ M) (h : l.take j = dg m) (hj : j ≤ l.length) : j ≤ (rd M l 0 0).2 ∧ m ≤ (rd M l 0 0).1 := by
  have hl : l = dg m ++ l.drop j := by rw [← h, List.take_append_drop]
  have hlen : (dg m).length = j := by rw [← h, List.length_take, Nat.min_eq_left hj]
  have hr : rd M l 0 0 = rd M (l.drop j) (dg m).length m := by
    conv => lhs; rw [hl]
    exact rd_dg M m _ hm
  rw [hr]
  have h1 := rd_bounds M hM (l.drop j) (dg m).length m hm
  exact ⟨by omega, rd_mono M _ _ _⟩

/-- What was read is a number's text, and no longer beginning is one. -/
theorem rdAll_is (l : List UInt8) : ((rdAll l).2 = 0 ∧ (rdAll l).1 = 0) ∨ ((rdAll l).2 ≠ 0 ∧ l.take (rdAll l).2 = textOf (rdAll l).1) := by
  unfold rdAll
  by_cases h : l[0]? = some 45
  · rw [if_pos h]
    have ht := rd_text0 9223372036854775808 (l.drop 1)
    generalize rd 9223372036854775808 (l.drop 1) 0 0 = R at *
    obtain ⟨v, k⟩ := R
    simp only at ht ⊢
    by_cases hv : v = 0
    · rw [if_pos hv]; left; exact ⟨rfl, rfl⟩
    · rw [if_neg hv]
      right
      refine ⟨by simp, ?_⟩
      rcases ht with ⟨h1, _⟩ | ⟨_, h2⟩
      · exact absurd h1 hv
      · cases l with
        | nil => simp at h
        | cons c t =>
          simp at h
          subst h
          simp only [List.drop_one, List.tail_cons] at h2
          simp only [List.take_succ_cons, h2, textOf]
          rw [if_pos (by omega)]
          simp
  · rw [if_neg h]
    have ht := rd_text0 9223372036854775807 l
    generalize rd 9223372036854775807 l 0 0 = R at *
    obtain ⟨v, k⟩ := R
    simp only at ht ⊢
    rcases ht with ⟨h1, h2⟩ | ⟨h1, h2⟩
    · left; exact ⟨h2, by omega⟩
    · right
      refine ⟨h1, ?_⟩
      rw [h2, textOf, if_neg (by omega)]
      simp
theorem textOf_neg (z : Int) (h : z < 0) : textOf z = 45 :: dg z.natAbs := by unfold textOf; rw [if_pos h]
theorem textOf_pos (z : Int) (h : ¬ z < 0) : textOf z = dg z.natAbs := by unfold textOf; rw [if_neg h]
theorem rdAll_far (l : List UInt8) (z : Int) (j : Nat) (hz : I64 z) (h : l.take j = textOf z) (hj : j ≤ l.length) : j ≤ (rdAll l).2 := by
  obtain ⟨hz1, hz2⟩ := hz
  have hlz := textOf_len z ⟨hz1, hz2⟩
  have hjl : (textOf z).length = j := by rw [← h, List.length_take, Nat.min_eq_left hj]
  have h0 : l[0]? = (textOf z)[0]? := by rw [← h, List.getElem?_take, if_pos (by omega)]
  unfold rdAll
  by_cases hneg : z < 0
  · rw [textOf_neg z hneg] at h h0 hjl
    rw [if_pos (by rw [h0]; rfl)]
    cases l with
    | nil => simp at h0
    | cons c t =>
      simp at h0
      subst h0
      obtain ⟨i, rfl⟩ : ∃ i, j = i + 1 := ⟨j - 1, by simp at hjl; omega⟩
      simp only [List.take_succ_cons, List.cons.injEq, true_and] at h
      have hf := rd_far 9223372036854775808 (by omega) t z.natAbs i (by omega) h (by simp at hj; exact hj)
      simp only [List.drop_one, List.tail_cons]
      rw [if_neg (by omega)]
      simp only
      omega
  · rw [textOf_pos z hneg] at h h0
    rw [if_neg (by rw [h0]; exact dg_ne _)]
    exact (rd_far 9223372036854775807 (by omega) l z.natAbs j (by omega) h hj).1
theorem textOf_inj (a b : Int) (ha : I64 a) (hb : I64 b) (h : textOf a = textOf b) : a = b := by
  have h1 := rdAll_text a [] ha (by intro c hc; simp at hc)
  have h2 := rdAll_text b [] hb (by intro c hc; simp at hc)
  rw [List.append_nil] at h1 h2
  rw [h] at h1
  rw [h1] at h2
  exact (Prod.mk.inj h2).1
end Go.Proofs.Ytakkmnhiaddnnaa.Bo

/- The texts of cuts. -/
namespace Go.Proofs.Ytakkmnhiaddnnaa.Bo
/-- A cut's text, by its key. -/
def ktext (k : Int) : List UInt8 := if k = -9223372036854775808 then [45, 105, 110, 102] else if k = 9223372036854775808 then [43, 105, 110, 102] else textOf k
theorem ktext_lo : ktext (-9223372036854775808) = [45, 105, 110, 102] := by unfold ktext; rw [if_pos rfl]
theorem ktext_hi : ktext 9223372036854775808 = [43, 105, 110, 102] := by unfold ktext; rw [if_neg (by decide), if_pos rfl]
theorem ktext_mid (k : Int) (h1 : -9223372036854775808 < k) (h2 : k < 9223372036854775808) : ktext k = textOf k := by unfold ktext; rw [if_neg (by omega), if_neg (by omega)]
/-- The cut whose text is the longest such beginning, as a key, and its length. -/
def rdCut (l : List UInt8) : Int × Nat := if l.take 4 = [45, 105, 110, 102] then (-9223372036854775808, 4) else if l.take 4 = [43, 105, 110, 102] then (9223372036854775808, 4) else if (rdAll l).1 = -9223372036854775808 then (-922337203685477580, 19) else rdAll l
theorem text_least : textOf (-9223372036854775808) = [45, 57, 50, 50, 51, 51, 55, 50, 48, 51, 54, 56, 53, 52, 55, 55, 53, 56, 48, 56] := by decide +kernel
theorem read_short : rdAll [45, 57, 50, 50, 51, 51, 55, 50, 48, 51, 54, 56, 53, 52, 55, 55, 53, 56, 48] = (-922337203685477580, 19) := by decide +kernel
/-- Where the least number is read, twenty bytes are its text; a byte less is another one's. -/
theorem rdAll_least (l : List UInt8) (h : (rdAll l).1 = -9223372036854775808) : (rdAll l).2 = 20 ∧ 20 ≤ l.length ∧ rdAll (l.take 19) = (-922337203685477580, 19) := by
  rcases rdAll_is l with ⟨_, h1⟩ | ⟨_, h1⟩
  · rw [h] at h1; exact absurd h1 (by decide)
  · rw [h, text_least] at h1
    have hl := congrArg List.length h1
    have hb := (rdAll_bounds l).2
    rw [List.length_take] at hl
    have h20 : (rdAll l).2 = 20 := by simp at hl; omega
    refine ⟨h20, by omega, ?_⟩
    rw [h20] at h1
    have : l.take 19 = (l.take 20).take 19 := by rw [List.take_take]; rfl
    rw [this, h1]
    exact read_short
end Go.Proofs.Ytakkmnhiaddnnaa.Bo
