/- A part of the proof: contracts of the functions that the statements reach. -/
import Derived.Test.YthojkbmffiibdaaDoorRows
import Derived.Shelf.SlSortCmp.WholeK

/- Plain arithmetic for layer 1: the number that ends. No Go in sight. -/
namespace Go.Proofs.YthojkbmffiibdaaDoor.Bo
/-- The number that it is, or the end beyond which it is. -/
def clamp (n : Int) : Int := if n < -9223372036854775808 then -9223372036854775808 else if 9223372036854775807 < n then 9223372036854775807 else n
def I64 (n : Int) : Prop := -9223372036854775808 ≤ n ∧ n ≤ 9223372036854775807
theorem clamp_i64 (n : Int) : I64 (clamp n) := by unfold I64 clamp; split <;> (try split) <;> omega
theorem clamp_mono (a b : Int) (h : a ≤ b) : clamp a ≤ clamp b := by unfold clamp; split <;> split <;> (try split) <;> (try split) <;> omega
theorem clamp_hi (c : Int) (h : 0 ≤ c) : clamp (9223372036854775807 + c) = 9223372036854775807 := by unfold clamp; split <;> (try split) <;> omega
theorem clamp_lo (c : Int) (h : c ≤ 0) : clamp (-9223372036854775808 + c) = -9223372036854775808 := by unfold clamp; split <;> (try split) <;> omega
theorem clamp_in (n : Int) (h : I64 n) : clamp n = n := by unfold I64 at h; unfold clamp; split <;> (try split) <;> omega
theorem clamp_up (n : Int) (h : 9223372036854775807 ≤ n) : clamp n = 9223372036854775807 := by unfold clamp; split <;> (try split) <;> omega
theorem clamp_down (n : Int) (h : n ≤ -9223372036854775808) : clamp n = -9223372036854775808 := by unfold clamp; split <;> (try split) <;> omega

/-- The least multiple of s that is not below n. -/
def cl (n s : Int) : Int := n + (-n) % s
theorem cl_ge (n s : Int) (hs : 1 ≤ s) : n ≤ cl n s ∧ cl n s < n + s := by
  unfold cl; have h1 := Int.emod_nonneg (-n) (show s ≠ 0 by omega); have h2 := Int.emod_lt_of_pos (-n) (show 0 < s by omega); omega
theorem cl_mul (n s : Int) : (cl n s) % s = 0 := by
  unfold cl; rw [Int.add_emod, Int.emod_emod, ← Int.add_emod]; simp [Int.add_right_neg]
theorem neg_emod_eq (n s : Int) (hs : 1 ≤ s) (h : 0 < n % s) : (-n) % s = s - n % s := by
  have h2 := Int.emod_lt_of_pos n (show 0 < s by omega)
  have e : -n = (s - n % s) + s * (-(n / s) - 1) := by
    have := Int.emod_add_mul_ediv n s
    rw [Int.mul_sub, Int.mul_neg]; omega
  rw [e, Int.add_mul_emod_self_left]
  exact Int.emod_eq_of_lt (by omega) (by omega)
theorem neg_emod_zero (n s : Int) (h : n % s = 0) : (-n) % s = 0 := by
  have := Int.dvd_of_emod_eq_zero h
  exact Int.emod_eq_zero_of_dvd ((Int.dvd_neg).2 this)
theorem emod_le_self (n s : Int) (hs : 1 ≤ s) (hn : 0 ≤ n) : n % s ≤ n := by
  have h := Int.emod_add_mul_ediv n s
  have h2 : 0 ≤ s * (n / s) := Int.mul_nonneg (by omega) (Int.ediv_nonneg hn (by omega))
  omega
theorem cl_pos (n s : Int) (hs : 1 ≤ s) (hn : 0 ≤ n) : 0 ≤ n % s ∧ n % s < s ∧ n % s ≤ n ∧ (0 < n % s → cl n s = n + (s - n % s)) := by
  refine ⟨Int.emod_nonneg _ (by omega), Int.emod_lt_of_pos _ (by omega), emod_le_self n s hs hn, fun h => ?_⟩
  unfold cl; rw [neg_emod_eq n s hs h]
theorem cl_pos0 (n s : Int) (hs : 1 ≤ s) (hn : 0 ≤ n) (h : n % s ≤ 0) : cl n s = n - n % s := by
  have h0 := (cl_pos n s hs hn).1
  unfold cl; rw [neg_emod_zero n s (by omega)]; omega
theorem cl_neg (n s : Int) (hs : 1 ≤ s) (hn : n ≤ 0) : n.tmod s ≤ 0 ∧ n ≤ n.tmod s ∧ cl n s = n - n.tmod s := by
  have e : n.tmod s = -((-n) % s) := by
    have : n = -(-n) := by omega
    rw [this, Int.neg_tmod, Int.neg_neg, Int.tmod_eq_emod_of_nonneg (by omega)]
  have h1 := Int.emod_nonneg (-n) (show s ≠ 0 by omega)
  have h2 := emod_le_self (-n) s hs (by omega)
  rw [e]; unfold cl; omega
theorem cl_big_pos (n s : Int) (hs : 1 ≤ s) (h : 9223372036854775807 < cl n s) : 0 ≤ n := by
  by_cases h0 : 0 ≤ n
  · exact h0
  · have := cl_neg n s hs (by omega); omega

/-! ### digits -/
/-- The digits of a number, the lowest one first, without noughts at the end. -/
def low (m : Nat) : List Nat := if m = 0 then [] else (m % 10) :: low (m / 10)
  termination_by m
  decreasing_by omega
def ch (d : Nat) : UInt8 := UInt8.ofNat (48 + d)
def pre (m : Nat) : List UInt8 := (low m).reverse.map ch
def dg (m : Nat) : List UInt8 := if m = 0 then [48] else pre m
/-- The text of a number. -/
def textOf (n : Int) : List UInt8 := if n < 0 then 45 :: dg n.natAbs else dg n.natAbs
theorem low_zero : low 0 = [] := by unfold low; simp
theorem low_pos (m : Nat) (h : m ≠ 0) : low m = (m % 10) :: low (m / 10) := by rw [low]; simp [h]
theorem pre_zero : pre 0 = [] := by simp [pre, low_zero]
theorem pre_pos (m : Nat) (h : m ≠ 0) : pre m = pre (m / 10) ++ [ch (m % 10)] := by simp [pre, low_pos m h]
theorem dg_step (m : Nat) : dg m = pre (m / 10) ++ [ch (m % 10)] := by
  by_cases h : m = 0
  · subst h; simp [dg, pre_zero]; rfl
  · simp [dg, h, pre_pos m h]
theorem low_len (k : Nat) : ∀ m : Nat, m < 10 ^ k → (low m).length ≤ k := by
  induction k with
  | zero => intro m h; have : m = 0 := by simpa using h
            subst this; simp [low_zero]
  | succ k ih =>
    intro m h
    by_cases h0 : m = 0
    · subst h0; simp [low_zero]
    · rw [low_pos m h0]
      have := ih (m / 10) (by rw [Nat.pow_succ] at h; omega)
      simp; omega
theorem dg_len (m : Nat) (h : m ≤ 9223372036854775808) : 1 ≤ (dg m).length ∧ (dg m).length ≤ 19 := by
  by_cases h0 : m = 0
  · subst h0; simp [dg]
  · have := low_len 19 m (by omega)
    simp only [dg, h0, if_false, pre, List.length_map, List.length_reverse]
    refine ⟨?_, this⟩
    rw [low_pos m h0]; simp
theorem ch_toNat (d : Nat) (h : d < 10) : (ch d).toNat = 48 + d := by simp [ch]; omega

/-! ### reading digits -/
/-- Goes on no more at sign c, number i, with v read: noughts ahead, no digit, or too much. -/
def stops (M : Nat) (c : UInt8) (i v : Nat) : Prop := (i = 1 ∧ v = 0) ∨ c.toNat < 48 ∨ 57 < c.toNat ∨ (M - (c.toNat - 48)) / 10 < v
instance (M : Nat) (c : UInt8) (i v : Nat) : Decidable (stops M c i v) := by unfold stops; exact inferInstance
/-- As many digits as make one number's text, of at most M. -/
def rd (M : Nat) : List UInt8 → Nat → Nat → Nat × Nat
  | [], i, v => (v, i)
  | c :: l, i, v => if stops M c i v then (v, i) else rd M l (i + 1) (10 * v + (c.toNat - 48))
theorem rd_nil (M i v : Nat) : rd M [] i v = (v, i) := rfl
theorem rd_stop (M : Nat) (c : UInt8) (l : List UInt8) (i v : Nat) (h : stops M c i v) : rd M (c :: l) i v = (v, i) := by simp [rd, h]
theorem rd_go (M : Nat) (c : UInt8) (l : List UInt8) (i v : Nat) (h : ¬ stops M c i v) : rd M (c :: l) i v = rd M l (i + 1) (10 * v + (c.toNat - 48)) := by simp [rd, h]
theorem rd_bounds (M : Nat) (hM : 9 ≤ M) : ∀ (l : List UInt8) (i v : Nat), v ≤ M → (rd M l i v).1 ≤ M ∧ i ≤ (rd M l i v).2 ∧ (rd M l i v).2 ≤ i + l.length := by
  intro l
  induction l with
  | nil => intro i v h; simp [rd, h]
  | cons c l ih =>
    intro i v h
    by_cases hs : stops M c i v
    · rw [rd_stop _ _ _ _ _ hs]; simp; omega
    · rw [rd_go _ _ _ _ _ hs]
      have := ih (i + 1) (10 * v + (c.toNat - 48)) (by unfold stops at hs; omega)
      simp; omega
/-- The longest beginning that is a number's text: the number, and how long. -/
def rdAll (l : List UInt8) : Int × Nat :=
  if l[0]? = some 45 then
    if (rd 9223372036854775808 (l.drop 1) 0 0).1 = 0 then (0, 0) else (-((rd 9223372036854775808 (l.drop 1) 0 0).1 : Int), (rd 9223372036854775808 (l.drop 1) 0 0).2 + 1)
  else (((rd 9223372036854775807 l 0 0).1 : Int), (rd 9223372036854775807 l 0 0).2)
theorem rdAll_bounds (l : List UInt8) : I64 (rdAll l).1 ∧ (rdAll l).2 ≤ l.length := by
  unfold rdAll I64
  split
  · rename_i h
    have h1 := rd_bounds 9223372036854775808 (by omega) (l.drop 1) 0 0 (by omega)
    have h2 : 0 < l.length := by
      cases l with
      | nil => simp at h
      | cons a t => simp
    rw [List.length_drop] at h1
    split
    · simp
    · simp only; omega
  · have h1 := rd_bounds 9223372036854775807 (by omega) l 0 0 (by omega)
    simp only; omega
end Go.Proofs.YthojkbmffiibdaaDoor.Bo

/- Cuts as keys: a right cut is a whole number from -2^63 (ahead of all) to 2^63 (behind all). -/
namespace Go.Proofs.YthojkbmffiibdaaDoor.Bo
/-- The key of a cut: the number behind it; of the last one 2^63. -/
def key (s a : Int) : Int := if s < 0 then -9223372036854775808 else if 0 < s then 9223372036854775808 else a
/-- Side and At of the right cut of a key. -/
def sd (k : Int) : Int := if k = -9223372036854775808 then -1 else if k = 9223372036854775808 then 1 else 0
def pa (k : Int) : Int := if k = -9223372036854775808 then 0 else if k = 9223372036854775808 then 0 else k
/-- A key. -/
def Ky (k : Int) : Prop := -9223372036854775808 ≤ k ∧ k ≤ 9223372036854775808
theorem key_ky (s a : Int) (ha : I64 a) : Ky (key s a) := by unfold I64 at ha; unfold key Ky; split <;> (try split) <;> omega
theorem sd_lo : sd (-9223372036854775808) = -1 := by decide
theorem pa_lo : pa (-9223372036854775808) = 0 := by decide
theorem sd_hi : sd 9223372036854775808 = 1 := by decide
theorem pa_hi : pa 9223372036854775808 = 0 := by decide
theorem sd_mid (k : Int) (h : k ≠ -9223372036854775808) (h2 : k ≠ 9223372036854775808) : sd k = 0 := by unfold sd; rw [if_neg h, if_neg h2]
theorem pa_mid (k : Int) (h : k ≠ -9223372036854775808) (h2 : k ≠ 9223372036854775808) : pa k = k := by unfold pa; rw [if_neg h, if_neg h2]
theorem key_neg (s a : Int) (h : s < 0) : key s a = -9223372036854775808 := by unfold key; rw [if_pos h]
theorem key_pos (s a : Int) (h : 0 < s) : key s a = 9223372036854775808 := by unfold key; rw [if_neg (by omega), if_pos h]
theorem key_zero (a : Int) : key 0 a = a := by unfold key; simp
/-- A key's three kinds. -/
theorem ky_cases (k : Int) (h : Ky k) : (k = -9223372036854775808 ∧ sd k = -1 ∧ pa k = 0) ∨ (k = 9223372036854775808 ∧ sd k = 1 ∧ pa k = 0) ∨ (-9223372036854775808 < k ∧ k < 9223372036854775808 ∧ sd k = 0 ∧ pa k = k) := by
  unfold Ky at h
  by_cases h1 : k = -9223372036854775808
  · subst h1; exact .inl ⟨rfl, sd_lo, pa_lo⟩
  · by_cases h2 : k = 9223372036854775808
    · subst h2; exact .inr (.inl ⟨rfl, sd_hi, pa_hi⟩)
    · exact .inr (.inr ⟨by omega, by omega, sd_mid k h1 h2, pa_mid k h1 h2⟩)
/-- Going back: a key's cut has that key. -/
theorem key_back (k : Int) (h : Ky k) : key (sd k) (pa k) = k := by
  rcases ky_cases k h with ⟨rfl, h1, h2⟩ | ⟨rfl, h1, h2⟩ | ⟨_, _, h1, h2⟩ <;> rw [h1, h2] <;> unfold key <;> simp
theorem ky_inj (k l : Int) (hk : Ky k) (hl : Ky l) (h1 : sd k = sd l) (h2 : pa k = pa l) : k = l := by rw [← key_back k hk, ← key_back l hl, h1, h2]
theorem pa_i64 (k : Int) (h : Ky k) : I64 (pa k) := by
  unfold I64
  rcases ky_cases k h with ⟨rfl, h1, h2⟩ | ⟨rfl, h1, h2⟩ | ⟨_, _, h1, h2⟩ <;> rw [h2] <;> omega
theorem sd_i64 (k : Int) : I64 (sd k) := by unfold sd I64; split <;> (try split) <;> omega
/-- The order of two keys, as a number. -/
def kcmp (a b : Int) : Int := if a < b then -1 else if b < a then 1 else 0
theorem kcmp_lt (a b : Int) (h : a < b) : kcmp a b = -1 := by unfold kcmp; rw [if_pos h]
theorem kcmp_gt (a b : Int) (h : b < a) : kcmp a b = 1 := by unfold kcmp; rw [if_neg (by omega), if_pos h]
theorem kcmp_eq (a b : Int) (h : a = b) : kcmp a b = 0 := by unfold kcmp; rw [if_neg (by omega), if_neg (by omega)]
theorem lt_side (k l : Int) (hk : Ky k) (hl : Ky l) (h : sd k ≠ sd l) : decide (sd k < sd l) = decide (k < l) := by
  unfold Ky at hk hl
  rcases ky_cases k hk with ⟨g, h1, h2⟩ | ⟨g, h1, h2⟩ | ⟨g, g', h1, h2⟩ <;> rcases ky_cases l hl with ⟨f, h3, h4⟩ | ⟨f, h3, h4⟩ | ⟨f, f', h3, h4⟩ <;> rw [h1, h3] at h ⊢ <;>
    first
      | exact absurd rfl h
      | (rw [decide_eq_true (show (_ : Int) < _ by omega), decide_eq_true (show (_ : Int) < _ by omega)])
      | (rw [decide_eq_false (show ¬ (_ : Int) < _ by omega), decide_eq_false (show ¬ (_ : Int) < _ by omega)])
theorem lt_at (k l : Int) (hk : Ky k) (hl : Ky l) (h : sd k = sd l) : decide (pa k < pa l) = decide (k < l) := by
  unfold Ky at hk hl
  rcases ky_cases k hk with ⟨g, h1, h2⟩ | ⟨g, h1, h2⟩ | ⟨g, g', h1, h2⟩ <;> rcases ky_cases l hl with ⟨f, h3, h4⟩ | ⟨f, h3, h4⟩ | ⟨f, f', h3, h4⟩ <;> rw [h1, h3] at h <;> rw [h2, h4] <;>
    first
      | rfl
      | (exfalso; revert h; decide)
      | (rw [g, f]; rfl)
/-- The number behind a cut, and whether there is one; the number ahead of it, and whether there is one. -/
def nx (k : Int) : Int := if k = 9223372036854775808 then 0 else k
def nxb (k : Int) : Bool := decide (k ≠ 9223372036854775808)
def pv (k : Int) : Int := if k = -9223372036854775808 then 0 else k - 1
def pvb (k : Int) : Bool := decide (k ≠ -9223372036854775808)
theorem nx_in (k : Int) (h : k < 9223372036854775808) : nx k = k ∧ nxb k = true := by unfold nx nxb; rw [if_neg (by omega)]; exact ⟨rfl, decide_eq_true (by omega)⟩
theorem pv_in (k : Int) (h : -9223372036854775808 < k) : pv k = k - 1 ∧ pvb k = true := by unfold pv pvb; rw [if_neg (by omega)]; exact ⟨rfl, decide_eq_true (by omega)⟩
theorem nx_hi : nx 9223372036854775808 = 0 ∧ nxb 9223372036854775808 = false := by decide
theorem pv_lo : pv (-9223372036854775808) = 0 ∧ pvb (-9223372036854775808) = false := by decide
/-- A cut taken elsewhere: its key (0 where there is none), and whether there is one. -/
def shk (k d : Int) : Int := if k = -9223372036854775808 ∨ k = 9223372036854775808 then k else if -9223372036854775808 < k + d ∧ k + d < 9223372036854775808 then k + d else 0
def shb (k d : Int) : Bool := if k = -9223372036854775808 ∨ k = 9223372036854775808 then true else decide (-9223372036854775808 < k + d ∧ k + d < 9223372036854775808)
theorem sh_end (k d : Int) (h : k = -9223372036854775808 ∨ k = 9223372036854775808) : shk k d = k ∧ shb k d = true := by unfold shk shb; rw [if_pos h, if_pos h]; exact ⟨rfl, rfl⟩
theorem sh_in (k d : Int) (h1 : -9223372036854775808 < k) (h2 : k < 9223372036854775808) (h3 : -9223372036854775808 < k + d ∧ k + d < 9223372036854775808) : shk k d = k + d ∧ shb k d = true := by
  unfold shk shb; rw [if_neg (by omega), if_pos h3, if_neg (by omega)]; exact ⟨rfl, decide_eq_true h3⟩
theorem sh_out (k d : Int) (h1 : -9223372036854775808 < k) (h2 : k < 9223372036854775808) (h3 : ¬ (-9223372036854775808 < k + d ∧ k + d < 9223372036854775808)) : shk k d = 0 ∧ shb k d = false := by
  unfold shk shb; rw [if_neg (by omega), if_neg h3, if_neg (by omega)]; exact ⟨rfl, decide_eq_false h3⟩
/-- The way back from an end is another one. -/
theorem short_iff (k d : Int) (hk : I64 k) (hd : I64 d) : clamp (clamp (k + d) - d) = k ↔ I64 (k + d) := by
  unfold I64 at hk hd ⊢
  constructor
  · intro h
    by_cases h1 : 9223372036854775807 < k + d
    · rw [clamp_up (k + d) (by omega)] at h
      rw [clamp_in _ ⟨by omega, by omega⟩] at h
      omega
    · by_cases h2 : k + d < -9223372036854775808
      · rw [clamp_down (k + d) (by omega)] at h
        rw [clamp_in _ ⟨by omega, by omega⟩] at h
        omega
      · omega
  · intro h
    rw [clamp_in (k + d) h, show k + d - d = k by omega, clamp_in k hk]
end Go.Proofs.YthojkbmffiibdaaDoor.Bo

/- Plain facts on digits and texts of numbers. No Go in sight. -/
namespace Go.Proofs.YthojkbmffiibdaaDoor.Bo

theorem ch_digit (d : Nat) (h : d < 10) : 48 ≤ (ch d).toNat ∧ (ch d).toNat ≤ 57 := by rw [ch_toNat d h]; omega
theorem pre_digits (m : Nat) : ∀ c ∈ pre m, 48 ≤ c.toNat ∧ c.toNat ≤ 57 := by
  induction m using Nat.strongRecOn with
  | _ m ih =>
    by_cases h : m = 0
    · subst h; simp [pre_zero]
    · rw [pre_pos m h]
      intro c hc
      rcases List.mem_append.1 hc with h1 | h1
      · exact ih (m / 10) (by omega) c h1
      · rw [List.mem_singleton.1 h1]; exact ch_digit _ (by omega)
theorem dg_digits (m : Nat) : ∀ c ∈ dg m, 48 ≤ c.toNat ∧ c.toNat ≤ 57 := by
  by_cases h : m = 0
  · subst h; intro c hc; simp [dg] at hc; subst hc; decide
  · simp only [dg, h, if_false]; exact pre_digits m
theorem pre_first (m : Nat) (h : m ≠ 0) : ∃ c t, pre m = c :: t ∧ 49 ≤ c.toNat ∧ c.toNat ≤ 57 := by
  induction m using Nat.strongRecOn with
  | _ m ih =>
    rw [pre_pos m h]
    by_cases h1 : m / 10 = 0
    · rw [h1, pre_zero]; exact ⟨ch (m % 10), [], rfl, by rw [ch_toNat _ (by omega)]; omega, by rw [ch_toNat _ (by omega)]; omega⟩
    · obtain ⟨c, t, e, hc⟩ := ih (m / 10) (by omega) h1
      exact ⟨c, t ++ [ch (m % 10)], by rw [e]; rfl, hc⟩
theorem dg_zero : dg 0 = [48] := by simp [dg]
theorem dg_first (m : Nat) (h : m ≠ 0) : ∃ c t, dg m = c :: t ∧ 49 ≤ c.toNat ∧ c.toNat ≤ 57 := by simp only [dg, h, if_false]; exact pre_first m h
theorem dg_ne (m : Nat) : (dg m)[0]? ≠ some 45 := by
  intro h
  have hm : (45 : UInt8) ∈ dg m := List.mem_of_getElem? h
  have := dg_digits m 45 hm
  exact absurd this (by decide)

theorem rd_pre (M : Nat) : ∀ (m : Nat) (rest : List UInt8), m ≤ M → rd M (pre m ++ rest) 0 0 = rd M rest (pre m).length m := by
  intro m
  induction m using Nat.strongRecOn with
  | _ m ih =>
    intro rest hm
    by_cases h : m = 0
    · subst h; simp [pre_zero]
    · have hlen : (pre m).length = (pre (m / 10)).length + 1 := by rw [pre_pos m h]; simp
      have hz : m / 10 = 0 → (pre (m / 10)).length = 0 := fun e => by rw [e, pre_zero]; rfl
      rw [hlen, pre_pos m h, List.append_assoc, ih (m / 10) (by omega) _ (by omega)]
      have hc := ch_toNat (m % 10) (by omega)
      rw [List.singleton_append, rd_go]
      · rw [hc]; congr 1; omega
      · unfold stops
        rw [hc]
        intro hs
        rcases hs with ⟨h1, h2⟩ | h1 | h1 | h1
        · have := hz h2; omega
        · omega
        · omega
        · omega
theorem rd_dg (M m : Nat) (rest : List UInt8) (hm : m ≤ M) : rd M (dg m ++ rest) 0 0 = rd M rest (dg m).length m := by
  have hlen : (dg m).length = (pre (m / 10)).length + 1 := by rw [dg_step m]; simp
  have hz : m / 10 = 0 → (pre (m / 10)).length = 0 := fun e => by rw [e, pre_zero]; rfl
  rw [hlen, dg_step m, List.append_assoc, rd_pre M (m / 10) _ (by omega)]
  have hc := ch_toNat (m % 10) (by omega)
  rw [List.singleton_append, rd_go]
  · rw [hc]; congr 1; omega
  · unfold stops
    rw [hc]
    intro hs
    rcases hs with ⟨h1, h2⟩ | h1 | h1 | h1
    · have := hz h2; omega
    · omega
    · omega
    · omega
/-- What stands behind a number goes not on with a digit. -/
def NoDigit (l : List UInt8) : Prop := ∀ c, l[0]? = some c → c.toNat < 48 ∨ 57 < c.toNat
theorem rd_rest (M : Nat) (l : List UInt8) (i v : Nat) (h : NoDigit l) : rd M l i v = (v, i) := by
  cases l with
  | nil => rfl
  | cons c t =>
    refine rd_stop _ _ _ _ _ ?_
    have := h c rfl
    unfold stops; omega
theorem rdAll_text (n : Int) (l : List UInt8) (hn : I64 n) (h : NoDigit l) : rdAll (textOf n ++ l) = (n, (textOf n).length) := by
  obtain ⟨h1, h2⟩ := hn
  by_cases hneg : n < 0
  · have ht : textOf n = 45 :: dg n.natAbs := by unfold textOf; rw [if_pos hneg]
    have hr : rd 9223372036854775808 (dg n.natAbs ++ l) 0 0 = (n.natAbs, (dg n.natAbs).length) := by
      rw [rd_dg _ _ _ (by omega), rd_rest _ _ _ _ h]
    unfold rdAll
    rw [ht, if_pos (by simp), List.cons_append, List.drop_one, List.tail_cons, hr]
    simp only
    rw [if_neg (by omega)]
    simp; omega
  · have ht : textOf n = dg n.natAbs := by unfold textOf; rw [if_neg hneg]
    have hr : rd 9223372036854775807 (dg n.natAbs ++ l) 0 0 = (n.natAbs, (dg n.natAbs).length) := by
      rw [rd_dg _ _ _ (by omega), rd_rest _ _ _ _ h]
    unfold rdAll
    have hl := (dg_len n.natAbs (by omega)).1
    rw [ht, if_neg (by rw [List.getElem?_append_left (by omega)]; exact dg_ne _), hr]
    simp; omega
theorem textOf_len (n : Int) (hn : I64 n) : 1 ≤ (textOf n).length ∧ (textOf n).length ≤ 20 := by
  obtain ⟨h1, h2⟩ := hn
  have := dg_len n.natAbs (by omega)
  unfold textOf; split <;> (try simp) <;> omega
end Go.Proofs.YthojkbmffiibdaaDoor.Bo

/- Which texts are numbers', and the longest beginning that is one. No Go in sight. -/
namespace Go.Proofs.YthojkbmffiibdaaDoor.Bo

theorem rd_mono (M : Nat) : ∀ (l : List UInt8) (i v : Nat), v ≤ (rd M l i v).1 := by
  intro l
  induction l with
  | nil => intro i v; exact Nat.le_refl _
  | cons c l ih =>
    intro i v
    by_cases hs : stops M c i v
    · rw [rd_stop _ _ _ _ _ hs]; exact Nat.le_refl _
    · rw [rd_go _ _ _ _ _ hs]
      have := ih (i + 1) (10 * v + (c.toNat - 48))
      omega
theorem ch_of_digit (c : UInt8) (h1 : 48 ≤ c.toNat) (h2 : c.toNat ≤ 57) : ch (c.toNat - 48) = c := by
  apply UInt8.toNat_inj.1
  rw [ch_toNat _ (by omega)]; omega
/-- What was read stands ahead as the number's text. -/
theorem rd_text (M : Nat) : ∀ (l p : List UInt8) (v : Nat), (p = [] ∧ v = 0) ∨ (p = dg v) → 
    ((p ++ l).take (rd M l p.length v).2 = [] ∧ (rd M l p.length v).1 = 0 ∧ (rd M l p.length v).2 = 0) ∨ (p ++ l).take (rd M l p.length v).2 = dg (rd M l p.length v).1 := by
  intro l
  induction l with
  | nil =>
    intro p v h
    rw [rd_nil]
    rcases h with ⟨rfl, rfl⟩ | rfl
    · left; simp
    · right; simp
  | cons c l ih =>
    intro p v h
    by_cases hs : stops M c p.length v
    · rw [rd_stop _ _ _ _ _ hs]
      rcases h with ⟨rfl, rfl⟩ | rfl
      · left; simp
      · right; simp
    · rw [rd_go _ _ _ _ _ hs]
      have hd : 48 ≤ c.toNat ∧ c.toNat ≤ 57 := by unfold stops at hs; omega
      have hp : p ++ [c] = dg (10 * v + (c.toNat - 48)) := by
        rw [dg_step, show (10 * v + (c.toNat - 48)) / 10 = v from by omega, show (10 * v + (c.toNat - 48)) % 10 = c.toNat - 48 from by omega, ch_of_digit c hd.1 hd.2]
        rcases h with ⟨rfl, rfl⟩ | hv
        · rw [pre_zero]
        · have hv0 : v ≠ 0 := by
            rintro rfl
            rw [dg_zero] at hv
            subst hv
            unfold stops at hs
            simp at hs
          rw [hv]
          simp [dg, hv0]
      have := ih (p ++ [c]) (10 * v + (c.toNat - 48)) (Or.inr hp)
      rw [List.length_append, List.length_singleton, List.append_assoc, List.singleton_append] at this
      exact this
theorem dg_pos (m : Nat) : 1 ≤ (dg m).length := by rw [dg_step]; simp
theorem rd_text0 (M : Nat) (l : List UInt8) : ((rd M l 0 0).1 = 0 ∧ (rd M l 0 0).2 = 0) ∨ ((rd M l 0 0).2 ≠ 0 ∧ l.take (rd M l 0 0).2 = dg (rd M l 0 0).1) := by
  have h := rd_text M l [] 0 (Or.inl ⟨rfl, rfl⟩)
  simp only [List.nil_append, List.length_nil] at h
  rcases h with ⟨_, h2, h3⟩ | h
  · left; exact ⟨h2, h3⟩
  · right
    refine ⟨fun h0 => ?_, h⟩
    rw [h0] at h
    have := congrArg List.length h
    have hl := dg_pos (rd M l 0 0).1
    simp at this
    omega
theorem rd_far (M : Nat) (hM : 9 ≤ M) (l : List UInt8) (m j : Nat) (hm : m ≤ M) (h : l.take j = dg m) (hj : j ≤ l.length) : j ≤ (rd M l 0 0).2 ∧ m ≤ (rd M l 0 0).1 := by
  have hl : l = dg m ++ l.drop j := by rw [← h, List.take_append_drop]
  have hlen : (dg m).length = j := by rw [← h, List.length_take, Nat.min_eq_left hj]
  have hr : rd M l 0 0 = rd M (l.drop j) (dg m).length m := by
    conv => lhs; rw [hl]
    exact rd_dg M m _ hm
  rw [hr]
  have h1 := rd_bounds M hM (l.drop j) (dg m).length m hm
  exact ⟨by omega, rd_mono M _ _ _⟩

/-- What was read is a number's text, and no longer beginning is one. -/
theorem rdAll_is (l : List UInt8) : ((rdAll l).2 = 0 ∧ (rdAll l).1 = 0) ∨ ((rdAll l).2 ≠ 0 ∧ l.take (rdAll l).2 = textOf (rdAll l).1) := by
  unfold rdAll
  by_cases h : l[0]? = some 45
  · rw [if_pos h]
    have ht := rd_text0 9223372036854775808 (l.drop 1)
    generalize rd 9223372036854775808 (l.drop 1) 0 0 = R at *
    obtain ⟨v, k⟩ := R
    simp only at ht ⊢
    by_cases hv : v = 0
    · rw [if_pos hv]; left; exact ⟨rfl, rfl⟩
    · rw [if_neg hv]
      right
      refine ⟨by simp, ?_⟩
      rcases ht with ⟨h1, _⟩ | ⟨_, h2⟩
      · exact absurd h1 hv
      · cases l with
        | nil => simp at h
        | cons c t =>
          simp at h
          subst h
          simp only [List.drop_one, List.tail_cons] at h2
          simp only [List.take_succ_cons, h2, textOf]
          rw [if_pos (by omega)]
          simp
  · rw [if_neg h]
    have ht := rd_text0 9223372036854775807 l
    generalize rd 9223372036854775807 l 0 0 = R at *
    obtain ⟨v, k⟩ := R
    simp only at ht ⊢
    rcases ht with ⟨h1, h2⟩ | ⟨h1, h2⟩
    · left; exact ⟨h2, by omega⟩
    · right
      refine ⟨h1, ?_⟩
      rw [h2, textOf, if_neg (by omega)]
      simp
theorem textOf_neg (z : Int) (h : z < 0) : textOf z = 45 :: dg z.natAbs := by unfold textOf; rw [if_pos h]
theorem textOf_pos (z : Int) (h : ¬ z < 0) : textOf z = dg z.natAbs := by unfold textOf; rw [if_neg h]
theorem rdAll_far (l : List UInt8) (z : Int) (j : Nat) (hz : I64 z) (h : l.take j = textOf z) (hj : j ≤ l.length) : j ≤ (rdAll l).2 := by
  obtain ⟨hz1, hz2⟩ := hz
  have hlz := textOf_len z ⟨hz1, hz2⟩
  have hjl : (textOf z).length = j := by rw [← h, List.length_take, Nat.min_eq_left hj]
  have h0 : l[0]? = (textOf z)[0]? := by rw [← h, List.getElem?_take, if_pos (by omega)]
  unfold rdAll
  by_cases hneg : z < 0
  · rw [textOf_neg z hneg] at h h0 hjl
    rw [if_pos (by rw [h0]; rfl)]
    cases l with
    | nil => simp at h0
    | cons c t =>
      simp at h0
      subst h0
      obtain ⟨i, rfl⟩ : ∃ i, j = i + 1 := ⟨j - 1, by simp at hjl; omega⟩
      simp only [List.take_succ_cons, List.cons.injEq, true_and] at h
      have hf := rd_far 9223372036854775808 (by omega) t z.natAbs i (by omega) h (by simp at hj; exact hj)
      simp only [List.drop_one, List.tail_cons]
      rw [if_neg (by omega)]
      simp only
      omega
  · rw [textOf_pos z hneg] at h h0
    rw [if_neg (by rw [h0]; exact dg_ne _)]
    exact (rd_far 9223372036854775807 (by omega) l z.natAbs j (by omega) h hj).1
theorem textOf_inj (a b : Int) (ha : I64 a) (hb : I64 b) (h : textOf a = textOf b) : a = b := by
  have h1 := rdAll_text a [] ha (by intro c hc; simp at hc)
  have h2 := rdAll_text b [] hb (by intro c hc; simp at hc)
  rw [List.append_nil] at h1 h2
  rw [h] at h1
  rw [h1] at h2
  exact (Prod.mk.inj h2).1
end Go.Proofs.YthojkbmffiibdaaDoor.Bo

/- The texts of cuts. -/
namespace Go.Proofs.YthojkbmffiibdaaDoor.Bo
/-- A cut's text, by its key. -/
def ktext (k : Int) : List UInt8 := if k = -9223372036854775808 then [45, 105, 110, 102] else if k = 9223372036854775808 then [43, 105, 110, 102] else textOf k
theorem ktext_lo : ktext (-9223372036854775808) = [45, 105, 110, 102] := by unfold ktext; rw [if_pos rfl]
theorem ktext_hi : ktext 9223372036854775808 = [43, 105, 110, 102] := by unfold ktext; rw [if_neg (by decide), if_pos rfl]
theorem ktext_mid (k : Int) (h1 : -9223372036854775808 < k) (h2 : k < 9223372036854775808) : ktext k = textOf k := by unfold ktext; rw [if_neg (by omega), if_neg (by omega)]
/-- The cut whose text is the longest such beginning, as a key, and its length. -/
def rdCut (l : List UInt8) : Int × Nat := if l.take 4 = [45, 105, 110, 102] then (-9223372036854775808, 4) else if l.take 4 = [43, 105, 110, 102] then (9223372036854775808, 4) else if (rdAll l).1 = -9223372036854775808 then (-922337203685477580, 19) else rdAll l
theorem text_least : textOf (-9223372036854775808) = [45, 57, 50, 50, 51, 51, 55, 50, 48, 51, 54, 56, 53, 52, 55, 55, 53, 56, 48, 56] := by decide +kernel
theorem read_short : rdAll [45, 57, 50, 50, 51, 51, 55, 50, 48, 51, 54, 56, 53, 52, 55, 55, 53, 56, 48] = (-922337203685477580, 19) := by decide +kernel
/-- Where the least number is read, twenty bytes are its text; a byte less is another one's. -/
theorem rdAll_least (l : List UInt8) (h : (rdAll l).1 = -9223372036854775808) : (rdAll l).2 = 20 ∧ 20 ≤ l.length ∧ rdAll (l.take 19) = (-922337203685477580, 19) := by
  rcases rdAll_is l with ⟨_, h1⟩ | ⟨_, h1⟩
  · rw [h] at h1; exact absurd h1 (by decide)
  · rw [h, text_least] at h1
    have hl := congrArg List.length h1
    have hb := (rdAll_bounds l).2
    rw [List.length_take] at hl
    have h20 : (rdAll l).2 = 20 := by simp at hl; omega
    refine ⟨h20, by omega, ?_⟩
    rw [h20] at h1
    have : l.take 19 = (l.take 20).take 19 := by rw [List.take_take]; rfl
    rw [this, h1]
    exact read_short
end Go.Proofs.YthojkbmffiibdaaDoor.Bo

/- The longest beginning that is a cut's text. -/
namespace Go.Proofs.YthojkbmffiibdaaDoor.Bo
theorem dg_head (m : Nat) : ∃ c t, dg m = c :: t ∧ 48 ≤ c.toNat ∧ c.toNat ≤ 57 := by
  by_cases h : m = 0
  · subst h; exact ⟨48, [], dg_zero, by decide, by decide⟩
  · obtain ⟨c, t, h1, h2, h3⟩ := dg_first m h
    exact ⟨c, t, h1, by omega, h3⟩
theorem no_inf (k : Int) (l : List UInt8) : (textOf k ++ l).take 4 ≠ [45, 105, 110, 102] ∧ (textOf k ++ l).take 4 ≠ [43, 105, 110, 102] := by
  by_cases h : k < 0
  · rw [textOf_neg k h]
    obtain ⟨c, t, h1, h2, h3⟩ := dg_head k.natAbs
    rw [h1]
    refine ⟨fun e => ?_, fun e => ?_⟩
    · simp at e
      have := e.1
      subst this
      revert h3; decide
    · simp at e
  · rw [textOf_pos k h]
    obtain ⟨c, t, h1, h2, h3⟩ := dg_head k.natAbs
    rw [h1]
    refine ⟨fun e => ?_, fun e => ?_⟩
    · simp at e
      have := e.1
      subst this
      revert h2; decide
    · simp at e
      have := e.1
      subst this
      revert h2; decide
theorem text_ne_inf (k : Int) : textOf k ≠ [45, 105, 110, 102] ∧ textOf k ≠ [43, 105, 110, 102] := by
  have h := no_inf k []
  rw [List.append_nil] at h
  exact ⟨fun e => h.1 (by rw [e]; rfl), fun e => h.2 (by rw [e]; rfl)⟩
theorem mid_i64 (k : Int) (h1 : -9223372036854775808 < k) (h2 : k < 9223372036854775808) : I64 k := by unfold I64; omega
theorem ktext_len (k : Int) (h : Ky k) : 1 ≤ (ktext k).length ∧ (ktext k).length ≤ 20 := by
  rcases ky_cases k h with ⟨rfl, _, _⟩ | ⟨rfl, _, _⟩ | ⟨g1, g2, _, _⟩
  · rw [ktext_lo]; decide
  · rw [ktext_hi]; decide
  · rw [ktext_mid k g1 g2]; exact textOf_len k (mid_i64 k g1 g2)
theorem ktext_inj (k l : Int) (hk : Ky k) (hl : Ky l) (h : ktext k = ktext l) : k = l := by
  rcases ky_cases k hk with ⟨rfl, _, _⟩ | ⟨rfl, _, _⟩ | ⟨g1, g2, _, _⟩ <;> rcases ky_cases l hl with ⟨rfl, _, _⟩ | ⟨rfl, _, _⟩ | ⟨f1, f2, _, _⟩
  · rfl
  · rw [ktext_lo, ktext_hi] at h; exact absurd h (by decide)
  · rw [ktext_lo, ktext_mid l f1 f2] at h; exact absurd h.symm (text_ne_inf l).1
  · rw [ktext_lo, ktext_hi] at h; exact absurd h (by decide)
  · rfl
  · rw [ktext_hi, ktext_mid l f1 f2] at h; exact absurd h.symm (text_ne_inf l).2
  · rw [ktext_lo, ktext_mid k g1 g2] at h; exact absurd h (text_ne_inf k).1
  · rw [ktext_hi, ktext_mid k g1 g2] at h; exact absurd h (text_ne_inf k).2
  · rw [ktext_mid k g1 g2, ktext_mid l f1 f2] at h; exact textOf_inj _ _ (mid_i64 k g1 g2) (mid_i64 l f1 f2) h
/-- A number's text that is no cut's: the least one's. -/
theorem text_least_no (k : Int) (hk : Ky k) : textOf (-9223372036854775808) ≠ ktext k := by
  intro h
  rcases ky_cases k hk with ⟨rfl, _, _⟩ | ⟨rfl, _, _⟩ | ⟨g1, g2, _, _⟩
  · rw [ktext_lo] at h; exact (text_ne_inf _).1 h
  · rw [ktext_hi] at h; exact (text_ne_inf _).2 h
  · rw [ktext_mid k g1 g2] at h
    have := textOf_inj _ _ (by unfold I64; omega) (mid_i64 k g1 g2) h
    omega
theorem rdCut_is (l : List UInt8) : ((rdCut l).2 = 0 ∧ (rdCut l).1 = 0) ∨ ((rdCut l).2 ≠ 0 ∧ Ky (rdCut l).1 ∧ l.take (rdCut l).2 = ktext (rdCut l).1 ∧ (rdCut l).2 ≤ l.length) := by
  unfold rdCut
  split
  · rename_i h; refine .inr ⟨by decide, ⟨by decide, by decide⟩, by rw [h, ktext_lo], ?_⟩
    have := congrArg List.length h; rw [List.length_take] at this; simp at this; simp; omega
  · split
    · rename_i h; refine .inr ⟨by decide, ⟨by decide, by decide⟩, by rw [h, ktext_hi], ?_⟩
      have := congrArg List.length h; rw [List.length_take] at this; simp at this; simp; omega
    · split
      · rename_i h
        obtain ⟨h1, h2, h3⟩ := rdAll_least l h
        refine .inr ⟨by decide, ⟨by decide, by decide⟩, ?_, by simp; omega⟩
        rcases rdAll_is (l.take 19) with ⟨h4, _⟩ | ⟨_, h4⟩
        · rw [h3] at h4; exact absurd h4 (by decide)
        · rw [h3, List.take_take] at h4
          rw [ktext_mid _ (by decide) (by decide)]
          exact h4
      · rename_i h
        have hb := rdAll_bounds l
        rcases rdAll_is l with h1 | ⟨h1, h2⟩
        · exact .inl h1
        · have hi := hb.1
          unfold I64 at hi
          refine .inr ⟨h1, by unfold Ky; omega, ?_, hb.2⟩
          rw [ktext_mid _ (by omega) (by omega)]; exact h2
theorem rdCut_far (l : List UInt8) (k : Int) (j : Nat) (hk : Ky k) (h : l.take j = ktext k) (hj : j ≤ l.length) : j ≤ (rdCut l).2 := by
  have hlen := congrArg List.length h
  rw [List.length_take, Nat.min_eq_left hj] at hlen
  rcases ky_cases k hk with ⟨rfl, _, _⟩ | ⟨rfl, _, _⟩ | ⟨g1, g2, _, _⟩
  · rw [ktext_lo] at h hlen
    have : j = 4 := hlen
    subst this
    unfold rdCut; rw [if_pos h]; exact Nat.le_refl _
  · rw [ktext_hi] at h hlen
    have : j = 4 := hlen
    subst this
    unfold rdCut; rw [if_neg (by rw [h]; decide), if_pos h]; exact Nat.le_refl _
  · rw [ktext_mid k g1 g2] at h
    have hn := no_inf k (l.drop j)
    rw [← h, List.take_append_drop] at hn
    have hf := rdAll_far l k j (mid_i64 k g1 g2) h hj
    unfold rdCut
    rw [if_neg hn.1, if_neg hn.2]
    split
    · rename_i h1
      obtain ⟨h2, h3, _⟩ := rdAll_least l h1
      show j ≤ 19
      rcases Nat.lt_or_ge j 20 with h4 | h4
      · omega
      · have : j = 20 := by omega
        subst this
        rcases rdAll_is l with ⟨h5, _⟩ | ⟨_, h5⟩
        · omega
        · rw [h2, h1, h] at h5
          have := textOf_inj _ _ (mid_i64 k g1 g2) (by unfold I64; omega) h5
          omega
    · exact hf
/-- Which beginnings are no cut's text. -/
def NoCut (l : List UInt8) (j n : Nat) : Prop := ∀ i, j < i → i ≤ n → ∀ k, Ky k → l.take i ≠ ktext k
theorem rdCut_hit (l : List UInt8) (j n : Nat) (k : Int) (hj : 0 < j) (hjn : j ≤ n) (hn : n ≤ l.length) (hn20 : n = l.length ∨ 20 ≤ n) (hk : Ky k) (h : l.take j = ktext k) (hno : NoCut l j n) : rdCut l = (k, j) := by
  have hf := rdCut_far l k j hk h (by omega)
  rcases rdCut_is l with ⟨h0, _⟩ | ⟨h0, hk2, ht, hb⟩
  · omega
  · have he : (rdCut l).2 = j := by
      rcases Nat.lt_or_ge j (rdCut l).2 with hlt | hge
      · exfalso
        have hle : (rdCut l).2 ≤ n := by
          rcases hn20 with e | e
          · rw [e]; exact hb
          · have hl := ktext_len _ hk2
            rw [← ht, List.length_take] at hl
            omega
        exact hno _ hlt hle _ hk2 ht
      · omega
    rw [he, h] at ht
    exact Prod.ext (ktext_inj _ _ hk hk2 ht).symm he
theorem rdCut_miss (l : List UInt8) (n : Nat) (hn20 : n = l.length ∨ 20 ≤ n) (hno : NoCut l 0 n) : rdCut l = (0, 0) := by
  rcases rdCut_is l with ⟨h0, h1⟩ | ⟨h0, hk2, ht, hb⟩
  · exact Prod.ext h1 h0
  · exfalso
    have hle : (rdCut l).2 ≤ n := by
      rcases hn20 with e | e
      · rw [e]; exact hb
      · have hl := ktext_len _ hk2
        rw [← ht, List.length_take] at hl
        omega
    exact hno _ (by omega) hle _ hk2 ht
/-- Back: a cut's text, with another sign than a digit behind it, is read as the cut. -/
theorem rdCut_text (k : Int) (l : List UInt8) (hk : Ky k) (hd : NoDigit l) : rdCut (ktext k ++ l) = (k, (ktext k).length) := by
  rcases ky_cases k hk with ⟨rfl, _, _⟩ | ⟨rfl, _, _⟩ | ⟨g1, g2, _, _⟩
  · rw [ktext_lo]; unfold rdCut; rw [if_pos (by rfl)]; rfl
  · rw [ktext_hi]; unfold rdCut; rw [if_neg (by simp), if_pos (by rfl)]; rfl
  · rw [ktext_mid k g1 g2]
    have hn := no_inf k l
    have hr := rdAll_text k l (mid_i64 k g1 g2) hd
    unfold rdCut
    rw [if_neg hn.1, if_neg hn.2, hr, if_neg (by show ¬ k = _; omega)]
end Go.Proofs.YthojkbmffiibdaaDoor.Bo

/- Rows of keys: strictly rising ones, and what takes doubles out. -/
namespace Go.Proofs.YthojkbmffiibdaaDoor.Bo
/-- Rising, each once. -/
def Up (l : List Int) : Prop := l.Pairwise (· < ·)
theorem up_ext : ∀ (l m : List Int), Up l → Up m → (∀ x, x ∈ l ↔ x ∈ m) → l = m
  | [], [], _, _, _ => rfl
  | [], b :: m, _, _, h => absurd ((h b).2 (List.mem_cons_self ..)) (by simp)
  | a :: l, [], _, _, h => absurd ((h a).1 (List.mem_cons_self ..)) (by simp)
  | a :: l, b :: m, hl, hm, h => by
    have hl' := List.pairwise_cons.1 hl
    have hm' := List.pairwise_cons.1 hm
    have e : a = b := by
      rcases List.mem_cons.1 ((h a).1 (List.mem_cons_self ..)) with e | e
      · exact e
      · rcases List.mem_cons.1 ((h b).2 (List.mem_cons_self ..)) with e2 | e2
        · exact e2.symm
        · have h1 := hm'.1 a e
          have h2 := hl'.1 b e2
          omega
    subst e
    congr 1
    refine up_ext l m hl'.2 hm'.2 fun x => ⟨fun hx => ?_, fun hx => ?_⟩
    · rcases List.mem_cons.1 ((h x).1 (List.mem_cons_of_mem _ hx)) with e | e
      · have := hl'.1 x hx; omega
      · exact e
    · rcases List.mem_cons.1 ((h x).2 (List.mem_cons_of_mem _ hx)) with e | e
      · have := hm'.1 x hx; omega
      · exact e
theorem up_get (l : List Int) (h : Up l) (i : Nat) (hi : i + 1 < l.length) : l[i] < l[i + 1] := by
  exact List.pairwise_iff_getElem.1 h i (i + 1) (by omega) hi (by omega)
/-- Behind one that was put: what follows, without doubles that stand side by side. -/
def ddGo : Int → List Int → List Int
  | _, [] => []
  | p, x :: l => if x = p then ddGo p l else x :: ddGo x l
def dd : List Int → List Int
  | [] => []
  | x :: l => x :: ddGo x l
theorem ddGo_snoc (l : List Int) : ∀ (p x : Int), ddGo p (l ++ [x]) = ddGo p l ++ (if x = (l.getLast?).getD p then [] else [x]) := by
  induction l with
  | nil => intro p x; by_cases h : x = p <;> simp [ddGo, h]
  | cons a l ih =>
    intro p x
    have e : ∀ q, ((a :: l).getLast?).getD q = (l.getLast?).getD a := by
      intro q
      cases l with
      | nil => rfl
      | cons b t => rw [List.getLast?_cons_cons]; simp [List.getLast?_eq_some_getLast]
    rw [e p]
    simp only [List.cons_append, ddGo]
    by_cases h : a = p
    · subst h
      simp only [if_true]
      exact ih a x
    · simp only [h, if_false]
      rw [ih a x, List.cons_append]
theorem dd_snoc (l : List Int) (hl : 0 < l.length) (x : Int) : dd (l ++ [x]) = dd l ++ (if x = l[l.length - 1] then [] else [x]) := by
  cases l with
  | nil => simp at hl
  | cons a l =>
    show a :: ddGo a (l ++ [x]) = a :: ddGo a l ++ _
    rw [ddGo_snoc, List.cons_append]
    congr 2
    have e : (l.getLast?).getD a = (a :: l)[(a :: l).length - 1] := by
      cases l with
      | nil => rfl
      | cons b t => rw [List.getLast?_eq_some_getLast (by simp), List.getLast_eq_getElem]; simp
    rw [e]
theorem ddGo_up (l : List Int) : ∀ (p : Int), (p :: l).Pairwise (· ≤ ·) → Up (p :: ddGo p l) ∧ (∀ x, x ∈ p :: ddGo p l ↔ x ∈ p :: l) := by
  induction l with
  | nil => intro p _; exact ⟨List.pairwise_singleton .., fun x => Iff.rfl⟩
  | cons a l ih =>
    intro p h
    have h' := List.pairwise_cons.1 h
    by_cases e : a = p
    · subst e
      simp only [ddGo, if_true]
      obtain ⟨h1, h2⟩ := ih a h'.2
      refine ⟨h1, fun x => ?_⟩
      rw [h2 x]; simp
    · simp only [ddGo, e, if_false]
      obtain ⟨h1, h2⟩ := ih a h'.2
      have hpa := h'.1 a (List.mem_cons_self ..)
      refine ⟨List.pairwise_cons.2 ⟨fun x hx => ?_, h1⟩, fun x => ?_⟩
      · have h3 := (h2 x).1 hx
        rcases List.mem_cons.1 h3 with h4 | h4
        · subst h4; omega
        · have := (List.pairwise_cons.1 h'.2).1 x h4; omega
      · rw [List.mem_cons, h2 x, List.mem_cons, List.mem_cons, List.mem_cons]
theorem dd_up (l : List Int) (h : l.Pairwise (· ≤ ·)) : Up (dd l) ∧ (∀ x, x ∈ dd l ↔ x ∈ l) := by
  cases l with
  | nil => exact ⟨List.Pairwise.nil, fun x => Iff.rfl⟩
  | cons a l => exact ddGo_up l a h
theorem dd_le (l : List Int) : (dd l).length ≤ l.length := by
  have : ∀ (l : List Int) (p : Int), (ddGo p l).length ≤ l.length := by
    intro l; induction l with
    | nil => intro p; simp [ddGo]
    | cons a l ih => intro p; simp only [ddGo]; split
                     · have := ih p; simp; omega
                     · have := ih a; simp; omega
  cases l with
  | nil => simp [dd]
  | cons a l => have := this l a; simp [dd]; exact this
end Go.Proofs.YthojkbmffiibdaaDoor.Bo

/- Spans as pairs of keys, and rows of them as sets of numbers. -/
namespace Go.Proofs.YthojkbmffiibdaaDoor.Bo
/-- A span as it lies in memory: Side and At of Low, Side and At of High. -/
structure S4 where
  ls : Int
  la : Int
  hs : Int
  ha : Int
/-- The keys of its cuts. -/
def S4.lo (q : S4) : Int := key q.ls q.la
def S4.hi (q : S4) : Int := key q.hs q.ha
/-- Its numbers fit. -/
def S4.ok (q : S4) : Prop := I64 q.la ∧ I64 q.ha
theorem S4.ky_lo (q : S4) (h : q.ok) : Ky q.lo := key_ky _ _ h.1
theorem S4.ky_hi (q : S4) (h : q.ok) : Ky q.hi := key_ky _ _ h.2
/-- Are its cuts right ones? -/
def S4.lowR (q : S4) : Bool := sd q.lo == q.ls && pa q.lo == q.la
def S4.highR (q : S4) : Bool := sd q.hi == q.hs && pa q.hi == q.ha
/-- Is it right? -/
def S4.right (q : S4) : Bool := q.lowR && q.highR && decide (q.lo < q.hi)
/-- Is a number one of a span's? -/
def S4.has (q : S4) (n : Int) : Bool := q.right && decide (q.lo ≤ n) && decide (n < q.hi)
/-- The span of two keys. -/
def sp (p : Int × Int) : S4 := ⟨sd p.1, pa p.1, sd p.2, pa p.2⟩
theorem sp_lo (p : Int × Int) (h : Ky p.1) : (sp p).lo = p.1 := key_back _ h
theorem sp_hi (p : Int × Int) (h : Ky p.2) : (sp p).hi = p.2 := key_back _ h
theorem sp_ok (p : Int × Int) (h1 : Ky p.1) (h2 : Ky p.2) : (sp p).ok := ⟨pa_i64 _ h1, pa_i64 _ h2⟩
theorem sp_right (p : Int × Int) (h1 : Ky p.1) (h2 : Ky p.2) : (sp p).right = decide (p.1 < p.2) := by
  unfold S4.right S4.lowR S4.highR
  rw [sp_lo p h1, sp_hi p h2]
  simp [sp]
/-- A right span is that of its keys. -/
theorem sp_of_right (q : S4) (h : q.right = true) : q = sp (q.lo, q.hi) ∧ q.lo < q.hi := by
  unfold S4.right S4.lowR S4.highR at h
  simp at h
  obtain ⟨⟨⟨h1, h2⟩, h3, h4⟩, h5⟩ := h
  refine ⟨?_, h5⟩
  unfold sp
  obtain ⟨a, b, c, d⟩ := q
  simp only at h1 h2 h3 h4 ⊢
  rw [h1, h2, h3, h4]

/-- A number is one of a row's of pairs of keys. -/
def cov (ps : List (Int × Int)) (n : Int) : Prop := ∃ p ∈ ps, p.1 ≤ n ∧ n < p.2
/-- As few as can be, rising: none overlap, none touch. -/
def Norm (ps : List (Int × Int)) : Prop := (∀ p ∈ ps, p.1 < p.2) ∧ ps.Pairwise fun p q => p.2 < q.1
theorem norm_tail {p : Int × Int} {ps : List (Int × Int)} (h : Norm (p :: ps)) : Norm ps := ⟨fun q hq => h.1 q (List.mem_cons_of_mem _ hq), (List.pairwise_cons.1 h.2).2⟩
theorem cov_ge {p : Int × Int} {ps : List (Int × Int)} (h : Norm (p :: ps)) (n : Int) (hn : cov ps n) : p.2 < n := by
  obtain ⟨q, hq, h1, h2⟩ := hn
  have := (List.pairwise_cons.1 h.2).1 q hq
  omega
theorem cov_cons (p : Int × Int) (ps : List (Int × Int)) (n : Int) : cov (p :: ps) n ↔ (p.1 ≤ n ∧ n < p.2) ∨ cov ps n := by
  unfold cov
  constructor
  · rintro ⟨q, hq, h⟩
    rcases List.mem_cons.1 hq with e | e
    · subst e; exact .inl h
    · exact .inr ⟨q, e, h⟩
  · rintro (h | ⟨q, hq, h⟩)
    · exact ⟨p, List.mem_cons_self .., h⟩
    · exact ⟨q, List.mem_cons_of_mem _ hq, h⟩
theorem cov_nil (n : Int) : ¬ cov [] n := by rintro ⟨_, h, _⟩; simp at h
theorem cov_append (ps qs : List (Int × Int)) (n : Int) : cov (ps ++ qs) n ↔ cov ps n ∨ cov qs n := by
  unfold cov
  constructor
  · rintro ⟨q, hq, h⟩
    rcases List.mem_append.1 hq with e | e
    · exact .inl ⟨q, e, h⟩
    · exact .inr ⟨q, e, h⟩
  · rintro (⟨q, hq, h⟩ | ⟨q, hq, h⟩)
    · exact ⟨q, List.mem_append_left _ hq, h⟩
    · exact ⟨q, List.mem_append_right _ hq, h⟩
/-- Two such rows with the same numbers are one. -/
theorem norm_ext : ∀ (ps qs : List (Int × Int)), Norm ps → Norm qs → (∀ n, cov ps n ↔ cov qs n) → ps = qs
  | [], [], _, _, _ => rfl
  | [], q :: qs, _, hq, h => by
    have h1 := hq.1 q (List.mem_cons_self ..)
    exact absurd ((h q.1).2 ((cov_cons q qs q.1).2 (.inl ⟨Int.le_refl _, h1⟩))) (cov_nil _)
  | p :: ps, [], hp, _, h => by
    have h1 := hp.1 p (List.mem_cons_self ..)
    exact absurd ((h p.1).1 ((cov_cons p ps p.1).2 (.inl ⟨Int.le_refl _, h1⟩))) (cov_nil _)
  | p :: ps, q :: qs, hp, hq, h => by
    have hp1 := hp.1 p (List.mem_cons_self ..)
    have hq1 := hq.1 q (List.mem_cons_self ..)
    have inP := fun n => cov_cons p ps n
    have inQ := fun n => cov_cons q qs n
    have geP := fun n hn => cov_ge hp n hn
    have geQ := fun n hn => cov_ge hq n hn
    have e1 : p.1 = q.1 := by
      have a := (inQ p.1).1 ((h p.1).1 ((inP p.1).2 (.inl ⟨Int.le_refl _, hp1⟩)))
      have b := (inP q.1).1 ((h q.1).2 ((inQ q.1).2 (.inl ⟨Int.le_refl _, hq1⟩)))
      have a' : q.1 ≤ p.1 := by
        rcases a with a | a
        · omega
        · have := geQ _ a; omega
      have b' : p.1 ≤ q.1 := by
        rcases b with b | b
        · omega
        · have := geP _ b; omega
      omega
    have e2 : p.2 = q.2 := by
      rcases Int.lt_trichotomy p.2 q.2 with c | c | c
      · exfalso
        have a := (inP p.2).1 ((h p.2).2 ((inQ p.2).2 (.inl ⟨by omega, c⟩)))
        rcases a with a | a
        · omega
        · have := geP _ a; omega
      · exact c
      · exfalso
        have a := (inQ q.2).1 ((h q.2).1 ((inP q.2).2 (.inl ⟨by omega, c⟩)))
        rcases a with a | a
        · omega
        · have := geQ _ a; omega
    have ep : p = q := Prod.ext e1 e2
    subst ep
    congr 1
    refine norm_ext ps qs (norm_tail hp) (norm_tail hq) fun n => ⟨fun hn => ?_, fun hn => ?_⟩
    · rcases (inQ n).1 ((h n).1 ((inP n).2 (.inr hn))) with a | a
      · have := geP _ hn; omega
      · exact a
    · rcases (inP n).1 ((h n).2 ((inQ n).2 (.inr hn))) with a | a
      · have := geQ _ hn; omega
      · exact a
/-- The keys of the right ones of a row. -/
def rights (l : List S4) : List (Int × Int) := (l.filter S4.right).map fun q => (q.lo, q.hi)
theorem rights_lt (l : List S4) : ∀ p ∈ rights l, p.1 < p.2 := by
  intro p hp
  unfold rights at hp
  obtain ⟨q, hq, rfl⟩ := List.mem_map.1 hp
  exact (sp_of_right q (List.mem_filter.1 hq).2).2
theorem rights_ky (l : List S4) (h : ∀ q ∈ l, q.ok) : ∀ p ∈ rights l, Ky p.1 ∧ Ky p.2 := by
  intro p hp
  unfold rights at hp
  obtain ⟨q, hq, rfl⟩ := List.mem_map.1 hp
  have := h q (List.mem_filter.1 hq).1
  exact ⟨q.ky_lo this, q.ky_hi this⟩
theorem rights_sp (ps : List (Int × Int)) (h : ∀ p ∈ ps, p.1 < p.2 ∧ Ky p.1 ∧ Ky p.2) : rights (ps.map sp) = ps := by
  unfold rights
  rw [List.filter_map, List.map_map]
  have e : ps.filter (S4.right ∘ sp) = ps := by
    rw [List.filter_eq_self]
    intro p hp
    obtain ⟨h1, h2, h3⟩ := h p hp
    show (sp p).right = true
    rw [sp_right p h2 h3]; exact decide_eq_true h1
  rw [e]
  conv => rhs; rw [← List.map_id ps]
  refine List.map_congr_left fun p hp => ?_
  obtain ⟨_, h2, h3⟩ := h p hp
  show ((sp p).lo, (sp p).hi) = p
  rw [sp_lo p h2, sp_hi p h3]
theorem has_cov (l : List S4) (n : Int) : l.any (fun q => q.has n) = true ↔ cov (rights l) n := by
  unfold cov rights S4.has
  rw [List.any_eq_true]
  constructor
  · rintro ⟨q, hq, h⟩
    simp at h
    exact ⟨(q.lo, q.hi), List.mem_map.2 ⟨q, List.mem_filter.2 ⟨hq, h.1.1⟩, rfl⟩, h.1.2, h.2⟩
  · rintro ⟨p, hp, h1, h2⟩
    obtain ⟨q, hq, rfl⟩ := List.mem_map.1 hp
    obtain ⟨h3, h4⟩ := List.mem_filter.1 hq
    exact ⟨q, h3, by simp [h4, h1, h2]⟩
theorem cov_ky (ps : List (Int × Int)) (h : ∀ p ∈ ps, Ky p.1 ∧ Ky p.2) (n : Int) (hn : cov ps n) : I64 n := by
  obtain ⟨p, hp, h1, h2⟩ := hn
  obtain ⟨h3, h4⟩ := h p hp
  unfold Ky at h3 h4
  unfold I64
  omega
end Go.Proofs.YthojkbmffiibdaaDoor.Bo

/- Intervals as they are written: what is read, and what is written, over lists of bytes. No Go in sight. -/
namespace Go.Proofs.YthojkbmffiibdaaDoor.Bo
abbrev lo64 : Int := -9223372036854775808
abbrev hi64 : Int := 9223372036854775808
abbrev ninf : List UInt8 := [45, 105, 110, 102]
abbrev pinf : List UInt8 := [43, 105, 110, 102]
/-- Where a span of a lower, and of a higher bound begins and ends. -/
def lowK (kind at' : Int) : Int := if kind = 0 then lo64 else if kind = 1 then at' + 1 else at'
def highK (kind at' : Int) : Int := if kind = 0 then hi64 else if kind = 1 then at' else at' + 1
/-- Is a kind one of the three? -/
def kindB (k : Int) : Bool := decide (0 ≤ k) && decide (k ≤ 2)
/-- A word at the beginning. -/
def hd (r w : List UInt8) : Bool := decide (r.take w.length = w)
/-- Blanks at the beginning. -/
def bk (loose : Bool) (r : List UInt8) : Nat := if loose = true then (r.takeWhile (· == 32)).length else 0
/-- An end of a span at the beginning: none is one without a number. -/
def en (loose : Bool) (inf r : List UInt8) : Option (Option Int × Nat) :=
  if hd r inf = true then some (none, 4)
  else if loose = true then (if (rdAll r).2 = 0 then none else some (some (rdAll r).1, (rdAll r).2))
  else if (rdCut r).2 = 0 ∨ sd (rdCut r).1 ≠ 0 then none else some (some (pa (rdCut r).1), (rdCut r).2)
def lowE (b : Option Int) (op : Bool) : Int := match b with | none => lo64 | some n => if op = true then n + 1 else n
def highE (b : Option Int) (cl : Bool) : Int := match b with | none => hi64 | some n => if cl = true then n + 1 else n
/-- The first end, told strictly: ( stands ahead of -inf alone. -/
def en1 (loose op : Bool) (r : List UInt8) : Option (Option Int × Nat) := if (!loose && (op != hd r ninf)) = true then none else en loose ninf r
/-- What is read: a span, a place, and an error. -/
def rdE (l : List UInt8) (loose : Bool) (a3 : Nat) (b : Option Int) : S4 × Nat × Int :=
  match en loose pinf (l.drop a3) with
  | none => ((⟨0, 0, 0, 0⟩ : S4), a3, 40)
  | some (c, m) =>
    if (loose && hd (l.drop (a3 + m + bk loose (l.drop (a3 + m)))) [93] || hd (l.drop (a3 + m + bk loose (l.drop (a3 + m)))) [41]) = true then
      (if lowE b (hd l [40]) < highE c (loose && hd (l.drop (a3 + m + bk loose (l.drop (a3 + m)))) [93]) then
        (sp (lowE b (hd l [40]), highE c (loose && hd (l.drop (a3 + m + bk loose (l.drop (a3 + m)))) [93])), a3 + m + bk loose (l.drop (a3 + m)) + 1, 0) else ((⟨0, 0, 0, 0⟩ : S4), a3, 30))
    else ((⟨0, 0, 0, 0⟩ : S4), a3 + m + bk loose (l.drop (a3 + m)), 40)
def rdD (l : List UInt8) (loose : Bool) (a2 : Nat) (b : Option Int) : S4 × Nat × Int :=
  if hd (l.drop a2) [44] = true then rdE l loose (a2 + 1 + bk loose (l.drop (a2 + 1))) b else ((⟨0, 0, 0, 0⟩ : S4), a2, 40)
def rdC (l : List UInt8) (loose : Bool) (a1 : Nat) : S4 × Nat × Int :=
  match en1 loose (hd l [40]) (l.drop a1) with
  | none => ((⟨0, 0, 0, 0⟩ : S4), a1, 40)
  | some (b, n) => rdD l loose (a1 + n + bk loose (l.drop (a1 + n))) b
def rdB (l : List UInt8) (loose : Bool) : S4 × Nat × Int :=
  if (hd l [40] || hd l [91]) = true then rdC l loose (1 + bk loose (l.drop 1)) else ((⟨0, 0, 0, 0⟩ : S4), 0, 40)
/-- What all of a text is. -/
def rdP (l : List UInt8) : S4 × Int := if (rdB l false).2.2 = 0 ∧ (rdB l false).2.1 ≠ l.length then ((⟨0, 0, 0, 0⟩ : S4), 40) else ((rdB l false).1, (rdB l false).2.2)
/-- A span's text. -/
def btext (q : S4) : List UInt8 := if q.right = true then (if q.lo = lo64 then [40] else [91]) ++ ktext q.lo ++ [44] ++ ktext q.hi ++ [41] else []

theorem hd_iff (r w : List UInt8) : hd r w = true ↔ ∃ t, r = w ++ t := by
  unfold hd
  rw [decide_eq_true_eq]
  constructor
  · intro h
    refine ⟨r.drop w.length, ?_⟩
    conv => lhs; rw [← List.take_append_drop w.length r, h]
  · rintro ⟨t, rfl⟩
    simp
theorem hd_app (w t : List UInt8) : hd (w ++ t) w = true := (hd_iff _ _).2 ⟨t, rfl⟩
theorem hd_cons (c d : UInt8) (t : List UInt8) : hd (c :: t) [d] = decide (c = d) := by
  unfold hd
  simp
theorem hd_len (r w : List UInt8) (h : hd r w = true) : w.length ≤ r.length := by
  obtain ⟨t, rfl⟩ := (hd_iff r w).1 h
  simp
theorem bk_le (loose : Bool) (r : List UInt8) : bk loose r ≤ r.length := by
  unfold bk
  split
  · exact (List.takeWhile_prefix _).length_le
  · omega
theorem en_le (loose : Bool) (inf r : List UInt8) (hi : inf.length = 4) (b : Option Int) (n : Nat) (h : en loose inf r = some (b, n)) : n ≤ r.length ∧ 0 < n := by
  unfold en at h
  by_cases h1 : hd r inf = true
  · rw [if_pos h1] at h
    injection h with h
    injection h with _ h
    subst h
    have := hd_len r inf h1
    omega
  · rw [if_neg h1] at h
    cases loose with
    | true =>
      rw [if_pos rfl] at h
      have := (rdAll_bounds r).2
      by_cases h2 : (rdAll r).2 = 0
      · rw [if_pos h2] at h; cases h
      · rw [if_neg h2] at h
        injection h with h
        injection h with _ h
        omega
    | false =>
      rw [if_neg (by decide)] at h
      by_cases h2 : (rdCut r).2 = 0 ∨ sd (rdCut r).1 ≠ 0
      · rw [if_pos h2] at h; cases h
      · rw [if_neg h2] at h
        injection h with h
        injection h with _ h
        rcases rdCut_is r with h3 | h3
        · exact absurd (.inl h3.1) h2
        · omega
/-- An end's number fits. -/
theorem en_i64 (loose : Bool) (inf r : List UInt8) (z : Int) (n : Nat) (h : en loose inf r = some (some z, n)) : I64 z := by
  unfold en at h
  by_cases h1 : hd r inf = true
  · rw [if_pos h1] at h; cases h
  · rw [if_neg h1] at h
    cases loose with
    | true =>
      rw [if_pos rfl] at h
      by_cases h2 : (rdAll r).2 = 0
      · rw [if_pos h2] at h; cases h
      · rw [if_neg h2] at h
        injection h with h
        injection h with h _
        injection h with h
        rw [← h]
        exact (rdAll_bounds r).1
    | false =>
      rw [if_neg (by decide)] at h
      by_cases h2 : (rdCut r).2 = 0 ∨ sd (rdCut r).1 ≠ 0
      · rw [if_pos h2] at h; cases h
      · rw [if_neg h2] at h
        injection h with h
        injection h with h _
        injection h with h
        rw [← h]
        rcases rdCut_is r with h3 | h3
        · exact absurd (.inl h3.1) h2
        · exact pa_i64 _ h3.2.1
theorem lowK_ky (k a : Int) (ha : I64 a) : Ky (lowK k a) := by
  unfold lowK Ky lo64; unfold I64 at ha; repeat' split
  all_goals omega
theorem highK_ky (k a : Int) (ha : I64 a) : Ky (highK k a) := by
  unfold highK Ky hi64; unfold I64 at ha; repeat' split
  all_goals omega
end Go.Proofs.YthojkbmffiibdaaDoor.Bo

/- Intervals as they are written: read back, and written alike. -/
namespace Go.Proofs.YthojkbmffiibdaaDoor.Bo
theorem drop_at (x y : List UInt8) (n : Nat) (h : n = x.length) : (x ++ y).drop n = y := by subst h; simp
theorem bk_none (loose : Bool) (c : UInt8) (t : List UInt8) (h : c ≠ 32) : bk loose (c :: t) = 0 := by
  unfold bk
  split
  · rw [List.takeWhile_cons, if_neg (by simpa using h)]; rfl
  · rfl
theorem bk_many (m : Nat) (c : UInt8) (t : List UInt8) (h : c ≠ 32) : bk true (List.replicate m 32 ++ c :: t) = m := by
  unfold bk
  rw [if_pos rfl]
  induction m with
  | zero => rw [List.replicate_zero, List.nil_append, List.takeWhile_cons, if_neg (by simpa using h)]; rfl
  | succ m ih => rw [List.replicate_succ, List.cons_append, List.takeWhile_cons, if_pos (by decide), List.length_cons, ih]
theorem textOf_head (k : Int) : ∃ c t, textOf k = c :: t ∧ c ≠ 32 := by
  by_cases h : k < 0
  · rw [textOf_neg k h]; exact ⟨45, _, rfl, by decide⟩
  · rw [textOf_pos k h]
    obtain ⟨c, t, h1, h2, h3⟩ := dg_head k.natAbs
    refine ⟨c, t, h1, fun e => ?_⟩
    subst e
    revert h2; decide
theorem ktext_head (k : Int) : ∃ c t, ktext k = c :: t ∧ c ≠ 32 := by
  unfold ktext
  split
  · exact ⟨45, _, rfl, by decide⟩
  · split
    · exact ⟨43, _, rfl, by decide⟩
    · exact textOf_head k
theorem bk_ktext (loose : Bool) (k : Int) (t : List UInt8) : bk loose (ktext k ++ t) = 0 := by
  obtain ⟨c, u, h1, h2⟩ := ktext_head k
  rw [h1, List.cons_append]
  exact bk_none loose c _ h2
theorem bk_texts (m : Nat) (k : Int) (t : List UInt8) : bk true (List.replicate m 32 ++ (textOf k ++ t)) = m := by
  obtain ⟨c, u, h1, h2⟩ := textOf_head k
  rw [h1, List.cons_append]
  exact bk_many m c _ h2
theorem hd_text_no (k : Int) (t : List UInt8) : hd (textOf k ++ t) ninf = false ∧ hd (textOf k ++ t) pinf = false := by
  have h := no_inf k t
  unfold hd
  exact ⟨decide_eq_false h.1, decide_eq_false h.2⟩
theorem noDigit_cons (c : UInt8) (t : List UInt8) (h : c.toNat < 48 ∨ 57 < c.toNat) : NoDigit (c :: t) := by
  intro d hd
  simp at hd
  subst hd
  exact h
/-- A number's text at an end. -/
theorem en_text (loose : Bool) (inf : List UInt8) (k : Int) (t : List UInt8) (hi : inf = ninf ∨ inf = pinf) (h1 : lo64 < k) (h2 : k < hi64) (hd' : NoDigit t) : en loose inf (textOf k ++ t) = some (some k, (textOf k).length) := by
  have hi64' := mid_i64 k h1 h2
  have hl := (textOf_len k hi64').1
  unfold en
  rw [if_neg (by rcases hi with rfl | rfl; rw [(hd_text_no k t).1]; decide; rw [(hd_text_no k t).2]; decide)]
  cases loose with
  | true =>
    rw [if_pos rfl, rdAll_text k t hi64' hd', if_neg (by show ¬ (textOf k).length = 0; omega)]
  | false =>
    have hr := rdCut_text k t ⟨by unfold lo64 at h1; omega, by unfold hi64 at h2; omega⟩ hd'
    rw [ktext_mid k h1 h2] at hr
    have hs := sd_mid k (by unfold lo64 at h1; omega) (by unfold hi64 at h2; omega)
    have hp := pa_mid k (by unfold lo64 at h1; omega) (by unfold hi64 at h2; omega)
    rw [if_neg (by decide), hr]
    show (if (textOf k).length = 0 ∨ sd k ≠ 0 then _ else some (some (pa k), (textOf k).length)) = _
    rw [if_neg (by rw [hs]; intro h; rcases h with h | h; omega; exact h rfl), hp]
theorem en_loose (inf : List UInt8) (k : Int) (t : List UInt8) (hi : inf = ninf ∨ inf = pinf) (hk : I64 k) (hd' : NoDigit t) : en true inf (textOf k ++ t) = some (some k, (textOf k).length) := by
  have hl := (textOf_len k hk).1
  unfold en
  rw [if_neg (by rcases hi with rfl | rfl; rw [(hd_text_no k t).1]; decide; rw [(hd_text_no k t).2]; decide), if_pos rfl, rdAll_text k t hk hd', if_neg (by show ¬ (textOf k).length = 0; omega)]
theorem hd_low (k : Int) (t : List UInt8) (h : k < hi64) : hd (ktext k ++ t) ninf = decide (k = lo64) := by
  by_cases h1 : k = lo64
  · rw [decide_eq_true h1, h1, ktext_lo]; exact hd_app _ _
  · rw [decide_eq_false h1]
    unfold ktext
    rw [if_neg h1, if_neg (by unfold hi64 at h; omega)]
    exact (hd_text_no k t).1
/-- The first end of a span's text. -/
theorem en_low (loose : Bool) (k : Int) (t : List UInt8) (hk : Ky k) (h : k < hi64) (hd' : NoDigit t) : ∃ b, en1 loose (decide (k = lo64)) (ktext k ++ t) = some (b, (ktext k).length) ∧ lowE b (decide (k = lo64)) = k := by
  unfold en1
  rw [hd_low k t h, if_neg (by cases loose <;> simp)]
  by_cases h1 : k = lo64
  · subst h1
    refine ⟨none, ?_, rfl⟩
    unfold en
    rw [hd_low _ t h, if_pos (by decide), ktext_lo]; rfl
  · unfold Ky at hk
    have h2 : lo64 < k := by unfold lo64 at *; omega
    refine ⟨some k, ?_, ?_⟩
    · rw [ktext_mid k h2 h]
      exact en_text loose ninf k t (.inl rfl) h2 h hd'
    · unfold lowE; simp [h1]
theorem en_high (loose : Bool) (k : Int) (t : List UInt8) (hk : Ky k) (h : lo64 < k) (hd' : NoDigit t) : ∃ b, en loose pinf (ktext k ++ t) = some (b, (ktext k).length) ∧ highE b false = k := by
  by_cases h1 : k = hi64
  · subst h1
    refine ⟨none, ?_, rfl⟩
    unfold en
    rw [ktext_hi, if_pos (hd_app pinf t)]; rfl
  · unfold Ky at hk
    have h2 : k < hi64 := by unfold hi64 at *; omega
    refine ⟨some k, ?_, rfl⟩
    rw [ktext_mid k h h2]
    exact en_text loose pinf k t (.inr rfl) h h2 hd'
/-- A span's text, whatever stands behind it, is read as the span. -/
theorem rdB_text (q : S4) (t : List UInt8) (loose : Bool) (hq : q.ok) (hr : q.right = true) : rdB (btext q ++ t) loose = (q, (btext q).length, 0) := by
  obtain ⟨e, hlt⟩ := sp_of_right q hr
  have k1 := q.ky_lo hq
  have k2 := q.ky_hi hq
  have hb : btext q = (if q.lo = lo64 then [40] else [91]) ++ ktext q.lo ++ [44] ++ ktext q.hi ++ [41] := by unfold btext; rw [if_pos hr]
  rw [hb]
  refine Eq.trans ?_ (congrArg (fun z => (z, _, 0)) e.symm)
  generalize q.lo = k at *
  generalize q.hi = h at *
  clear hb e hr hq
  have hkh : k < hi64 := by unfold Ky at k2; unfold hi64; omega
  have hhl : lo64 < h := by unfold Ky at k1; unfold lo64; omega
  obtain ⟨O, hO⟩ : ∃ O : UInt8, (if k = lo64 then [40] else [91] : List UInt8) = [O] ∧ (O = 40 ↔ k = lo64) ∧ (O = 40 ∨ O = 91) := by
    by_cases c : k = lo64
    · exact ⟨40, by rw [if_pos c], by simp [c], .inl rfl⟩
    · exact ⟨91, by rw [if_neg c], by simp [c], .inr rfl⟩
  obtain ⟨hO1, hO2, hO3⟩ := hO
  rw [hO1]
  have hl : [O] ++ ktext k ++ [44] ++ ktext h ++ [41] ++ t = [O] ++ (ktext k ++ (44 :: (ktext h ++ (41 :: t)))) := by simp
  have hlen : ([O] ++ ktext k ++ [44] ++ ktext h ++ [41]).length = 1 + (ktext k).length + 1 + (ktext h).length + 1 := by simp; omega
  rw [hl, hlen]
  have d1 : ([O] ++ (ktext k ++ (44 :: (ktext h ++ (41 :: t))))).drop 1 = ktext k ++ (44 :: (ktext h ++ (41 :: t))) := rfl
  have d2 : ([O] ++ (ktext k ++ (44 :: (ktext h ++ (41 :: t))))).drop (1 + (ktext k).length) = 44 :: (ktext h ++ (41 :: t)) := by rw [← List.append_assoc]; exact drop_at _ _ _ (by simp; omega)
  have d3 : ([O] ++ (ktext k ++ (44 :: (ktext h ++ (41 :: t))))).drop (1 + (ktext k).length + 1) = ktext h ++ (41 :: t) := by rw [← List.drop_drop, d2]; rfl
  have d4 : ([O] ++ (ktext k ++ (44 :: (ktext h ++ (41 :: t))))).drop (1 + (ktext k).length + 1 + (ktext h).length) = 41 :: t := by rw [← List.drop_drop, d3]; exact drop_at _ _ _ rfl
  have h40 : hd ([O] ++ (ktext k ++ (44 :: (ktext h ++ (41 :: t))))) [40] = decide (k = lo64) := by
    rw [List.singleton_append, hd_cons]
    by_cases c : k = lo64
    · rw [decide_eq_true c, decide_eq_true (hO2.2 c)]
    · rw [decide_eq_false c, decide_eq_false (fun a => c (hO2.1 a))]
  have h91 : (hd ([O] ++ (ktext k ++ (44 :: (ktext h ++ (41 :: t))))) [40] || hd ([O] ++ (ktext k ++ (44 :: (ktext h ++ (41 :: t))))) [91]) = true := by
    rw [List.singleton_append, hd_cons, hd_cons]
    rcases hO3 with rfl | rfl <;> decide
  generalize ([O] ++ (ktext k ++ (44 :: (ktext h ++ (41 :: t))))) = l at *
  obtain ⟨b, eb, hlb⟩ := en_low loose k (44 :: (ktext h ++ (41 :: t))) k1 hkh (noDigit_cons _ _ (by decide))
  obtain ⟨c, ec, hhc⟩ := en_high loose h (41 :: t) k2 hhl (noDigit_cons _ _ (by decide))
  unfold rdB
  rw [if_pos h91, d1, bk_ktext, Nat.add_zero]
  unfold rdC
  rw [h40, d1, eb]
  show rdD l loose (1 + (ktext k).length + bk loose (l.drop (1 + (ktext k).length))) b = _
  rw [d2, bk_none loose 44 _ (by decide), Nat.add_zero]
  unfold rdD
  rw [d2, hd_cons, if_pos (by decide), d3, bk_ktext, Nat.add_zero]
  unfold rdE
  rw [d3, ec]
  show (if (loose && hd (l.drop (1 + (ktext k).length + 1 + (ktext h).length + bk loose (l.drop (1 + (ktext k).length + 1 + (ktext h).length)))) [93] || hd (l.drop (1 + (ktext k).length + 1 + (ktext h).length + bk loose (l.drop (1 + (ktext k).length + 1 + (ktext h).length)))) [41]) = true then _ else _) = _
  simp only [d4, bk_none loose 41 _ (by decide), Nat.add_zero, hd_cons]
  rw [if_pos (by simp), h40, hlb]
  have e2 : (loose && decide ((41 : UInt8) = 93)) = false := by cases loose <;> rfl
  rw [e2, hhc, if_pos hlt]
/-- What is an end's text, told strictly. -/
theorem en_is (inf r : List UInt8) (b : Option Int) (n : Nat) (h : en false inf r = some (b, n)) : (b = none ∧ n = 4 ∧ hd r inf = true) ∨ (∃ k, b = some k ∧ lo64 < k ∧ k < hi64 ∧ r.take n = ktext k ∧ n ≤ r.length ∧ hd r inf = false) := by
  unfold en at h
  by_cases h1 : hd r inf = true
  · rw [if_pos h1] at h
    injection h with h
    injection h with h2 h3
    exact .inl ⟨h2.symm, h3.symm, h1⟩
  · rw [if_neg h1, if_neg (by decide)] at h
    by_cases h2 : (rdCut r).2 = 0 ∨ sd (rdCut r).1 ≠ 0
    · rw [if_pos h2] at h; cases h
    · rw [if_neg h2] at h
      injection h with h
      injection h with h3 h4
      rcases rdCut_is r with h5 | ⟨h5, h6, h7, h8⟩
      · exact absurd (.inl h5.1) h2
      · rcases ky_cases _ h6 with ⟨_, c, _⟩ | ⟨_, c, _⟩ | ⟨g1, g2, _, g4⟩
        · exact absurd (.inr (by rw [c]; decide)) h2
        · exact absurd (.inr (by rw [c]; decide)) h2
        · refine .inr ⟨(rdCut r).1, ?_, g1, g2, ?_, by omega, by simpa using h1⟩
          · rw [← h3, g4]
          · rw [← h4]; exact h7
theorem take_hd (r w : List UInt8) (h : hd r w = true) : r.take w.length = w := by unfold hd at h; exact of_decide_eq_true h
/-- Five parts, one behind the other. -/
theorem take_parts (l : List UInt8) (O : UInt8) (K H : List UInt8) (a b : Nat) (h0 : l.take 1 = [O]) (h1 : (l.drop 1).take a = K) (ha : a = K.length) (h2 : (l.drop (1 + a)).take 1 = [44]) (h3 : (l.drop (1 + a + 1)).take b = H) (hb : b = H.length) (h4 : (l.drop (1 + a + 1 + b)).take 1 = [41]) :
    l.take (1 + a + 1 + b + 1) = [O] ++ K ++ [44] ++ H ++ [41] ∧ 1 + a + 1 + b + 1 ≤ l.length := by
  have t : l.take (1 + a + 1 + b + 1) = [O] ++ K ++ [44] ++ H ++ [41] := by
    rw [List.take_add (i := 1 + a + 1 + b), List.take_add (i := 1 + a + 1), List.take_add (i := 1 + a), List.take_add (i := 1), h0, h1, h2, h3, h4]
  refine ⟨t, ?_⟩
  have := congrArg List.length t
  rw [List.length_take] at this
  simp at this
  omega
/-- What is read strictly is written as it stands. -/
theorem rdB_is (l : List UInt8) (x : S4) (n : Nat) (h : rdB l false = (x, n, 0)) : n ≤ l.length ∧ l.take n = btext x ∧ x.right = true ∧ x.ok := by
  have bk0 : ∀ r, bk false r = 0 := fun r => by unfold bk; rw [if_neg (by decide)]
  unfold rdB at h
  by_cases h1 : (hd l [40] || hd l [91]) = true
  · rw [if_pos h1, bk0] at h
    unfold rdC at h
    cases e1 : en1 false (hd l [40]) (l.drop 1) with
    | none => rw [e1] at h; exact absurd (congrArg (fun p => p.2.2) h) (by simp)
    | some p =>
      obtain ⟨b, m⟩ := p
      rw [e1] at h
      change rdD l false (1 + m + bk false (l.drop (1 + m))) b = _ at h
      rw [bk0, Nat.add_zero] at h
      unfold en1 at e1
      by_cases hg : (!false && (hd l [40] != hd (l.drop 1) ninf)) = true
      · rw [if_pos hg] at e1; cases e1
      · rw [if_neg hg] at e1
        have hg' : hd l [40] = hd (l.drop 1) ninf := by simpa using hg
        unfold rdD at h
        by_cases h2 : hd (l.drop (1 + m)) [44] = true
        · rw [if_pos h2, bk0, Nat.add_zero] at h
          unfold rdE at h
          cases e2 : en false pinf (l.drop (1 + m + 1)) with
          | none => rw [e2] at h; exact absurd (congrArg (fun p => p.2.2) h) (by simp)
          | some p =>
            obtain ⟨c, j⟩ := p
            rw [e2] at h
            simp only [bk0, Nat.add_zero, Bool.false_and, Bool.false_or] at h
            by_cases h3 : hd (l.drop (1 + m + 1 + j)) [41] = true
            · rw [if_pos h3] at h
              by_cases h4 : lowE b (hd l [40]) < highE c false
              · rw [if_pos h4] at h
                injection h with h5 h6
                injection h6 with h6 _
                obtain ⟨k, hk1, hk2, hk3, hk4⟩ : ∃ k, lowE b (hd l [40]) = k ∧ Ky k ∧ (l.drop 1).take m = ktext k ∧ (l.take 1 = [if k = lo64 then 40 else 91]) := by
                  rcases en_is _ _ _ _ e1 with ⟨rfl, rfl, g⟩ | ⟨k, rfl, g1, g2, g3, _, g⟩
                  · refine ⟨lo64, rfl, ⟨by decide, by decide⟩, by rw [ktext_lo]; exact take_hd _ _ g, ?_⟩
                    rw [g] at hg'
                    exact take_hd _ _ hg'
                  · rw [g] at hg'
                    refine ⟨k, by rw [hg']; rfl, ⟨by unfold lo64 at g1; omega, by unfold hi64 at g2; omega⟩, g3, ?_⟩
                    rw [if_neg (by omega)]
                    rw [hg', Bool.false_or] at h1
                    exact take_hd _ _ h1
                obtain ⟨z, hz1, hz2, hz3⟩ : ∃ z, highE c false = z ∧ Ky z ∧ (l.drop (1 + m + 1)).take j = ktext z := by
                  rcases en_is _ _ _ _ e2 with ⟨rfl, rfl, g⟩ | ⟨k, rfl, g1, g2, g3, _, g⟩
                  · exact ⟨hi64, rfl, ⟨by decide, by decide⟩, by rw [ktext_hi]; exact take_hd _ _ g⟩
                  · exact ⟨k, rfl, ⟨by unfold lo64 at g1; omega, by unfold hi64 at g2; omega⟩, g3⟩
                rw [hk1, hz1] at h4 h5
                have lm : m = (ktext k).length := by
                  have := (en_le false ninf _ rfl b m e1).1
                  rw [← hk3, List.length_take]; omega
                have lj : j = (ktext z).length := by
                  have := (en_le false pinf _ rfl c j e2).1
                  rw [← hz3, List.length_take]; omega
                obtain ⟨t1, t2⟩ := take_parts l _ _ _ m j hk4 hk3 lm (take_hd _ _ h2) hz3 lj (take_hd _ _ h3)
                have hr : x.right = true := by rw [← h5, sp_right _ hk2 hz2]; exact decide_eq_true h4
                refine ⟨by omega, ?_, hr, by rw [← h5]; exact sp_ok _ hk2 hz2⟩
                rw [← h6, t1]
                unfold btext
                rw [if_pos hr, ← h5, sp_lo _ hk2, sp_hi _ hz2]
                show _ = (if k = lo64 then [40] else [91]) ++ ktext k ++ [44] ++ ktext z ++ [41]
                by_cases d : k = lo64
                · rw [if_pos d, if_pos d]
                · rw [if_neg d, if_neg d]
              · rw [if_neg h4] at h; exact absurd (congrArg (fun p => p.2.2) h) (by simp)
            · rw [if_neg h3] at h; exact absurd (congrArg (fun p => p.2.2) h) (by simp)
        · rw [if_neg h2] at h; exact absurd (congrArg (fun p => p.2.2) h) (by simp)
  · rw [if_neg h1] at h; exact absurd (congrArg (fun p => p.2.2) h) (by simp)
/-- An interval as a person writes it. -/
def ptext (O E : UInt8) (m : Nat) (a c : Int) : List UInt8 := [O] ++ List.replicate m 32 ++ textOf a ++ List.replicate m 32 ++ [44] ++ List.replicate m 32 ++ textOf c ++ List.replicate m 32 ++ [E]
theorem noDigit_blanks (m : Nat) (c : UInt8) (t : List UInt8) (h : c.toNat < 48 ∨ 57 < c.toNat) : NoDigit (List.replicate m 32 ++ c :: t) := by
  cases m with
  | zero => exact noDigit_cons _ _ h
  | succ m => rw [List.replicate_succ, List.cons_append]; exact noDigit_cons _ _ (by decide)
theorem rdB_person (O E : UInt8) (m : Nat) (a c : Int) (t : List UInt8) (hO : O = 40 ∨ O = 91) (hE : E = 41 ∨ E = 93) (ha : I64 a) (hc : I64 c) :
    rdB (ptext O E m a c ++ t) true = if lowE (some a) (decide (O = 40)) < highE (some c) (decide (E = 93)) then (sp (lowE (some a) (decide (O = 40)), highE (some c) (decide (E = 93))), (ptext O E m a c).length, 0) else ((⟨0, 0, 0, 0⟩ : S4), 1 + m + (textOf a).length + m + 1 + m, 30) := by
  have hlen : (ptext O E m a c).length = 1 + m + (textOf a).length + m + 1 + m + (textOf c).length + m + 1 := by unfold ptext; simp; omega
  have hl : ptext O E m a c ++ t = [O] ++ (List.replicate m 32 ++ (textOf a ++ (List.replicate m 32 ++ 44 :: (List.replicate m 32 ++ (textOf c ++ (List.replicate m 32 ++ E :: t)))))) := by unfold ptext; simp
  rw [hlen, hl]
  have hEs : E ≠ 32 := by rcases hE with rfl | rfl <;> decide
  have hEd : E.toNat < 48 ∨ 57 < E.toNat := by rcases hE with rfl | rfl <;> decide
  have r1 : ∀ (x y : List UInt8) (n : Nat), n = x.length → (x ++ y).drop n = y := fun x y n h => drop_at x y n h
  generalize hL : [O] ++ (List.replicate m 32 ++ (textOf a ++ (List.replicate m 32 ++ 44 :: (List.replicate m 32 ++ (textOf c ++ (List.replicate m 32 ++ E :: t)))))) = l
  have d1 : l.drop 1 = List.replicate m 32 ++ (textOf a ++ (List.replicate m 32 ++ 44 :: (List.replicate m 32 ++ (textOf c ++ (List.replicate m 32 ++ E :: t))))) := by rw [← hL]; rfl
  have d2 : l.drop (1 + m) = textOf a ++ (List.replicate m 32 ++ 44 :: (List.replicate m 32 ++ (textOf c ++ (List.replicate m 32 ++ E :: t)))) := by rw [← List.drop_drop, d1]; exact r1 _ _ _ (by simp)
  have d3 : l.drop (1 + m + (textOf a).length) = List.replicate m 32 ++ 44 :: (List.replicate m 32 ++ (textOf c ++ (List.replicate m 32 ++ E :: t))) := by rw [← List.drop_drop, d2]; exact r1 _ _ _ rfl
  have d4 : l.drop (1 + m + (textOf a).length + m) = 44 :: (List.replicate m 32 ++ (textOf c ++ (List.replicate m 32 ++ E :: t))) := by rw [← List.drop_drop, d3]; exact r1 _ _ _ (by simp)
  have d5 : l.drop (1 + m + (textOf a).length + m + 1) = List.replicate m 32 ++ (textOf c ++ (List.replicate m 32 ++ E :: t)) := by rw [← List.drop_drop, d4]; rfl
  have d6 : l.drop (1 + m + (textOf a).length + m + 1 + m) = textOf c ++ (List.replicate m 32 ++ E :: t) := by rw [← List.drop_drop, d5]; exact r1 _ _ _ (by simp)
  have d7 : l.drop (1 + m + (textOf a).length + m + 1 + m + (textOf c).length) = List.replicate m 32 ++ E :: t := by rw [← List.drop_drop, d6]; exact r1 _ _ _ rfl
  have d8 : l.drop (1 + m + (textOf a).length + m + 1 + m + (textOf c).length + m) = E :: t := by rw [← List.drop_drop, d7]; exact r1 _ _ _ (by simp)
  have h40 : hd l [40] = decide (O = 40) := by rw [← hL, List.singleton_append, hd_cons]
  have h91 : (hd l [40] || hd l [91]) = true := by
    rw [← hL, List.singleton_append, hd_cons, hd_cons]
    rcases hO with rfl | rfl <;> decide
  have e1 : en1 true (decide (O = 40)) (textOf a ++ (List.replicate m 32 ++ 44 :: (List.replicate m 32 ++ (textOf c ++ (List.replicate m 32 ++ E :: t))))) = some (some a, (textOf a).length) := by
    unfold en1
    rw [if_neg (by simp)]
    exact en_loose ninf a _ (.inl rfl) ha (noDigit_blanks m 44 _ (by decide))
  have e2 : en true pinf (textOf c ++ (List.replicate m 32 ++ E :: t)) = some (some c, (textOf c).length) := en_loose pinf c _ (.inr rfl) hc (noDigit_blanks m E _ hEd)
  unfold rdB
  rw [if_pos h91, d1, bk_texts]
  unfold rdC
  rw [h40, d2, e1]
  show rdD l true (1 + m + (textOf a).length + bk true (l.drop (1 + m + (textOf a).length))) (some a) = _
  rw [d3, bk_many m 44 _ (by decide)]
  unfold rdD
  rw [d4, hd_cons, if_pos (by decide), d5, bk_texts]
  unfold rdE
  rw [d6, e2]
  simp only [d7, bk_many m E _ hEs, d8, hd_cons, Bool.true_and, h40]
  rw [if_pos (by rcases hE with rfl | rfl <;> decide)]
end Go.Proofs.YthojkbmffiibdaaDoor.Bo

/- slices.SortFunc at rows of cuts: the shelf's contract, laid at this dump. -/
namespace Go.Proofs.YthojkbmffiibdaaDoor
open Go.Shelf
end Go.Proofs.YthojkbmffiibdaaDoor

/- Rows of digits as whole numbers, the lowest one first. No Go in sight. -/
namespace Go.Proofs.YthojkbmffiibdaaDoor.Bo

/-- What a row of digits is worth. -/
def val : List Nat → Nat
  | [] => 0
  | d :: l => d + 10 * val l
/-- All are digits. -/
def Ok (xs : List Nat) : Prop := ∀ d ∈ xs, d < 10
theorem Ok.nil : Ok [] := by intro d h; cases h
theorem Ok.getD {xs : List Nat} (h : Ok xs) (i : Nat) : xs.getD i 0 < 10 := by
  by_cases hi : i < xs.length
  · rw [List.getD_eq_getElem?_getD, List.getElem?_eq_getElem hi]; exact h _ (List.getElem_mem hi)
  · rw [List.getD_eq_getElem?_getD, List.getElem?_eq_none (by omega)]; decide
theorem Ok.snoc {xs : List Nat} (h : Ok xs) {d : Nat} (hd : d < 10) : Ok (xs ++ [d]) := by
  intro e he
  rcases List.mem_append.1 he with h1 | h1
  · exact h e h1
  · rw [List.mem_singleton.1 h1]; exact hd
theorem Ok.take {xs : List Nat} (h : Ok xs) (n : Nat) : Ok (xs.take n) := fun d hd => h d (List.mem_of_mem_take hd)
theorem val_append (xs ys : List Nat) : val (xs ++ ys) = val xs + 10 ^ xs.length * val ys := by
  induction xs with
  | nil => simp [val]
  | cons d l ih => simp only [List.cons_append, val, ih, List.length_cons, Nat.pow_succ, Nat.mul_add]; rw [Nat.mul_comm (10 ^ l.length) 10, Nat.mul_assoc]; omega
theorem val_snoc (xs : List Nat) (d : Nat) : val (xs ++ [d]) = val xs + 10 ^ xs.length * d := by rw [val_append]; simp [val]
theorem val_lt (xs : List Nat) (h : Ok xs) : val xs < 10 ^ xs.length := by
  induction xs with
  | nil => simp [val]
  | cons d l ih =>
    have h1 := ih (fun e he => h e (List.mem_cons_of_mem _ he))
    have h2 := h d (by simp)
    simp only [val, List.length_cons, Nat.pow_succ]; omega
theorem val_low (m : Nat) : val (low m) = m := by
  induction m using Nat.strongRecOn with
  | _ m ih =>
    by_cases h : m = 0
    · subst h; simp [low_zero, val]
    · rw [low_pos m h, val, ih (m / 10) (by omega)]; omega
theorem low_ok (m : Nat) : Ok (low m) := by
  induction m using Nat.strongRecOn with
  | _ m ih =>
    by_cases h : m = 0
    · subst h; rw [low_zero]; exact Ok.nil
    · rw [low_pos m h]
      intro d hd
      rcases List.mem_cons.1 hd with rfl | h1
      · omega
      · exact ih (m / 10) (by omega) d h1
/-- From place i on. -/
theorem val_drop (xs : List Nat) (i : Nat) : val (xs.drop i) = xs.getD i 0 + 10 * val (xs.drop (i + 1)) := by
  by_cases hi : i < xs.length
  · rw [List.drop_eq_getElem_cons hi, val, List.getD_eq_getElem?_getD, List.getElem?_eq_getElem hi]; rfl
  · rw [List.drop_of_length_le (by omega), List.drop_of_length_le (by omega), List.getD_eq_getElem?_getD, List.getElem?_eq_none (by omega)]; rfl
/-- One that is more from place i on is more. -/
theorem val_lt_down (xs ys : List Nat) (h : Ok xs) : ∀ i, val (xs.drop i) < val (ys.drop i) → val xs < val ys := by
  intro i
  induction i with
  | zero => intro hlt; simpa using hlt
  | succ i ih =>
    intro hlt
    refine ih ?_
    rw [val_drop xs i, val_drop ys i]
    have := h.getD i
    omega
theorem val_take_succ (xs : List Nat) (i : Nat) (h : i < xs.length) : val (xs.take (i + 1)) = val (xs.take i) + 10 ^ i * xs[i] := by
  rw [List.take_succ_eq_append_getElem h, val_snoc, List.length_take, Nat.min_eq_left (by omega)]
/-- The number that s times v is, or the end beyond which it is: by the limit of its sign. -/
def lim (s : Int) : Nat := if s < 0 then 9223372036854775808 else 9223372036854775807
theorem clamp_sign (s : Int) (v : Nat) (hs : s = -1 ∨ s = 0 ∨ s = 1) : clamp (s * (v : Int)) = s * ((if lim s < v then lim s else v : Nat) : Int) := by
  rcases hs with rfl | rfl | rfl
  · have e : lim (-1) = 9223372036854775808 := rfl
    rw [e]; unfold clamp; split <;> (try split) <;> (try split) <;> omega
  · simp [clamp]
  · have e : lim 1 = 9223372036854775807 := rfl
    rw [e]; unfold clamp; split <;> (try split) <;> (try split) <;> omega
/-- What was reckoned so far is a number, and goes on to be one. -/
theorem sign_step (s : Int) (v d x : Nat) (hs : s = -1 ∨ s = 0 ∨ s = 1) (hx : x ≤ lim s) (h : d + 10 * v ≤ x) :
    I64 (s * (v : Int)) ∧ I64 (s * (v : Int) * 10) ∧ I64 (s * (d : Int)) ∧ I64 (s * (v : Int) * 10 + s * (d : Int)) ∧ s * (v : Int) * 10 + s * (d : Int) = s * ((d + 10 * v : Nat) : Int) := by
  unfold I64
  rcases hs with rfl | rfl | rfl
  · have e : lim (-1) = 9223372036854775808 := rfl
    omega
  · simp
  · have e : lim 1 = 9223372036854775807 := rfl
    omega
theorem val_drop_le (xs : List Nat) (i : Nat) : val (xs.drop i) ≤ val xs := by
  induction i with
  | zero => simp
  | succ i ih => have := val_drop xs i; omega
theorem val_zeros (xs : List Nat) : val (xs ++ [0]) = val xs := by rw [val_snoc]; simp
end Go.Proofs.YthojkbmffiibdaaDoor.Bo
