/- Plain arithmetic for layer 1: the number that ends. No Go in sight. -/
namespace Go.Proofs.Ytbpplhlkpfdegaa.Bo
/-- The number that it is, or the end beyond which it is. -/
def clamp (n : Int) : Int := if n < -9223372036854775808 then -9223372036854775808 else if 9223372036854775807 < n then 9223372036854775807 else n
def I64 (n : Int) : Prop := -9223372036854775808 ≤ n ∧ n ≤ 9223372036854775807
theorem clamp_i64 (n : Int) : I64 (clamp n) := by unfold I64 clamp; split <;> (try split) <;> omega
theorem clamp_mono (a b : Int) (h : a ≤ b) : clamp a ≤ clamp b := by unfold clamp; split <;> split <;> (try split) <;> (try split) <;> omega
theorem clamp_hi (c : Int) (h : 0 ≤ c) : clamp (9223372036854775807 + c) = 9223372036854775807 := by unfold clamp; split <;> (try split) <;> omega
theorem clamp_lo (c : Int) (h : c ≤ 0) : clamp (-9223372036854775808 + c) = -9223372036854775808 := by unfold clamp; split <;> (try split) <;> omega
theorem clamp_in (n : Int) (h : I64 n) : clamp n = n := by unfold I64 at h; unfold clamp; split <;> (try split) <;> omega
theorem clamp_up (n : Int) (h : 9223372036854775807 ≤ n) : clamp n = 9223372036854775807 := by unfold clamp; split <;> (try split) <;> omega
theorem clamp_down (n : Int) (h : n ≤ -9223372036854775808) : clamp n = -9223372036854775808 := by unfold clamp; split <;> (try split) <;> omega

/-- The least multiple of s that is not below n. -/
def cl (n s : Int) : Int := n + (-n) % s
theorem cl_ge (n s : Int) (hs : 1 ≤ s) : n ≤ cl n s ∧ cl n s < n + s := by
  unfold cl; have h1 := Int.emod_nonneg (-n) (show s ≠ 0 by omega); have h2 := Int.emod_lt_of_pos (-n) (show 0 < s by omega); omega
theorem cl_mul (n s : Int) : (cl n s) % s = 0 := by
  unfold cl; rw [Int.add_emod, Int.emod_emod, ← Int.add_emod]; simp [Int.add_right_neg]
theorem neg_emod_eq (n s : Int) (hs : 1 ≤ s) (h : 0 < n % s) : (-n) % s = s - n % s := by
  have h2 := Int.emod_lt_of_pos n (show 0 < s by omega)
  have e : -n = (s - n % s) + s * (-(n / s) - 1) := by
    have := Int.emod_add_mul_ediv n s
    rw [Int.mul_sub, Int.mul_neg]; omega
  rw [e, Int.add_mul_emod_self_left]
  exact Int.emod_eq_of_lt (by omega) (by omega)
theorem neg_emod_zero (n s : Int) (h : n % s = 0) : (-n) % s = 0 := by
  have := Int.dvd_of_emod_eq_zero h
  exact Int.emod_eq_zero_of_dvd ((Int.dvd_neg).2 this)
theorem emod_le_self (n s : Int) (hs : 1 ≤ s) (hn : 0 ≤ n) : n % s ≤ n := by
  have h := Int.emod_add_mul_ediv n s
  have h2 : 0 ≤ s * (n / s) := Int.mul_nonneg (by omega) (Int.ediv_nonneg hn (by omega))
  omega
theorem cl_pos (n s : Int) (hs : 1 ≤ s) (hn : 0 ≤ n) : 0 ≤ n % s ∧ n % s < s ∧ n % s ≤ n ∧ (0 < n % s → cl n s = n + (s - n % s)) := by
  refine ⟨Int.emod_nonneg _ (by omega), Int.emod_lt_of_pos _ (by omega), emod_le_self n s hs hn, fun h => ?_⟩
  unfold cl; rw [neg_emod_eq n s hs h]
theorem cl_pos0 (n s : Int) (hs : 1 ≤ s) (hn : 0 ≤ n) (h : n % s ≤ 0) : cl n s = n - n % s := by
  have h0 := (cl_pos n s hs hn).1
  unfold cl; rw [neg_emod_zero n s (by omega)]; omega
theorem cl_neg (n s : Int) (hs : 1 ≤ s) (hn : n ≤ 0) : n.tmod s ≤ 0 ∧ n ≤ n.tmod s ∧ cl n s = n - n.tmod s := by
  have e : n.tmod s = -((-n) % s) := by
    have : n = -(-n) := by omega
    rw [this, Int.neg_tmod, Int.neg_neg, Int.tmod_eq_emod_of_nonneg (by omega)]
  have h1 := Int.emod_nonneg (-n) (show s ≠ 0 by omega)
  have h2 := emod_le_self (-n) s hs (by omega)
  rw [e]; unfold cl; omega
theorem cl_big_pos (n s : Int) (hs : 1 ≤ s) (h : 9223372036854775807 < cl n s) : 0 ≤ n := by
  by_cases h0 : 0 ≤ n
  · exact h0
  · have := cl_neg n s hs (by omega); omega

/-! ### digits -/
/-- The digits of a number, the lowest one first, without noughts at the end. -/
def low (m : Nat) : List Nat := if m = 0 then [] else (m % 10) :: low (m / 10)
  termination_by m
  decreasing_by omega
def ch (d : Nat) : UInt8 := UInt8.ofNat (48 + d)
def pre (m : Nat) : List UInt8 := (low m).reverse.map ch
def dg (m : Nat) : List UInt8 := if m = 0 then [48] else pre m
/-- The text of a number. -/
def textOf (n : Int) : List UInt8 := if n < 0 then 45 :: dg n.natAbs else dg n.natAbs
theorem low_zero : low 0 = [] := by unfold low; simp
theorem low_pos (m : Nat) (h : m ≠ 0) : low m = (m % 10) :: low (m / 10) := by rw [low]; simp [h]
theorem pre_zero : pre 0 = [] := by simp [pre, low_zero]
theorem pre_pos (m : Nat) (h : m ≠ 0) : pre m = pre (m / 10) ++ [ch (m % 10)] := by simp [pre, low_pos m h]
theorem dg_step (m : Nat) : dg m = pre (m / 10) ++ [ch (m % 10)] := by
  by_cases h : m = 0
  · subst h; simp [dg, pre_zero]; rfl
  · simp [dg, h, pre_pos m h]
theorem low_len (k : Nat) : ∀ m : Nat, m < 10 ^ k → (low m).length ≤ k := by
  induction k with
  | zero => intro m h; have : m = 0 := by simpa using h
            subst this; simp [low_zero]
  | succ k ih =>
    intro m h
    by_cases h0 : m = 0
    · subst h0; simp [low_zero]
    · rw [low_pos m h0]
      have := ih (m / 10) (by rw [Nat.pow_succ] at h; omega)
      simp; omega
theorem dg_len (m : Nat) (h : m ≤ 9223372036854775808) : 1 ≤ (dg m).length ∧ (dg m).length ≤ 19 := by
  by_cases h0 : m = 0
  · subst h0; simp [dg]
  · have := low_len 19 m (by omega)
    simp only [dg, h0, if_false, pre, List.length_map, List.length_reverse]
    refine ⟨?_, this⟩
    rw [low_pos m h0]; simp
theorem ch_toNat (d : Nat) (h : d < 10) : (ch d).toNat = 48 + d := by simp [ch]; omega

/-! ### reading digits -/
/-- Goes on no more at sign c, number i, with v read: noughts ahead, no digit, or too much. -/
def stops (M : Nat) (c : UInt8) (i v : Nat) : Prop := (i = 1 ∧ v = 0) ∨ c.toNat < 48 ∨ 57 < c.toNat ∨ (M - (c.toNat - 48)) / 10 < v
instance (M : Nat) (c : UInt8) (i v : Nat) : Decidable (stops M c i v) := by unfold stops; exact inferInstance
/-- As many digits as make one number's text, of at most M. -/
def rd (M : Nat) : List UInt8 → Nat → Nat → Nat × Nat
  | [], i, v => (v, i)
  | c :: l, i, v => if stops M c i v then (v, i) else rd M l (i + 1) (10 * v + (c.toNat - 48))
theorem rd_nil (M i v : Nat) : rd M [] i v = (v, i) := rfl
theorem rd_stop (M : Nat) (c : UInt8) (l : List UInt8) (i v : Nat) (h : stops M c i v) : rd M (c :: l) i v = (v, i) := by simp [rd, h]
theorem rd_go (M : Nat) (c : UInt8) (l : List UInt8) (i v : Nat) (h : ¬ stops M c i v) : rd M (c :: l) i v = rd M l (i + 1) (10 * v + (c.toNat - 48)) := by simp [rd, h]
theorem rd_bounds (M : Nat) (hM : 9 ≤ M) : ∀ (l : List UInt8) (i v : Nat), v ≤ M → (rd M l i v).1 ≤ M ∧ i ≤ (rd M l i v).2 ∧ (rd M l i v).2 ≤ i + l.length := by
  intro l
  induction l with
  | nil => intro i v h; simp [rd, h]
  | cons c l ih =>
    intro i v h
    by_cases hs : stops M c i v
    · rw [rd_stop _ _ _ _ _ hs]; simp; omega
    · rw [rd_go _ _ _ _ _ hs]
      have := ih (i + 1) (10 * v + (c.toNat - 48)) (by unfold stops at hs; omega)
      simp; omega
/-- The longest beginning that is a number's text: the number, and how long. -/
def rdAll (l : List UInt8) : Int × Nat :=
  if l[0]? = some 45 then
    if (rd 9223372036854775808 (l.drop 1) 0 0).1 = 0 then (0, 0) else (-((rd 9223372036854775808 (l.drop 1) 0 0).1 : Int), (rd 9223372036854775808 (l.drop 1) 0 0).2 + 1)
  else (((rd 9223372036854775807 l 0 0).1 : Int), (rd 9223372036854775807 l 0 0).2)
theorem rdAll_bounds (l : List UInt8) : I64 (rdAll l).1 ∧ (rdAll l).2 ≤ l.length := by
  unfold rdAll I64
  split
  · rename_i h
    have h1 := rd_bounds 9223372036854775808 (by omega) (l.drop 1) 0 0 (by omega)
    have h2 : 0 < l.length := by
      cases l with
      | nil => simp at h
      | cons a t => simp
    rw [List.length_drop] at h1
    split
    · simp
    · simp only; omega
  · have h1 := rd_bounds 9223372036854775807 (by omega) l 0 0 (by omega)
    simp only; omega
end Go.Proofs.Ytbpplhlkpfdegaa.Bo
