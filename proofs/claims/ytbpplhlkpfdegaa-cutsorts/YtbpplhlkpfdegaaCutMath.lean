/- Cuts as keys: a right cut is a whole number from -2^63 (ahead of all) to 2^63 (behind all). -/
import Derived.Test.YtbpplhlkpfdegaaSatMath
namespace Go.Proofs.Ytbpplhlkpfdegaa.Bo
/-- The key of a cut: the number behind it; of the last one 2^63. -/
def key (s a : Int) : Int := if s < 0 then -9223372036854775808 else if 0 < s then 9223372036854775808 else a
/-- Side and At of the right cut of a key. -/
def sd (k : Int) : Int := if k = -9223372036854775808 then -1 else if k = 9223372036854775808 then 1 else 0
def pa (k : Int) : Int := if k = -9223372036854775808 then 0 else if k = 9223372036854775808 then 0 else k
/-- A key. -/
def Ky (k : Int) : Prop := -9223372036854775808 ≤ k ∧ k ≤ 9223372036854775808
theorem key_ky (s a : Int) (ha : I64 a) : Ky (key s a) := by unfold I64 at ha; unfold key Ky; split <;> (try split) <;> omega
theorem sd_lo : sd (-9223372036854775808) = -1 := by decide
theorem pa_lo : pa (-9223372036854775808) = 0 := by decide
theorem sd_hi : sd 9223372036854775808 = 1 := by decide
theorem pa_hi : pa 9223372036854775808 = 0 := by decide
theorem sd_mid (k : Int) (h : k ≠ -9223372036854775808) (h2 : k ≠ 9223372036854775808) : sd k = 0 := by unfold sd; rw [if_neg h, if_neg h2]
theorem pa_mid (k : Int) (h : k ≠ -9223372036854775808) (h2 : k ≠ 9223372036854775808) : pa k = k := by unfold pa; rw [if_neg h, if_neg h2]
theorem key_neg (s a : Int) (h : s < 0) : key s a = -9223372036854775808 := by unfold key; rw [if_pos h]
theorem key_pos (s a : Int) (h : 0 < s) : key s a = 9223372036854775808 := by unfold key; rw [if_neg (by omega), if_pos h]
theorem key_zero (a : Int) : key 0 a = a := by unfold key; simp
/-- A key's three kinds. -/
theorem ky_cases (k : Int) (h : Ky k) : (k = -9223372036854775808 ∧ sd k = -1 ∧ pa k = 0) ∨ (k = 9223372036854775808 ∧ sd k = 1 ∧ pa k = 0) ∨ (-9223372036854775808 < k ∧ k < 9223372036854775808 ∧ sd k = 0 ∧ pa k = k) := by
  unfold Ky at h
  by_cases h1 : k = -9223372036854775808
  · subst h1; exact .inl ⟨rfl, sd_lo, pa_lo⟩
  · by_cases h2 : k = 9223372036854775808
    · subst h2; exact .inr (.inl ⟨rfl, sd_hi, pa_hi⟩)
    · exact .inr (.inr ⟨by omega, by omega, sd_mid k h1 h2, pa_mid k h1 h2⟩)
/-- Going back: a key's cut has that key. -/
theorem key_back (k : Int) (h : Ky k) : key (sd k) (pa k) = k := by
  rcases ky_cases k h with ⟨rfl, h1, h2⟩ | ⟨rfl, h1, h2⟩ | ⟨_, _, h1, h2⟩ <;> rw [h1, h2] <;> unfold key <;> simp
theorem ky_inj (k l : Int) (hk : Ky k) (hl : Ky l) (h1 : sd k = sd l) (h2 : pa k = pa l) : k = l := by rw [← key_back k hk, ← key_back l hl, h1, h2]
theorem pa_i64 (k : Int) (h : Ky k) : I64 (pa k) := by
  unfold I64
  rcases ky_cases k h with ⟨rfl, h1, h2⟩ | ⟨rfl, h1, h2⟩ | ⟨_, _, h1, h2⟩ <;> rw [h2] <;> omega
theorem sd_i64 (k : Int) : I64 (sd k) := by unfold sd I64; split <;> (try split) <;> omega
/-- The order of two keys, as a number. -/
def kcmp (a b : Int) : Int := if a < b then -1 else if b < a then 1 else 0
theorem kcmp_lt (a b : Int) (h : a < b) : kcmp a b = -1 := by unfold kcmp; rw [if_pos h]
theorem kcmp_gt (a b : Int) (h : b < a) : kcmp a b = 1 := by unfold kcmp; rw [if_neg (by omega), if_pos h]
theorem kcmp_eq (a b : Int) (h : a = b) : kcmp a b = 0 := by unfold kcmp; rw [if_neg (by omega), if_neg (by omega)]
theorem lt_side (k l : Int) (hk : Ky k) (hl : Ky l) (h : sd k ≠ sd l) : decide (sd k < sd l) = decide (k < l) := by
  unfold Ky at hk hl
  rcases ky_cases k hk with ⟨g, h1, h2⟩ | ⟨g, h1, h2⟩ | ⟨g, g', h1, h2⟩ <;> rcases ky_cases l hl with ⟨f, h3, h4⟩ | ⟨f, h3, h4⟩ | ⟨f, f', h3, h4⟩ <;> rw [h1, h3] at h ⊢ <;>
    first
      | exact absurd rfl h
      | (rw [decide_eq_true (show (_ : Int) < _ by omega), decide_eq_true (show (_ : Int) < _ by omega)])
      | (rw [decide_eq_false (show ¬ (_ : Int) < _ by omega), decide_eq_false (show ¬ (_ : Int) < _ by omega)])
theorem lt_at (k l : Int) (hk : Ky k) (hl : Ky l) (h : sd k = sd l) : decide (pa k < pa l) = decide (k < l) := by
  unfold Ky at hk hl
  rcases ky_cases k hk with ⟨g, h1, h2⟩ | ⟨g, h1, h2⟩ | ⟨g, g', h1, h2⟩ <;> rcases ky_cases l hl with ⟨f, h3, h4⟩ | ⟨f, h3, h4⟩ | ⟨f, f', h3, h4⟩ <;> rw [h1, h3] at h <;> rw [h2, h4] <;>
    first
      | rfl
      | (exfalso; revert h; decide)
      | (rw [g, f]; rfl)
/-- The number behind a cut, and whether there is one; the number ahead of it, and whether there is one. -/
def nx (k : Int) : Int := if k = 9223372036854775808 then 0 else k
def nxb (k : Int) : Bool := decide (k ≠ 9223372036854775808)
def pv (k : Int) : Int := if k = -9223372036854775808 then 0 else k - 1
def pvb (k : Int) : Bool := decide (k ≠ -9223372036854775808)
theorem nx_in (k : Int) (h : k < 9223372036854775808) : nx k = k ∧ nxb k = true := by unfold nx nxb; rw [if_neg (by omega)]; exact ⟨rfl, decide_eq_true (by omega)⟩
theorem pv_in (k : Int) (h : -9223372036854775808 < k) : pv k = k - 1 ∧ pvb k = true := by unfold pv pvb; rw [if_neg (by omega)]; exact ⟨rfl, decide_eq_true (by omega)⟩
theorem nx_hi : nx 9223372036854775808 = 0 ∧ nxb 9223372036854775808 = false := by decide
theorem pv_lo : pv (-9223372036854775808) = 0 ∧ pvb (-9223372036854775808) = false := by decide
/-- A cut taken elsewhere: its key (0 where there is none), and whether there is one. -/
def shk (k d : Int) : Int := if k = -9223372036854775808 ∨ k = 9223372036854775808 then k else if -9223372036854775808 < k + d ∧ k + d < 9223372036854775808 then k + d else 0
def shb (k d : Int) : Bool := if k = -9223372036854775808 ∨ k = 9223372036854775808 then true else decide (-9223372036854775808 < k + d ∧ k + d < 9223372036854775808)
theorem sh_end (k d : Int) (h : k = -9223372036854775808 ∨ k = 9223372036854775808) : shk k d = k ∧ shb k d = true := by unfold shk shb; rw [if_pos h, if_pos h]; exact ⟨rfl, rfl⟩
theorem sh_in (k d : Int) (h1 : -9223372036854775808 < k) (h2 : k < 9223372036854775808) (h3 : -9223372036854775808 < k + d ∧ k + d < 9223372036854775808) : shk k d = k + d ∧ shb k d = true := by
  unfold shk shb; rw [if_neg (by omega), if_pos h3, if_neg (by omega)]; exact ⟨rfl, decide_eq_true h3⟩
theorem sh_out (k d : Int) (h1 : -9223372036854775808 < k) (h2 : k < 9223372036854775808) (h3 : ¬ (-9223372036854775808 < k + d ∧ k + d < 9223372036854775808)) : shk k d = 0 ∧ shb k d = false := by
  unfold shk shb; rw [if_neg (by omega), if_neg h3, if_neg (by omega)]; exact ⟨rfl, decide_eq_false h3⟩
/-- The way back from an end is another one. -/
theorem short_iff (k d : Int) (hk : I64 k) (hd : I64 d) : clamp (clamp (k + d) - d) = k ↔ I64 (k + d) := by
  unfold I64 at hk hd ⊢
  constructor
  · intro h
    by_cases h1 : 9223372036854775807 < k + d
    · rw [clamp_up (k + d) (by omega)] at h
      rw [clamp_in _ ⟨by omega, by omega⟩] at h
      omega
    · by_cases h2 : k + d < -9223372036854775808
      · rw [clamp_down (k + d) (by omega)] at h
        rw [clamp_in _ ⟨by omega, by omega⟩] at h
        omega
      · omega
  · intro h
    rw [clamp_in (k + d) h, show k + d - d = k by omega, clamp_in k hk]
end Go.Proofs.Ytbpplhlkpfdegaa.Bo
