/- Adding and taking away, digit by digit. No Go in sight. -/
import Derived.Test.YtbpplhlkpfdegaaBigMath
namespace Go.Proofs.Ytbpplhlkpfdegaa.Bo

/-- What was added up so far: the digits os, and c over. -/
def AddInv (xs ys os : List Nat) (k c : Nat) : Prop := os.length = k ∧ Ok os ∧ c ≤ 1 ∧ val os + 10 ^ k * (c + val (xs.drop k) + val (ys.drop k)) = val xs + val ys
theorem addInv_start (xs ys : List Nat) : AddInv xs ys [] 0 0 := ⟨rfl, Ok.nil, by omega, by simp [val]⟩
theorem addInv_step (xs ys os : List Nat) (k c : Nat) (ox : Ok xs) (oy : Ok ys) (h : AddInv xs ys os k c) :
    AddInv xs ys (os ++ [(xs.getD k 0 + ys.getD k 0 + c) % 10]) (k + 1) ((xs.getD k 0 + ys.getD k 0 + c) / 10) := by
  obtain ⟨hl, ho, hc, hv⟩ := h
  have hx := ox.getD k
  have hy := oy.getD k
  refine ⟨by simp [hl], ho.snoc (by omega), by omega, ?_⟩
  rw [val_snoc, hl, Nat.pow_succ]
  rw [val_drop xs k, val_drop ys k] at hv
  generalize xs.getD k 0 = X at *
  generalize ys.getD k 0 = Y at *
  generalize val (xs.drop (k + 1)) = A at *
  generalize val (ys.drop (k + 1)) = B at *
  rw [← hv]
  have e1 : c + (X + 10 * A) + (Y + 10 * B) = (X + Y + c) % 10 + 10 * ((X + Y + c) / 10 + A + B) := by omega
  rw [e1]
  generalize (X + Y + c) % 10 = d
  generalize (X + Y + c) / 10 + A + B = Q
  rw [Nat.mul_add, Nat.mul_assoc, Nat.add_assoc]
theorem addInv_end (xs ys os : List Nat) (c : Nat) (ox : Ok xs) (oy : Ok ys) (h : AddInv xs ys os (xs.length + ys.length + 1) c) : val os = val xs + val ys := by
  obtain ⟨hl, ho, hc, hv⟩ := h
  rw [List.drop_of_length_le (by omega), List.drop_of_length_le (by omega)] at hv
  have hx := val_lt xs ox
  have hy := val_lt ys oy
  have h1 : 10 ^ xs.length ≤ 10 ^ (xs.length + ys.length) := Nat.pow_le_pow_right (by omega) (by omega)
  have h2 : 10 ^ ys.length ≤ 10 ^ (xs.length + ys.length) := Nat.pow_le_pow_right (by omega) (by omega)
  have h3 : 10 ^ (xs.length + ys.length + 1) = 10 ^ (xs.length + ys.length) * 10 := Nat.pow_succ ..
  have h4 : c = 0 := by
    rcases Nat.eq_zero_or_pos c with h0 | h0
    · exact h0
    · obtain rfl : c = 1 := by omega
      simp [val] at hv
      omega
  subst h4
  simpa [val] using hv

/-- What was taken away so far: the digits os, and b borrowed. -/
def SubInv (xs ys os : List Nat) (k b : Nat) : Prop := os.length = k ∧ Ok os ∧ b ≤ 1 ∧ val os + val ys + 10 ^ k * val (xs.drop k) = val xs + 10 ^ k * (b + val (ys.drop k))
theorem subInv_start (xs ys : List Nat) : SubInv xs ys [] 0 0 := ⟨rfl, Ok.nil, by omega, by simp [val]; omega⟩
theorem subInv_step (xs ys os : List Nat) (k b d b' : Nat) (hd : d < 10) (hb : b' ≤ 1) (h : SubInv xs ys os k b) (he : xs.getD k 0 + 10 * b' = d + ys.getD k 0 + b) :
    SubInv xs ys (os ++ [d]) (k + 1) b' := by
  obtain ⟨hl, ho, hc, hv⟩ := h
  refine ⟨by simp [hl], ho.snoc hd, hb, ?_⟩
  rw [val_snoc, hl, Nat.pow_succ]
  rw [val_drop xs k, val_drop ys k] at hv
  generalize xs.getD k 0 = X at *
  generalize ys.getD k 0 = Y at *
  generalize val (xs.drop (k + 1)) = A at *
  generalize val (ys.drop (k + 1)) = B at *
  generalize 10 ^ k = P at *
  have e1 : P * (X + 10 * A) = P * X + P * 10 * A := by rw [Nat.mul_add, Nat.mul_assoc]
  have e2 : P * (b + (Y + 10 * B)) = P * b + P * Y + P * 10 * B := by rw [Nat.mul_add, Nat.mul_add, Nat.mul_assoc, Nat.add_assoc]
  have e3 : P * 10 * (b' + B) = P * (10 * b') + P * 10 * B := by rw [Nat.mul_add, Nat.mul_assoc]
  have e4 : P * X + P * (10 * b') = P * d + P * Y + P * b := by rw [← Nat.mul_add, he, Nat.mul_add, Nat.mul_add]
  rw [e1, e2] at hv
  rw [e3]
  omega
theorem subInv_end (xs ys os : List Nat) (b : Nat) (hle : val ys ≤ val xs) (h : SubInv xs ys os xs.length b) : val os = val xs - val ys := by
  obtain ⟨hl, ho, hc, hv⟩ := h
  rw [List.drop_of_length_le (Nat.le_refl _)] at hv
  have hlt := val_lt os ho
  rw [hl] at hlt
  have h4 : b + val (ys.drop xs.length) = 0 := by
    rcases Nat.eq_zero_or_pos (b + val (ys.drop xs.length)) with h0 | h0
    · exact h0
    · have := Nat.mul_le_mul_left (10 ^ xs.length) h0
      simp [val] at hv this
      omega
  rw [h4] at hv
  simp [val] at hv
  omega
end Go.Proofs.Ytbpplhlkpfdegaa.Bo
