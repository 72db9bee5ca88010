/- Rows of digits as whole numbers, the lowest one first. No Go in sight. -/
import Derived.Test.YtbpplhlkpfdegaaSatMath
namespace Go.Proofs.Ytbpplhlkpfdegaa.Bo

/-- What a row of digits is worth. -/
def val : List Nat → Nat
  | [] => 0
  | d :: l => d + 10 * val l
/-- All are digits. -/
def Ok (xs : List Nat) : Prop := ∀ d ∈ xs, d < 10
theorem Ok.nil : Ok [] := by intro d h; cases h
theorem Ok.getD {xs : List Nat} (h : Ok xs) (i : Nat) : xs.getD i 0 < 10 := by
  by_cases hi : i < xs.length
  · rw [List.getD_eq_getElem?_getD, List.getElem?_eq_getElem hi]; exact h _ (List.getElem_mem hi)
  · rw [List.getD_eq_getElem?_getD, List.getElem?_eq_none (by omega)]; decide
theorem Ok.snoc {xs : List Nat} (h : Ok xs) {d : Nat} (hd : d < 10) : Ok (xs ++ [d]) := by
  intro e he
  rcases List.mem_append.1 he with h1 | h1
  · exact h e h1
  · rw [List.mem_singleton.1 h1]; exact hd
theorem Ok.take {xs : List Nat} (h : Ok xs) (n : Nat) : Ok (xs.take n) := fun d hd => h d (List.mem_of_mem_take hd)
theorem val_append (xs ys : List Nat) : val (xs ++ ys) = val xs + 10 ^ xs.length * val ys := by
  induction xs with
  | nil => simp [val]
  | cons d l ih => simp only [List.cons_append, val, ih, List.length_cons, Nat.pow_succ, Nat.mul_add]; rw [Nat.mul_comm (10 ^ l.length) 10, Nat.mul_assoc]; omega
theorem val_snoc (xs : List Nat) (d : Nat) : val (xs ++ [d]) = val xs + 10 ^ xs.length * d := by rw [val_append]; simp [val]
theorem val_lt (xs : List Nat) (h : Ok xs) : val xs < 10 ^ xs.length := by
  induction xs with
  | nil => simp [val]
  | cons d l ih =>
    have h1 := ih (fun e he => h e (List.mem_cons_of_mem _ he))
    have h2 := h d (by simp)
    simp only [val, List.length_cons, Nat.pow_succ]; omega
theorem val_low (m : Nat) : val (low m) = m := by
  induction m using Nat.strongRecOn with
  | _ m ih =>
    by_cases h : m = 0
    · subst h; simp [low_zero, val]
    · rw [low_pos m h, val, ih (m / 10) (by omega)]; omega
theorem low_ok (m : Nat) : Ok (low m) := by
  induction m using Nat.strongRecOn with
  | _ m ih =>
    by_cases h : m = 0
    · subst h; rw [low_zero]; exact Ok.nil
    · rw [low_pos m h]
      intro d hd
      rcases List.mem_cons.1 hd with rfl | h1
      · omega
      · exact ih (m / 10) (by omega) d h1
/-- From place i on. -/
theorem val_drop (xs : List Nat) (i : Nat) : val (xs.drop i) = xs.getD i 0 + 10 * val (xs.drop (i + 1)) := by
  by_cases hi : i < xs.length
  · rw [List.drop_eq_getElem_cons hi, val, List.getD_eq_getElem?_getD, List.getElem?_eq_getElem hi]; rfl
  · rw [List.drop_of_length_le (by omega), List.drop_of_length_le (by omega), List.getD_eq_getElem?_getD, List.getElem?_eq_none (by omega)]; rfl
/-- One that is more from place i on is more. -/
theorem val_lt_down (xs ys : List Nat) (h : Ok xs) : ∀ i, val (xs.drop i) < val (ys.drop i) → val xs < val ys := by
  intro i
  induction i with
  | zero => intro hlt; simpa using hlt
  | succ i ih =>
    intro hlt
    refine ih ?_
    rw [val_drop xs i, val_drop ys i]
    have := h.getD i
    omega
theorem val_take_succ (xs : List Nat) (i : Nat) (h : i < xs.length) : val (xs.take (i + 1)) = val (xs.take i) + 10 ^ i * xs[i] := by
  rw [List.take_succ_eq_append_getElem h, val_snoc, List.length_take, Nat.min_eq_left (by omega)]
/-- The number that s times v is, or the end beyond which it is: by the limit of its sign. -/
def lim (s : Int) : Nat := if s < 0 then 9223372036854775808 else 9223372036854775807
theorem clamp_sign (s : Int) (v : Nat) (hs : s = -1 ∨ s = 0 ∨ s = 1) : clamp (s * (v : Int)) = s * ((if lim s < v then lim s else v : Nat) : Int) := by
  rcases hs with rfl | rfl | rfl
  · have e : lim (-1) = 9223372036854775808 := rfl
    rw [e]; unfold clamp; split <;> (try split) <;> (try split) <;> omega
  · simp [clamp]
  · have e : lim 1 = 9223372036854775807 := rfl
    rw [e]; unfold clamp; split <;> (try split) <;> (try split) <;> omega
/-- What was reckoned so far is a number, and goes on to be one. -/
theorem sign_step (s : Int) (v d x : Nat) (hs : s = -1 ∨ s = 0 ∨ s = 1) (hx : x ≤ lim s) (h : d + 10 * v ≤ x) :
    I64 (s * (v : Int)) ∧ I64 (s * (v : Int) * 10) ∧ I64 (s * (d : Int)) ∧ I64 (s * (v : Int) * 10 + s * (d : Int)) ∧ s * (v : Int) * 10 + s * (d : Int) = s * ((d + 10 * v : Nat) : Int) := by
  unfold I64
  rcases hs with rfl | rfl | rfl
  · have e : lim (-1) = 9223372036854775808 := rfl
    omega
  · simp
  · have e : lim 1 = 9223372036854775807 := rfl
    omega
theorem val_drop_le (xs : List Nat) (i : Nat) : val (xs.drop i) ≤ val xs := by
  induction i with
  | zero => simp
  | succ i ih => have := val_drop xs i; omega
theorem val_zeros (xs : List Nat) : val (xs ++ [0]) = val xs := by rw [val_snoc]; simp
end Go.Proofs.Ytbpplhlkpfdegaa.Bo
