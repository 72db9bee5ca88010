/- Plain facts on digits and texts of numbers. No Go in sight. -/
import Derived.Test.YtbpplhlkpfdegaaSatMath
namespace Go.Proofs.Ytbpplhlkpfdegaa.Bo

theorem ch_digit (d : Nat) (h : d < 10) : 48 ≤ (ch d).toNat ∧ (ch d).toNat ≤ 57 := by rw [ch_toNat d h]; omega
theorem pre_digits (m : Nat) : ∀ c ∈ pre m, 48 ≤ c.toNat ∧ c.toNat ≤ 57 := by
  induction m using Nat.strongRecOn with
  | _ m ih =>
    by_cases h : m = 0
    · subst h; simp [pre_zero]
    · rw [pre_pos m h]
      intro c hc
      rcases List.mem_append.1 hc with h1 | h1
      · exact ih (m / 10) (by omega) c h1
      · rw [List.mem_singleton.1 h1]; exact ch_digit _ (by omega)
theorem dg_digits (m : Nat) : ∀ c ∈ dg m, 48 ≤ c.toNat ∧ c.toNat ≤ 57 := by
  by_cases h : m = 0
  · subst h; intro c hc; simp [dg] at hc; subst hc; decide
  · simp only [dg, h, if_false]; exact pre_digits m
theorem pre_first (m : Nat) (h : m ≠ 0) : ∃ c t, pre m = c :: t ∧ 49 ≤ c.toNat ∧ c.toNat ≤ 57 := by
  induction m using Nat.strongRecOn with
  | _ m ih =>
    rw [pre_pos m h]
    by_cases h1 : m / 10 = 0
    · rw [h1, pre_zero]; exact ⟨ch (m % 10), [], rfl, by rw [ch_toNat _ (by omega)]; omega, by rw [ch_toNat _ (by omega)]; omega⟩
    · obtain ⟨c, t, e, hc⟩ := ih (m / 10) (by omega) h1
      exact ⟨c, t ++ [ch (m % 10)], by rw [e]; rfl, hc⟩
theorem dg_zero : dg 0 = [48] := by simp [dg]
theorem dg_first (m : Nat) (h : m ≠ 0) : ∃ c t, dg m = c :: t ∧ 49 ≤ c.toNat ∧ c.toNat ≤ 57 := by simp only [dg, h, if_false]; exact pre_first m h
theorem dg_ne (m : Nat) : (dg m)[0]? ≠ some 45 := by
  intro h
  have hm : (45 : UInt8) ∈ dg m := List.mem_of_getElem? h
  have := dg_digits m 45 hm
  exact absurd this (by decide)

theorem rd_pre (M : Nat) : ∀ (m : Nat) (rest : List UInt8), m ≤ M → rd M (pre m ++ rest) 0 0 = rd M rest (pre m).length m := by
  intro m
  induction m using Nat.strongRecOn with
  | _ m ih =>
    intro rest hm
    by_cases h : m = 0
    · subst h; simp [pre_zero]
    · have hlen : (pre m).length = (pre (m / 10)).length + 1 := by rw [pre_pos m h]; simp
      have hz : m / 10 = 0 → (pre (m / 10)).length = 0 := fun e => by rw [e, pre_zero]; rfl
      rw [hlen, pre_pos m h, List.append_assoc, ih (m / 10) (by omega) _ (by omega)]
      have hc := ch_toNat (m % 10) (by omega)
      rw [List.singleton_append, rd_go]
      · rw [hc]; congr 1; omega
      · unfold stops
        rw [hc]
        intro hs
        rcases hs with ⟨h1, h2⟩ | h1 | h1 | h1
        · have := hz h2; omega
        · omega
        · omega
        · omega
theorem rd_dg (M m : Nat) (rest : List UInt8) (hm : m ≤ M) : rd M (dg m ++ rest) 0 0 = rd M rest (dg m).length m := by
  have hlen : (dg m).length = (pre (m / 10)).length + 1 := by rw [dg_step m]; simp
  have hz : m / 10 = 0 → (pre (m / 10)).length = 0 := fun e => by rw [e, pre_zero]; rfl
  rw [hlen, dg_step m, List.append_assoc, rd_pre M (m / 10) _ (by omega)]
  have hc := ch_toNat (m % 10) (by omega)
  rw [List.singleton_append, rd_go]
  · rw [hc]; congr 1; omega
  · unfold stops
    rw [hc]
    intro hs
    rcases hs with ⟨h1, h2⟩ | h1 | h1 | h1
    · have := hz h2; omega
    · omega
    · omega
    · omega
/-- What stands behind a number goes not on with a digit. -/
def NoDigit (l : List UInt8) : Prop := ∀ c, l[0]? = some c → c.toNat < 48 ∨ 57 < c.toNat
theorem rd_rest (M : Nat) (l : List UInt8) (i v : Nat) (h : NoDigit l) : rd M l i v = (v, i) := by
  cases l with
  | nil => rfl
  | cons c t =>
    refine rd_stop _ _ _ _ _ ?_
    have := h c rfl
    unfold stops; omega
theorem rdAll_text (n : Int) (l : List UInt8) (hn : I64 n) (h : NoDigit l) : rdAll (textOf n ++ l) = (n, (textOf n).length) := by
  obtain ⟨h1, h2⟩ := hn
  by_cases hneg : n < 0
  · have ht : textOf n = 45 :: dg n.natAbs := by unfold textOf; rw [if_pos hneg]
    have hr : rd 9223372036854775808 (dg n.natAbs ++ l) 0 0 = (n.natAbs, (dg n.natAbs).length) := by
      rw [rd_dg _ _ _ (by omega), rd_rest _ _ _ _ h]
    unfold rdAll
    rw [ht, if_pos (by simp), List.cons_append, List.drop_one, List.tail_cons, hr]
    simp only
    rw [if_neg (by omega)]
    simp; omega
  · have ht : textOf n = dg n.natAbs := by unfold textOf; rw [if_neg hneg]
    have hr : rd 9223372036854775807 (dg n.natAbs ++ l) 0 0 = (n.natAbs, (dg n.natAbs).length) := by
      rw [rd_dg _ _ _ (by omega), rd_rest _ _ _ _ h]
    unfold rdAll
    have hl := (dg_len n.natAbs (by omega)).1
    rw [ht, if_neg (by rw [List.getElem?_append_left (by omega)]; exact dg_ne _), hr]
    simp; omega
theorem textOf_len (n : Int) (hn : I64 n) : 1 ≤ (textOf n).length ∧ (textOf n).length ≤ 20 := by
  obtain ⟨h1, h2⟩ := hn
  have := dg_len n.natAbs (by omega)
  unfold textOf; split <;> (try simp) <;> omega
end Go.Proofs.Ytbpplhlkpfdegaa.Bo
