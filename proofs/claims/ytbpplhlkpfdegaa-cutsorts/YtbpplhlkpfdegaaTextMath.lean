/- Which texts are numbers', and the longest beginning that is one. No Go in sight. -/
import Derived.Test.YtbpplhlkpfdegaaSatDig
namespace Go.Proofs.Ytbpplhlkpfdegaa.Bo

theorem rd_mono (M : Nat) : ∀ (l : List UInt8) (i v : Nat), v ≤ (rd M l i v).1 := by
  intro l
  induction l with
  | nil => intro i v; exact Nat.le_refl _
  | cons c l ih =>
    intro i v
    by_cases hs : stops M c i v
    · rw [rd_stop _ _ _ _ _ hs]; exact Nat.le_refl _
    · rw [rd_go _ _ _ _ _ hs]
      have := ih (i + 1) (10 * v + (c.toNat - 48))
      omega
theorem ch_of_digit (c : UInt8) (h1 : 48 ≤ c.toNat) (h2 : c.toNat ≤ 57) : ch (c.toNat - 48) = c := by
  apply UInt8.toNat_inj.1
  rw [ch_toNat _ (by omega)]; omega
/-- What was read stands ahead as the number's text. -/
theorem rd_text (M : Nat) : ∀ (l p : List UInt8) (v : Nat), (p = [] ∧ v = 0) ∨ (p = dg v) → 
    ((p ++ l).take (rd M l p.length v).2 = [] ∧ (rd M l p.length v).1 = 0 ∧ (rd M l p.length v).2 = 0) ∨ (p ++ l).take (rd M l p.length v).2 = dg (rd M l p.length v).1 := by
  intro l
  induction l with
  | nil =>
    intro p v h
    rw [rd_nil]
    rcases h with ⟨rfl, rfl⟩ | rfl
    · left; simp
    · right; simp
  | cons c l ih =>
    intro p v h
    by_cases hs : stops M c p.length v
    · rw [rd_stop _ _ _ _ _ hs]
      rcases h with ⟨rfl, rfl⟩ | rfl
      · left; simp
      · right; simp
    · rw [rd_go _ _ _ _ _ hs]
      have hd : 48 ≤ c.toNat ∧ c.toNat ≤ 57 := by unfold stops at hs; omega
      have hp : p ++ [c] = dg (10 * v + (c.toNat - 48)) := by
        rw [dg_step, show (10 * v + (c.toNat - 48)) / 10 = v from by omega, show (10 * v + (c.toNat - 48)) % 10 = c.toNat - 48 from by omega, ch_of_digit c hd.1 hd.2]
        rcases h with ⟨rfl, rfl⟩ | hv
        · rw [pre_zero]
        · have hv0 : v ≠ 0 := by
            rintro rfl
            rw [dg_zero] at hv
            subst hv
            unfold stops at hs
            simp at hs
          rw [hv]
          simp [dg, hv0]
      have := ih (p ++ [c]) (10 * v + (c.toNat - 48)) (Or.inr hp)
      rw [List.length_append, List.length_singleton, List.append_assoc, List.singleton_append] at this
      exact this
theorem dg_pos (m : Nat) : 1 ≤ (dg m).length := by rw [dg_step]; simp
theorem rd_text0 (M : Nat) (l : List UInt8) : ((rd M l 0 0).1 = 0 ∧ (rd M l 0 0).2 = 0) ∨ ((rd M l 0 0).2 ≠ 0 ∧ l.take (rd M l 0 0).2 = dg (rd M l 0 0).1) := by
  have h := rd_text M l [] 0 (Or.inl ⟨rfl, rfl⟩)
  simp only [List.nil_append, List.length_nil] at h
  rcases h with ⟨_, h2, h3⟩ | h
  · left; exact ⟨h2, h3⟩
  · right
    refine ⟨fun h0 => ?_, h⟩
    rw [h0] at h
    have := congrArg List.length h
    have hl := dg_pos (rd M l 0 0).1
    simp at this
    omega
theorem rd_far (M : Nat) (hM : 9 ≤ M) (l : List UInt8) (m j : Nat) (hm : m ≤ M) (h : l.take j = dg m) (hj : j ≤ l.length) : j ≤ (rd M l 0 0).2 ∧ m ≤ (rd M l 0 0).1 := by
  have hl : l = dg m ++ l.drop j := by rw [← h, List.take_append_drop]
  have hlen : (dg m).length = j := by rw [← h, List.length_take, Nat.min_eq_left hj]
  have hr : rd M l 0 0 = rd M (l.drop j) (dg m).length m := by
    conv => lhs; rw [hl]
    exact rd_dg M m _ hm
  rw [hr]
  have h1 := rd_bounds M hM (l.drop j) (dg m).length m hm
  exact ⟨by omega, rd_mono M _ _ _⟩

/-- What was read is a number's text, and no longer beginning is one. -/
theorem rdAll_is (l : List UInt8) : ((rdAll l).2 = 0 ∧ (rdAll l).1 = 0) ∨ ((rdAll l).2 ≠ 0 ∧ l.take (rdAll l).2 = textOf (rdAll l).1) := by
  unfold rdAll
  by_cases h : l[0]? = some 45
  · rw [if_pos h]
    have ht := rd_text0 9223372036854775808 (l.drop 1)
    generalize rd 9223372036854775808 (l.drop 1) 0 0 = R at *
    obtain ⟨v, k⟩ := R
    simp only at ht ⊢
    by_cases hv : v = 0
    · rw [if_pos hv]; left; exact ⟨rfl, rfl⟩
    · rw [if_neg hv]
      right
      refine ⟨by simp, ?_⟩
      rcases ht with ⟨h1, _⟩ | ⟨_, h2⟩
      · exact absurd h1 hv
      · cases l with
        | nil => simp at h
        | cons c t =>
          simp at h
          subst h
          simp only [List.drop_one, List.tail_cons] at h2
          simp only [List.take_succ_cons, h2, textOf]
          rw [if_pos (by omega)]
          simp
  · rw [if_neg h]
    have ht := rd_text0 9223372036854775807 l
    generalize rd 9223372036854775807 l 0 0 = R at *
    obtain ⟨v, k⟩ := R
    simp only at ht ⊢
    rcases ht with ⟨h1, h2⟩ | ⟨h1, h2⟩
    · left; exact ⟨h2, by omega⟩
    · right
      refine ⟨h1, ?_⟩
      rw [h2, textOf, if_neg (by omega)]
      simp
theorem textOf_neg (z : Int) (h : z < 0) : textOf z = 45 :: dg z.natAbs := by unfold textOf; rw [if_pos h]
theorem textOf_pos (z : Int) (h : ¬ z < 0) : textOf z = dg z.natAbs := by unfold textOf; rw [if_neg h]
theorem rdAll_far (l : List UInt8) (z : Int) (j : Nat) (hz : I64 z) (h : l.take j = textOf z) (hj : j ≤ l.length) : j ≤ (rdAll l).2 := by
  obtain ⟨hz1, hz2⟩ := hz
  have hlz := textOf_len z ⟨hz1, hz2⟩
  have hjl : (textOf z).length = j := by rw [← h, List.length_take, Nat.min_eq_left hj]
  have h0 : l[0]? = (textOf z)[0]? := by rw [← h, List.getElem?_take, if_pos (by omega)]
  unfold rdAll
  by_cases hneg : z < 0
  · rw [textOf_neg z hneg] at h h0 hjl
    rw [if_pos (by rw [h0]; rfl)]
    cases l with
    | nil => simp at h0
    | cons c t =>
      simp at h0
      subst h0
      obtain ⟨i, rfl⟩ : ∃ i, j = i + 1 := ⟨j - 1, by simp at hjl; omega⟩
      simp only [List.take_succ_cons, List.cons.injEq, true_and] at h
      have hf := rd_far 9223372036854775808 (by omega) t z.natAbs i (by omega) h (by simp at hj; exact hj)
      simp only [List.drop_one, List.tail_cons]
      rw [if_neg (by omega)]
      simp only
      omega
  · rw [textOf_pos z hneg] at h h0
    rw [if_neg (by rw [h0]; exact dg_ne _)]
    exact (rd_far 9223372036854775807 (by omega) l z.natAbs j (by omega) h hj).1
theorem textOf_inj (a b : Int) (ha : I64 a) (hb : I64 b) (h : textOf a = textOf b) : a = b := by
  have h1 := rdAll_text a [] ha (by intro c hc; simp at hc)
  have h2 := rdAll_text b [] hb (by intro c hc; simp at hc)
  rw [List.append_nil] at h1 h2
  rw [h] at h1
  rw [h1] at h2
  exact (Prod.mk.inj h2).1
end Go.Proofs.Ytbpplhlkpfdegaa.Bo
