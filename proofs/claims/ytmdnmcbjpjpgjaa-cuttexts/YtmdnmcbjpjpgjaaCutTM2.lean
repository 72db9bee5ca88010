/- The longest beginning that is a cut's text. -/
import Derived.Test.YtmdnmcbjpjpgjaaCutTM
namespace Go.Proofs.Ytmdnmcbjpjpgjaa.Bo
theorem dg_head (m : Nat) : ∃ c t, dg m = c :: t ∧ 48 ≤ c.toNat ∧ c.toNat ≤ 57 := by
  by_cases h : m = 0
  · subst h; exact ⟨48, [], dg_zero, by decide, by decide⟩
  · obtain ⟨c, t, h1, h2, h3⟩ := dg_first m h
    exact ⟨c, t, h1, by omega, h3⟩
theorem no_inf (k : Int) (l : List UInt8) : (textOf k ++ l).take 4 ≠ [45, 105, 110, 102] ∧ (textOf k ++ l).take 4 ≠ [43, 105, 110, 102] := by
  by_cases h : k < 0
  · rw [textOf_neg k h]
    obtain ⟨c, t, h1, h2, h3⟩ := dg_head k.natAbs
    rw [h1]
    refine ⟨fun e => ?_, fun e => ?_⟩
    · simp at e
      have := e.1
      subst this
      revert h3; decide
    · simp at e
  · rw [textOf_pos k h]
    obtain ⟨c, t, h1, h2, h3⟩ := dg_head k.natAbs
    rw [h1]
    refine ⟨fun e => ?_, fun e => ?_⟩
    · simp at e
      have := e.1
      subst this
      revert h2; decide
    · simp at e
      have := e.1
      subst this
      revert h2; decide
theorem text_ne_inf (k : Int) : textOf k ≠ [45, 105, 110, 102] ∧ textOf k ≠ [43, 105, 110, 102] := by
  have h := no_inf k []
  rw [List.append_nil] at h
  exact ⟨fun e => h.1 (by rw [e]; rfl), fun e => h.2 (by rw [e]; rfl)⟩
theorem mid_i64 (k : Int) (h1 : -9223372036854775808 < k) (h2 : k < 9223372036854775808) : I64 k := by unfold I64; omega
theorem ktext_len (k : Int) (h : Ky k) : 1 ≤ (ktext k).length ∧ (ktext k).length ≤ 20 := by
  rcases ky_cases k h with ⟨rfl, _, _⟩ | ⟨rfl, _, _⟩ | ⟨g1, g2, _, _⟩
  · rw [ktext_lo]; decide
  · rw [ktext_hi]; decide
  · rw [ktext_mid k g1 g2]; exact textOf_len k (mid_i64 k g1 g2)
theorem ktext_inj (k l : Int) (hk : Ky k) (hl : Ky l) (h : ktext k = ktext l) : k = l := by
  rcases ky_cases k hk with ⟨rfl, _, _⟩ | ⟨rfl, _, _⟩ | ⟨g1, g2, _, _⟩ <;> rcases ky_cases l hl with ⟨rfl, _, _⟩ | ⟨rfl, _, _⟩ | ⟨f1, f2, _, _⟩
  · rfl
  · rw [ktext_lo, ktext_hi] at h; exact absurd h (by decide)
  · rw [ktext_lo, ktext_mid l f1 f2] at h; exact absurd h.symm (text_ne_inf l).1
  · rw [ktext_lo, ktext_hi] at h; exact absurd h (by decide)
  · rfl
  · rw [ktext_hi, ktext_mid l f1 f2] at h; exact absurd h.symm (text_ne_inf l).2
  · rw [ktext_lo, ktext_mid k g1 g2] at h; exact absurd h (text_ne_inf k).1
  · rw [ktext_hi, ktext_mid k g1 g2] at h; exact absurd h (text_ne_inf k).2
  · rw [ktext_mid k g1 g2, ktext_mid l f1 f2] at h; exact textOf_inj _ _ (mid_i64 k g1 g2) (mid_i64 l f1 f2) h
/-- A number's text that is no cut's: the least one's. -/
theorem text_least_no (k : Int) (hk : Ky k) : textOf (-9223372036854775808) ≠ ktext k := by
  intro h
  rcases ky_cases k hk with ⟨rfl, _, _⟩ | ⟨rfl, _, _⟩ | ⟨g1, g2, _, _⟩
  · rw [ktext_lo] at h; exact (text_ne_inf _).1 h
  · rw [ktext_hi] at h; exact (text_ne_inf _).2 h
  · rw [ktext_mid k g1 g2] at h
    have := textOf_inj _ _ (by unfold I64; omega) (mid_i64 k g1 g2) h
    omega
theorem rdCut_is (l : List UInt8) : ((rdCut l).2 = 0 ∧ (rdCut l).1 = 0) ∨ ((rdCut l).2 ≠ 0 ∧ Ky (rdCut l).1 ∧ l.take (rdCut l).2 = ktext (rdCut l).1 ∧ (rdCut l).2 ≤ l.length) := by
  unfold rdCut
  split
  · rename_i h; refine .inr ⟨by decide, ⟨by decide, by decide⟩, by rw [h, ktext_lo], ?_⟩
    have := congrArg List.length h; rw [List.length_take] at this; simp at this; simp; omega
  · split
    · rename_i h; refine .inr ⟨by decide, ⟨by decide, by decide⟩, by rw [h, ktext_hi], ?_⟩
      have := congrArg List.length h; rw [List.length_take] at this; simp at this; simp; omega
    · split
      · rename_i h
        obtain ⟨h1, h2, h3⟩ := rdAll_least l h
        refine .inr ⟨by decide, ⟨by decide, by decide⟩, ?_, by simp; omega⟩
        rcases rdAll_is (l.take 19) with ⟨h4, _⟩ | ⟨_, h4⟩
        · rw [h3] at h4; exact absurd h4 (by decide)
        · rw [h3, List.take_take] at h4
          rw [ktext_mid _ (by decide) (by decide)]
          exact h4
      · rename_i h
        have hb := rdAll_bounds l
        rcases rdAll_is l with h1 | ⟨h1, h2⟩
        · exact .inl h1
        · have hi := hb.1
          unfold I64 at hi
          refine .inr ⟨h1, by unfold Ky; omega, ?_, hb.2⟩
          rw [ktext_mid _ (by omega) (by omega)]; exact h2
theorem rdCut_far (l : List UInt8) (k : Int) (j : Nat) (hk : Ky k) (h : l.take j = ktext k) (hj : j ≤ l.length) : j ≤ (rdCut l).2 := by
  have hlen := congrArg List.length h
  rw [List.length_take, Nat.min_eq_left hj] at hlen
  rcases ky_cases k hk with ⟨rfl, _, _⟩ | ⟨rfl, _, _⟩ | ⟨g1, g2, _, _⟩
  · rw [ktext_lo] at h hlen
    have : j = 4 := hlen
    subst this
    unfold rdCut; rw [if_pos h]; exact Nat.le_refl _
  · rw [ktext_hi] at h hlen
    have : j = 4 := hlen
    subst this
    unfold rdCut; rw [if_neg (by rw [h]; decide), if_pos h]; exact Nat.le_refl _
  · rw [ktext_mid k g1 g2] at h
    have hn := no_inf k (l.drop j)
    rw [← h, List.take_append_drop] at hn
    have hf := rdAll_far l k j (mid_i64 k g1 g2) h hj
    unfold rdCut
    rw [if_neg hn.1, if_neg hn.2]
    split
    · rename_i h1
      obtain ⟨h2, h3, _⟩ := rdAll_least l h1
      show j ≤ 19
      rcases Nat.lt_or_ge j 20 with h4 | h4
      · omega
      · have : j = 20 := by omega
        subst this
        rcases rdAll_is l with ⟨h5, _⟩ | ⟨_, h5⟩
        · omega
        · rw [h2, h1, h] at h5
          have := textOf_inj _ _ (mid_i64 k g1 g2) (by unfold I64; omega) h5
          omega
    · exact hf
/-- Which beginnings are no cut's text. -/
def NoCut (l : List UInt8) (j n : Nat) : Prop := ∀ i, j < i → i ≤ n → ∀ k, Ky k → l.take i ≠ ktext k
theorem rdCut_hit (l : List UInt8) (j n : Nat) (k : Int) (hj : 0 < j) (hjn : j ≤ n) (hn : n ≤ l.length) (hn20 : n = l.length ∨ 20 ≤ n) (hk : Ky k) (h : l.take j = ktext k) (hno : NoCut l j n) : rdCut l = (k, j) := by
  have hf := rdCut_far l k j hk h (by omega)
  rcases rdCut_is l with ⟨h0, _⟩ | ⟨h0, hk2, ht, hb⟩
  · omega
  · have he : (rdCut l).2 = j := by
      rcases Nat.lt_or_ge j (rdCut l).2 with hlt | hge
      · exfalso
        have hle : (rdCut l).2 ≤ n := by
          rcases hn20 with e | e
          · rw [e]; exact hb
          · have hl := ktext_len _ hk2
            rw [← ht, List.length_take] at hl
            omega
        exact hno _ hlt hle _ hk2 ht
      · omega
    rw [he, h] at ht
    exact Prod.ext (ktext_inj _ _ hk hk2 ht).symm he
theorem rdCut_miss (l : List UInt8) (n : Nat) (hn20 : n = l.length ∨ 20 ≤ n) (hno : NoCut l 0 n) : rdCut l = (0, 0) := by
  rcases rdCut_is l with ⟨h0, h1⟩ | ⟨h0, hk2, ht, hb⟩
  · exact Prod.ext h1 h0
  · exfalso
    have hle : (rdCut l).2 ≤ n := by
      rcases hn20 with e | e
      · rw [e]; exact hb
      · have hl := ktext_len _ hk2
        rw [← ht, List.length_take] at hl
        omega
    exact hno _ (by omega) hle _ hk2 ht
/-- Back: a cut's text, with another sign than a digit behind it, is read as the cut. -/
theorem rdCut_text (k : Int) (l : List UInt8) (hk : Ky k) (hd : NoDigit l) : rdCut (ktext k ++ l) = (k, (ktext k).length) := by
  rcases ky_cases k hk with ⟨rfl, _, _⟩ | ⟨rfl, _, _⟩ | ⟨g1, g2, _, _⟩
  · rw [ktext_lo]; unfold rdCut; rw [if_pos (by rfl)]; rfl
  · rw [ktext_hi]; unfold rdCut; rw [if_neg (by simp), if_pos (by rfl)]; rfl
  · rw [ktext_mid k g1 g2]
    have hn := no_inf k l
    have hr := rdAll_text k l (mid_i64 k g1 g2) hd
    unfold rdCut
    rw [if_neg hn.1, if_neg hn.2, hr, if_neg (by show ¬ k = _; omega)]
end Go.Proofs.Ytmdnmcbjpjpgjaa.Bo
