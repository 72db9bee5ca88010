/- What the reference's sort does, on keys. -/
import Derived.Test.YtbpplhlkpfdegaaCutSM
namespace Go.Proofs.Ytbpplhlkpfdegaa.Bo
/-- The last key of a row; below all keys, if there is none. -/
def lb (os : List Int) : Int := (os.getLast?).getD (-9223372036854775809)
theorem lb_nil : lb [] = -9223372036854775809 := rfl
theorem lb_snoc (os : List Int) (m : Int) : lb (os ++ [m]) = m := by unfold lb; simp
theorem lb_get (os : List Int) (h : 0 < os.length) : lb os = os[os.length - 1] := by
  unfold lb
  rw [List.getLast?_eq_some_getLast (by intro e; rw [e] at h; simp at h), List.getLast_eq_getElem]
  rfl
/-- What has been put: rising keys of ks, all of those up to the last one. -/
def Put (ks os : List Int) : Prop := Up os ∧ (∀ x ∈ os, x ∈ ks) ∧ (∀ x ∈ ks, x ≤ lb os → x ∈ os)
theorem put_nil (ks : List Int) (h : ∀ k ∈ ks, Ky k) : Put ks [] := by
  refine ⟨List.Pairwise.nil, by simp, fun x hx h2 => ?_⟩
  have := h x hx
  unfold Ky at this
  rw [lb_nil] at h2
  omega
theorem up_lb (os : List Int) (h : Up os) : ∀ x ∈ os, x ≤ lb os := by
  intro x hx
  obtain ⟨i, hi, rfl⟩ := List.getElem_of_mem hx
  rw [lb_get os (by omega)]
  rcases Nat.lt_or_ge i (os.length - 1) with h2 | h2
  · have := List.pairwise_iff_getElem.1 h i (os.length - 1) hi (by omega) h2
    omega
  · have : i = os.length - 1 := by omega
    subst this
    exact Int.le_refl _
theorem put_snoc (ks os : List Int) (m : Int) (h : Put ks os) (hm : m ∈ ks) (hl : lb os < m) (hmin : ∀ x ∈ ks, lb os < x → m ≤ x) : Put ks (os ++ [m]) := by
  obtain ⟨h1, h2, h3⟩ := h
  refine ⟨?_, ?_, ?_⟩
  · unfold Up
    rw [List.pairwise_append]
    refine ⟨h1, List.pairwise_singleton .., fun x hx y hy => ?_⟩
    rw [List.mem_singleton] at hy
    subst hy
    have := up_lb os h1 x hx
    omega
  · intro x hx
    rcases List.mem_append.1 hx with h | h
    · exact h2 x h
    · rw [List.mem_singleton] at h; subst h; exact hm
  · intro x hx hle
    rw [lb_snoc] at hle
    rw [List.mem_append, List.mem_singleton]
    by_cases hq : lb os < x
    · right
      have := hmin x hx hq
      omega
    · left
      exact h3 x hx (by omega)
theorem put_done (ks os : List Int) (h : Put ks os) (hno : ∀ x ∈ ks, ¬ lb os < x) : Up os ∧ (∀ x, x ∈ os ↔ x ∈ ks) :=
  ⟨h.1, fun x => ⟨h.2.1 x, fun hx => h.2.2 x hx (by have := hno x hx; omega)⟩⟩
/-- How many are still to come. -/
def left (ks os : List Int) : Nat := ks.countP fun x => decide (lb os < x)
theorem countP_lt (p q : Int → Bool) (l : List Int) (hpq : ∀ x, q x = true → p x = true) (m : Int) (hm : m ∈ l) (h1 : p m = true) (h2 : q m = false) : l.countP q < l.countP p := by
  induction l with
  | nil => simp at hm
  | cons a l ih =>
    have hle : l.countP q ≤ l.countP p := List.countP_mono_left fun x _ h => hpq x h
    rw [List.countP_cons, List.countP_cons]
    rcases List.mem_cons.1 hm with e | e
    · subst e
      simp [h1, h2]; omega
    · have := ih e
      by_cases hq : q a = true
      · simp [hq, hpq a hq]; omega
      · simp [hq]; split <;> omega
theorem left_snoc (ks os : List Int) (m : Int) (hm : m ∈ ks) (hl : lb os < m) : left ks (os ++ [m]) < left ks os := by
  unfold left
  rw [lb_snoc]
  refine countP_lt _ _ ks (fun x hx => ?_) m hm (decide_eq_true hl) (decide_eq_false (by omega))
  simp at hx ⊢
  omega
/-- The least one above, among those that were seen. -/
def Seen (ks os : List Int) (f : Bool) (m : Int) : Prop := (f = true ∧ m ∈ ks ∧ lb os < m ∧ ∀ x ∈ ks, lb os < x → m ≤ x) ∨ (f = false ∧ ∀ x ∈ ks, ¬ lb os < x)
theorem seen_nil (os : List Int) (m : Int) : Seen [] os false m := .inr ⟨rfl, by simp⟩
theorem seen_take (ks os : List Int) (f : Bool) (m x : Int) (h : Seen ks os f m) (hl : lb os < x) (hc : f = false ∨ x < m) : Seen (ks ++ [x]) os true x := by
  refine .inl ⟨rfl, by simp, hl, fun y hy hly => ?_⟩
  rcases List.mem_append.1 hy with h1 | h1
  · rcases h with ⟨hf, _, _, h2⟩ | ⟨_, h2⟩
    · rcases hc with hc | hc
      · rw [hc] at hf; cases hf
      · have := h2 y h1 hly; omega
    · exact absurd hly (h2 y h1)
  · rw [List.mem_singleton] at h1; omega
theorem seen_skip (ks os : List Int) (f : Bool) (m x : Int) (h : Seen ks os f m) (hc : ¬ lb os < x ∨ (f = true ∧ ¬ x < m)) : Seen (ks ++ [x]) os f m := by
  rcases h with ⟨hf, h1, h2, h3⟩ | ⟨hf, h1⟩
  · refine .inl ⟨hf, List.mem_append_left _ h1, h2, fun y hy hly => ?_⟩
    rcases List.mem_append.1 hy with h4 | h4
    · exact h3 y h4 hly
    · rw [List.mem_singleton] at h4
      subst h4
      rcases hc with hc | hc
      · exact absurd hly hc
      · omega
  · refine .inr ⟨hf, fun y hy => ?_⟩
    rcases List.mem_append.1 hy with h4 | h4
    · exact h1 y h4
    · rw [List.mem_singleton] at h4
      subst h4
      rcases hc with hc | hc
      · exact hc
      · rw [hf] at hc; cases hc.1
end Go.Proofs.Ytbpplhlkpfdegaa.Bo
