/- Rows of keys: strictly rising ones, and what takes doubles out. -/
import Derived.Test.YtbpplhlkpfdegaaCutMath
namespace Go.Proofs.Ytbpplhlkpfdegaa.Bo
/-- Rising, each once. -/
def Up (l : List Int) : Prop := l.Pairwise (· < ·)
theorem up_ext : ∀ (l m : List Int), Up l → Up m → (∀ x, x ∈ l ↔ x ∈ m) → l = m
  | [], [], _, _, _ => rfl
  | [], b :: m, _, _, h => absurd ((h b).2 (List.mem_cons_self ..)) (by simp)
  | a :: l, [], _, _, h => absurd ((h a).1 (List.mem_cons_self ..)) (by simp)
  | a :: l, b :: m, hl, hm, h => by
    have hl' := List.pairwise_cons.1 hl
    have hm' := List.pairwise_cons.1 hm
    have e : a = b := by
      rcases List.mem_cons.1 ((h a).1 (List.mem_cons_self ..)) with e | e
      · exact e
      · rcases List.mem_cons.1 ((h b).2 (List.mem_cons_self ..)) with e2 | e2
        · exact e2.symm
        · have h1 := hm'.1 a e
          have h2 := hl'.1 b e2
          omega
    subst e
    congr 1
    refine up_ext l m hl'.2 hm'.2 fun x => ⟨fun hx => ?_, fun hx => ?_⟩
    · rcases List.mem_cons.1 ((h x).1 (List.mem_cons_of_mem _ hx)) with e | e
      · have := hl'.1 x hx; omega
      · exact e
    · rcases List.mem_cons.1 ((h x).2 (List.mem_cons_of_mem _ hx)) with e | e
      · have := hm'.1 x hx; omega
      · exact e
theorem up_get (l : List Int) (h : Up l) (i : Nat) (hi : i + 1 < l.length) : l[i] < l[i + 1] := by
  exact List.pairwise_iff_getElem.1 h i (i + 1) (by omega) hi (by omega)
/-- Behind one that was put: what follows, without doubles that stand side by side. -/
def ddGo : Int → List Int → List Int
  | _, [] => []
  | p, x :: l => if x = p then ddGo p l else x :: ddGo x l
def dd : List Int → List Int
  | [] => []
  | x :: l => x :: ddGo x l
theorem ddGo_snoc (l : List Int) : ∀ (p x : Int), ddGo p (l ++ [x]) = ddGo p l ++ (if x = (l.getLast?).getD p then [] else [x]) := by
  induction l with
  | nil => intro p x; by_cases h : x = p <;> simp [ddGo, h]
  | cons a l ih =>
    intro p x
    have e : ∀ q, ((a :: l).getLast?).getD q = (l.getLast?).getD a := by
      intro q
      cases l with
      | nil => rfl
      | cons b t => rw [List.getLast?_cons_cons]; simp [List.getLast?_eq_some_getLast]
    rw [e p]
    simp only [List.cons_append, ddGo]
    by_cases h : a = p
    · subst h
      simp only [if_true]
      exact ih a x
    · simp only [h, if_false]
      rw [ih a x, List.cons_append]
theorem dd_snoc (l : List Int) (hl : 0 < l.length) (x : Int) : dd (l ++ [x]) = dd l ++ (if x = l[l.length - 1] then [] else [x]) := by
  cases l with
  | nil => simp at hl
  | cons a l =>
    show a :: ddGo a (l ++ [x]) = a :: ddGo a l ++ _
    rw [ddGo_snoc, List.cons_append]
    congr 2
    have e : (l.getLast?).getD a = (a :: l)[(a :: l).length - 1] := by
      cases l with
      | nil => rfl
      | cons b t => rw [List.getLast?_eq_some_getLast (by simp), List.getLast_eq_getElem]; simp
    rw [e]
theorem ddGo_up (l : List Int) : ∀ (p : Int), (p :: l).Pairwise (· ≤ ·) → Up (p :: ddGo p l) ∧ (∀ x, x ∈ p :: ddGo p l ↔ x ∈ p :: l) := by
  induction l with
  | nil => intro p _; exact ⟨List.pairwise_singleton .., fun x => Iff.rfl⟩
  | cons a l ih =>
    intro p h
    have h' := List.pairwise_cons.1 h
    by_cases e : a = p
    · subst e
      simp only [ddGo, if_true]
      obtain ⟨h1, h2⟩ := ih a h'.2
      refine ⟨h1, fun x => ?_⟩
      rw [h2 x]; simp
    · simp only [ddGo, e, if_false]
      obtain ⟨h1, h2⟩ := ih a h'.2
      have hpa := h'.1 a (List.mem_cons_self ..)
      refine ⟨List.pairwise_cons.2 ⟨fun x hx => ?_, h1⟩, fun x => ?_⟩
      · have h3 := (h2 x).1 hx
        rcases List.mem_cons.1 h3 with h4 | h4
        · subst h4; omega
        · have := (List.pairwise_cons.1 h'.2).1 x h4; omega
      · rw [List.mem_cons, h2 x, List.mem_cons, List.mem_cons, List.mem_cons]
theorem dd_up (l : List Int) (h : l.Pairwise (· ≤ ·)) : Up (dd l) ∧ (∀ x, x ∈ dd l ↔ x ∈ l) := by
  cases l with
  | nil => exact ⟨List.Pairwise.nil, fun x => Iff.rfl⟩
  | cons a l => exact ddGo_up l a h
theorem dd_le (l : List Int) : (dd l).length ≤ l.length := by
  have : ∀ (l : List Int) (p : Int), (ddGo p l).length ≤ l.length := by
    intro l; induction l with
    | nil => intro p; simp [ddGo]
    | cons a l ih => intro p; simp only [ddGo]; split
                     · have := ih p; simp; omega
                     · have := ih a; simp; omega
  cases l with
  | nil => simp [dd]
  | cons a l => have := this l a; simp [dd]; exact this
end Go.Proofs.Ytbpplhlkpfdegaa.Bo
