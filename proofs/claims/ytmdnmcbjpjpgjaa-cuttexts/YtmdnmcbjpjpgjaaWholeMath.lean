/- Texts of whole numbers of any size. No Go in sight. -/
import Derived.Test.YtmdnmcbjpjpgjaaTextMath
import Derived.Test.YtmdnmcbjpjpgjaaBigMath
namespace Go.Proofs.Ytmdnmcbjpjpgjaa.Bo

def dv (c : UInt8) : Nat := c.toNat - 48
/-- Where the digits begin. -/
def frm (l : List UInt8) : Nat := if l[0]? = some 45 then 1 else 0
/-- From place m on all are digits. -/
def Digit (c : UInt8) : Prop := 48 ≤ c.toNat ∧ c.toNat ≤ 57
theorem low_val : ∀ (D : List Nat), Ok D → (∀ d, D.getLast? = some d → d ≠ 0) → low (val D) = D := by
  intro D
  induction D with
  | nil => intro _ _; exact low_zero
  | cons d t ih =>
    intro ok hl
    have hd := ok d (by simp)
    cases t with
    | nil =>
      have h0 : d ≠ 0 := hl d rfl
      simp only [val, Nat.mul_zero, Nat.add_zero]
      rw [low_pos d h0, show d / 10 = 0 from by omega, low_zero, show d % 10 = d from by omega]
    | cons e u =>
      have ht := ih (fun x hx => ok x (List.mem_cons_of_mem _ hx)) (fun x hx => hl x (by rw [List.getLast?_cons_cons]; exact hx))
      have hv : val (e :: u) ≠ 0 := fun h => by rw [h, low_zero] at ht; cases ht
      show low (d + 10 * val (e :: u)) = _
      rw [low_pos _ (by omega), show (d + 10 * val (e :: u)) % 10 = d from by omega, show (d + 10 * val (e :: u)) / 10 = val (e :: u) from by omega, ht]
theorem map_ch_dv (l : List UInt8) (h : ∀ c ∈ l, Digit c) : (l.map dv).map ch = l := by
  induction l with
  | nil => rfl
  | cons c t ih =>
    have hc := h c (by simp)
    simp only [List.map_cons]
    rw [ih (fun x hx => h x (List.mem_cons_of_mem _ hx)), show ch (dv c) = c from ch_of_digit c hc.1 hc.2]
theorem ok_dv (l : List UInt8) (h : ∀ c ∈ l, Digit c) : Ok (l.map dv) := by
  intro d hd
  obtain ⟨c, hc, rfl⟩ := List.mem_map.1 hd
  have := h c hc
  unfold Digit at this
  unfold dv; omega
/-- A row of digits, the first one no nought, is its number's. -/
theorem dg_of_digits (c : UInt8) (t : List UInt8) (h : ∀ x ∈ c :: t, Digit x) (h0 : c ≠ 48) : dg (val ((c :: t).reverse.map dv)) = c :: t ∧ val ((c :: t).reverse.map dv) ≠ 0 := by
  have hr : ∀ x ∈ (c :: t).reverse, Digit x := fun x hx => h x (List.mem_reverse.1 hx)
  have hc := h c (by simp)
  have hlow := low_val ((c :: t).reverse.map dv) (ok_dv _ hr) (fun d hd => by
    rw [List.map_reverse, List.getLast?_reverse] at hd
    simp at hd
    subst hd
    intro hz
    apply h0
    apply UInt8.toNat_inj.1
    unfold Digit at hc
    unfold dv at hz
    show c.toNat = 48
    omega)
  have hne : val ((c :: t).reverse.map dv) ≠ 0 := fun h => by rw [h, low_zero] at hlow; simp at hlow
  refine ⟨?_, hne⟩
  rw [dg, if_neg hne, pre, hlow, ← List.map_reverse, List.reverse_reverse]
  exact map_ch_dv _ h
def sg (l : List UInt8) : Int := if l[0]? = some 45 then -1 else 1
/-- The digits, the lowest one first. -/
def digsOf (l : List UInt8) : List Nat := (l.drop (frm l)).reverse.map dv
theorem whole_yes (l : List UInt8) (hd : ∀ c ∈ l.drop (frm l), Digit c) (c : UInt8) (t : List UInt8) (hl : l.drop (frm l) = c :: t) (h0 : c ≠ 48) : l = textOf (sg l * (val (digsOf l) : Int)) := by
  have hg := dg_of_digits c t (fun x hx => hd x (by rw [hl]; exact hx)) h0
  unfold digsOf
  rw [hl]
  obtain ⟨h1, h2⟩ := hg
  unfold sg frm at *
  by_cases hn : l[0]? = some 45
  · rw [if_pos hn] at hl ⊢
    cases l with
    | nil => simp at hn
    | cons a u =>
      simp at hn
      subst hn
      simp only [List.drop_one, List.tail_cons] at hl
      subst hl
      unfold textOf
      rw [if_pos (by omega), show (-1 * (val ((c :: t).reverse.map dv) : Int)).natAbs = val ((c :: t).reverse.map dv) from by omega, h1]
  · rw [if_neg hn] at hl ⊢
    simp only [List.drop_zero] at hl
    subst hl
    unfold textOf
    rw [if_neg (by omega), show (1 * (val ((c :: t).reverse.map dv) : Int)).natAbs = val ((c :: t).reverse.map dv) from by omega, h1]
theorem frm_text (z : Int) : (textOf z).drop (frm (textOf z)) = dg z.natAbs ∧ (frm (textOf z) = 1 ↔ z < 0) := by
  unfold frm
  by_cases h : z < 0
  · rw [textOf_neg z h]
    simp [h]
  · rw [textOf_pos z h]
    have := dg_ne z.natAbs
    rw [if_neg this]
    simp [h]
theorem text_digits (l : List UInt8) (z : Int) (h : l = textOf z) : ∀ c ∈ l.drop (frm l), Digit c := by
  subst h
  rw [(frm_text z).1]
  exact fun c hc => dg_digits _ c hc
theorem text_more (l : List UInt8) (z : Int) (h : l = textOf z) : ∃ c t, l.drop (frm l) = c :: t ∧ (c = 48 → t = [] ∧ frm l = 0) := by
  subst h
  rw [(frm_text z).1]
  by_cases h0 : z.natAbs = 0
  · refine ⟨48, [], by rw [h0, dg_zero], fun _ => ⟨rfl, ?_⟩⟩
    have := (frm_text z).2
    have hz : ¬ z < 0 := by omega
    unfold frm at this ⊢
    split
    · rename_i hh; rw [if_pos hh] at this; exact absurd (this.1 rfl) hz
    · rfl
  · obtain ⟨c, t, e, hc⟩ := dg_first z.natAbs h0
    refine ⟨c, t, e, fun h48 => ?_⟩
    subst h48
    exact absurd hc.1 (by decide)
end Go.Proofs.Ytmdnmcbjpjpgjaa.Bo
