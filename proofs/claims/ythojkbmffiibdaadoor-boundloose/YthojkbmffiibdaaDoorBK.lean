/- A part of the proof: contracts of the functions that the statements reach. -/
import Derived.Test.YthojkbmffiibdaaDoorRows
import Derived.Test.YthojkbmffiibdaaDoorBA
import Derived.Test.YthojkbmffiibdaaDoorBB
import Derived.Test.YthojkbmffiibdaaDoorBC
import Derived.Test.YthojkbmffiibdaaDoorBD
import Derived.Test.YthojkbmffiibdaaDoorBE
import Derived.Test.YthojkbmffiibdaaDoorBF
import Derived.Test.YthojkbmffiibdaaDoorBG
import Derived.Test.YthojkbmffiibdaaDoorBH
import Derived.Test.YthojkbmffiibdaaDoorBI
import Derived.Test.YthojkbmffiibdaaDoorBJ
import Derived.Lib.SmallJoins
import Derived.Deep.SlicePairs
import Derived.OpenShut
import Derived.ChangeOld

/- The steps of the code's reader, told over lists of bytes. -/
namespace Go.Proofs.YthojkbmffiibdaaDoor
open Go.RowKit Go.Sort Go.Proofs.YthojkbmffiibdaaDoor.Bo
set_option linter.unusedVariables false

def enN : Option (Option Int × Nat) → Nat | none => 0 | some (_, n) => n
def lowR (L ro : Bool) (r : List UInt8) (lk la : Int) : Int × Int := match en1 L ro r with | some (b, _) => (bkind b ro, bnum b) | none => if L = true then (kb ro, (rdAll r).1) else (lk, la)
def highR (L : Bool) (r : List UInt8) (hk ha : Int) : Int × Int := match en L pinf r with | some (c, _) => (bkind c (!L), bnum c) | none => if L = true then (2, (rdAll r).1) else (hk, ha)
/-- What cut.Read tells of a text. -/
theorem rdCut_ways (r : List UInt8) : (hd r ninf = true ∧ hd r pinf = false ∧ rdCut r = (lo64, 4)) ∨ (hd r ninf = false ∧ hd r pinf = true ∧ rdCut r = (hi64, 4)) ∨
    (hd r ninf = false ∧ hd r pinf = false ∧ (rdCut r).2 = 0) ∨ (hd r ninf = false ∧ hd r pinf = false ∧ (rdCut r).2 ≠ 0 ∧ lo64 < (rdCut r).1 ∧ (rdCut r).1 < hi64) := by
  have e1 : hd r ninf = decide (r.take 4 = [45, 105, 110, 102]) := rfl
  have e2 : hd r pinf = decide (r.take 4 = [43, 105, 110, 102]) := rfl
  rw [e1, e2]
  by_cases h1 : r.take 4 = [45, 105, 110, 102]
  · refine .inl ⟨decide_eq_true h1, decide_eq_false (by rw [h1]; decide), ?_⟩
    unfold rdCut; rw [if_pos h1]
  · by_cases h2 : r.take 4 = [43, 105, 110, 102]
    · refine .inr (.inl ⟨decide_eq_false h1, decide_eq_true h2, ?_⟩)
      unfold rdCut; rw [if_neg h1, if_pos h2]
    · by_cases h3 : (rdCut r).2 = 0
      · exact .inr (.inr (.inl ⟨decide_eq_false h1, decide_eq_false h2, h3⟩))
      · refine .inr (.inr (.inr ⟨decide_eq_false h1, decide_eq_false h2, h3, ?_⟩))
        unfold rdCut
        rw [if_neg h1, if_neg h2]
        have hb := (rdAll_bounds r).1
        unfold I64 at hb
        by_cases h4 : (rdAll r).1 = -9223372036854775808
        · rw [if_pos h4]; decide
        · rw [if_neg h4]; unfold lo64 hi64; omega
theorem rdCut_ky (r : List UInt8) : Ky (rdCut r).1 := by
  rcases rdCut_is r with ⟨_, h⟩ | ⟨_, h, _⟩
  · rw [h]; unfold Ky; omega
  · exact h
theorem rdCut_le (r : List UInt8) : (rdCut r).2 ≤ r.length := by
  rcases rdCut_is r with ⟨h, _⟩ | ⟨_, _, _, h⟩
  · rw [h]; omega
  · exact h
/-- lowCut's test, and what it takes. -/
theorem lowcut_math (ro : Bool) (r : List UInt8) (lk la : Int) (c : Int) (n : Nat) (h : rdCut r = (c, n)) :
    (!((((n : Int) == 0)) || (sd c == 1 && pa c == 0) || (ro != (sd c == -1 && pa c == 0)))) = (en1 false ro r).isSome ∧
    tkN (en1 false ro r).isSome n = enN (en1 false ro r) ∧ sel (en1 false ro r).isSome (lowB c).1 lk = (lowR false ro r lk la).1 ∧ sel (en1 false ro r).isSome (lowB c).2 la = (lowR false ro r lk la).2 := by
  rcases rdCut_ways r with ⟨h1, h2, h3⟩ | ⟨h1, h2, h3⟩ | ⟨h1, h2, h3⟩ | ⟨h1, h2, h3, h4, h5⟩
  · rw [h] at h3
    injection h3 with hc hn
    subst hc hn
    cases ro with
    | true =>
      have e : en1 false true r = some (none, 4) := by unfold en1 en; rw [h1]; rfl
      unfold lowR; rw [e]
      exact ⟨by decide, rfl, by show (lowB lo64).1 = 0; decide, by show (lowB lo64).2 = 0; decide⟩
    | false =>
      have e : en1 false false r = none := by unfold en1; rw [h1]; rfl
      unfold lowR; rw [e]
      exact ⟨by decide, rfl, rfl, rfl⟩
  · rw [h] at h3
    injection h3 with hc hn
    subst hc hn
    have e : en1 false ro r = none := by
      unfold en1 en; rw [h1, h]
      cases ro
      · show (if (!false && (false != false)) = true then none else if false = true then _ else if false = true then _ else if (4 : Nat) = 0 ∨ sd hi64 ≠ 0 then none else _) = none
        rw [if_neg (by decide), if_neg (by decide), if_neg (by decide), if_pos (by decide)]
      · rfl
    unfold lowR; rw [e]
    exact ⟨by cases ro <;> decide, rfl, rfl, rfl⟩
  · have h3' : n = 0 := by rw [h] at h3; exact h3
    subst h3'
    have e : en1 false ro r = none := by
      unfold en1 en; rw [h1, h]
      cases ro <;> rfl
    unfold lowR; rw [e]
    exact ⟨rfl, rfl, rfl, rfl⟩
  · rw [h] at h3 h4 h5
    dsimp only at h3 h4 h5
    unfold lo64 at h4; unfold hi64 at h5
    have es := sd_mid c (by omega) (by omega)
    have ep := pa_mid c (by omega) (by omega)
    have en0 : ((n : Int) == 0) = false := beq_eq_false_iff_ne.2 (by omega)
    cases ro with
    | true =>
      have e : en1 false true r = none := by unfold en1; rw [h1]; rfl
      unfold lowR; rw [e, en0, es]
      exact ⟨rfl, rfl, rfl, rfl⟩
    | false =>
      have e : en1 false false r = some (some c, n) := by
        unfold en1 en; rw [h1, h]
        show (if (!false && (false != false)) = true then none else if false = true then _ else if false = true then _ else if n = 0 ∨ sd c ≠ 0 then none else some (some (pa c), n)) = _
        rw [if_neg (by decide), if_neg (by decide), if_neg (by decide), if_neg (by rw [es]; omega), ep]
      unfold lowR; rw [e, en0, es]
      refine ⟨rfl, rfl, ?_, ?_⟩
      · show (lowB c).1 = 2
        unfold lowB; rw [if_neg (by unfold lo64; omega), if_neg (by unfold hi64; omega)]
      · show (lowB c).2 = c
        unfold lowB; rw [if_neg (by unfold lo64; omega), if_neg (by unfold hi64; omega)]
theorem highcut_math (r : List UInt8) (hk ha : Int) (c : Int) (n : Nat) (h : rdCut r = (c, n)) :
    (!((((n : Int) == 0)) || (sd c == -1 && pa c == 0))) = (en false pinf r).isSome ∧
    tkN (en false pinf r).isSome n = enN (en false pinf r) ∧ sel (en false pinf r).isSome (highB c).1 hk = (highR false r hk ha).1 ∧ sel (en false pinf r).isSome (highB c).2 ha = (highR false r hk ha).2 := by
  rcases rdCut_ways r with ⟨h1, h2, h3⟩ | ⟨h1, h2, h3⟩ | ⟨h1, h2, h3⟩ | ⟨h1, h2, h3, h4, h5⟩
  · rw [h] at h3
    injection h3 with hc hn
    subst hc hn
    have e : en false pinf r = none := by
      unfold en; rw [h2, h]
      show (if false = true then _ else if false = true then _ else if (4 : Nat) = 0 ∨ sd lo64 ≠ 0 then none else _) = none
      rw [if_neg (by decide), if_neg (by decide), if_pos (by decide)]
    unfold highR; rw [e]
    exact ⟨by decide, rfl, rfl, rfl⟩
  · rw [h] at h3
    injection h3 with hc hn
    subst hc hn
    have e : en false pinf r = some (none, 4) := by unfold en; rw [h2]; rfl
    unfold highR; rw [e]
    exact ⟨by decide, rfl, by show (highB hi64).1 = 0; decide, by show (highB hi64).2 = 0; decide⟩
  · have h3' : n = 0 := by rw [h] at h3; exact h3
    subst h3'
    have e : en false pinf r = none := by unfold en; rw [h2, h]; rfl
    unfold highR; rw [e]
    exact ⟨rfl, rfl, rfl, rfl⟩
  · rw [h] at h3 h4 h5
    dsimp only at h3 h4 h5
    unfold lo64 at h4; unfold hi64 at h5
    have es := sd_mid c (by omega) (by omega)
    have ep := pa_mid c (by omega) (by omega)
    have en0 : ((n : Int) == 0) = false := beq_eq_false_iff_ne.2 (by omega)
    have e : en false pinf r = some (some c, n) := by
      unfold en; rw [h2, h]
      show (if false = true then _ else if false = true then _ else if n = 0 ∨ sd c ≠ 0 then none else some (some (pa c), n)) = _
      rw [if_neg (by decide), if_neg (by decide), if_neg (by rw [es]; omega), ep]
    have hnx := nx_in c h5
    unfold highR; rw [e, en0, es]
    refine ⟨rfl, rfl, ?_, ?_⟩
    · show (highB c).1 = 1
      unfold highB; rw [if_pos hnx.2]
    · show (highB c).2 = c
      unfold highB; rw [if_pos hnx.2]; exact hnx.1
theorem lowR_i64 (L ro : Bool) (r : List UInt8) (lk la : Int) (h : I64 la) : I64 (lowR L ro r lk la).2 := by
  unfold lowR
  cases e : en1 L ro r with
  | some x =>
    obtain ⟨b, n⟩ := x
    show I64 (bnum b)
    unfold en1 at e
    split at e
    · cases e
    · exact bnum_i64 L ninf r b n e
  | none =>
    cases L
    · exact h
    · exact (rdAll_bounds r).1
theorem highR_i64 (L : Bool) (r : List UInt8) (hk ha : Int) (h : I64 ha) : I64 (highR L r hk ha).2 := by
  unfold highR
  cases e : en L pinf r with
  | some x =>
    obtain ⟨b, n⟩ := x
    exact bnum_i64 L pinf r b n e
  | none =>
    cases L
    · exact h
    · exact (rdAll_bounds r).1
theorem enN_le (L : Bool) (inf r : List UInt8) (hi : inf.length = 4) : enN (en L inf r) ≤ r.length := by
  cases e : en L inf r with
  | none => exact Nat.zero_le _
  | some x => obtain ⟨b, n⟩ := x; exact (en_le L inf r hi b n e).1
theorem enN1_le (L ro : Bool) (r : List UInt8) : enN (en1 L ro r) ≤ r.length := by
  unfold en1
  split
  · exact Nat.zero_le _
  · exact enN_le L ninf r rfl
theorem tkN_le (r : List UInt8) (c : UInt8) : tkN (hd r [c]) 1 ≤ r.length := by
  unfold tkN
  split
  · rename_i h; exact hd_len r [c] h
  · exact Nat.zero_le _
theorem skN_le (L : Bool) (l : List UInt8) (i : Nat) (h : i ≤ l.length) : i + skN L l i ≤ l.length := by
  unfold skN
  split
  · have := bk_le true (l.drop i); rw [List.length_drop] at this; omega
  · omega
theorem skN_pos (L : Bool) (l : List UInt8) (i : Nat) (h : 0 < i) : skN L l i = bk L (l.drop i) := by
  unfold skN
  rw [decide_eq_true h, Bool.and_true]
  cases L <;> rfl
/-- The places, and the reader's states. -/
structure Way where
  L : Bool
  t : ByteArray
namespace Way
abbrev l (y : Way) : List UInt8 := y.t.data.toList
def O (y : Way) : Bool := hd y.l [40]
def B0 (y : Way) : Bool := hd y.l [40] || hd y.l [91]
def i1 (y : Way) : Nat := 0 + tkN y.B0 1
def a1 (y : Way) : Nat := y.i1 + skN y.L y.l y.i1
def E1 (y : Way) : Option (Option Int × Nat) := en1 y.L y.O (y.l.drop y.a1)
def i2 (y : Way) : Nat := y.a1 + enN y.E1
def a2 (y : Way) : Nat := y.i2 + skN y.L y.l y.i2
def B2 (y : Way) : Bool := hd (y.l.drop y.a2) [44]
def i3 (y : Way) : Nat := y.a2 + tkN y.B2 1
def a3 (y : Way) : Nat := y.i3 + skN y.L y.l y.i3
def E3 (y : Way) : Option (Option Int × Nat) := en y.L pinf (y.l.drop y.a3)
def i4 (y : Way) : Nat := y.a3 + enN y.E3
def a4 (y : Way) : Nat := y.i4 + skN y.L y.l y.i4
def D (y : Way) : Bool := hd (y.l.drop y.a4) [41]
def C (y : Way) : Bool := hd (y.l.drop y.a4) [93]
def B4 (y : Way) : Bool := if y.L = true then y.D || y.C else y.D
def i5 (y : Way) : Nat := y.a4 + tkN y.B4 1
def lo (y : Way) : Int × Int := lowR y.L y.O (y.l.drop y.a1) 0 0
def hi (y : Way) : Int × Int := highR y.L (y.l.drop y.a3) 0 0
def hk5 (y : Way) : Int := if y.L = true then clK y.hi.1 y.D else y.hi.1
def B (y : Way) : Nat → Bool | 0 => y.B0 | 1 => y.E1.isSome | 2 => y.B2 | 3 => y.E3.isSome | _ => y.B4
def r (y : Way) : Nat → R7
  | 0 => ⟨0, false, 0, 0, 0, 0, 0⟩
  | 1 => ⟨y.i1, y.O, 0, 0, 0, 0, 0⟩
  | 2 => ⟨y.i2, y.O, y.lo.1, y.lo.2, 0, 0, 0⟩
  | 3 => ⟨y.i3, y.O, y.lo.1, y.lo.2, 0, 0, 0⟩
  | 4 => ⟨y.i4, y.O, y.lo.1, y.lo.2, y.hi.1, y.hi.2, (y.a3 : Int)⟩
  | _ => ⟨y.i5, y.O, y.lo.1, y.lo.2, y.hk5, y.hi.2, (y.a3 : Int)⟩
theorem le1 (y : Way) : y.i1 ≤ y.l.length ∧ y.a1 ≤ y.l.length := by
  have h : y.i1 ≤ y.l.length := by
    unfold i1 B0 tkN
    split
    · rename_i h
      rcases (Bool.or_eq_true _ _).mp h with h | h
      · have := hd_len _ _ h; simpa using this
      · have := hd_len _ _ h; simpa using this
    · omega
  exact ⟨h, skN_le _ _ _ h⟩
theorem le2 (y : Way) : y.i2 ≤ y.l.length ∧ y.a2 ≤ y.l.length := by
  have h : y.i2 ≤ y.l.length := by
    have h1 := y.le1.2
    have h2 := enN1_le y.L y.O (y.l.drop y.a1)
    rw [List.length_drop] at h2
    unfold i2 E1
    omega
  exact ⟨h, skN_le _ _ _ h⟩
theorem le3 (y : Way) : y.i3 ≤ y.l.length ∧ y.a3 ≤ y.l.length := by
  have h : y.i3 ≤ y.l.length := by
    have h1 := y.le2.2
    have h2 := tkN_le (y.l.drop y.a2) 44
    rw [List.length_drop] at h2
    unfold i3 B2
    omega
  exact ⟨h, skN_le _ _ _ h⟩
theorem le4 (y : Way) : y.i4 ≤ y.l.length ∧ y.a4 ≤ y.l.length := by
  have h : y.i4 ≤ y.l.length := by
    have h1 := y.le3.2
    have h2 := enN_le y.L pinf (y.l.drop y.a3) rfl
    rw [List.length_drop] at h2
    unfold i4 E3
    omega
  exact ⟨h, skN_le _ _ _ h⟩
theorem apart (r : List UInt8) (h : hd r [41] = true) : hd r [93] = false := by
  obtain ⟨t, rfl⟩ := (hd_iff _ _).1 h
  rfl
/-- What is told of all steps is what the document's reading tells. -/
theorem told (y : Way) : (∀ m, m < 5 → (∀ k, k < m → y.B k = true) → y.B m = false → (rdB y.l y.L).1 = ⟨0, 0, 0, 0⟩ ∧ ((rdB y.l y.L).2.1 : Int) = ((y.r (m + 1)).i : Int) ∧ (rdB y.l y.L).2.2 = 40) ∧
      ((∀ k, k < 5 → y.B k = true) → (bdE (y.r 5).lk (y.r 5).la (y.r 5).hk (y.r 5).ha = 0 → (rdB y.l y.L).1 = bdS (y.r 5).lk (y.r 5).la (y.r 5).hk (y.r 5).ha ∧ ((rdB y.l y.L).2.1 : Int) = ((y.r 5).i : Int) ∧ (rdB y.l y.L).2.2 = 0) ∧ (bdE (y.r 5).lk (y.r 5).la (y.r 5).hk (y.r 5).ha ≠ 0 → (rdB y.l y.L).1 = ⟨0, 0, 0, 0⟩ ∧ ((rdB y.l y.L).2.1 : Int) = (y.r 5).sc ∧ (rdB y.l y.L).2.2 = bdE (y.r 5).lk (y.r 5).la (y.r 5).hk (y.r 5).ha)) := by
  -- the first step
  by_cases h0 : y.B0 = true
  case neg =>
    have h0' := eq_false_of_ne_true h0
    have e := rdB_no y.l y.L h0'
    refine ⟨fun m hm hk hB => ?_, fun hk => absurd (hk 0 (by omega)) h0⟩
    rcases Nat.eq_zero_or_pos m with rfl | hp
    · rw [e]
      refine ⟨rfl, ?_, rfl⟩
      show ((0 : Nat) : Int) = (y.i1 : Int)
      unfold i1 tkN
      rw [h0']; rfl
    · exact absurd (hk 0 hp) h0
  have hi1 : y.i1 = 1 := by unfold i1 tkN; rw [h0]; rfl
  have ha1 : 1 + bk y.L (y.l.drop 1) = y.a1 := by unfold a1; rw [hi1, skN_pos _ _ _ (by omega)]
  have e0 := rdB_yes y.l y.L y.a1 h0 ha1
  rw [e0]
  cases h1 : y.E1 with
  | none =>
    have e := rdC_no y.l y.L y.a1 h1
    rw [e]
    refine ⟨fun m hm hk hB => ?_, fun hk => ?_⟩
    · rcases (show m = 0 ∨ m = 1 ∨ 2 ≤ m by omega) with rfl | rfl | hp
      · exact absurd (show y.B0 = false from hB) (by rw [h0]; decide)
      · refine ⟨rfl, ?_, rfl⟩
        show (y.a1 : Int) = (y.i2 : Int)
        unfold i2; rw [h1]; rfl
      · have := hk 1 (by omega)
        change y.E1.isSome = true at this
        rw [h1] at this; cases this
    · have := hk 1 (by omega)
      change y.E1.isSome = true at this
      rw [h1] at this; cases this
  | some x =>
    obtain ⟨b, n⟩ := x
    have hi2 : y.i2 = y.a1 + n := by unfold i2; rw [h1]; rfl
    have hpos : 0 < y.i2 := by rw [hi2, ← ha1]; omega
    have ha2 : y.a1 + n + bk y.L (y.l.drop (y.a1 + n)) = y.a2 := by unfold a2; rw [skN_pos _ _ _ hpos, hi2]
    have e1 := rdC_yes y.l y.L y.a1 y.a2 n b h1 ha2
    rw [e1]
    by_cases h2 : y.B2 = true
    case neg =>
      have h2' := eq_false_of_ne_true h2
      have e := rdD_no y.l y.L y.a2 b h2'
      rw [e]
      refine ⟨fun m hm hk hB => ?_, fun hk => absurd (hk 2 (by omega)) h2⟩
      rcases (show m = 0 ∨ m = 1 ∨ m = 2 ∨ 3 ≤ m by omega) with rfl | rfl | rfl | hp
      · exact absurd (show y.B0 = false from hB) (by rw [h0]; decide)
      · exact absurd (show y.E1.isSome = false from hB) (by rw [h1]; exact Bool.noConfusion)
      · refine ⟨rfl, ?_, rfl⟩
        show (y.a2 : Int) = (y.i3 : Int)
        unfold i3 tkN; rw [h2']; rfl
      · exact absurd (hk 2 (by omega)) h2
    have hi3 : y.i3 = y.a2 + 1 := by unfold i3 tkN; rw [h2]; rfl
    have ha3 : y.a2 + 1 + bk y.L (y.l.drop (y.a2 + 1)) = y.a3 := by unfold a3; rw [hi3, skN_pos _ _ _ (by omega)]
    have e2 := rdD_yes y.l y.L y.a2 y.a3 b h2 ha3
    rw [e2]
    cases h3 : y.E3 with
    | none =>
      have e := rdE_no y.l y.L y.a3 b h3
      rw [e]
      refine ⟨fun m hm hk hB => ?_, fun hk => ?_⟩
      · rcases (show m = 0 ∨ m = 1 ∨ m = 2 ∨ m = 3 ∨ 4 ≤ m by omega) with rfl | rfl | rfl | rfl | hp
        · exact absurd (show y.B0 = false from hB) (by rw [h0]; decide)
        · exact absurd (show y.E1.isSome = false from hB) (by rw [h1]; exact Bool.noConfusion)
        · exact absurd (show y.B2 = false from hB) (by rw [h2]; decide)
        · refine ⟨rfl, ?_, rfl⟩
          show (y.a3 : Int) = (y.i4 : Int)
          unfold i4; rw [h3]; rfl
        · have := hk 3 (by omega)
          change y.E3.isSome = true at this
          rw [h3] at this; cases this
      · have := hk 3 (by omega)
        change y.E3.isSome = true at this
        rw [h3] at this; cases this
    | some x =>
      obtain ⟨c, k⟩ := x
      have hi4 : y.i4 = y.a3 + k := by unfold i4; rw [h3]; rfl
      have hpos4 : 0 < y.i4 := by rw [hi4, ← ha3]; omega
      have ha4 : y.a3 + k + bk y.L (y.l.drop (y.a3 + k)) = y.a4 := by unfold a4; rw [skN_pos _ _ _ hpos4, hi4]
      have e3 := rdE_yes y.l y.L y.a3 y.a4 k b c h3 ha4
      rw [e3]
      have hB4 : (y.L && hd (y.l.drop y.a4) [93] || hd (y.l.drop y.a4) [41]) = y.B4 := by
        unfold B4 D C
        cases y.L
        · rfl
        · show (hd _ [93] || hd _ [41]) = (hd _ [41] || hd _ [93]); rw [Bool.or_comm]
      by_cases h4 : y.B4 = true
      case neg =>
        have h4' := eq_false_of_ne_true h4
        have e := rdF_no y.L (hd y.l [40]) (y.L && hd (y.l.drop y.a4) [93]) (hd (y.l.drop y.a4) [41]) y.a3 y.a4 b c (by rw [hB4, h4'])
        rw [e]
        refine ⟨fun m hm hk hB => ?_, fun hk => absurd (hk 4 (by omega)) h4⟩
        rcases (show m = 0 ∨ m = 1 ∨ m = 2 ∨ m = 3 ∨ m = 4 by omega) with rfl | rfl | rfl | rfl | rfl
        · exact absurd (show y.B0 = false from hB) (by rw [h0]; decide)
        · exact absurd (show y.E1.isSome = false from hB) (by rw [h1]; exact Bool.noConfusion)
        · exact absurd (show y.B2 = false from hB) (by rw [h2]; decide)
        · exact absurd (show y.E3.isSome = false from hB) (by rw [h3]; exact Bool.noConfusion)
        · refine ⟨rfl, ?_, rfl⟩
          show (y.a4 : Int) = (y.i5 : Int)
          unfold i5 tkN; rw [h4']; rfl
      have e4 := rdF_yes y.L (hd y.l [40]) (y.L && hd (y.l.drop y.a4) [93]) (hd (y.l.drop y.a4) [41]) y.a3 y.a4 b c (by rw [hB4, h4])
      rw [e4]
      have elo : y.lo = (bkind b (hd y.l [40]), bnum b) := by unfold lo lowR; rw [show en1 y.L y.O (y.l.drop y.a1) = some (b, n) from h1]; rfl
      have ehi : y.hi = (bkind c (!y.L), bnum c) := by unfold hi highR; rw [show en y.L pinf (y.l.drop y.a3) = some (c, k) from h3]
      have ehk : y.hk5 = bkind c (!(y.L && hd (y.l.drop y.a4) [93])) := by
        unfold hk5
        rw [ehi]
        unfold B4 at h4
        cases hL : y.L with
        | false => rfl
        | true =>
          rw [hL, if_pos rfl] at h4
          show clK (bkind c false) y.D = bkind c (!(hd (y.l.drop y.a4) [93]))
          cases hD : y.D with
          | true =>
            rw [apart _ (show hd (y.l.drop y.a4) [41] = true from hD)]
            cases c <;> rfl
          | false =>
            rw [hD, Bool.false_or] at h4
            rw [show hd (y.l.drop y.a4) [93] = true from h4]
            cases c <;> rfl
      have hi5 : y.i5 = y.a4 + 1 := by unfold i5 tkN; rw [h4]; rfl
      have er : y.r 5 = ⟨y.a4 + 1, y.O, bkind b (hd y.l [40]), bnum b, bkind c (!(y.L && hd (y.l.drop y.a4) [93])), bnum c, (y.a3 : Int)⟩ := by
        show (⟨y.i5, y.O, y.lo.1, y.lo.2, y.hk5, y.hi.2, (y.a3 : Int)⟩ : R7) = _
        rw [hi5, elo, ehk, ehi]
      rw [er]
      refine ⟨fun m hm hk hB => ?_, fun _ => ⟨fun hE => ?_, fun hE => ?_⟩⟩
      · rcases (show m = 0 ∨ m = 1 ∨ m = 2 ∨ m = 3 ∨ m = 4 by omega) with rfl | rfl | rfl | rfl | rfl
        · exact absurd (show y.B0 = false from hB) (by rw [h0]; decide)
        · exact absurd (show y.E1.isSome = false from hB) (by rw [h1]; exact Bool.noConfusion)
        · exact absurd (show y.B2 = false from hB) (by rw [h2]; decide)
        · exact absurd (show y.E3.isSome = false from hB) (by rw [h3]; exact Bool.noConfusion)
        · exact absurd (show y.B4 = false from hB) (by rw [h4]; decide)
      · rw [if_pos hE]; exact ⟨rfl, rfl, rfl⟩
      · rw [if_neg hE]; exact ⟨rfl, rfl, rfl⟩
end Way
end Go.Proofs.YthojkbmffiibdaaDoor

/- The steps of the code's reader, each through the closure. -/
namespace Go.Proofs.YthojkbmffiibdaaDoor
open Go.RowKit Go.Sort Go.Proofs.YthojkbmffiibdaaDoor.Bo
set_option linter.unusedVariables false

theorem len_size (t : ByteArray) : t.data.toList.length = t.size := size_list t
/-- lowCut, and lowNumber. -/
theorem low_strict (W : World) (b : Nat) (t : ByteArray) (i : Nat) (bl ro : Bool) (lk la hk ha sc : Int) (hR : RdAt W b t (i : Int) bl ro lk la hk ha sc) (hi : i ≤ t.size) (ht : t.size ≤ 100000) :
    Calls Tryd.prog 44 #[.pointer (some ⟨b, 0, none⟩)] W (RdPost b (en1 false ro (t.data.toList.drop i)).isSome t (i + enN (en1 false ro (t.data.toList.drop i))) bl ro (lowR false ro (t.data.toList.drop i) lk la).1 (lowR false ro (t.data.toList.drop i) lk la).2 hk ha sc W) := by
  obtain ⟨e1, e2⟩ := rest_list t i hi
  obtain ⟨m1, m2, m3, m4⟩ := lowcut_math ro (t.data.toList.drop i) lk la _ _ rfl
  have hk0 := rdCut_ky (t.data.toList.drop i)
  have hle := rdCut_le (t.data.toList.drop i)
  rw [List.length_drop, len_size] at hle
  rw [← m2, ← m3, ← m4]
  refine lowcut_core W b t (t.extract i t.size) i bl ro lk la hk ha sc _ _ _ _ (rdCut (t.data.toList.drop i)).2 _ _ _ _ (rest_any W b t i bl ro lk la hk ha sc hR hi ht) (fun W => ?_) (fun W => first_b W) (fun W => last_b W) (fun W => ?_) rfl (fun w => eql_cut _ _ _ _ w) (fun w => eql_cut _ _ _ _ w) m1 hR hi (by omega) ht
  · have h := cread_any (t.extract i t.size) W (by unfold maxLen; omega)
    rw [e1] at h
    exact h
  · have h := lowb_any (sd (rdCut (t.data.toList.drop i)).1) (pa (rdCut (t.data.toList.drop i)).1) W (pa_i64 _ hk0)
    rw [key_back _ hk0] at h
    exact h
theorem high_strict (W : World) (b : Nat) (t : ByteArray) (i : Nat) (bl ro : Bool) (lk la hk ha sc : Int) (hR : RdAt W b t (i : Int) bl ro lk la hk ha sc) (hi : i ≤ t.size) (ht : t.size ≤ 100000) :
    Calls Tryd.prog 46 #[.pointer (some ⟨b, 0, none⟩)] W (RdPost b (en false pinf (t.data.toList.drop i)).isSome t (i + enN (en false pinf (t.data.toList.drop i))) bl ro lk la (highR false (t.data.toList.drop i) hk ha).1 (highR false (t.data.toList.drop i) hk ha).2 (i : Int) W) := by
  obtain ⟨e1, e2⟩ := rest_list t i hi
  obtain ⟨m1, m2, m3, m4⟩ := highcut_math (t.data.toList.drop i) hk ha _ _ rfl
  have hk0 := rdCut_ky (t.data.toList.drop i)
  have hle := rdCut_le (t.data.toList.drop i)
  rw [List.length_drop, len_size] at hle
  rw [← m2, ← m3, ← m4]
  refine highcut_core W b t (t.extract i t.size) i bl ro lk la hk ha sc _ _ _ _ (rdCut (t.data.toList.drop i)).2 _ _ _ (fun W hR => rest_any W b t i bl ro lk la hk ha (i : Int) hR hi ht) (fun W => ?_) (fun W => first_b W) (fun W => ?_) rfl (fun w => eql_cut _ _ _ _ w) m1 hR hi (by omega) ht
  · have h := cread_any (t.extract i t.size) W (by unfold maxLen; omega)
    rw [e1] at h
    exact h
  · have h := highb_any (sd (rdCut (t.data.toList.drop i)).1) (pa (rdCut (t.data.toList.drop i)).1) W (pa_i64 _ hk0)
    rw [key_back _ hk0] at h
    exact h
theorem low_loose (W : World) (b : Nat) (t : ByteArray) (i : Nat) (bl ro : Bool) (lk la hk ha sc : Int) (hR : RdAt W b t (i : Int) bl ro lk la hk ha sc) (hi : i ≤ t.size) (ht : t.size ≤ 100000) :
    Calls Tryd.prog 49 #[.pointer (some ⟨b, 0, none⟩)] W (RdPost b (en1 true ro (t.data.toList.drop i)).isSome t (i + enN (en1 true ro (t.data.toList.drop i))) bl ro (lowR true ro (t.data.toList.drop i) lk la).1 (lowR true ro (t.data.toList.drop i) lk la).2 hk ha sc W) := by
  have e0 : en1 true ro (t.data.toList.drop i) = en true ninf (t.data.toList.drop i) := rfl
  unfold lowR
  rw [e0]
  by_cases hN : hd (t.data.toList.drop i) ninf = true
  · have e : en true ninf (t.data.toList.drop i) = some (none, 4) := by unfold en; rw [if_pos hN]
    rw [e]
    exact lownum_inf W b t i bl ro lk la hk ha sc hN hR hi ht
  · obtain ⟨z, n, hz⟩ : ∃ z n, rdAll (t.data.toList.drop i) = (z, n) := ⟨_, _, rfl⟩
    have h := lownum_num W b t i bl ro lk la hk ha sc z n (eq_false_of_ne_true hN) hz hR hi ht
    by_cases hn : n = 0
    · subst hn
      have e : en true ninf (t.data.toList.drop i) = none := by unfold en; rw [if_neg hN, if_pos rfl, hz, if_pos rfl]
      rw [e, hz]
      exact h
    · have e : en true ninf (t.data.toList.drop i) = some (some z, n) := by unfold en; rw [if_neg hN, if_pos rfl, hz, if_neg hn]
      rw [e]
      rw [decide_eq_true (by omega)] at h
      exact h
theorem high_loose (W : World) (b : Nat) (t : ByteArray) (i : Nat) (bl ro : Bool) (lk la hk ha sc : Int) (hR : RdAt W b t (i : Int) bl ro lk la hk ha sc) (hi : i ≤ t.size) (ht : t.size ≤ 100000) :
    Calls Tryd.prog 50 #[.pointer (some ⟨b, 0, none⟩)] W (RdPost b (en true pinf (t.data.toList.drop i)).isSome t (i + enN (en true pinf (t.data.toList.drop i))) bl ro lk la (highR true (t.data.toList.drop i) hk ha).1 (highR true (t.data.toList.drop i) hk ha).2 (i : Int) W) := by
  unfold highR
  by_cases hN : hd (t.data.toList.drop i) pinf = true
  · have e : en true pinf (t.data.toList.drop i) = some (none, 4) := by unfold en; rw [if_pos hN]
    rw [e]
    exact highnum_inf W b t i bl ro lk la hk ha sc hN hR hi ht
  · obtain ⟨z, n, hz⟩ : ∃ z n, rdAll (t.data.toList.drop i) = (z, n) := ⟨_, _, rfl⟩
    have h := highnum_num W b t i bl ro lk la hk ha sc z n (eq_false_of_ne_true hN) hz hR hi ht
    by_cases hn : n = 0
    · subst hn
      have e : en true pinf (t.data.toList.drop i) = none := by unfold en; rw [if_neg hN, if_pos rfl, hz, if_pos rfl]
      rw [e, hz]
      exact h
    · have e : en true pinf (t.data.toList.drop i) = some (some z, n) := by unfold en; rw [if_neg hN, if_pos rfl, hz, if_neg hn]
      rw [e]
      rw [decide_eq_true (by omega)] at h
      exact h
theorem en_opening : ∀ args w, (callFunc 43 args).run Tryd.prog w = .ok (.enter 43 args) w := enters_of Tryd.func43 (by kernel_rfl) rfl
theorem en_comma : ∀ args w, (callFunc 45 args).run Tryd.prog w = .ok (.enter 45 args) w := enters_of Tryd.func45 (by kernel_rfl) rfl
theorem en_lowCut : ∀ args w, (callFunc 44 args).run Tryd.prog w = .ok (.enter 44 args) w := enters_of Tryd.func44 (by kernel_rfl) rfl
theorem en_highCut : ∀ args w, (callFunc 46 args).run Tryd.prog w = .ok (.enter 46 args) w := enters_of Tryd.func46 (by kernel_rfl) rfl
theorem en_roundClosing : ∀ args w, (callFunc 47 args).run Tryd.prog w = .ok (.enter 47 args) w := enters_of Tryd.func47 (by kernel_rfl) rfl
theorem en_lowNumber : ∀ args w, (callFunc 49 args).run Tryd.prog w = .ok (.enter 49 args) w := enters_of Tryd.func49 (by kernel_rfl) rfl
theorem en_highNumber : ∀ args w, (callFunc 50 args).run Tryd.prog w = .ok (.enter 50 args) w := enters_of Tryd.func50 (by kernel_rfl) rfl
theorem en_closing : ∀ args w, (callFunc 51 args).run Tryd.prog w = .ok (.enter 51 args) w := enters_of Tryd.func51 (by kernel_rfl) rfl
/-- A method value of the reader. -/
abbrev mv (g b : Nat) : Value := .func (.func g) #[.pointer (some ⟨b, 0, none⟩)] #[]
def stepF (L : Bool) : Nat → Nat
  | 0 => 43
  | 1 => if L = true then 49 else 44
  | 2 => 45
  | 3 => if L = true then 50 else 46
  | _ => if L = true then 51 else 47
/-- The closure at a step: blanks, then the step. -/
theorem amiss_step (g : Nat) (eg : ∀ args w, (callFunc g args).run Tryd.prog w = .ok (.enter g args) w) (W : World) (b c : Nat) (t : ByteArray) (L B : Bool) (r : R7) (Q : World → Prop) (hi : r.i ≤ t.size) (ht : t.size ≤ 100000)
    (hP : RA b t L r W) (hc : W.heap[c]? = some (capO b))
    (HG : ∀ W', RdAt W' b t ((r.i + skN L t.data.toList r.i : Nat) : Int) L r.ro r.lk r.la r.hk r.ha r.sc → Calls Tryd.prog g #[.pointer (some ⟨b, 0, none⟩)] W' (StPost b B Q W')) :
    Calls Tryd.prog 57 #[mv g b, .pointer (some ⟨c, 0, none⟩)] W (StPost b (!B) Q W) :=
  amiss_any g eg W b c B (fun W' => RdAt W' b t ((r.i + skN L t.data.toList r.i : Nat) : Int) L r.ro r.lk r.la r.hk r.ha r.sc) Q (skip_any W b t r.i L r.ro r.lk r.la r.hk r.ha r.sc hP hi ht) HG hc
theorem steps_any (y : Way) (b : Nat) (ht : y.t.size ≤ 100000) (c j : Nat) (hj : j < 5) (W : World) (hP : RA b y.t y.L (y.r j) W) (hc : W.heap[c]? = some (capO b)) :
    Calls Tryd.prog 57 #[mv (stepF y.L j) b, .pointer (some ⟨c, 0, none⟩)] W (StPost b (!(y.B j)) (RA b y.t y.L (y.r (j + 1))) W) := by
  have l1 := y.le1
  have l2 := y.le2
  have l3 := y.le3
  have l4 := y.le4
  rw [show y.l.length = y.t.size from len_size y.t] at l1 l2 l3 l4
  rcases (show j = 0 ∨ j = 1 ∨ j = 2 ∨ j = 3 ∨ j = 4 by omega) with rfl | rfl | rfl | rfl | rfl
  · have hC : ∀ W', RdAt W' b y.t ((0 + skN y.L y.t.data.toList 0 : Nat) : Int) y.L false 0 0 0 0 0 → Calls Tryd.prog 43 #[.pointer (some ⟨b, 0, none⟩)] W' (StPost b y.B0 (RA b y.t y.L (y.r 1)) W') := fun W' hR => by
      have e : (0 + skN y.L y.t.data.toList 0 : Nat) = 0 := by unfold skN; rw [show decide (0 < 0) = false from rfl, Bool.and_false]; rfl
      rw [e] at hR
      have h := opening_any W' b y.t 0 y.L false 0 0 0 0 0 y.O (hd y.l [91]) rfl rfl hR (Nat.zero_le _) ht
      exact h
    exact amiss_step _ en_opening W b c y.t y.L y.B0 (y.r 0) (RA b y.t y.L (y.r 1)) (Nat.zero_le _) ht hP hc hC
  · have hC : ∀ W', RdAt W' b y.t (y.a1 : Int) y.L y.O 0 0 0 0 0 → Calls Tryd.prog (stepF y.L 1) #[.pointer (some ⟨b, 0, none⟩)] W' (StPost b y.E1.isSome (RA b y.t y.L (y.r 2)) W') := fun W' hR => by
      have hE : y.E1 = en1 y.L y.O (y.t.data.toList.drop y.a1) := rfl
      have hL0 : y.lo = lowR y.L y.O (y.t.data.toList.drop y.a1) 0 0 := rfl
      show Calls _ _ _ _ fun e W'' => e = .returned (.bool y.E1.isSome) ∧ RdAt W'' b y.t ((y.a1 + enN y.E1 : Nat) : Int) y.L y.O y.lo.1 y.lo.2 0 0 0 ∧ Keep b W' W''
      rw [hE, hL0]
      cases hL : y.L with
      | false =>
        rw [hL] at hR
        exact low_strict W' b y.t y.a1 false y.O 0 0 0 0 0 hR l1.2 ht
      | true =>
        rw [hL] at hR
        exact low_loose W' b y.t y.a1 true y.O 0 0 0 0 0 hR l1.2 ht
    have eg : ∀ args w, (callFunc (stepF y.L 1) args).run Tryd.prog w = .ok (.enter (stepF y.L 1) args) w := by
      cases y.L
      · exact en_lowCut
      · exact en_lowNumber
    exact amiss_step _ eg W b c y.t y.L y.E1.isSome (y.r 1) (RA b y.t y.L (y.r 2)) l1.1 ht hP hc hC
  · have hC : ∀ W', RdAt W' b y.t (y.a2 : Int) y.L y.O y.lo.1 y.lo.2 0 0 0 → Calls Tryd.prog 45 #[.pointer (some ⟨b, 0, none⟩)] W' (StPost b y.B2 (RA b y.t y.L (y.r 3)) W') := fun W' hR => comma_any W' b y.t y.a2 y.L y.O y.lo.1 y.lo.2 0 0 0 y.B2 rfl hR l2.2 ht
    exact amiss_step _ en_comma W b c y.t y.L y.B2 (y.r 2) (RA b y.t y.L (y.r 3)) l2.1 ht hP hc hC
  · have hC : ∀ W', RdAt W' b y.t (y.a3 : Int) y.L y.O y.lo.1 y.lo.2 0 0 0 → Calls Tryd.prog (stepF y.L 3) #[.pointer (some ⟨b, 0, none⟩)] W' (StPost b y.E3.isSome (RA b y.t y.L (y.r 4)) W') := fun W' hR => by
      have hE : y.E3 = en y.L pinf (y.t.data.toList.drop y.a3) := rfl
      have hL0 : y.hi = highR y.L (y.t.data.toList.drop y.a3) 0 0 := rfl
      show Calls _ _ _ _ fun e W'' => e = .returned (.bool y.E3.isSome) ∧ RdAt W'' b y.t ((y.a3 + enN y.E3 : Nat) : Int) y.L y.O y.lo.1 y.lo.2 y.hi.1 y.hi.2 (y.a3 : Int) ∧ Keep b W' W''
      rw [hE, hL0]
      generalize y.lo = lo0 at *
      cases hL : y.L with
      | false =>
        rw [hL] at hR
        exact high_strict W' b y.t y.a3 false y.O lo0.1 lo0.2 0 0 0 hR l3.2 ht
      | true =>
        rw [hL] at hR
        exact high_loose W' b y.t y.a3 true y.O lo0.1 lo0.2 0 0 0 hR l3.2 ht
    have eg : ∀ args w, (callFunc (stepF y.L 3) args).run Tryd.prog w = .ok (.enter (stepF y.L 3) args) w := by
      cases y.L
      · exact en_highCut
      · exact en_highNumber
    exact amiss_step _ eg W b c y.t y.L y.E3.isSome (y.r 3) (RA b y.t y.L (y.r 4)) l3.1 ht hP hc hC
  · have hC : ∀ W', RdAt W' b y.t (y.a4 : Int) y.L y.O y.lo.1 y.lo.2 y.hi.1 y.hi.2 (y.a3 : Int) → Calls Tryd.prog (stepF y.L 4) #[.pointer (some ⟨b, 0, none⟩)] W' (StPost b y.B4 (RA b y.t y.L (y.r 5)) W') := fun W' hR => by
      have hD : hd (y.t.data.toList.drop y.a4) [41] = y.D := rfl
      have hCC : hd (y.t.data.toList.drop y.a4) [93] = y.C := rfl
      have hB : y.B4 = if y.L = true then y.D || y.C else y.D := rfl
      have hK : y.hk5 = if y.L = true then clK y.hi.1 y.D else y.hi.1 := rfl
      show Calls _ _ _ _ fun e W'' => e = .returned (.bool y.B4) ∧ RdAt W'' b y.t ((y.a4 + tkN y.B4 1 : Nat) : Int) y.L y.O y.lo.1 y.lo.2 y.hk5 y.hi.2 (y.a3 : Int) ∧ Keep b W' W''
      rw [hB, hK]
      generalize y.lo = lo0 at *
      generalize y.hi = hi0 at *
      generalize y.D = D0 at *
      generalize y.C = C0 at *
      cases hL : y.L with
      | false =>
        rw [hL] at hR
        exact rclose_any W' b y.t y.a4 false y.O lo0.1 lo0.2 hi0.1 hi0.2 (y.a3 : Int) D0 hD hR l4.2 ht
      | true =>
        rw [hL] at hR
        exact closing_any W' b y.t y.a4 true y.O lo0.1 lo0.2 hi0.1 hi0.2 (y.a3 : Int) D0 C0 hD hCC hR l4.2 ht
    have eg : ∀ args w, (callFunc (stepF y.L 4) args).run Tryd.prog w = .ok (.enter (stepF y.L 4) args) w := by
      cases y.L
      · exact en_roundClosing
      · exact en_closing
    exact amiss_step _ eg W b c y.t y.L y.B4 (y.r 4) (RA b y.t y.L (y.r 5)) l4.1 ht hP hc hC
/-- read, told by the document's reading. -/
theorem bread_way (y : Way) (W : World) (b sb : Nat) (hsb : W.heap[sb]? = some (stO fun j => mv (stepF y.L j) b)) (hb1 : sb ≠ b) (h0 : RdAt W b y.t 0 y.L false 0 0 0 0 0) (ht : y.t.size ≤ 100000) :
    Calls Tryd.prog 42 #[.pointer (some ⟨b, 0, none⟩), .slice (some ⟨sb, 0, none⟩) 5 5] W (BReadPost b (rdB y.l y.L).1 ((rdB y.l y.L).2.1 : Int) (rdB y.l y.L).2.2 W) :=
  read_core W b sb y.t y.L (fun j => mv (stepF y.L j) b) y.B y.r _ _ _ hsb hb1 h0 (fun c j hj _ W' hP hc => steps_any y b ht c j hj W' hP hc)
    ⟨lowR_i64 _ _ _ _ _ (by unfold I64; omega), highR_i64 _ _ _ _ (by unfold I64; omega)⟩ y.told
theorem bread_any (L : Bool) (W : World) (b sb : Nat) (t : ByteArray) (hsb : W.heap[sb]? = some (stO fun j => mv (stepF L j) b)) (hb1 : sb ≠ b) (h0 : RdAt W b t 0 L false 0 0 0 0 0) (ht : t.size ≤ 100000) :
    Calls Tryd.prog 42 #[.pointer (some ⟨b, 0, none⟩), .slice (some ⟨sb, 0, none⟩) 5 5] W (BReadPost b (rdB t.data.toList L).1 ((rdB t.data.toList L).2.1 : Int) (rdB t.data.toList L).2.2 W) :=
  bread_way ⟨L, t⟩ W b sb hsb hb1 h0 ht
end Go.Proofs.YthojkbmffiibdaaDoor

/- Contracts of package bound's functions: Read, Loose, Parse. -/
namespace Go.Proofs.YthojkbmffiibdaaDoor
open Go.RowKit Go.Sort Go.Proofs.YthojkbmffiibdaaDoor.Bo
set_option linter.unusedVariables false

/-- Read's blocks: the result's, the reader's, the steps' row. -/
structure Rb (w : World) (L : Bool) (s : ByteArray) (X : World) : Prop where
  r : Box4 X w.heap.size z4
  rd : RdAt X (w.heap.size + 1) s 0 L false 0 0 0 0 0
  st : X.heap[w.heap.size + 1 + 1]? = some (stO fun j => mv (stepF L j) (w.heap.size + 1))
  be : Go.RowKit.Below w.heap.size w X
theorem Rb.new (w : World) (L : Bool) (s : ByteArray) : Rb w L s (((w.alloc (.cells #[.int .i64 0, .int .i64 0, .int .i64 0, .int .i64 0] 27)).alloc (rdO s 0 L false 0 0 0 0 0)).alloc (stO fun j => mv (stepF L j) (w.heap.size + 1))) :=
  ⟨box_on (box_on (heap_alloc_new w _) (below_new _ _)) (below_new _ _), box_on (new_at _ (by simp)) (below_new _ _), new_at _ (by simp), bt (bt (below_new _ _) (below_new _ _)) (below_new _ _)⟩
set_option maxRecDepth 100000 in
set_option maxHeartbeats 1000000 in
theorem brdS_any (s : ByteArray) (w : World) (hs : s.size ≤ 100000) : Calls Tryd.prog 17 #[.string s] w fun e w' => e = .returned (rdV (rdB s.data.toList false)) ∧ Go.RowKit.Below w.heap.size w w' := by
  have hmf : ∀ (fn : Fn) (first cap : Array Value) (w : World), (Instr.makeFunc fn first cap).run Tryd.prog w = .ok (.func fn first cap) w := fun _ _ _ _ => rfl
  have HX := Lib.hid (Rb.new w false s)
  have HR := Lib.hid (fun X hX => bread_any false X (w.heap.size + 1) (w.heap.size + 1 + 1) s (Rb.st hX) (by omega) (Rb.rd hX) hs)
  generalize rdB s.data.toList false = R at *
  obtain ⟨Z, n, E⟩ := R
  dsimp only at HR
  go_enter Tryd.func17, Tryd.ntmps17
  go_wp2_with fail
  refine (HR.out _ HX.out).mono ?_
  rintro e y ⟨rfl, hK⟩
  have hL1 : Go.RowKit.Below w.heap.size w y := HX.out.be.trans (hK.lo.mono (Nat.le_succ _))
  have HB1 : Hid (Box4 y w.heap.size z4) := hK.box (by omega) HX.out.r
  clear hK HX HR
  obtain ⟨⟨d1, d2, d3, d4⟩, e1, e2, e3, e4⟩ := Box4.zero HB1.out
  obtain ⟨f1, f2, f3, f4⟩ := (box_put4 HB1.out Z).cells
  have hL4 := (((hL1.setCell (p := ⟨w.heap.size, 0, none⟩) (Nat.le_refl _) (.int .i64 Z.ls)).setCell (p := ⟨w.heap.size, 1, none⟩) (Nat.le_refl _) (.int .i64 Z.la)).setCell (p := ⟨w.heap.size, 2, none⟩) (Nat.le_refl _) (.int .i64 Z.hs)).setCell (p := ⟨w.heap.size, 3, none⟩) (Nat.le_refl _) (.int .i64 Z.ha)
  go_wp2_with fail
  refine bodyPost_ret (v := .tuple #[.agg #[.int .i64 Z.ls, .int .i64 Z.la, .int .i64 Z.hs, .int .i64 Z.ha], .int .i64 (n : Int), .int .i64 E]) (by simp [results, Tryd.results17, go_sem, f1, f2, f3, f4]) rfl ?_
  exact ⟨rfl, hL4⟩
set_option maxRecDepth 100000 in
set_option maxHeartbeats 1000000 in
theorem brdL_any (s : ByteArray) (w : World) (hs : s.size ≤ 100000) : Calls Tryd.prog 19 #[.string s] w fun e w' => e = .returned (rdV (rdB s.data.toList true)) ∧ Go.RowKit.Below w.heap.size w w' := by
  have hmf : ∀ (fn : Fn) (first cap : Array Value) (w : World), (Instr.makeFunc fn first cap).run Tryd.prog w = .ok (.func fn first cap) w := fun _ _ _ _ => rfl
  have HX := Lib.hid (Rb.new w true s)
  have HR := Lib.hid (fun X hX => bread_any true X (w.heap.size + 1) (w.heap.size + 1 + 1) s (Rb.st hX) (by omega) (Rb.rd hX) hs)
  generalize rdB s.data.toList true = R at *
  obtain ⟨Z, n, E⟩ := R
  dsimp only at HR
  go_enter Tryd.func19, Tryd.ntmps19
  go_wp2_with fail
  refine (HR.out _ HX.out).mono ?_
  rintro e y ⟨rfl, hK⟩
  have hL1 : Go.RowKit.Below w.heap.size w y := HX.out.be.trans (hK.lo.mono (Nat.le_succ _))
  have HB1 : Hid (Box4 y w.heap.size z4) := hK.box (by omega) HX.out.r
  clear hK HX HR
  obtain ⟨⟨d1, d2, d3, d4⟩, e1, e2, e3, e4⟩ := Box4.zero HB1.out
  obtain ⟨f1, f2, f3, f4⟩ := (box_put4 HB1.out Z).cells
  have hL4 := (((hL1.setCell (p := ⟨w.heap.size, 0, none⟩) (Nat.le_refl _) (.int .i64 Z.ls)).setCell (p := ⟨w.heap.size, 1, none⟩) (Nat.le_refl _) (.int .i64 Z.la)).setCell (p := ⟨w.heap.size, 2, none⟩) (Nat.le_refl _) (.int .i64 Z.hs)).setCell (p := ⟨w.heap.size, 3, none⟩) (Nat.le_refl _) (.int .i64 Z.ha)
  go_wp2_with fail
  refine bodyPost_ret (v := .tuple #[.agg #[.int .i64 Z.ls, .int .i64 Z.la, .int .i64 Z.hs, .int .i64 Z.ha], .int .i64 (n : Int), .int .i64 E]) (by simp [results, Tryd.results19, go_sem, f1, f2, f3, f4]) rfl ?_
  exact ⟨rfl, hL4⟩
/-- A place that is told is not beyond the text. -/
theorem rdB_le (l : List UInt8) (h : (rdB l false).2.2 = 0) : (rdB l false).2.1 ≤ l.length ∧ ((rdB l false).2.1 ≠ l.length ↔ (rdB l false).2.1 < l.length) := by
  have h2 := (rdB_is l (rdB l false).1 (rdB l false).2.1 (by rw [← h])).1
  exact ⟨h2, ⟨fun h3 => by omega, fun h3 => by omega⟩⟩
theorem rdB_err (l : List UInt8) (L : Bool) : (rdB l L).2.2 = 0 ∨ ((rdB l L).1 = ⟨0, 0, 0, 0⟩ ∧ (rdB l L).2.2 ≠ 0) := by
  unfold rdB rdC rdD rdE
  repeat' split
  all_goals first | exact .inl rfl | exact .inr ⟨rfl, (by decide : (40 : Int) ≠ 0)⟩ | exact .inr ⟨rfl, (by decide : (30 : Int) ≠ 0)⟩
set_option maxRecDepth 100000 in
set_option maxHeartbeats 2000000 in
theorem brdP_any (s : ByteArray) (w : World) (hs : s.size ≤ 100000) : Calls Tryd.prog 21 #[.string s] w fun e w' => e = .returned (.tuple #[vS (rdP s.data.toList).1, .int .i64 (rdP s.data.toList).2]) ∧ Go.RowKit.Below w.heap.size w w' := by
  have HR := Lib.hid (fun W => brdS_any s W hs)
  obtain ⟨V, hV⟩ : ∃ V, V = rdP s.data.toList := ⟨_, rfl⟩
  rw [← hV]
  unfold rdP at hV
  have HLE := Lib.hid (rdB_le s.data.toList)
  have HER := Lib.hid (rdB_err s.data.toList false)
  rw [size_list] at HLE hV
  generalize rdB s.data.toList false = R at *
  obtain ⟨Z, n, E⟩ := R
  dsimp only at hV HLE HER
  have HV := Lib.hid hV
  clear hV
  have HR' : Hid (∀ W, Calls Tryd.prog 17 #[.string s] W fun e w' => e = .returned (.tuple #[.agg #[.int .i64 Z.ls, .int .i64 Z.la, .int .i64 Z.hs, .int .i64 Z.ha], .int .i64 (n : Int), .int .i64 E]) ∧ Go.RowKit.Below W.heap.size W w') := HR.out
  have HB : Hid (Box4 (w.alloc (.cells #[.int .i64 0, .int .i64 0, .int .i64 0, .int .i64 0] 27)) w.heap.size z4) := heap_alloc_new _ _
  have hL := below_new w (.cells #[.int .i64 0, .int .i64 0, .int .i64 0, .int .i64 0] 27)
  clear HR
  go_enter Tryd.func21, Tryd.ntmps21
  go_wp2_with fail
  generalize w.alloc (.cells #[.int .i64 0, .int .i64 0, .int .i64 0, .int .i64 0] 27) = X at *
  refine (HR'.out _).mono ?_
  rintro e y ⟨rfl, hB1⟩
  have hA1 := bt hB1 (below_new y (.cells #[.int .i64 Z.ls, .int .i64 Z.la, .int .i64 Z.hs, .int .i64 Z.ha] 27))
  have hL1 := bt hL hA1
  have HB1 := Lib.hid (HB.out.on hA1)
  have HZ1 : Hid (Box4 (y.alloc (.cells #[.int .i64 Z.ls, .int .i64 Z.la, .int .i64 Z.hs, .int .i64 Z.ha] 27)) y.heap.size Z) := heap_alloc_new _ _
  clear hB1 hA1 hL HB HR'
  go_upto_region 2 with fail
  generalize y.alloc (.cells #[.int .i64 Z.ls, .int .i64 Z.la, .int .i64 Z.hs, .int .i64 Z.ha] 27) = X1 at *
  generalize y.heap.size = N1 at *
  obtain ⟨c1, c2, c3, c4⟩ := HZ1.out.cells
  obtain ⟨⟨d1, d2, d3, d4⟩, e1, e2, e3, e4⟩ := Box4.zero HB1.out
  by_cases hE : E = 0
  · subst hE
    by_cases hn : n = s.size
    · have HVE : Hid (V = (Z, 0)) := by
        show _ = _
        rw [HV.out, if_neg (fun h => h.2 hn)]
      have t1 : decide ((n : Int) < (s.size : Int)) = false := decide_eq_false (by omega)
      obtain ⟨f1, f2, f3, f4⟩ := (box_put4 HB1.out Z).cells
      have hL4 := (((hL1.setCell (p := ⟨w.heap.size, 0, none⟩) (Nat.le_refl _) (.int .i64 Z.ls)).setCell (p := ⟨w.heap.size, 1, none⟩) (Nat.le_refl _) (.int .i64 Z.la)).setCell (p := ⟨w.heap.size, 2, none⟩) (Nat.le_refl _) (.int .i64 Z.hs)).setCell (p := ⟨w.heap.size, 3, none⟩) (Nat.le_refl _) (.int .i64 Z.ha)
      clear HV HLE HER
      subst hn
      have t2 : ¬ s.size < s.size := Nat.lt_irrefl _
      go_wp2_with fail
      refine bodyPost_ret (v := .tuple #[.agg #[.int .i64 Z.ls, .int .i64 Z.la, .int .i64 Z.hs, .int .i64 Z.ha], .int .i64 0]) (by simp [results, Tryd.results21, go_sem, f1, f2, f3, f4]) rfl ?_
      refine ⟨?_, hL4⟩
      rw [HVE.out]
    · have HVE : Hid (V = ((⟨0, 0, 0, 0⟩ : S4), 40)) := by
        show _ = _
        rw [HV.out, if_pos ⟨rfl, hn⟩]
      have hlt := ((HLE.out rfl).2).1 hn
      have t1 : decide ((n : Int) < (s.size : Int)) = true := decide_eq_true (by omega)
      obtain ⟨f1, f2, f3, f4⟩ := (box_put4 HB1.out ⟨0, 0, 0, 0⟩).cells
      dsimp only at f1 f2 f3 f4
      have hL4 := (((hL1.setCell (p := ⟨w.heap.size, 0, none⟩) (Nat.le_refl _) (.int .i64 0)).setCell (p := ⟨w.heap.size, 1, none⟩) (Nat.le_refl _) (.int .i64 0)).setCell (p := ⟨w.heap.size, 2, none⟩) (Nat.le_refl _) (.int .i64 0)).setCell (p := ⟨w.heap.size, 3, none⟩) (Nat.le_refl _) (.int .i64 0)
      clear HV HLE HER hn
      go_wp2_with fail
      refine bodyPost_ret (v := .tuple #[.agg #[.int .i64 0, .int .i64 0, .int .i64 0, .int .i64 0], .int .i64 40]) (by simp [results, Tryd.results21, go_sem, f1, f2, f3, f4]) rfl ?_
      refine ⟨?_, hL4⟩
      rw [HVE.out]
  · have HVE : Hid (V = ((⟨0, 0, 0, 0⟩ : S4), E)) := by
      show _ = _
      rw [HV.out, if_neg (fun h => hE h.1)]
      rcases HER.out with h | h
      · exact absurd h hE
      · rw [h.1]
    have t1 : (E == 0) = false := beq_eq_false_iff_ne.2 hE
    have t2 : (E != 0) = true := bne_iff_ne.2 hE
    obtain ⟨f1, f2, f3, f4⟩ := (box_put4 HB1.out ⟨0, 0, 0, 0⟩).cells
    dsimp only at f1 f2 f3 f4
    have hL4 := (((hL1.setCell (p := ⟨w.heap.size, 0, none⟩) (Nat.le_refl _) (.int .i64 0)).setCell (p := ⟨w.heap.size, 1, none⟩) (Nat.le_refl _) (.int .i64 0)).setCell (p := ⟨w.heap.size, 2, none⟩) (Nat.le_refl _) (.int .i64 0)).setCell (p := ⟨w.heap.size, 3, none⟩) (Nat.le_refl _) (.int .i64 0)
    clear HV HLE HER hE
    go_wp2_with fail
    refine bodyPost_ret (v := .tuple #[.agg #[.int .i64 0, .int .i64 0, .int .i64 0, .int .i64 0], .int .i64 E]) (by simp [results, Tryd.results21, go_sem, f1, f2, f3, f4]) rfl ?_
    refine ⟨?_, hL4⟩
    rw [HVE.out]
end Go.Proofs.YthojkbmffiibdaaDoor

/- The law's guard 'alive' of layer 4 answers true. -/
namespace Go.Proofs.YthojkbmffiibdaaDoor
open Go.RowKit Go.Sort Go.Proofs.YthojkbmffiibdaaDoor.Bo
set_option linter.unusedVariables false

theorem eql_bound (s a t b : Int) (w : World) : Sem.run Tryd.prog (binOp .eql 23 (.agg #[.int .i64 s, .int .i64 a]) (.agg #[.int .i64 t, .int .i64 b])) w = .ok (.bool (s == t && a == b)) w := by
  have hS : Tryd.prog.underlying 23 = some (.struct (Tryd.prog.fieldsOf 23)) := by kernel_rfl
  have hp : Tryd.prog.stoodInHeld 23 = false := by kernel_rfl
  have u3 := Tryd.underlying3
  have u2 := Tryd.underlying2
  rw [run_eql_struct, show (10000 : Nat) = 9999 + 1 from rfl, run_equalIn_agg w 9999 23 _ _ hS hp]
  simp only [Program.fieldsOf, Tryd.underlying23]
  go_simp
  by_cases h1 : s = t <;> by_cases h2 : a = b <;> simp [h1, h2]
theorem eqb_self (s a : Int) (w : World) : Sem.run Tryd.prog (binOp .eql 23 (.agg #[.int .i64 s, .int .i64 a]) (.agg #[.int .i64 s, .int .i64 a])) w = .ok (.bool true) w := by rw [eql_bound]; simp
theorem eqs_self (q : S4) (w : World) : Sem.run Tryd.prog (binOp .eql 27 (.agg #[.int .i64 q.ls, .int .i64 q.la, .int .i64 q.hs, .int .i64 q.ha]) (.agg #[.int .i64 q.ls, .int .i64 q.la, .int .i64 q.hs, .int .i64 q.ha])) w = .ok (.bool true) w := by rw [eql_span]; simp
theorem bto_any (a b : Int) (w : World) : Calls Tryd.prog 36 #[.int .i64 a, .int .i64 b] w fun e w' => e = .returned (.agg #[.int .i64 0, .int .i64 a, .int .i64 0, .int .i64 b]) ∧ Go.RowKit.Below w.heap.size w w' := by
  have hR0 : Box4 (w.alloc (.cells #[.int .i64 0, .int .i64 0, .int .i64 0, .int .i64 0] 27)) w.heap.size z4 := heap_alloc_new _ _
  have hL0 := below_new w (.cells #[.int .i64 0, .int .i64 0, .int .i64 0, .int .i64 0] 27)
  obtain ⟨⟨d1, d2, d3, d4⟩, e1, e2, e3, e4⟩ := Box4.zero hR0
  obtain ⟨f1, f2, f3, f4⟩ := (box_put4 hR0 ⟨0, a, 0, b⟩).cells
  dsimp only at f1 f2 f3 f4
  have hgy : w.heap.size ≤ w.heap.size := Nat.le_refl _
  have hL4 := (((hL0.setCell (p := ⟨w.heap.size, 0, none⟩) hgy (.int .i64 0)).setCell (p := ⟨w.heap.size, 1, none⟩) hgy (.int .i64 a)).setCell (p := ⟨w.heap.size, 2, none⟩) hgy (.int .i64 0)).setCell (p := ⟨w.heap.size, 3, none⟩) hgy (.int .i64 b)
  have hL5 := below_new w (.cells #[.int .i64 0, .int .i64 a, .int .i64 0, .int .i64 b] 27)
  go_enter Tryd.func36, Tryd.ntmps36
  go_wp2_with fail
  first
    | (refine bodyPost_ret (v := .agg #[.int .i64 0, .int .i64 a, .int .i64 0, .int .i64 b]) (by simp [results, Tryd.results36, go_sem]) rfl ?_; exact ⟨rfl, hL5⟩)
    | (refine bodyPost_ret (v := .agg #[.int .i64 0, .int .i64 a, .int .i64 0, .int .i64 b]) (by simp [results, Tryd.results36, go_sem, f1, f2, f3, f4]) rfl ?_; exact ⟨rfl, hL4⟩)
theorem bal_span (w : World) : Calls Tryd.prog 9 #[.agg #[.int .i64 1, .int .i64 3], .agg #[.int .i64 2, .int .i64 5]] w fun e w' => e = .returned (.tuple #[.agg #[.int .i64 0, .int .i64 4, .int .i64 0, .int .i64 6], .int .i64 0]) ∧ Go.RowKit.Below w.heap.size w w' := by
  have h := bspan_any 1 3 2 5 w ⟨by decide, by decide⟩ ⟨by decide, by decide⟩
  rw [show bdS 1 3 2 5 = ⟨0, 4, 0, 6⟩ from by kernel_rfl, show bdE 1 3 2 5 = 0 from by decide] at h
  exact h
theorem bal_parse (w : World) : Calls Tryd.prog 21 #[.string ⟨#[91, 52, 44, 52, 41]⟩] w fun e w' => e = .returned (.tuple #[.agg #[.int .i64 0, .int .i64 0, .int .i64 0, .int .i64 0], .int .i64 30]) ∧ Go.RowKit.Below w.heap.size w w' := by
  have h := brdP_any ⟨#[91, 52, 44, 52, 41]⟩ w (by decide)
  rw [show rdP (⟨#[91, 52, 44, 52, 41]⟩ : ByteArray).data.toList = (⟨0, 0, 0, 0⟩, 30) from by kernel_rfl] at h
  exact h
theorem bal_loose (w : World) : Calls Tryd.prog 19 #[.string ⟨#[40, 32, 51, 32, 44, 32, 53, 32, 93, 120]⟩] w fun e w' => e = .returned (.tuple #[.agg #[.int .i64 0, .int .i64 4, .int .i64 0, .int .i64 6], .int .i64 9, .int .i64 0]) ∧ Go.RowKit.Below w.heap.size w w' := by
  have h := brdL_any ⟨#[40, 32, 51, 32, 44, 32, 53, 32, 93, 120]⟩ w (by decide)
  rw [show rdB (⟨#[40, 32, 51, 32, 44, 32, 53, 32, 93, 120]⟩ : ByteArray).data.toList true = (⟨0, 4, 0, 6⟩, 9, 0) from by kernel_rfl] at h
  exact h
theorem bal_text (w : World) : Calls Tryd.prog 23 #[.agg #[.int .i64 0, .int .i64 4, .int .i64 0, .int .i64 6]] w fun e w' => e = .returned (.string ⟨#[91, 52, 44, 54, 41]⟩) ∧ Go.RowKit.Below w.heap.size w w' := by
  have h := btext_any ⟨0, 4, 0, 6⟩ w ⟨⟨by decide, by decide⟩, ⟨by decide, by decide⟩⟩
  rw [show btext ⟨0, 4, 0, 6⟩ = [91, 52, 44, 54, 41] from by decide +kernel] at h
  exact h
theorem bal_low (w : World) : Calls Tryd.prog 12 #[.agg #[.int .i64 0, .int .i64 3]] w fun e w' => e = .returned (.agg #[.int .i64 2, .int .i64 3]) ∧ Go.RowKit.Below w.heap.size w w' := by
  have h := lowb_any 0 3 w ⟨by decide, by decide⟩
  rw [show lowB (key 0 3) = (2, 3) from by decide +kernel] at h
  exact h
set_option maxRecDepth 100000 in
set_option maxHeartbeats 4000000 in
theorem balive_any (w : World) : Calls Tryd.prog 11 #[] w fun e w' => e = .returned (.bool true) ∧ Go.RowKit.Below w.heap.size w w' := by
  have mx := mixed
  have HTO := Lib.hid bto_any
  have hs := eqs_self ⟨0, 4, 0, 6⟩
  have hb := eqb_self 2 3
  have t1 : ((⟨#[91, 52, 44, 54, 41]⟩ : ByteArray).toList == (⟨#[91, 52, 44, 54, 41]⟩ : ByteArray).toList) = true := beq_self_eq_true _
  go_enter Tryd.func11, Tryd.ntmps11
  go_wp2_with fail
  refine (bal_span _).mono ?_
  rintro e y1 ⟨rfl, hB1⟩
  have hL1 := bt hB1 (below_new y1 (.cells #[.int .i64 0, .int .i64 4, .int .i64 0, .int .i64 6] 27))
  have HS1 : Hid (Box4 (y1.alloc (.cells #[.int .i64 0, .int .i64 4, .int .i64 0, .int .i64 6] 27)) y1.heap.size ⟨0, 4, 0, 6⟩) := heap_alloc_new _ _
  clear hB1
  go_wp2_with fail
  generalize y1.alloc (.cells #[.int .i64 0, .int .i64 4, .int .i64 0, .int .i64 6] 27) = X1 at *
  generalize y1.heap.size = N1 at *
  refine (bal_parse _).mono ?_
  rintro e y2 ⟨rfl, hB2⟩
  have hA2 := bt hB2 (below_new y2 (.cells #[.int .i64 0, .int .i64 0, .int .i64 0, .int .i64 0] 27))
  have hL2 := bt hL1 hA2
  have HS2 := Lib.hid (HS1.out.on hA2)
  clear hB2 hA2 hL1 HS1
  go_wp2_with fail
  generalize y2.alloc (.cells #[.int .i64 0, .int .i64 0, .int .i64 0, .int .i64 0] 27) = X2 at *
  generalize y2.heap.size = N2 at *
  refine (bal_loose _).mono ?_
  rintro e y3 ⟨rfl, hB3⟩
  have hA3 := bt hB3 (below_new y3 (.cells #[.int .i64 0, .int .i64 4, .int .i64 0, .int .i64 6] 27))
  have hL3 := bt hL2 hA3
  have HS3 := Lib.hid (HS2.out.on hA3)
  have HT3 : Hid (Box4 (y3.alloc (.cells #[.int .i64 0, .int .i64 4, .int .i64 0, .int .i64 6] 27)) y3.heap.size ⟨0, 4, 0, 6⟩) := heap_alloc_new _ _
  clear hB3 hA3 hL2 HS2
  go_upto_region 4 with fail
  generalize y3.alloc (.cells #[.int .i64 0, .int .i64 4, .int .i64 0, .int .i64 6] 27) = X3 at *
  generalize y3.heap.size = N3 at *
  obtain ⟨p1, p2, p3, p4⟩ := HS3.out.re
  obtain ⟨p5, p6, p7, p8⟩ := HT3.out.re
  refine wp_region_quiet_below (by assumption) (by kernel_rfl) ?_
  repeat (go_big_quiet_step (first
    | (go_at_call 36; exact Calls.regrown_of (HTO.out _ _ _))
    | (go_at_call 23; exact Calls.regrown_of (bal_text _))
    | (go_at_call 12; exact Calls.regrown_of (bal_low _))))
  refine wpQuiet_nil ?_
  intro _ hw'
  obtain ⟨⟨nq, osq⟩, hw''⟩ := hw'
  subst hw''
  have hL4 := bt hL3 (below_regrown X3 nq osq)
  go_wp2_with fail
  go_ret
  exact ⟨rfl, hL4⟩
end Go.Proofs.YthojkbmffiibdaaDoor

/- Spans as arguments: one by value, a slice of them. -/
namespace Go.Proofs.YthojkbmffiibdaaDoor
open Go.ChangeShapes Go.WideShapes Go.ChangeAt Go.RowKit Go.Sort Go.Joins Go.Proofs.YthojkbmffiibdaaDoor.Bo
set_option linter.unusedVariables false

set_option maxRecDepth 100000 in
theorem trod_cut2 {H : Type} {enc : TypeId × Value → H} {w : World} {base : Nat} {spare : Nat → Bool} {held : Bool} {n : Nat} {cs : List Value} {y : DataW H × List MemPlace} (h : DataW.trod enc Tryd.prog w base spare held n 25 cs = some y) :
    ∃ s a : Int, cs = [.int .i64 s, .int .i64 a] ∧ I64 a := by
  obtain ⟨y0, y1, n', hx, hlen, h0, h1⟩ := trod_struct2 Tryd.underlying25 h
  rw [show Tryd.prog.cellsOf 25 = 2 by kernel_rfl] at hlen
  obtain ⟨s, es, _, _⟩ := DataW.trod_int Tryd.underlying3 h0
  obtain ⟨a, ea, _, wa⟩ := DataW.trod_int Tryd.underlying2 h1
  match cs, hlen with
  | [v0, v1], _ =>
    rw [show Tryd.prog.cellsOf 3 = 1 by kernel_rfl] at es
    rw [show Tryd.prog.cellsOf 2 = 1 by kernel_rfl] at ea
    simp at es ea
    exact ⟨s, a, by rw [es, ea], i64_of_wf2 wa⟩
set_option maxRecDepth 100000 in
theorem trod_span {H : Type} {enc : TypeId × Value → H} {w : World} {base : Nat} {spare : Nat → Bool} {held : Bool} {n : Nat} {cs : List Value} {y : DataW H × List MemPlace} (h : DataW.trod enc Tryd.prog w base spare held n 27 cs = some y) :
    ∃ q : S4, cs = [.int .i64 q.ls, .int .i64 q.la, .int .i64 q.hs, .int .i64 q.ha] ∧ q.ok := by
  obtain ⟨y0, y1, n', hx, hlen, h0, h1⟩ := trod_struct2 Tryd.underlying27 h
  rw [show Tryd.prog.cellsOf 27 = 4 by kernel_rfl] at hlen
  obtain ⟨ls, la, e1, o1⟩ := trod_cut2 h0
  obtain ⟨hs, ha, e2, o2⟩ := trod_cut2 h1
  match cs, hlen with
  | [v0, v1, v2, v3], _ =>
    rw [show Tryd.prog.cellsOf 25 = 2 by kernel_rfl] at e1 e2
    simp at e1 e2
    exact ⟨⟨ls, la, hs, ha⟩, by rw [e1.1, e1.2, e2.1, e2.2], o1, o2⟩
set_option maxRecDepth 100000 in
/-- A span by value. -/
theorem open_span {H : Type} {enc : TypeId × Value → H} {w : World} {base : Nat} {spare : Nat → Bool} {held : Bool} {r : Reach} {b0 : Nat} {v : Value} {d : DataW H} {p : List MemPlace} (hv : Value.okWide Tryd.prog w r b0 27 v) (h : DataW.Trod enc Tryd.prog w base spare held 27 v d p) :
    ∃ q : S4, v = vS q ∧ q.ok := by
  obtain ⟨cs, rfl, hsz⟩ := okWide_struct Tryd.underlying27 hv
  obtain ⟨fuel, hf⟩ := h
  obtain ⟨q, e, ok⟩ := trod_span hf
  refine ⟨q, ?_, ok⟩
  have e2 : cs.toList = [.int .i64 q.ls, .int .i64 q.la, .int .i64 q.hs, .int .i64 q.ha] := by simpa [Value.cells] using e
  have : cs = #[.int .i64 q.ls, .int .i64 q.la, .int .i64 q.hs, .int .i64 q.ha] := by rw [← Array.toArray_toList (xs := cs), e2]
  rw [this]
/-- A slice of spans. -/
def IsSpans (w : World) (a : Option Addr) (len : Nat) (l : List S4) : Prop := len = l.length ∧ (∀ q ∈ l, q.ok) ∧ SRow w a l
theorem isSpans_nil (w : World) : IsSpans w none 0 [] := ⟨rfl, by simp, fun h => by simp at h⟩
theorem isSpans_of (w : World) (x : Addr) (len m : Nat) (hlm : len ≤ m) (hi : ∀ i, i < m → ∃ q : S4, (∀ j u, [Value.int .i64 q.ls, .int .i64 q.la, .int .i64 q.hs, .int .i64 q.ha][j]? = some u → w.cell? (x.add (i * 4 + j)) = some u) ∧ q.ok) : ∃ l, IsSpans w (some x) len l := by
  have h' : ∀ i, ∃ q : S4, i < m → (∀ j u, [Value.int .i64 q.ls, .int .i64 q.la, .int .i64 q.hs, .int .i64 q.ha][j]? = some u → w.cell? (x.add (i * 4 + j)) = some u) ∧ q.ok := by
    intro i
    by_cases h : i < m
    · obtain ⟨q, h1⟩ := hi i h
      exact ⟨q, fun _ => h1⟩
    · exact ⟨⟨0, 0, 0, 0⟩, fun h2 => absurd h2 h⟩
  obtain ⟨f, hf⟩ := Classical.axiomOfChoice h'
  refine ⟨(List.range len).map f, by simp, ?_, ?_⟩
  · intro c hc
    obtain ⟨i, hi2, rfl⟩ := List.mem_map.1 hc
    exact (hf i (by have := List.mem_range.1 hi2; omega)).2
  · intro hp
    have hp' : 0 < len := by simpa using hp
    obtain ⟨b, off, spot⟩ := x
    have hspot : spot = none := by simpa [Addr.add] using World.cell?_spot ((hf 0 (by omega)).1 0 _ rfl)
    subst hspot
    refine ⟨b, off, rfl, fun j hj => ?_⟩
    have hj' : j < len := by simpa using hj
    have h1 := (hf j (by omega)).1
    simp only [List.getElem_map, List.getElem_range]
    have g0 := h1 0 _ rfl
    have g1 := h1 1 _ rfl
    have g2 := h1 2 _ rfl
    have g3 := h1 3 _ rfl
    rw [Addr.add_lit] at g0 g1 g2 g3
    exact ⟨g0, by rw [Nat.add_assoc]; exact g1, by rw [Nat.add_assoc]; exact g2, by rw [Nat.add_assoc]; exact g3⟩
end Go.Proofs.YthojkbmffiibdaaDoor
