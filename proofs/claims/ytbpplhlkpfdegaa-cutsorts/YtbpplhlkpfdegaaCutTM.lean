/- The texts of cuts. -/
import Derived.Test.YtbpplhlkpfdegaaCutMath
import Derived.Test.YtbpplhlkpfdegaaTextMath
namespace Go.Proofs.Ytbpplhlkpfdegaa.Bo
/-- A cut's text, by its key. -/
def ktext (k : Int) : List UInt8 := if k = -9223372036854775808 then [45, 105, 110, 102] else if k = 9223372036854775808 then [43, 105, 110, 102] else textOf k
theorem ktext_lo : ktext (-9223372036854775808) = [45, 105, 110, 102] := by unfold ktext; rw [if_pos rfl]
theorem ktext_hi : ktext 9223372036854775808 = [43, 105, 110, 102] := by unfold ktext; rw [if_neg (by decide), if_pos rfl]
theorem ktext_mid (k : Int) (h1 : -9223372036854775808 < k) (h2 : k < 9223372036854775808) : ktext k = textOf k := by unfold ktext; rw [if_neg (by omega), if_neg (by omega)]
/-- The cut whose text is the longest such beginning, as a key, and its length. -/
def rdCut (l : List UInt8) : Int × Nat := if l.take 4 = [45, 105, 110, 102] then (-9223372036854775808, 4) else if l.take 4 = [43, 105, 110, 102] then (9223372036854775808, 4) else if (rdAll l).1 = -9223372036854775808 then (-922337203685477580, 19) else rdAll l
theorem text_least : textOf (-9223372036854775808) = [45, 57, 50, 50, 51, 51, 55, 50, 48, 51, 54, 56, 53, 52, 55, 55, 53, 56, 48, 56] := by decide +kernel
theorem read_short : rdAll [45, 57, 50, 50, 51, 51, 55, 50, 48, 51, 54, 56, 53, 52, 55, 55, 53, 56, 48] = (-922337203685477580, 19) := by decide +kernel
/-- Where the least number is read, twenty bytes are its text; a byte less is another one's. -/
theorem rdAll_least (l : List UInt8) (h : (rdAll l).1 = -9223372036854775808) : (rdAll l).2 = 20 ∧ 20 ≤ l.length ∧ rdAll (l.take 19) = (-922337203685477580, 19) := by
  rcases rdAll_is l with ⟨_, h1⟩ | ⟨_, h1⟩
  · rw [h] at h1; exact absurd h1 (by decide)
  · rw [h, text_least] at h1
    have hl := congrArg List.length h1
    have hb := (rdAll_bounds l).2
    rw [List.length_take] at hl
    have h20 : (rdAll l).2 = 20 := by simp at hl; omega
    refine ⟨h20, by omega, ?_⟩
    rw [h20] at h1
    have : l.take 19 = (l.take 20).take 19 := by rw [List.take_take]; rfl
    rw [this, h1]
    exact read_short
end Go.Proofs.Ytbpplhlkpfdegaa.Bo
