/- The law's guard 'alive' answers true. -/
import Derived.Test.YtgldnpjpmojcnaaSatRead2
namespace Go.Proofs.Ytgldnpjpmojcnaa
open Go.RowKit Go.Proofs.Ytgldnpjpmojcnaa.Bo
set_option linter.unusedVariables false

theorem low_12 : low 12 = [2, 1] := by rw [low_pos 12 (by decide), low_pos (12 / 10) (by decide), show 12 / 10 / 10 = 0 from rfl, low_zero]
theorem text_m12 : textOf (-12) = [45, 49, 50] := by
  rw [textOf, if_pos (by decide), show Int.natAbs (-12) = 12 from rfl, dg, if_neg (by decide), pre, low_12]; decide
theorem read_m07 : rdAll [45, 48, 55] = (0, 0) := by decide +kernel
theorem read_12x : rdAll [49, 50, 120] = (12, 2) := by decide +kernel
theorem cl_m7 : cl (-7) 4 = -4 := by decide +kernel
theorem clamp_top1 : clamp (9223372036854775807 + 1) = 9223372036854775807 := by decide +kernel
theorem clamp_least : clamp (-(-9223372036854775808)) = 9223372036854775807 := by decide +kernel

theorem alive_read1 (w : World) : Calls Try.prog 20 #[.string ⟨#[45, 48, 55]⟩] w fun e w' => e = .returned (.tuple #[.int .i64 0, .int .i64 0]) ∧ Below w.heap.size w w' := by
  have h := read_any ⟨#[45, 48, 55]⟩ w (by decide)
  have e : rdAll ([45, 48, 55] : List UInt8) = (0, 0) := read_m07
  simp only [e] at h
  exact h
theorem alive_read2 (w : World) : Calls Try.prog 20 #[.string ⟨#[49, 50, 120]⟩] w fun e w' => e = .returned (.tuple #[.int .i64 12, .int .i64 2]) ∧ Below w.heap.size w w' := by
  have h := read_any ⟨#[49, 50, 120]⟩ w (by decide)
  have e : rdAll ([49, 50, 120] : List UInt8) = (12, 2) := read_12x
  simp only [e] at h
  exact h
theorem alive_text (w : World) : Calls Try.prog 22 #[.int .i64 (-12)] w fun e w' => e = .returned (.string ⟨#[45, 49, 50]⟩) ∧ Below w.heap.size w w' := by
  have h := text_any (-12) w ⟨by decide, by decide⟩
  rw [text_m12] at h
  exact h
theorem alive_ceil (w : World) : Calls Try.prog 24 #[.int .i64 (-7), .int .i64 4] w fun e w' => e = .returned (.tuple #[.int .i64 (-4), .bool true]) ∧ w = w' := by
  have h := ceil_yes (-7) 4 w ⟨by decide, by decide⟩ ⟨by decide, by decide⟩ (by decide) (by rw [cl_m7]; decide)
  rw [cl_m7] at h
  exact h
theorem alive_add (w : World) : Calls Try.prog 12 #[.int .i64 9223372036854775807, .int .i64 1] w fun e w' => e = .returned (.int .i64 9223372036854775807) ∧ w = w' := by
  have h := add_any 9223372036854775807 1 w ⟨by decide, by decide⟩ ⟨by decide, by decide⟩
  rw [clamp_top1] at h
  exact h
theorem alive_neg (w : World) : Calls Try.prog 17 #[.int .i64 (-9223372036854775808)] w fun e w' => e = .returned (.int .i64 9223372036854775807) ∧ w = w' := by
  have h := neg_any (-9223372036854775808) w ⟨by decide, by decide⟩
  rw [clamp_least] at h
  exact h

set_option maxRecDepth 100000 in
theorem alive_any (w : World) : Calls Try.prog 11 #[] w fun e w' => e = .returned (.bool true) ∧ Below w.heap.size w w' := by
  go_enter Try.func11, Try.ntmps11
  go_wp2_with fail
  refine (alive_read1 _).mono ?_
  rintro e w1 ⟨rfl, hB1⟩
  go_wp2_with fail
  refine (alive_read2 _).mono ?_
  rintro e w2 ⟨rfl, hB2⟩
  go_wp2_with fail
  refine (alive_ceil _).mono ?_
  rintro e w3 ⟨rfl, rfl⟩
  go_wp2_with fail
  refine (alive_add _).mono ?_
  rintro e w3 ⟨rfl, rfl⟩
  go_wp2_with fail
  refine (alive_neg _).mono ?_
  rintro e w3 ⟨rfl, rfl⟩
  go_wp2_with fail
  refine (alive_text _).mono ?_
  rintro e w3 ⟨rfl, hB3⟩
  go_wp2_with fail
  go_ret
  exact ⟨rfl, (hB1.trans (hB2.mono hB1.size)).trans (hB3.mono (Nat.le_trans hB1.size hB2.size))⟩
end Go.Proofs.Ytgldnpjpmojcnaa
