/- The law's guard 'alive' answers true. -/
import Derived.Test.YtdebmokpdchgpaaBA
namespace Go.Proofs.Ytdebmokpdchgpaa
open Go.RowKit Go.Proofs.Ytdebmokpdchgpaa.Bo
set_option linter.unusedVariables false

theorem low_12 : low 12 = [2, 1] := by rw [low_pos 12 (by decide), low_pos (12 / 10) (by decide), show 12 / 10 / 10 = 0 from rfl, low_zero]
theorem text_m12 : textOf (-12) = [45, 49, 50] := by
  rw [textOf, if_pos (by decide), show Int.natAbs (-12) = 12 from rfl, dg, if_neg (by decide), pre, low_12]; decide
theorem read_m07 : rdAll [45, 48, 55] = (0, 0) := by decide +kernel
theorem read_12x : rdAll [49, 50, 120] = (12, 2) := by decide +kernel
theorem cl_m7 : cl (-7) 4 = -4 := by decide +kernel
theorem clamp_top1 : clamp (9223372036854775807 + 1) = 9223372036854775807 := by decide +kernel
theorem clamp_least : clamp (-(-9223372036854775808)) = 9223372036854775807 := by decide +kernel

end Go.Proofs.Ytdebmokpdchgpaa
