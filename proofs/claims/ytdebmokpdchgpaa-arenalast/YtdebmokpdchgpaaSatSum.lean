/- Contract of sat.Sum. -/
import Derived.Test.YtdebmokpdchgpaaSatOrderW
import Derived.Test.YtdebmokpdchgpaaBB
namespace Go.Proofs.Ytdebmokpdchgpaa
open Go.RowKit Go.Proofs.Ytdebmokpdchgpaa.Bo
set_option linter.unusedVariables false

/-- Numbers, added up one behind the other, ending at the ends. -/
def sumC (zs : List Int) : Int := zs.foldl (fun s z => clamp (s + z)) 0
theorem sumC_snoc (zs : List Int) (z : Int) : sumC (zs ++ [z]) = clamp (sumC zs + z) := by unfold sumC; rw [List.foldl_append]; rfl
theorem foldC_i64 : ∀ (zs : List Int) (s : Int), I64 s → I64 (zs.foldl (fun s z => clamp (s + z)) s)
  | [], _, h => h
  | z :: l, s, _ => foldC_i64 l (clamp (s + z)) (clamp_i64 _)
theorem sumC_i64 (zs : List Int) : I64 (sumC zs) := foldC_i64 zs 0 ⟨by decide, by decide⟩

/-- A slice of numbers that holds zs. -/
def Row64 (w : World) (a : Option Addr) (zs : List Int) : Prop := 0 < zs.length → ∃ b off, a = some ⟨b, off, none⟩ ∧ ∀ (j : Nat) (h : j < zs.length), w.cell? ⟨b, off + j, none⟩ = some (.int .i64 zs[j])

end Go.Proofs.Ytdebmokpdchgpaa
