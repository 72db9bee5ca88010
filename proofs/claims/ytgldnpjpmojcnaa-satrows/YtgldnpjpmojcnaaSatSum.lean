/- Contract of sat.Sum. -/
import Derived.Test.YtgldnpjpmojcnaaSatOrderW
import Derived.Test.YtgldnpjpmojcnaaBigF
namespace Go.Proofs.Ytgldnpjpmojcnaa
open Go.RowKit Go.Proofs.Ytgldnpjpmojcnaa.Bo
set_option linter.unusedVariables false

/-- Numbers, added up one behind the other, ending at the ends. -/
def sumC (zs : List Int) : Int := zs.foldl (fun s z => clamp (s + z)) 0
theorem sumC_snoc (zs : List Int) (z : Int) : sumC (zs ++ [z]) = clamp (sumC zs + z) := by unfold sumC; rw [List.foldl_append]; rfl
theorem foldC_i64 : ∀ (zs : List Int) (s : Int), I64 s → I64 (zs.foldl (fun s z => clamp (s + z)) s)
  | [], _, h => h
  | z :: l, s, _ => foldC_i64 l (clamp (s + z)) (clamp_i64 _)
theorem sumC_i64 (zs : List Int) : I64 (sumC zs) := foldC_i64 zs 0 ⟨by decide, by decide⟩

/-- A slice of numbers that holds zs. -/
def Row64 (w : World) (a : Option Addr) (zs : List Int) : Prop := 0 < zs.length → ∃ b off, a = some ⟨b, off, none⟩ ∧ ∀ (j : Nat) (h : j < zs.length), w.cell? ⟨b, off + j, none⟩ = some (.int .i64 zs[j])

set_option maxHeartbeats 1000000 in
theorem sum_any (a : Option Addr) (cap : Nat) (zs : List Int) (w : World) (hz : ∀ z ∈ zs, I64 z) (hr : Row64 w a zs) (hl : zs.length ≤ 100000) :
    Calls Try.prog 26 #[.slice a zs.length cap] w fun e w' => e = .returned (.int .i64 (sumC zs)) ∧ w = w' := by
  have HR := Lib.hid hr
  have HZ := Lib.hid hz
  clear hr hz
  generalize hS : sumC zs = S
  have HS := Lib.hid hS
  clear hS
  go_enter Try.func26, Try.ntmps26
  go_wp2_with fail
  go_loop [3, 8] (fun s i => ∃ k : Nat, i = .int .i64 (k : Int) ∧ k ≤ zs.length ∧ s = .int .i64 (sumC (zs.take k))) (fun _ i => zs.length - (intOf i).toNat)
  case atStart => exact ⟨0, rfl, Nat.zero_le _, rfl⟩
  case round =>
    obtain ⟨k, rfl, hk, rfl⟩ := hrel
    by_cases hlt : k < zs.length
    · obtain ⟨b, off, rfl, hcell⟩ := HR.out (by omega)
      have hc := hcell k hlt
      have HI := Lib.hid (HZ.out _ (List.getElem_mem hlt))
      have HJ := Lib.hid (sumC_i64 (zs.take k))
      have HN : Hid (sumC (zs.take (k + 1)) = clamp (sumC (zs.take k) + zs[k])) := by
        show _ = _
        rw [List.take_succ_eq_append_getElem hlt, sumC_snoc]
      clear hcell
      generalize zs[k] = Z at *
      generalize sumC (zs.take k) = T at *
      go_wp2_with (go_at_call 12; refine (add_any _ _ _ HJ.out HI.out).mono ?_; rintro e w' ⟨rfl, rfl⟩)
      go_round
      case rel => exact ⟨k + 1, by go_num, by omega, by rw [HN.out]⟩
      case measure => simp [intOf]; omega
    · obtain rfl : k = zs.length := by omega
      have HE : Hid (sumC (zs.take zs.length) = S) := by
        show _ = _
        rw [List.take_length]; exact HS.out
      generalize sumC (zs.take zs.length) = T at *
      go_wp2_with fail
      go_ret
      exact ⟨ret_i64 HE.out, rfl⟩
end Go.Proofs.Ytgldnpjpmojcnaa
