/- Contract of the reference's Text. -/
import Derived.Test.YtmdnmcbjpjpgjaaBigF
import Derived.Test.YtmdnmcbjpjpgjaaSatDig
namespace Go.Proofs.Ytmdnmcbjpjpgjaa
open Go.RowKit Go.Proofs.Ytmdnmcbjpjpgjaa.Bo
set_option linter.unusedVariables false

def tenDigits : ByteArray := ⟨#[48, 49, 50, 51, 52, 53, 54, 55, 56, 57]⟩
theorem ten_slice (d : Nat) (h : d < 10) : tenDigits.extract d (d + 1) = ⟨#[ch d]⟩ := by
  match d, h with
  | 0, _ => rfl
  | 1, _ => rfl
  | 2, _ => rfl
  | 3, _ => rfl
  | 4, _ => rfl
  | 5, _ => rfl
  | 6, _ => rfl
  | 7, _ => rfl
  | 8, _ => rfl
  | 9, _ => rfl

theorem ten_run (D : Nat) (h : D < 10) (W : World) : (Instr.slice 9 (.string ⟨#[48, 49, 50, 51, 52, 53, 54, 55, 56, 57]⟩) (some (.int .i64 (D : Int))) (some (.int .i64 ((D : Int) + 1))) none).run Try.prog W = .ok (.string ⟨#[ch D]⟩) W := by
  have e := ten_slice D h
  have h2 := run_slice_string (P := Try.prog) W 9 ⟨#[48, 49, 50, 51, 52, 53, 54, 55, 56, 57]⟩ .i64 .i64 (D : Int) ((D : Int) + 1) Try.underlying9 (by omega) (by omega) (by show (D : Int) + 1 ≤ ((10 : Nat) : Int); omega)
  rw [h2]
  unfold tenDigits at e
  rw [show (D : Int).toNat = D from rfl, show ((D : Int) + 1).toNat = D + 1 from by omega, e]

set_option maxRecDepth 100000 in
set_option maxHeartbeats 2000000 in
theorem rtext_any (n : Int) (w : World) (hn : I64 n) :
    Calls Try.prog 52 #[.int .i64 n] w fun e w' => e = .returned (.string ⟨(textOf n).toArray⟩) ∧ Below w.heap.size w w' := by
  have HN := Lib.hid hn
  have HL := Lib.hid (low_len 20 n.natAbs (by obtain ⟨h1, h2⟩ := hn; omega))
  have HO := Lib.hid (low_ok n.natAbs)
  clear hn
  go_enter Try.func52, Try.ntmps52
  go_wp2_with fail
  refine (of_any _ _ HN.out).mono ?_
  rintro e x1 ⟨v, rfl, hd, hB1⟩
  obtain ⟨a, cap, rfl, hcap, hg⟩ := id hd
  clear hg
  generalize hxs : low n.natAbs = xs at *
  have HXS := Lib.hid hxs
  clear hxs
  have hlen := HL.out
  have hB2 : Below x1.heap.size x1 (x1.alloc (.cells #[.int .i64 (sgn n), .slice a xs.length cap] 52)) := (Below.refl _ _).alloc (Nat.le_refl _) _
  have HD := Lib.hid (hd.below hB2)
  have hm := heap_alloc_new x1 (.cells #[.int .i64 (sgn n), .slice a xs.length cap] 52)
  clear hd
  go_wp2_with fail
  generalize x1.alloc (.cells #[.int .i64 (sgn n), .slice a xs.length cap] 52) = x2 at *
  have u0 := cell_of_row _ _ 0 _ _ _ hm
  have u1 := cell_of_row _ _ 1 _ _ _ hm
  simp at u0 u1
  clear hm
  go_loopw [4, 5] (fun out i wr => ∃ k : Nat, i = .int .i64 (k : Int) ∧ k ≤ xs.length ∧ out = .string ⟨((xs.take k).reverse.map ch).toArray⟩ ∧ Below x2.heap.size x2 wr) (fun _ i _ => xs.length - (intOf i).toNat)
  case atStart => exact ⟨0, rfl, Nat.zero_le _, rfl, Below.refl _ _⟩
  case round =>
    obtain ⟨k, rfl, hk, rfl, hBr⟩ := hrel
    have c0 := (hBr.cell (p := ⟨x1.heap.size, 0, none⟩) (World.block_lt_of_cell? x2 _ u0)).trans u0
    have c1 := (hBr.cell (p := ⟨x1.heap.size, 1, none⟩) (World.block_lt_of_cell? x2 _ u1)).trans u1
    by_cases hlt : k < xs.length
    · obtain ⟨_, _, hg⟩ := (HD.out.below hBr).cellAt
      obtain ⟨g, rfl, hgl, hcell⟩ := hg (by omega)
      have hc := hcell k hlt
      have hd10 := HO.out _ (List.getElem_mem hlt)
      have hsl := ten_run xs[k] hd10
      have hsz : (⟨((xs.take k).reverse.map ch).toArray⟩ : ByteArray).size ≤ 20 := by simp [ByteArray.size]; omega
      have HNX : Hid (((xs.take (k + 1)).reverse.map ch) = ch xs[k] :: ((xs.take k).reverse.map ch)) := by
        show _ = _
        rw [List.take_succ_eq_append_getElem hlt, List.reverse_append, List.map_append]; rfl
      clear hg hcell
      generalize xs[k] = D at *
      generalize hL : (xs.take k).reverse.map ch = L at *
      clear hL
      have HFIN : Hid ((⟨#[ch D]⟩ : ByteArray) ++ ⟨L.toArray⟩ = ⟨(ch D :: L).toArray⟩) := by
        show _ = _
        apply ByteArray.ext
        simp
      generalize (⟨L.toArray⟩ : ByteArray) = B at *
      have hadd : ∀ W : World, (Op.stringOp .add ⟨#[ch D]⟩ B).run Try.prog W = .ok (.string (⟨#[ch D]⟩ ++ B)) W := fun W => run_string_add_sum W _ _ (by show 1 + B.size ≤ _; omega)
      have i1 : (0 : Int) ≤ (k : Int) := by omega
      have i2 : (k : Int) < (xs.length : Int) := by omega
      go_wp2_with fail
      have q1 : IntKind.i64.wrap ((D : Int) + 1) = (D : Int) + 1 := IntWalk.i64_in _ (by omega)
      go_quiet (fail)
      clear q1 hadd hsl
      go_wp2_with fail
      go_roundw
      case rel => exact ⟨k + 1, by go_num, by omega, by rw [HNX.out]; exact congrArg Value.string HFIN.out, below_drewN hBr nq⟩
      case measure => simp [intOf]; omega
    · obtain rfl : k = xs.length := by omega
      have hpre : (xs.take xs.length).reverse.map ch = pre n.natAbs := by rw [List.take_length]; unfold pre; rw [HXS.out]
      have hsz : (⟨((xs.take xs.length).reverse.map ch).toArray⟩ : ByteArray).size ≤ 20 := by simp [ByteArray.size]; omega
      have hBf := bt (bt hB1 hB2) hBr
      rw [hpre] at hsz ⊢
      clear hpre
      by_cases hneg : n < 0
      · have e1 : sgn n = -1 := by unfold sgn; rw [if_pos hneg]
        have HFIN : Hid ((⟨#[45]⟩ : ByteArray) ++ ⟨(pre n.natAbs).toArray⟩ = ⟨(textOf n).toArray⟩) := by
          show _ = _
          apply ByteArray.ext
          unfold textOf
          rw [if_pos hneg, dg, if_neg (by omega)]
          simp
        rw [e1] at c0
        clear e1
        generalize (⟨(pre n.natAbs).toArray⟩ : ByteArray) = B at *
        have hadd : ∀ W : World, (Op.stringOp .add ⟨#[45]⟩ B).run Try.prog W = .ok (.string (⟨#[45]⟩ ++ B)) W := fun W => run_string_add_sum W _ _ (by show 1 + B.size ≤ _; omega)
        go_wp2_with fail
        go_ret
        exact ⟨congrArg (fun b => Ending.returned (Value.string b)) HFIN.out, hBf⟩
      · by_cases hz : n = 0
        · have e1 : sgn n = 0 := by unfold sgn; rw [if_neg hneg, if_pos hz]
          have HFIN : Hid ((⟨#[48]⟩ : ByteArray) = ⟨(textOf n).toArray⟩) := by
            show _ = _
            rw [hz]; rfl
          rw [e1] at c0
          clear e1 hz
          go_wp2_with fail
          go_ret
          exact ⟨congrArg (fun b => Ending.returned (Value.string b)) HFIN.out, hBf⟩
        · have e1 : sgn n = 1 := by unfold sgn; rw [if_neg hneg, if_neg hz]
          have HFIN : Hid ((⟨(pre n.natAbs).toArray⟩ : ByteArray) = ⟨(textOf n).toArray⟩) := by
            show _ = _
            unfold textOf
            rw [if_neg hneg, dg, if_neg (by omega)]
          rw [e1] at c0
          clear e1 hz
          generalize (⟨(pre n.natAbs).toArray⟩ : ByteArray) = B at *
          go_wp2_with fail
          go_ret
          exact ⟨congrArg (fun b => Ending.returned (Value.string b)) HFIN.out, hBf⟩
end Go.Proofs.Ytmdnmcbjpjpgjaa
