/- Contract of End. -/
import Derived.Test.YtmdnmcbjpjpgjaaBigB
namespace Go.Proofs.Ytmdnmcbjpjpgjaa
open Go.RowKit Go.Proofs.Ytmdnmcbjpjpgjaa.Bo
set_option linter.unusedVariables false

theorem ret_i64 {a b : Int} (h : a = b) : Ending.returned (.int .i64 a) = .returned (.int .i64 b) := by rw [h]

set_option maxRecDepth 100000 in
set_option maxHeartbeats 2000000 in
theorem end_any (s : Int) (v : Value) (xs : List Nat) (w : World) (hs : s = -1 ∨ s = 0 ∨ s = 1) (hd : Dg w v xs) (ok : Ok xs) (hl : xs.length ≤ 100000) :
    Calls Try.prog 47 #[.agg #[.int .i64 s, v]] w fun e w' => e = .returned (.int .i64 (clamp (s * (val xs : Int)))) ∧ Below w.heap.size w w' := by
  rw [clamp_sign s (val xs) hs]
  have HS := Lib.hid hs
  have HD := Lib.hid (hd.below ((Below.refl _ _).alloc (Nat.le_refl _) (.cells #[.int .i64 s, v] 52)))
  obtain ⟨a, cap, rfl, hcap, _⟩ := hd
  have hs1 : -1 ≤ s := by omega
  have hs2 : s ≤ 1 := by omega
  clear hs
  have hb0 : (w.alloc (.cells #[.int .i64 s, .slice a xs.length cap] 52)).cell? ⟨w.heap.size, 0, none⟩ = some (.int .i64 s) := by rw [World.cell?_alloc_at _ _ _ _ rfl]; rfl
  have hb1 : (w.alloc (.cells #[.int .i64 s, .slice a xs.length cap] 52)).cell? ⟨w.heap.size, 1, none⟩ = some (.slice a xs.length cap) := by rw [World.cell?_alloc_at _ _ _ _ rfl]; rfl
  have hBx : Below w.heap.size w (w.alloc (.cells #[.int .i64 s, .slice a xs.length cap] 52)) := (Below.refl _ _).alloc (Nat.le_refl _) _
  have hsz : w.heap.size < (w.alloc (.cells #[.int .i64 s, .slice a xs.length cap] 52)).heap.size := by simp
  have HI := Lib.hid (is_any s _ xs _ HS.out HD.out ok hl)
  generalize hx : w.alloc (.cells #[.int .i64 s, .slice a xs.length cap] 52) = wx at *
  have HX := Lib.hid hx
  clear hx
  by_cases hbig : lim s < val xs
  · rw [if_pos hbig]
    rw [show (!decide (lim s < val xs)) = false from by simp; omega] at HI
    go_enter Try.func47, Try.ntmps47
    go_wp2_with fail
    rw [HX.out]
    refine HI.out.mono ?_
    rintro e w1 ⟨rfl, hB1⟩
    have hc0' := (hB1.cell (p := ⟨w.heap.size, 0, none⟩) hsz).trans hb0
    have hsz1' := Nat.lt_of_lt_of_le hsz hB1.size
    have hBw1 := bt hBx hB1
    clear hb0 hb1 hBx HI HX HD hbig
    go_wp2_with fail
    refine (ends_any s _ hs1 hs2).mono ?_
    rintro e w2 ⟨v2, rfl, hd2, hB2⟩
    have hc0 := (hB2.cell (p := ⟨w.heap.size, 0, none⟩) hsz1').trans hc0'
    have hsz1 := Nat.lt_of_lt_of_le hsz1' hB2.size
    have hBw := bt hBw1 hB2
    have HLIM : Hid (val (endsL s) ≤ lim s) := by show _ ≤ _; rw [val_ends]; exact Nat.le_refl _
    have HVAL : Hid (val (endsL s) = lim s) := val_ends s
    have hyl : (endsL s).length ≤ 1000 := by rw [len_ends]; omega
    generalize endsL s = ys at *
    have HD1 := Lib.hid hd2
    obtain ⟨a2, cap2, rfl, hcap2, _⟩ := hd2
    clear hc0'
    go_wp2_with fail
    go_loopw [4, 5] (fun n i wr => ∃ k : Int, i = .int .i64 k ∧ -1 ≤ k ∧ k < ys.length ∧ n = .int .i64 (s * (val (ys.drop (k + 1).toNat) : Int)) ∧ Below w.heap.size w wr ∧ Below w2.heap.size w2 wr) (fun _ i _ => (intOf i + 1).toNat)
    case atStart =>
      refine ⟨(ys.length : Int) - 1, rfl, by omega, by omega, ?_, hBw, Below.refl _ _⟩
      rw [List.drop_of_length_le (by omega)]; simp [val]
    case round =>
      obtain ⟨k, rfl, hk1, hk2, rfl, hBr, hB1r⟩ := hrel
      by_cases hpos : 0 ≤ k
      · obtain ⟨i, rfl⟩ := Int.eq_ofNat_of_zero_le hpos
        have hi : i < ys.length := by omega
        obtain ⟨_, _, hg⟩ := HD1.out.cellAt
        obtain ⟨g, rfl, hgl, hcell⟩ := hg (by omega)
        have hci := (hB1r.cell (p := ⟨g, i, none⟩) hgl).trans (hcell i hi)
        have hcs := (hB1r.cell (p := ⟨w.heap.size, 0, none⟩) hsz1).trans hc0
        have hvd := val_drop ys i
        have hge : ys.getD i 0 = ys[i] := by rw [List.getD_eq_getElem?_getD, List.getElem?_eq_getElem hi]; rfl
        rw [hge] at hvd
        have hle := val_drop_le ys i
        have hst := sign_step s (val (ys.drop (i + 1))) ys[i] (val ys) HS.out HLIM.out (by omega)
        obtain ⟨j0, j1, j2, j3, j4⟩ := hst
        have HF : Hid (s * (val (ys.drop (i + 1)) : Int) * 10 + s * (ys[i] : Int) = s * (val (ys.drop i) : Int)) := by
          show _ = _
          rw [j4, hvd]
        rw [show ((i : Int) + 1).toNat = i + 1 from by omega]
        clear hg hcell hvd hge hle j4
        generalize val (ys.drop (i + 1)) = V at *
        generalize ys[i] = D at *
        obtain ⟨p1, p2⟩ := j1
        obtain ⟨p3, p4⟩ := j2
        obtain ⟨p5, p6⟩ := j3
        go_wp2_with fail
        have q1 := IntWalk.i64_in _ ⟨p1, p2⟩
        have q2 := IntWalk.i64_in _ ⟨p3, p4⟩
        have q3 := IntWalk.i64_in _ ⟨p5, p6⟩
        have i1 : (0 : Int) ≤ (i : Int) := by omega
        have i2 : (i : Int) < (ys.length : Int) := by omega
        go_quiet (fail)
        clear q1 q2 q3 p1 p2 p3 p4 p5 p6
        go_wp2_with fail
        go_roundw
        case rel => exact ⟨(i : Int) - 1, rfl, by omega, by omega, by rw [show ((i : Int) - 1 + 1).toNat = i from by omega, HF.out], below_drewN hBr nq, below_drewN hB1r nq⟩
        case measure => simp [intOf]
      · obtain rfl : k = -1 := by omega
        have HF : Hid (s * (val (ys.drop ((-1 : Int) + 1).toNat) : Int) = s * (lim s : Int)) := by
          show _ = _
          rw [show ((-1 : Int) + 1).toNat = 0 from rfl, List.drop_zero, HVAL.out]
        generalize (val (ys.drop ((-1 : Int) + 1).toNat) : Int) = V at *
        go_wp2_with fail
        go_ret
        exact ⟨ret_i64 HF.out, hBr⟩
  · rw [if_neg hbig]
    rw [show (!decide (lim s < val xs)) = true from by simp; omega] at HI
    go_enter Try.func47, Try.ntmps47
    go_wp2_with fail
    rw [HX.out]
    refine HI.out.mono ?_
    rintro e w1 ⟨rfl, hB1⟩
    have hd1 := HD.out.below hB1
    have hc0 := (hB1.cell (p := ⟨w.heap.size, 0, none⟩) hsz).trans hb0
    have hsz1 := Nat.lt_of_lt_of_le hsz hB1.size
    have hBw := bt hBx hB1
    have HLIM : Hid (val xs ≤ lim s) := by show _ ≤ _; omega
    have HD1 := Lib.hid hd1
    clear hd1 hb0 hb1 hBx HI HX HD
    go_wp2_with fail
    go_loopw [4, 5] (fun n i wr => ∃ k : Int, i = .int .i64 k ∧ -1 ≤ k ∧ k < xs.length ∧ n = .int .i64 (s * (val (xs.drop (k + 1).toNat) : Int)) ∧ Below w.heap.size w wr ∧ Below w1.heap.size w1 wr) (fun _ i _ => (intOf i + 1).toNat)
    case atStart =>
      refine ⟨(xs.length : Int) - 1, rfl, by omega, by omega, ?_, hBw, Below.refl _ _⟩
      rw [List.drop_of_length_le (by omega)]; simp [val]
    case round =>
      obtain ⟨k, rfl, hk1, hk2, rfl, hBr, hB1r⟩ := hrel
      by_cases hpos : 0 ≤ k
      · obtain ⟨i, rfl⟩ := Int.eq_ofNat_of_zero_le hpos
        have hi : i < xs.length := by omega
        obtain ⟨_, _, hg⟩ := HD1.out.cellAt
        obtain ⟨g, rfl, hgl, hcell⟩ := hg (by omega)
        have hci := (hB1r.cell (p := ⟨g, i, none⟩) hgl).trans (hcell i hi)
        have hcs := (hB1r.cell (p := ⟨w.heap.size, 0, none⟩) hsz1).trans hc0
        have hvd := val_drop xs i
        have hge : xs.getD i 0 = xs[i] := by rw [List.getD_eq_getElem?_getD, List.getElem?_eq_getElem hi]; rfl
        rw [hge] at hvd
        have hle := val_drop_le xs i
        have hst := sign_step s (val (xs.drop (i + 1))) xs[i] (val xs) HS.out HLIM.out (by omega)
        obtain ⟨j0, j1, j2, j3, j4⟩ := hst
        have HF : Hid (s * (val (xs.drop (i + 1)) : Int) * 10 + s * (xs[i] : Int) = s * (val (xs.drop i) : Int)) := by
          show _ = _
          rw [j4, hvd]
        rw [show ((i : Int) + 1).toNat = i + 1 from by omega]
        clear hg hcell hvd hge hle j4
        generalize val (xs.drop (i + 1)) = V at *
        generalize xs[i] = D at *
        obtain ⟨p1, p2⟩ := j1
        obtain ⟨p3, p4⟩ := j2
        obtain ⟨p5, p6⟩ := j3
        go_wp2_with fail
        have q1 := IntWalk.i64_in _ ⟨p1, p2⟩
        have q2 := IntWalk.i64_in _ ⟨p3, p4⟩
        have q3 := IntWalk.i64_in _ ⟨p5, p6⟩
        have i1 : (0 : Int) ≤ (i : Int) := by omega
        have i2 : (i : Int) < (xs.length : Int) := by omega
        go_quiet (fail)
        clear q1 q2 q3 p1 p2 p3 p4 p5 p6
        go_wp2_with fail
        go_roundw
        case rel => exact ⟨(i : Int) - 1, rfl, by omega, by omega, by rw [show ((i : Int) - 1 + 1).toNat = i from by omega, HF.out], below_drewN hBr nq, below_drewN hB1r nq⟩
        case measure => simp [intOf]
      · obtain rfl : k = -1 := by omega
        have HF : Hid (s * (val (xs.drop ((-1 : Int) + 1).toNat) : Int) = s * (val xs : Int)) := by
          show _ = _
          rw [show ((-1 : Int) + 1).toNat = 0 from rfl, List.drop_zero]
        generalize (val (xs.drop ((-1 : Int) + 1).toNat) : Int) = V at *
        go_wp2_with fail
        go_ret
        exact ⟨ret_i64 HF.out, hBr⟩
end Go.Proofs.Ytmdnmcbjpjpgjaa
