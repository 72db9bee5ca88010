/- The walk of the law ArenaPlaces. -/
import Derived.Test.YtdebmokpdchgpaaBF
namespace Go.Proofs.Ytdebmokpdchgpaa
open Go.RowKit Go.Sort Go.Proofs.Ytdebmokpdchgpaa.Bo
set_option linter.unusedVariables false

set_option maxRecDepth 100000 in
set_option maxHeartbeats 4000000 in
theorem arenaPlaces_walk (room : Int) (a : Option Addr) (len cap : Nat) (z : List O3) (w : World) (wr0 : (Lit.int .i64 room).wf = true) (h : IsOps w a len z) :
    Calls Try.prog 8 #[.int .i64 room, .slice a len cap] w fun e w' => e = .returned (.bool true) ∧ Go.RowKit.Below w.heap.size w w' := by
  obtain ⟨rfl, hz, hr⟩ := h
  have hrm := i64_of_wf2 wr0
  clear wr0
  have HAL := Lib.hid aralive_any
  have HZ := Lib.hid hz
  have HR := Lib.hid hr
  clear hz hr
  by_cases h0 : ¬ (0 ≤ room ∧ room ≤ 65536)
  · have HN := Lib.hid (anew_no room w h0)
    clear h0
    go_enter Try.func8, Try.ntmps8
    go_wp2_with fail
    refine HN.out.mono ?_
    rintro e y0 ⟨rfl, rfl⟩
    go_wp2_with fail
    refine (HAL.out _).mono ?_
    rintro e y1 ⟨rfl, hB1⟩
    go_wp2_with fail
    go_ret
    exact ⟨rfl, hB1⟩
  have h1 := Classical.not_not.1 h0
  clear h0
  have HN := Lib.hid (anew_ok room w h1)
  by_cases h2 : 300 < room
  · have t1 : decide (300 < room) = true := decide_eq_true h2
    clear h1 h2
    go_enter Try.func8, Try.ntmps8
    go_wp2_with fail
    refine HN.out.mono ?_
    rintro e y0 ⟨rfl, rfl⟩
    go_wp2_with fail
    refine (HAL.out _).mono ?_
    rintro e y1 ⟨rfl, hB1⟩
    go_wp2_with fail
    go_ret
    exact ⟨rfl, bt (below_new _ _) hB1⟩
  have t1 : decide (300 < room) = false := decide_eq_false h2
  by_cases h3 : 200 < z.length
  · have t2 : decide ((200 : Int) < (z.length : Int)) = true := decide_eq_true (by omega)
    have t3 : decide (200 < z.length) = true := decide_eq_true (by omega)
    go_enter Try.func8, Try.ntmps8
    go_wp2_with fail
    refine HN.out.mono ?_
    rintro e y0 ⟨rfl, rfl⟩
    go_wp2_with fail
    refine (HAL.out _).mono ?_
    rintro e y1 ⟨rfl, hB1⟩
    go_wp2_with fail
    go_ret
    exact ⟨rfl, bt (below_new _ _) hB1⟩
  have t2 : decide ((200 : Int) < (z.length : Int)) = false := decide_eq_false (by omega)
  have t3 : decide (200 < z.length) = false := decide_eq_false (by omega)
  have HST := Lib.hid (ast_new room w)
  go_enter Try.func8, Try.ntmps8
  go_wp2_with fail
  refine HN.out.mono ?_
  rintro e y0 ⟨rfl, rfl⟩
  clear HN
  generalize w.alloc (aZ room) = y0 at *
  go_wp2_with fail
  clear t1 t2 t3
  go_loopw [37] (fun k wr => ∃ j : Nat, k = .int .i64 (j : Int) ∧ j ≤ z.length ∧ ASt w w.heap.size (arun (Ar.new room) (z.take j)) wr) (fun k _ => z.length - (intOf k).toNat)
  case atStart => exact ⟨0, rfl, Nat.zero_le _, HST.out⟩
  case round =>
    clear HST
    obtain ⟨j, rfl, hj, hst⟩ := hrel
    have HS := Lib.hid hst
    clear hst
    have HG := Lib.hid (arun_ag h1 z HZ.out j hj)
    by_cases hlt : j < z.length
    · have HSTEP := Lib.hid (arun_step (Ar.new room) z j hlt)
      obtain ⟨b, off, rfl, hc⟩ := (HR.out.below HS.out.bel) (by omega)
      obtain ⟨c1, c2, c3⟩ := hc j hlt
      have ti0 : (0 : Int) ≤ (j : Int) := by omega
      have ti1 : (j : Int) < (z.length : Int) := by omega
      clear hc
      generalize z[j] = o at *
      have HB := Lib.hid (HS.out.below (below_new wr (opB o.k o.i o.v)))
      go_wp2_with fail
      refine (does_s HB.out HG.out o.k o.i o.v).mono ?_
      rintro e y1 ⟨rfl, hst⟩
      clear c1 c2 c3
      go_wp2_with fail
      go_roundw
      case rel => exact ⟨j + 1, by go_num, by omega, by rw [HSTEP.out]; exact hst⟩
      case measure => simp [intOf]; omega
    · obtain rfl : j = z.length := by omega
      have hroom := h1
      clear HR
      obtain ⟨a1, ha1⟩ : ∃ a1, arun (Ar.new room) (z.take z.length) = a1 := ⟨_, rfl⟩
      rw [ha1] at HS HG
      clear ha1 HZ
      go_wp2_with fail
      go_loopg [9] (room.toNat) (fun gh _ wr2 => ∃ (a2 : Ar), ASt w w.heap.size a2 wr2 ∧ AG a2 room ∧ (room - a2.len).toNat ≤ gh)
      case atStart => exact ⟨a1, HS.out, HG.out, by have := HG.out.len2; omega⟩
      case round =>
        clear HS HG
        obtain ⟨a2, hs, hg, hgh⟩ := hrel
        have HS := Lib.hid hs
        have HG := Lib.hid hg
        have hl2 := hg.len2
        clear hs hg
        have HLN := Lib.hid (fun W (h : ASt w w.heap.size a2 W) => alen_s h HG.out)
        by_cases hlt : a2.len < room
        · obtain ⟨p1, p2, p3, p4, _, _⟩ := Ar.put_room a2 1 HG.out.ok (by rw [HG.out.rm]; exact HG.out.le) (by rw [HG.out.rm]; exact hlt)
          rw [HG.out.rm] at p3
          have HG2 := Lib.hid (HG.out.put 1 (i64_small _ (by decide)))
          have HPT := Lib.hid (fun W (h : ASt w w.heap.size a2 W) => aput_s h HG.out 1)
          rw [p1] at HPT
          have HLN2 := Lib.hid (fun W (h : ASt w w.heap.size (a2.put 1).1 W) => alen_s h HG2.out)
          rw [p4] at HLN2
          have HP4 := Lib.hid p4
          have t1 : decide (a2.len < room) = true := decide_eq_true hlt
          clear p1 p4
          generalize (a2.put 1).2.i = pi at *
          generalize (a2.put 1).1 = a3 at *
          generalize a2.len = ln at *
          have t2 : decide (pi < 0) = false := decide_eq_false (by omega)
          have t3 : decide (room ≤ pi) = false := decide_eq_false (by omega)
          go_wp2_with fail
          refine (HLN.out _ HS.out).mono ?_
          rintro e y1 ⟨rfl, hb1⟩
          have HS1 := Lib.hid (HS.out.below hb1)
          clear hb1
          go_wp2_with fail
          refine (HLN.out _ HS1.out).mono ?_
          rintro e y2 ⟨rfl, hb2⟩
          have HS2 := Lib.hid (HS1.out.below hb2)
          clear hb2
          go_wp2_with fail
          refine (HPT.out _ HS2.out).mono ?_
          rintro e y3 ⟨rfl, hst⟩
          have HS3 := Lib.hid hst
          clear hst
          go_wp2_with fail
          refine (HLN2.out _ HS3.out).mono ?_
          rintro e y4 ⟨rfl, hb4⟩
          have HS4 := Lib.hid (HS3.out.below hb4)
          clear hb4
          go_wp2_with fail
          go_roundg (gk - 1)
          case measure => omega
          case rel => exact ⟨a3, HS4.out, HG2.out, by rw [HP4.out]; omega⟩
        · have hln : a2.len = room := by omega
          have HFULL := Lib.hid (Ar.put_full a2 1 (by rw [HG.out.rm]; omega))
          have HPT := Lib.hid (fun W (h : ASt w w.heap.size a2 W) => aput_s h HG.out 1)
          rw [HFULL.out] at HPT
          rw [hln] at HLN
          have t1 : decide (room < room) = false := decide_eq_false (by omega)
          clear hln HFULL hl2 hlt hgh
          go_wp2_with fail
          refine (HLN.out _ HS.out).mono ?_
          rintro e y1 ⟨rfl, hb1⟩
          have HS1 := Lib.hid (HS.out.below hb1)
          clear hb1
          go_wp2_with fail
          refine (HPT.out _ HS1.out).mono ?_
          rintro e y2 ⟨rfl, hst⟩
          have HS2 := Lib.hid hst
          clear hst
          go_wp2_with fail
          refine (HAL.out _).mono ?_
          rintro e y3 ⟨rfl, hb3⟩
          have HS3 := Lib.hid (HS2.out.below hb3)
          clear hb3
          go_wp2_with fail
          refine (HLN.out _ HS3.out).mono ?_
          rintro e y4 ⟨rfl, hb4⟩
          have t4 : (room == room) = true := beq_self_eq_true _
          go_wp2_with fail
          go_ret
          exact ⟨rfl, bt HS3.out.bel hb4⟩
end Go.Proofs.Ytdebmokpdchgpaa
