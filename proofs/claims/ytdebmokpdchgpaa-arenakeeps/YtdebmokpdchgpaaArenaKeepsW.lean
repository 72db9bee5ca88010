/- The walk of the law ArenaKeeps. -/
import Derived.Test.YtdebmokpdchgpaaBF
namespace Go.Proofs.Ytdebmokpdchgpaa
open Go.RowKit Go.Sort Go.Proofs.Ytdebmokpdchgpaa.Bo
set_option linter.unusedVariables false

/-- The thing v is in the place p. -/
def Has (a : Ar) (p v : Int) : Prop := a.is p = true ∧ a.l.getD p.toNat 0 = v
set_option maxRecDepth 100000 in
set_option maxHeartbeats 4000000 in
theorem arenaKeeps_walk (room v : Int) (a : Option Addr) (len cap : Nat) (z : List O3) (w : World) (wr0 : (Lit.int .i64 room).wf = true) (wv0 : (Lit.int .i64 v).wf = true) (h : IsOps w a len z) :
    Calls Try.prog 5 #[.int .i64 room, .int .i64 v, .slice a len cap] w fun e w' => e = .returned (.bool true) ∧ Go.RowKit.Below w.heap.size w w' := by
  obtain ⟨rfl, hz, hr⟩ := h
  have hv := i64_of_wf2 wv0
  clear wr0 wv0
  have HAL := Lib.hid aralive_any
  have HZ := Lib.hid hz
  have HR := Lib.hid hr
  have HV := Lib.hid hv
  clear hz hr hv
  by_cases h0 : ¬ (0 ≤ room ∧ room ≤ 65536)
  · have HN := Lib.hid (anew_no room w h0)
    clear h0
    go_enter Try.func5, Try.ntmps5
    go_wp2_with fail
    refine HN.out.mono ?_
    rintro e y0 ⟨rfl, rfl⟩
    go_wp2_with fail
    refine (HAL.out _).mono ?_
    rintro e y1 ⟨rfl, hB1⟩
    go_wp2_with fail
    go_ret
    exact ⟨rfl, hB1⟩
  have h1 := Classical.not_not.1 h0
  clear h0
  have HN := Lib.hid (anew_ok room w h1)
  by_cases h3 : 200 < z.length
  · have t2 : decide ((200 : Int) < (z.length : Int)) = true := decide_eq_true (by omega)
    have t3 : decide (200 < z.length) = true := decide_eq_true (by omega)
    go_enter Try.func5, Try.ntmps5
    go_wp2_with fail
    refine HN.out.mono ?_
    rintro e y0 ⟨rfl, rfl⟩
    go_wp2_with fail
    refine (HAL.out _).mono ?_
    rintro e y1 ⟨rfl, hB1⟩
    go_wp2_with fail
    go_ret
    exact ⟨rfl, bt (below_new _ _) hB1⟩
  have t2 : decide ((200 : Int) < (z.length : Int)) = false := decide_eq_false (by omega)
  have t3 : decide (200 < z.length) = false := decide_eq_false (by omega)
  have HST := Lib.hid (ast_new room w)
  have HG0 := Lib.hid (AG.new room h1)
  have HPT := Lib.hid (fun W (h : ASt w w.heap.size (Ar.new room) W) => aput_s h HG0.out v)
  by_cases hr0 : room = 0
  · have HFULL := Lib.hid (Ar.put_full (Ar.new room) v (by show room ≤ (0 : Int) - ((0 : Nat) : Int); omega))
    rw [HFULL.out] at HPT
    have t4 : (room == 0) = true := by rw [hr0]; rfl
    clear HFULL hr0 h1
    go_enter Try.func5, Try.ntmps5
    go_wp2_with fail
    refine HN.out.mono ?_
    rintro e y0 ⟨rfl, rfl⟩
    generalize w.alloc (aZ room) = y0 at *
    go_wp2_with fail
    refine (HPT.out _ HST.out).mono ?_
    rintro e y1 ⟨rfl, hst⟩
    have HS1 := Lib.hid hst
    clear hst
    go_wp2_with fail
    refine (HAL.out _).mono ?_
    rintro e y2 ⟨rfl, hB1⟩
    go_wp2_with fail
    go_ret
    exact ⟨rfl, bt HS1.out.bel hB1⟩
  obtain ⟨p1, p2, p3, p4, p5, p6⟩ := Ar.put_room (Ar.new room) v HG0.out.ok (by show (0 : Int) ≤ room; omega) (by show (0 : Int) - ((0 : Nat) : Int) < room; omega)
  have HG1 := Lib.hid (HG0.out.put v HV.out)
  have HH1 : Hid (Has (Ar.put (Ar.new room) v).1 (Ar.put (Ar.new room) v).2.i v) := ⟨p5, p6⟩
  rw [p1] at HPT
  clear p1 p4 p5 p6
  generalize (Ar.put (Ar.new room) v).2.i = pi at *
  generalize (Ar.put (Ar.new room) v).1 = a1 at *
  go_enter Try.func5, Try.ntmps5
  go_wp2_with fail
  refine HN.out.mono ?_
  rintro e y0 ⟨rfl, rfl⟩
  clear HN
  generalize w.alloc (aZ room) = y0 at *
  go_wp2_with fail
  refine (HPT.out _ HST.out).mono ?_
  rintro e y1 ⟨rfl, hst⟩
  have HS1 := Lib.hid hst
  clear hst t2 t3
  go_wp2_with fail
  go_loopw [48] (fun k wr => ∃ (j : Nat) (a2 : Ar), k = .int .i64 (j : Int) ∧ j ≤ z.length ∧ ASt w w.heap.size a2 wr ∧ AG a2 room ∧ Has a2 pi v) (fun k _ => z.length - (intOf k).toNat)
  case atStart => exact ⟨0, a1, rfl, Nat.zero_le _, HS1.out, HG1.out, HH1.out⟩
  case round =>
    clear HST HG0 HPT HG1 HH1 HS1
    obtain ⟨j, a2, rfl, hj, hst, hg, hh⟩ := hrel
    have HS := Lib.hid hst
    have HG := Lib.hid hg
    have HH := Lib.hid hh
    clear hst hg hh
    by_cases hlt : j < z.length
    · obtain ⟨b, off, rfl, hc⟩ := (HR.out.below HS.out.bel) (by omega)
      obtain ⟨c1, c2, c3⟩ := hc j hlt
      have HOK := Lib.hid (HZ.out _ (List.getElem_mem hlt))
      have ti0 : (0 : Int) ≤ (j : Int) := by omega
      have ti1 : (j : Int) < (z.length : Int) := by omega
      clear hc
      generalize z[j] = o at *
      have HB := Lib.hid (HS.out.below (below_new wr (opB o.k o.i o.v)))
      by_cases hk0 : o.k = 0 ∨ (o.i ≠ pi ∧ o.k ≠ 4)
      · obtain ⟨q1, q2, q3⟩ := Ar.does_keeps a2 pi v o.k o.i o.v HG.out.ok HH.out.1 HH.out.2 hk0
        have HG3 := Lib.hid (HG.out.does o.k o.i o.v HOK.out.2.2)
        have HDO := Lib.hid (does_o HB.out HG.out o.k o.i o.v)
        have KS : Hid (Has (a2.does o.k o.i o.v).1 pi v) := ⟨q1, q2⟩
        have KI := Lib.hid q1
        have KV : Hid ((if (a2.does o.k o.i o.v).1.is pi = true then (a2.does o.k o.i o.v).1.l.getD pi.toNat 0 else 0) = v) := by show _ = _; rw [if_pos q1]; exact q2
        clear q1 q2
        generalize (a2.does o.k o.i o.v).2 = x at *
        generalize (a2.does o.k o.i o.v).1 = a3 at *
        obtain ⟨ai, av, ab, ae⟩ := x
        by_cases hk : o.k = 0
        · have t1 : (o.k == 0) = true := beq_iff_eq.2 hk
          by_cases he : ae = 0
          · have t4 : (ae == 0) = true := beq_iff_eq.2 he
            have t5 : (ai == pi) = false := beq_eq_false_iff_ne.2 (q3 hk he)
            clear hk he q3 hk0
            go_wp2_with fail
            refine HDO.out.mono ?_
            rintro e y1 ⟨⟨rfl, hst⟩, hot⟩
            have HS3 := Lib.hid (hst.below (below_new y1 (.cells #[.int .i64 ai, .int .i64 av, .bool ab, .int .i64 ae] 37)))
            have HS2 := Lib.hid hst
            have hbo := hot _ _ _ (heap_alloc_new wr (opB o.k o.i o.v)) (by decide) (by decide) (by decide)
            obtain ⟨o1, o2, o3⟩ := three_cells (box_on hbo (below_new y1 (.cells #[.int .i64 ai, .int .i64 av, .bool ab, .int .i64 ae] 37)))
            clear hst c1 c2 c3 hbo hot
            go_wp2_with fail
            refine (aget_s HS3.out HG3.out pi v true KI.out KV.out).mono ?_
            rintro e y9 ⟨rfl, rfl⟩
            go_wp2_with fail
            go_roundw
            case rel => exact ⟨j + 1, a3, by go_num, by omega, HS3.out, HG3.out, KS.out⟩
            case measure => simp [intOf]; omega
          · have t4 : (ae == 0) = false := beq_eq_false_iff_ne.2 he
            clear hk he q3 hk0
            go_wp2_with fail
            refine HDO.out.mono ?_
            rintro e y1 ⟨⟨rfl, hst⟩, hot⟩
            have HS3 := Lib.hid (hst.below (below_new y1 (.cells #[.int .i64 ai, .int .i64 av, .bool ab, .int .i64 ae] 37)))
            have HS2 := Lib.hid hst
            have hbo := hot _ _ _ (heap_alloc_new wr (opB o.k o.i o.v)) (by decide) (by decide) (by decide)
            obtain ⟨o1, o2, o3⟩ := three_cells (box_on hbo (below_new y1 (.cells #[.int .i64 ai, .int .i64 av, .bool ab, .int .i64 ae] 37)))
            clear hst c1 c2 c3 hbo hot
            go_wp2_with fail
            refine (aget_s HS3.out HG3.out pi v true KI.out KV.out).mono ?_
            rintro e y9 ⟨rfl, rfl⟩
            go_wp2_with fail
            go_roundw
            case rel => exact ⟨j + 1, a3, by go_num, by omega, HS3.out, HG3.out, KS.out⟩
            case measure => simp [intOf]; omega
        · have t1 : (o.k == 0) = false := beq_eq_false_iff_ne.2 hk
          have t4 : (o.i != pi) = true := by simpa using (hk0.resolve_left hk).1
          have t5 : (o.k != 4) = true := by simpa using (hk0.resolve_left hk).2
          clear hk q3 hk0
          go_wp2_with fail
          refine HDO.out.mono ?_
          rintro e y1 ⟨⟨rfl, hst⟩, hot⟩
          have HS3 := Lib.hid (hst.below (below_new y1 (.cells #[.int .i64 ai, .int .i64 av, .bool ab, .int .i64 ae] 37)))
          have HS2 := Lib.hid hst
          have hbo := hot _ _ _ (heap_alloc_new wr (opB o.k o.i o.v)) (by decide) (by decide) (by decide)
          obtain ⟨o1, o2, o3⟩ := three_cells (box_on hbo (below_new y1 (.cells #[.int .i64 ai, .int .i64 av, .bool ab, .int .i64 ae] 37)))
          clear hst c1 c2 c3 hbo hot
          go_wp2_with fail
          refine (aget_s HS3.out HG3.out pi v true KI.out KV.out).mono ?_
          rintro e y9 ⟨rfl, rfl⟩
          go_wp2_with fail
          go_roundw
          case rel => exact ⟨j + 1, a3, by go_num, by omega, HS3.out, HG3.out, KS.out⟩
          case measure => simp [intOf]; omega
      · have KV : Hid ((if a2.is pi = true then a2.l.getD pi.toNat 0 else 0) = v) := by show _ = _; rw [if_pos HH.out.1]; exact HH.out.2
        have t1 : (o.k == 0) = false := beq_eq_false_iff_ne.2 (fun e => hk0 (.inl e))
        by_cases hi : o.i = pi
        · have t4 : (o.i != pi) = false := by rw [hi]; simp
          clear hi hk0
          go_wp2_with fail
          refine (aget_s HB.out HG.out pi v true HH.out.1 KV.out).mono ?_
          rintro e y9 ⟨rfl, rfl⟩
          go_wp2_with fail
          go_roundw
          case rel => exact ⟨j + 1, a2, by go_num, by omega, HB.out, HG.out, HH.out⟩
          case measure => simp [intOf]; omega
        · have t4 : (o.i != pi) = true := by simpa using hi
          have t5 : (o.k != 4) = false := by
            have : o.k = 4 := Classical.byContradiction (fun e => hk0 (.inr ⟨hi, e⟩))
            rw [this]; rfl
          clear hi hk0
          go_wp2_with fail
          refine (aget_s HB.out HG.out pi v true HH.out.1 KV.out).mono ?_
          rintro e y9 ⟨rfl, rfl⟩
          go_wp2_with fail
          go_roundw
          case rel => exact ⟨j + 1, a2, by go_num, by omega, HB.out, HG.out, HH.out⟩
          case measure => simp [intOf]; omega
    · obtain rfl : j = z.length := by omega
      go_wp2_with fail
      refine (HAL.out _).mono ?_
      rintro e y2 ⟨rfl, hB1⟩
      go_wp2_with fail
      go_ret
      exact ⟨rfl, bt HS.out.bel hB1⟩
end Go.Proofs.Ytdebmokpdchgpaa
