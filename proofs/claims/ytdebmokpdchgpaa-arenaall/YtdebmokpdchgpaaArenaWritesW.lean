/- The walk of the law ArenaWrites. -/
import Derived.Test.YtdebmokpdchgpaaBG
import Derived.Lib.QuietBelow
namespace Go.Proofs.Ytdebmokpdchgpaa
open Go.RowKit Go.Sort Go.Proofs.Ytdebmokpdchgpaa.Bo
set_option linter.unusedVariables false

theorem AIs.weaken {S : Nat → Prop} {w : World} {base base' A : Nat} {a : Ar} (h : AIs w base A a S) (hb : base' ≤ base) : AIs w base' A a S := by
  obtain ⟨pv, fv, hS, h1⟩ := h
  exact ⟨pv, fv, hS, h1.box, own_base h1.prow hb, own_base h1.frow hb, Nat.le_trans hb h1.le⟩
theorem rarnew_ok (room : Int) (w : World) (h : 0 ≤ room ∧ room ≤ 65536) : Calls Try.prog 12 #[.int .i64 room] w fun e w' => e = .returned (.tuple #[.agg #[.int .i64 room, .int .i64 0, .slice none 0 0, .slice none 0 0], .bool true]) ∧ Go.RowKit.Below w.heap.size w w' := by
  have := rarnew_any room w
  rw [if_pos h, decide_eq_true h] at this
  exact this
theorem rarnew_no (room : Int) (w : World) (h : ¬ (0 ≤ room ∧ room ≤ 65536)) : Calls Try.prog 12 #[.int .i64 room] w fun e w' => e = .returned (.tuple #[.agg #[.int .i64 0, .int .i64 0, .slice none 0 0, .slice none 0 0], .bool false]) ∧ Go.RowKit.Below w.heap.size w w' := by
  have := rarnew_any room w
  rw [if_neg h, decide_eq_false h] at this
  exact this
/-- Both arenas, new. -/
theorem mid_start (room : Int) (w W0 W1 W2 : World) (h0 : Go.RowKit.Below w.heap.size w W0) (h1 : Go.RowKit.Below (W0.alloc (aZ room)).heap.size (W0.alloc (aZ room)) W1) (hW2 : W2 = W1.alloc (.cells #[.int .i64 room, .int .i64 0, .slice none 0 0, .slice none 0 0] 31)) : Mid w W0.heap.size W1.heap.size (Ar.new room) (Ar.new room) W2 := by
  subst hW2
  have hb := bt h1 (below_new W1 (.cells #[.int .i64 room, .int .i64 0, .slice none 0 0, .slice none 0 0] 31))
  refine ⟨_, none, 0, none, 0, ((ais_new room W0).weaken h0.size).below hb, bt h0 (bt (below_new W0 (aZ room)) hb), heap_alloc_new _ _, ⟨nrow_nil _ _ _, Nat.le_refl _, nrow_nil _ _ _, Nat.le_refl _⟩, (fun b off e => by cases e), ?_⟩
  have := h0.size
  have := h1.size
  simp at this
  omega
theorem mid_bel {w : World} {A R : Nat} {a r : Ar} {W : World} (h : Mid w A R a r W) : Go.RowKit.Below w.heap.size w W := by
  obtain ⟨S, fa, fc, la, lc, hm⟩ := h; exact hm.be
theorem arun_small (room : Int) (z : List O3) (j : Nat) (hj : j ≤ z.length) (hz : z.length ≤ 200) : (arun (Ar.new room) (z.take j)).l.length ≤ 200 ∧ (arun (Ar.new room) (z.take j)).free.length ≤ 200 := by
  have := arun_len (Ar.new room) z j hj
  have e1 : (Ar.new room).l.length = 0 := rfl
  have e2 : (Ar.new room).free.length = 0 := rfl
  omega
/-- A round of a script on both arenas. -/
theorem mid_round {w : World} {A R : Nat} {a : Ar} {S : Nat → Prop} {fa la : Option Addr} {fc lc : Nat} {W : World} {room : Int} (h : MidAt w A R a a S fa fc la lc W) (hg : AG a room) (hl : a.l.length ≤ 9999) (hl2 : a.free.length ≤ 9999) (k i v : Int) : Calls Try.prog 13 #[arV a fa fc la lc, opV k i v] W (ArPost (a.does k i v) W fa) :=
  rardo_any a fa fc la lc k i v W h.rw hg.ok hl hl2
set_option maxRecDepth 100000 in
set_option maxHeartbeats 4000000 in
theorem arenaWrites_walk (room : Int) (a : Option Addr) (len cap : Nat) (z : List O3) (oo : O3) (w : World) (wr0 : (Lit.int .i64 room).wf = true) (h : IsOps w a len z) (hoo : oo.ok) :
    Calls Try.prog 6 #[.int .i64 room, .slice a len cap, vO oo] w fun e w' => e = .returned (.bool true) ∧ Go.RowKit.Below w.heap.size w w' := by
  have mx := mixed
  obtain ⟨rfl, hz, hr⟩ := h
  obtain ⟨ok, oi, ov⟩ := oo
  have hov : I64 ov := hoo.2.2
  clear wr0 hoo
  have HAL := Lib.hid aralive_any
  have HZ := Lib.hid hz
  have HR := Lib.hid hr
  have HOV := Lib.hid hov
  clear hz hr hov
  obtain ⟨p1, p2, p3⟩ : (∀ d os, (grow (redrawn (w.alloc (opB ok oi ov)) d) os).cell? ⟨w.heap.size, 0, none⟩ = some (.int .i64 ok)) ∧ (∀ d os, (grow (redrawn (w.alloc (opB ok oi ov)) d) os).cell? ⟨w.heap.size, 1, none⟩ = some (.int .i64 oi)) ∧ (∀ d os, (grow (redrawn (w.alloc (opB ok oi ov)) d) os).cell? ⟨w.heap.size, 2, none⟩ = some (.int .i64 ov)) := by
    obtain ⟨q1, q2, q3⟩ := three_cells (heap_alloc_new w (opB ok oi ov))
    exact ⟨cell_regrown q1, cell_regrown q2, cell_regrown q3⟩
  by_cases h0 : ¬ (0 ≤ room ∧ room ≤ 65536)
  · have HN := Lib.hid (fun W => anew_no room W h0)
    have HRN := Lib.hid (fun W => rarnew_no room W h0)
    clear h0
    go_enter Try.func6, Try.ntmps6
    go_wp2_with fail
    refine wp_region_quiet_below (by assumption) (by kernel_rfl) ?_
    repeat (go_big_quiet_step (fail))
    refine wpQuiet_nil ?_
    intro _ hw'
    obtain ⟨⟨nq, osq⟩, hw''⟩ := hw'
    subst hw''
    have HY := Lib.hid (bt (below_new w (opB ok oi ov)) (below_regrown (w.alloc (opB ok oi ov)) nq osq))
    show Exit.then _ _ Exit.normal _ (grow (redrawn (w.alloc (opB ok oi ov)) nq) osq)
    generalize grow (redrawn (w.alloc (opB ok oi ov)) nq) osq = Y at *
    clear p1 p2 p3
    go_wp2_with fail
    refine (HN.out _).mono ?_
    rintro e y0 ⟨rfl, rfl⟩
    go_wp2_with fail
    refine (HRN.out _).mono ?_
    rintro e y1 ⟨rfl, hB1⟩
    have HB2 := Lib.hid hB1
    clear hB1
    go_wp2_with fail
    refine (HAL.out _).mono ?_
    rintro e y2 ⟨rfl, hB3⟩
    go_wp2_with fail
    go_ret
    exact ⟨rfl, bt HY.out (bt (Go.RowKit.Below.refl _ _) (bt HB2.out (bt (below_new _ _) hB3)))⟩
  have h1 := Classical.not_not.1 h0
  clear h0
  have HN := Lib.hid (fun W => anew_ok room W h1)
  have HRN := Lib.hid (fun W => rarnew_ok room W h1)
  by_cases h3 : 200 < z.length
  · have t2 : decide ((200 : Int) < (z.length : Int)) = true := decide_eq_true (by omega)
    have t3 : decide (200 < z.length) = true := decide_eq_true (by omega)
    go_enter Try.func6, Try.ntmps6
    go_wp2_with fail
    refine wp_region_quiet_below (by assumption) (by kernel_rfl) ?_
    repeat (go_big_quiet_step (fail))
    refine wpQuiet_nil ?_
    intro _ hw'
    obtain ⟨⟨nq, osq⟩, hw''⟩ := hw'
    subst hw''
    have HY := Lib.hid (bt (below_new w (opB ok oi ov)) (below_regrown (w.alloc (opB ok oi ov)) nq osq))
    show Exit.then _ _ Exit.normal _ (grow (redrawn (w.alloc (opB ok oi ov)) nq) osq)
    generalize grow (redrawn (w.alloc (opB ok oi ov)) nq) osq = Y at *
    clear p1 p2 p3
    go_wp2_with fail
    refine (HN.out _).mono ?_
    rintro e y0 ⟨rfl, rfl⟩
    go_wp2_with fail
    refine (HRN.out _).mono ?_
    rintro e y1 ⟨rfl, hB1⟩
    have HB2 := Lib.hid hB1
    clear hB1
    go_wp2_with fail
    refine (HAL.out _).mono ?_
    rintro e y2 ⟨rfl, hB3⟩
    go_wp2_with fail
    go_ret
    exact ⟨rfl, bt HY.out (bt (below_new _ _) (bt HB2.out (bt (below_new _ _) hB3)))⟩
  have t2 : decide ((200 : Int) < (z.length : Int)) = false := decide_eq_false (by omega)
  have t3 : decide (200 < z.length) = false := decide_eq_false (by omega)
  go_enter Try.func6, Try.ntmps6
  go_wp2_with fail
  refine wp_region_quiet_below (by assumption) (by kernel_rfl) ?_
  repeat (go_big_quiet_step (fail))
  refine wpQuiet_nil ?_
  intro _ hw'
  obtain ⟨⟨nq, osq⟩, hw''⟩ := hw'
  subst hw''
  have HY := Lib.hid (bt (below_new w (opB ok oi ov)) (below_regrown (w.alloc (opB ok oi ov)) nq osq))
  show Exit.then _ _ Exit.normal _ (grow (redrawn (w.alloc (opB ok oi ov)) nq) osq)
  generalize grow (redrawn (w.alloc (opB ok oi ov)) nq) osq = Y at *
  clear p1 p2 p3
  go_wp2_with fail
  refine (HN.out _).mono ?_
  rintro e y0 ⟨rfl, rfl⟩
  go_wp2_with fail
  refine (HRN.out _).mono ?_
  rintro e y1 ⟨rfl, hB1⟩
  have HMD := Lib.hid (mid_start room w Y y1 _ HY.out hB1 rfl)
  clear HN HRN hB1
  obtain ⟨A, hA⟩ : ∃ A, Y.heap.size = A := ⟨_, rfl⟩
  obtain ⟨R, hR⟩ : ∃ R, y1.heap.size = R := ⟨_, rfl⟩
  go_wp2_with fail
  rw [hA, hR] at HMD
  clear t2 t3 hA hR HY
  generalize y1.alloc (.cells #[.int .i64 room, .int .i64 0, .slice none 0 0, .slice none 0 0] 31) = y2 at *
  go_loopw [52] (fun k wr => ∃ j : Nat, k = .int .i64 (j : Int) ∧ j ≤ z.length ∧ Mid w A R (arun (Ar.new room) (z.take j)) (arun (Ar.new room) (z.take j)) wr) (fun k _ => z.length - (intOf k).toNat)
  case atStart => exact ⟨0, rfl, Nat.zero_le _, HMD.out⟩
  case round =>
    clear HMD
    obtain ⟨j, rfl, hj, hst⟩ := hrel
    have HG := Lib.hid (arun_ag h1 z HZ.out j hj)
    have HSM := Lib.hid (arun_small room z j hj (by omega))
    by_cases hlt : j < z.length
    · skip
      obtain ⟨S, fa, fc, la, lc, hm⟩ := hst
      obtain ⟨b, off, rfl, hc⟩ := (HR.out.below hm.be) (by omega)
      obtain ⟨c1, c2, c3⟩ := hc j hlt
      have HSTEP := Lib.hid (arun_step (Ar.new room) z j hlt)
      have ti0 : (0 : Int) ≤ (j : Int) := by omega
      have ti1 : (j : Int) < (z.length : Int) := by omega
      clear hc
      generalize z[j] = o at *
      obtain ⟨aj, haj⟩ : ∃ aj, arun (Ar.new room) (z.take j) = aj := ⟨_, rfl⟩
      rw [haj] at HG HSM hm HSTEP
      clear haj
      have HM := Lib.hid hm
      have HM1 := Lib.hid (hm.below (below_new wr (opB o.k o.i o.v)))
      have hop : (wr.alloc (opB o.k o.i o.v)).heap[wr.heap.size]? = some (opB o.k o.i o.v) := heap_alloc_new _ _
      have HOP := Lib.hid hop
      have HDO := Lib.hid (mid_round HM1.out HG.out (by have := HSM.out.1; omega) (by have := HSM.out.2; omega) o.k o.i o.v)
      obtain ⟨⟨r1, r2, r3, r4⟩, _⟩ := four_cells HM1.out.bx
      clear hm hop
      go_wp2_with fail
      clear c1 c2 c3 r1 r2 r3 r4
      refine HDO.out.mono ?_
      rintro e y1 ⟨fa', fc', la', lc', ⟨rfl, hr'⟩, hb1, hfr⟩
      generalize (aj.does o.k o.i o.v).2 = an at *
      generalize haq : (aj.does o.k o.i o.v).1 = a' at *
      have HAQ := Lib.hid haq
      clear haq
      obtain ⟨ai, av, ab, ae⟩ := an
      have HB3 := Lib.hid (bt (below_new y1 (.cells #[.int .i64 a'.room, .int .i64 a'.ever, .slice fa' a'.free.length fc', .slice la' a'.l.length lc'] 31)) (below_new _ (.cells #[.int .i64 ai, .int .i64 av, .bool ab, .int .i64 ae] 37)))
      have HX3 := Lib.hid (((HM1.out.below hb1).below HB3.out).bx)
      have HOP3 := Lib.hid (box_on (box_on HOP.out hb1) HB3.out)
      have HM4 := Lib.hid (HM.out.step (below_new wr (opB o.k o.i o.v)) hr' hb1 hfr HB3.out)
      have hRlt : R < wr.heap.size := lt_of_block HM.out.bx
      have HNX : Hid (((y1.alloc (.cells #[.int .i64 a'.room, .int .i64 a'.ever, .slice fa' a'.free.length fc', .slice la' a'.l.length lc'] 31)).alloc (.cells #[.int .i64 ai, .int .i64 av, .bool ab, .int .i64 ae] 37)).heap[y1.heap.size]? = some (.cells #[.int .i64 a'.room, .int .i64 a'.ever, .slice fa' a'.free.length fc', .slice la' a'.l.length lc'] 31 (0, 0))) := box_on (heap_alloc_new _ _) (below_new _ _)
      have HWN : Hid (((y1.alloc (.cells #[.int .i64 a'.room, .int .i64 a'.ever, .slice fa' a'.free.length fc', .slice la' a'.l.length lc'] 31)).alloc (.cells #[.int .i64 ai, .int .i64 av, .bool ab, .int .i64 ae] 37)).heap[y1.heap.size + 1]? = some (.cells #[.int .i64 ai, .int .i64 av, .bool ab, .int .i64 ae] 37 (0, 0))) := new_at' _ (by simp)
      have hwy : wr.heap.size < y1.heap.size := by have := hb1.size; simp at this; omega
      clear hr' hb1 hfr HDO
      go_upto_region 10 with fail
      generalize (y1.alloc (.cells #[.int .i64 a'.room, .int .i64 a'.ever, .slice fa' a'.free.length fc', .slice la' a'.l.length lc'] 31)).alloc (.cells #[.int .i64 ai, .int .i64 av, .bool ab, .int .i64 ae] 37) = X3 at *
      obtain ⟨⟨n1, n2, n3, n4⟩, _⟩ := four_cells HNX.out
      obtain ⟨⟨m1, m2, m3, m4⟩, m5, m6, m7, m8⟩ := four_cells HX3.out
      have HOP4 := Lib.hid (four_far HOP3.out (c := R) (by omega) (.int .i64 a'.room) (.int .i64 a'.ever) (.slice fa' a'.free.length fc') (.slice la' a'.l.length lc'))
      have HWN4 := Lib.hid (four_far HWN.out (c := R) (by omega) (.int .i64 a'.room) (.int .i64 a'.ever) (.slice fa' a'.free.length fc') (.slice la' a'.l.length lc'))
      go_upto_region 11 with fail
      simp only [set4] at HM4 HOP4 HWN4
      generalize (((X3.setCell ⟨R, 0, none⟩ (.int .i64 a'.room)).setCell ⟨R, 1, none⟩ (.int .i64 a'.ever)).setCell ⟨R, 2, none⟩ (.slice fa' a'.free.length fc')).setCell ⟨R, 3, none⟩ (.slice la' a'.l.length lc') = X4 at *
      clear n1 n2 n3 n4 m1 m2 m3 m4 m5 m6 m7 m8
      obtain ⟨o1, o2, o3⟩ := three_cells HOP4.out
      have HDS := Lib.hid (does_m HM4.out HG.out o.k o.i o.v)
      go_wp2_with fail
      refine HDS.out.mono ?_
      rintro e y9 ⟨⟨rfl, S', hm'⟩, hot⟩
      clear hot o1 o2 o3
      go_wp2_with fail
      go_roundw
      case rel => exact ⟨j + 1, by go_num, by omega, by rw [HSTEP.out]; rw [HAQ.out] at hm'; exact ⟨S', fa', fc', la', lc', hm'⟩⟩
      case measure => simp [intOf]; omega
    · obtain rfl : j = z.length := by omega
      obtain ⟨S, fa, fc, la, lc, hm⟩ := hst
      obtain ⟨az, haz⟩ : ∃ az, arun (Ar.new room) (z.take z.length) = az := ⟨_, rfl⟩
      rw [haz] at HG HSM hm
      have HM := Lib.hid hm
      clear haz hm HR HZ
      have HLE : Hid (az.l.length ≤ 999999 ∧ az.free.length ≤ 999999) := by have := HSM.out; exact ⟨by omega, by omega⟩
      cases hi : az.is oi with
      | false =>
        have HAT := Lib.hid (aat_nil HM.out.ar HG.out.ok (by have := HLE.out; omega) oi hi)
        have HIS : Hid (∀ W, MidAt w A R az az S fa fc la lc W → Calls Try.prog 20 #[arV az fa fc la lc, .int .i64 oi] W fun e w' => e = .returned (.bool false) ∧ Go.RowKit.Below W.heap.size W w') := fun W h => by
          have := raris_any az fa fc la lc oi W h.rw (by have := HSM.out; omega)
          rw [hi] at this
          exact this
        clear hi
        go_wp2_with fail
        refine HAT.out.mono ?_
        rintro e y3 ⟨rfl, rfl⟩
        go_wp2_with fail
        refine (HAL.out _).mono ?_
        rintro e y4 ⟨rfl, hb4⟩
        have HM4 := Lib.hid (HM.out.below hb4)
        clear hb4
        obtain ⟨⟨r1, r2, r3, r4⟩, _⟩ := four_cells HM4.out.bx
        go_wp2_with fail
        refine (HIS.out _ HM4.out).mono ?_
        rintro e y5 ⟨rfl, hb5⟩
        go_wp2_with fail
        go_ret
        exact ⟨rfl, bt HM4.out.be hb5⟩
      | true =>
        obtain ⟨g1, _, _, _⟩ := az.is_in oi HG.out.ok hi
        obtain ⟨n, rfl⟩ : ∃ n : Nat, oi = (n : Int) := ⟨oi.toNat, by omega⟩
        obtain ⟨g, o, hat, hSg, hcell, hfz, hset⟩ := aat_is HM.out.ar HG.out.ok (by have := HLE.out; omega) n hi
        have HAT := Lib.hid hat
        obtain ⟨a9, ha9⟩ : ∃ a9 : Ar, a9 = { az with l := az.l.set n ov } := ⟨_, rfl⟩
        have hs1 := (hset ov).1
        rw [← ha9] at hs1
        have HDE : Hid (az.does 2 (n : Int) ov = (a9, ⟨0, 0, true, 0⟩)) := by
          show _ = _
          rw [ha9]
          unfold Ar.does
          rw [if_neg (by decide), if_neg (by decide), if_neg (by rw [hi]; simp), if_neg (by decide), if_pos rfl, Int.toNat_natCast]
        have HG2 := Lib.hid (HG.out.does 2 (n : Int) ov HOV.out)
        rw [HDE.out] at HG2
        have HM2 := Lib.hid (HM.out.turn hs1 (hset ov).2 (fun b hb => .inl hb))
        have HIS : Hid (∀ (a9 : Ar) W, MidAt w A R a9 az S fa fc la lc W → Calls Try.prog 20 #[arV az fa fc la lc, .int .i64 (n : Int)] W fun e w' => e = .returned (.bool true) ∧ Go.RowKit.Below W.heap.size W w') := fun a9 W h => by
          have := raris_any az fa fc la lc (n : Int) W h.rw (by have := HSM.out; omega)
          rw [hi] at this
          exact this
        have HL2 : Hid (a9.l.length ≤ 9999 ∧ a9.free.length ≤ 9999) := by
          have := HSM.out
          rw [ha9]
          refine ⟨?_, by show az.free.length ≤ 9999; omega⟩
          show (az.l.set n ov).length ≤ 9999
          rw [List.length_set]; omega
        clear hset hat hi g1 hs1 ha9
        go_wp2_with fail
        refine HAT.out.mono ?_
        rintro e y3 ⟨rfl, rfl⟩
        go_upto_region 17 with fail
        clear hcell hfz
        generalize wr.setCell ⟨g, o, none⟩ (.int .i64 ov) = X at *
        have HDO := Lib.hid (rardo_any az fa fc la lc 2 (n : Int) ov X HM2.out.rw HG.out.ok (by have := HSM.out; omega) (by have := HSM.out; omega))
        rw [HDE.out] at HDO
        obtain ⟨⟨r1, r2, r3, r4⟩, _⟩ := four_cells HM2.out.bx
        go_wp2_with fail
        refine HDO.out.mono ?_
        rintro e y1 ⟨fa', fc', la', lc', ⟨rfl, hr'⟩, hb1, hfr⟩
        clear r1 r2 r3 r4 hfr HDO HDE
        have HB3 := Lib.hid (bt (below_new y1 (.cells #[.int .i64 a9.room, .int .i64 a9.ever, .slice fa' a9.free.length fc', .slice la' a9.l.length lc'] 31)) (below_new _ (.cells #[.int .i64 0, .int .i64 0, .bool true, .int .i64 0] 37)))
        have HM3 := Lib.hid ((HM2.out.below hb1).below HB3.out)
        have HNX : Hid (((y1.alloc (.cells #[.int .i64 a9.room, .int .i64 a9.ever, .slice fa' a9.free.length fc', .slice la' a9.l.length lc'] 31)).alloc (.cells #[.int .i64 0, .int .i64 0, .bool true, .int .i64 0] 37)).heap[y1.heap.size]? = some (.cells #[.int .i64 a9.room, .int .i64 a9.ever, .slice fa' a9.free.length fc', .slice la' a9.l.length lc'] 31 (0, 0))) := box_on (heap_alloc_new _ _) (below_new _ _)
        have HRR := Lib.hid (hr'.below HB3.out)
        clear hr' hb1
        go_upto_region 18 with fail
        generalize (y1.alloc (.cells #[.int .i64 a9.room, .int .i64 a9.ever, .slice fa' a9.free.length fc', .slice la' a9.l.length lc'] 31)).alloc (.cells #[.int .i64 0, .int .i64 0, .bool true, .int .i64 0] 37) = X3 at *
        go_wp2_with fail
        refine (HAL.out _).mono ?_
        rintro e y4 ⟨rfl, hb4⟩
        have HM4 := Lib.hid (HM3.out.below hb4)
        have HNX4 := Lib.hid (box_on HNX.out hb4)
        have HRR4 := Lib.hid (HRR.out.below hb4)
        clear hb4
        obtain ⟨⟨r1, r2, r3, r4⟩, _⟩ := four_cells HM4.out.bx
        go_wp2_with fail
        refine (HIS.out a9 _ HM4.out).mono ?_
        rintro e y5 ⟨rfl, hb5⟩
        have HM5 := Lib.hid (HM4.out.below hb5)
        have HNX5 := Lib.hid (box_on HNX4.out hb5)
        have HRR5 := Lib.hid (HRR4.out.below hb5)
        clear hb5 r1 r2 r3 r4
        obtain ⟨⟨r1, r2, r3, r4⟩, _⟩ := four_cells HNX5.out
        go_wp2_with fail
        refine (stands_any HM5.out.ar HG2.out HRR5.out HL2.out.1 HL2.out.2).mono ?_
        rintro e y6 ⟨rfl, hb6⟩
        go_wp2_with fail
        go_ret
        exact ⟨rfl, bt HM5.out.be hb6⟩
end Go.Proofs.Ytdebmokpdchgpaa
