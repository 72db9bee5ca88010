/- The walk of the law ArenaAll. -/
import Derived.Test.YtdebmokpdchgpaaArenaCopiesW
namespace Go.Proofs.Ytdebmokpdchgpaa
open Go.RowKit Go.Sort Go.Proofs.Ytdebmokpdchgpaa.Bo
set_option linter.unusedVariables false

theorem all_keep {W : World} {b c d : Nat} {k i v x0 x1 x2 x3 y0 y1 y2 y3 : Value} {t : TypeId} (h1 : W.heap[b]? = some (.cells #[k, i, v] 35 (0, 0))) (h2 : W.heap[c]? = some (.cells #[x0, x1, x2, x3] 37 (0, 0))) (h3 : W.heap[d]? = some (.cells #[y0, y1, y2, y3] t (0, 0))) :
    (W.cell? ⟨b, 0, none⟩ = some k ∧ W.cell? ⟨b, 1, none⟩ = some i ∧ W.cell? ⟨b, 2, none⟩ = some v) ∧ (W.cell? ⟨c, 0, none⟩ = some x0 ∧ W.cell? ⟨c, 1, none⟩ = some x1 ∧ W.cell? ⟨c, 2, none⟩ = some x2 ∧ W.cell? ⟨c, 3, none⟩ = some x3) ∧ (W.cell? ⟨d, 0, none⟩ = some y0 ∧ W.cell? ⟨d, 1, none⟩ = some y1 ∧ W.cell? ⟨d, 2, none⟩ = some y2 ∧ W.cell? ⟨d, 3, none⟩ = some y3) :=
  ⟨three_cells h1, (four_cells h2).1, (four_cells h3).1⟩
theorem is_ends {a : Ar} {room : Int} (hg : AG a room) : a.is (-1) = false ∧ a.is room = false := by
  constructor
  · cases e : a.is (-1) with
    | false => rfl
    | true => have := ((a.is_iff _).1 e).2.1; omega
  · cases e : a.is room with
    | false => rfl
    | true => have := ((a.is_iff _).1 e).2.2; have := hg.le; omega
set_option maxRecDepth 100000 in
set_option maxHeartbeats 4000000 in
theorem arenaAll_walk (room : Int) (a : Option Addr) (len cap : Nat) (z : List O3) (w : World) (wr0 : (Lit.int .i64 room).wf = true) (h : IsOps w a len z) :
    Calls Try.prog 3 #[.int .i64 room, .slice a len cap] w fun e w' => e = .returned (.bool true) ∧ Go.RowKit.Below w.heap.size w w' := by
  have mx := mixed
  obtain ⟨rfl, hz, hr⟩ := h
  clear wr0
  have HAL := Lib.hid aralive_any
  have HZ := Lib.hid hz
  have HR := Lib.hid hr
  clear hz hr
  by_cases h3 : 200 < z.length
  · have t2 : decide ((200 : Int) < (z.length : Int)) = true := decide_eq_true (by omega)
    have t3 : decide (200 < z.length) = true := decide_eq_true (by omega)
    go_enter Try.func3, Try.ntmps3
    go_wp2_with fail
    refine (HAL.out _).mono ?_
    rintro e y1 ⟨rfl, hB1⟩
    go_wp2_with fail
    go_ret
    exact ⟨rfl, hB1⟩
  have t2 : decide ((200 : Int) < (z.length : Int)) = false := decide_eq_false (by omega)
  have t3 : decide (200 < z.length) = false := decide_eq_false (by omega)
  by_cases h0 : ¬ (0 ≤ room ∧ room ≤ 65536)
  · have HN := Lib.hid (anew_no room w h0)
    have HRN := Lib.hid (fun W => rarnew_no room W h0)
    clear h0
    go_enter Try.func3, Try.ntmps3
    go_wp2_with fail
    refine HN.out.mono ?_
    rintro e y0 ⟨rfl, rfl⟩
    go_wp2_with fail
    refine (HRN.out _).mono ?_
    rintro e y1 ⟨rfl, hB1⟩
    have HB2 := Lib.hid hB1
    clear hB1
    go_wp2_with fail
    refine (HAL.out _).mono ?_
    rintro e y2 ⟨rfl, hB3⟩
    go_wp2_with fail
    go_ret
    exact ⟨rfl, bt HB2.out (bt (below_new _ _) hB3)⟩
  have h1 := Classical.not_not.1 h0
  clear h0
  have HN := Lib.hid (anew_ok room w h1)
  have HRN := Lib.hid (fun W => rarnew_ok room W h1)
  go_enter Try.func3, Try.ntmps3
  go_wp2_with fail
  refine HN.out.mono ?_
  rintro e y0 ⟨rfl, rfl⟩
  go_wp2_with fail
  refine (HRN.out _).mono ?_
  rintro e y1 ⟨rfl, hB1⟩
  have HMD := Lib.hid (mid_start room w w y1 _ (Go.RowKit.Below.refl _ _) hB1 rfl)
  clear HN HRN hB1
  obtain ⟨A, hA⟩ : ∃ A, w.heap.size = A := ⟨_, rfl⟩
  obtain ⟨R, hR⟩ : ∃ R, y1.heap.size = R := ⟨_, rfl⟩
  go_wp2_with fail
  rw [hA, hR] at HMD
  clear t2 t3 hA hR
  generalize y1.alloc (.cells #[.int .i64 room, .int .i64 0, .slice none 0 0, .slice none 0 0] 31) = y2 at *
  go_loopw [46] (fun k wr => ∃ j : Nat, k = .int .i64 (j : Int) ∧ j ≤ z.length ∧ Mid w A R (arun (Ar.new room) (z.take j)) (arun (Ar.new room) (z.take j)) wr) (fun k _ => z.length - (intOf k).toNat)
  case atStart => exact ⟨0, rfl, Nat.zero_le _, HMD.out⟩
  case round =>
    clear HMD
    obtain ⟨j, rfl, hj, hst⟩ := hrel
    have HG := Lib.hid (arun_ag h1 z HZ.out j hj)
    have HSM := Lib.hid (arun_small room z j hj (by omega))
    by_cases hlt : j < z.length
    · skip
      obtain ⟨S, fa, fc, la, lc, hm⟩ := hst
      obtain ⟨b, off, rfl, hc⟩ := (HR.out.below hm.be) (by omega)
      obtain ⟨c1, c2, c3⟩ := hc j hlt
      have HSTEP := Lib.hid (arun_step (Ar.new room) z j hlt)
      have HOK := Lib.hid (HZ.out _ (List.getElem_mem hlt))
      have ti0 : (0 : Int) ≤ (j : Int) := by omega
      have ti1 : (j : Int) < (z.length : Int) := by omega
      clear hc
      generalize z[j] = o at *
      obtain ⟨aj, haj⟩ : ∃ aj, arun (Ar.new room) (z.take j) = aj := ⟨_, rfl⟩
      rw [haj] at HG HSM hm HSTEP
      clear haj
      have HM := Lib.hid hm
      have HG2 := Lib.hid (HG.out.does o.k o.i o.v HOK.out.2.2)
      have HL2 : Hid ((aj.does o.k o.i o.v).1.l.length ≤ 9999 ∧ (aj.does o.k o.i o.v).1.free.length ≤ 9999) := by
        have h9 := aj.does_len o.k o.i o.v
        have h8 := HSM.out
        exact ⟨by omega, by omega⟩
      have HM1 := Lib.hid (hm.below (below_new wr (opB o.k o.i o.v)))
      have hop : (wr.alloc (opB o.k o.i o.v)).heap[wr.heap.size]? = some (opB o.k o.i o.v) := heap_alloc_new _ _
      have HOP := Lib.hid hop
      have HDO := Lib.hid (mid_round HM1.out HG.out (by have := HSM.out.1; omega) (by have := HSM.out.2; omega) o.k o.i o.v)
      obtain ⟨⟨r1, r2, r3, r4⟩, _⟩ := four_cells HM1.out.bx
      clear hm hop
      go_wp2_with fail
      clear c1 c2 c3 r1 r2 r3 r4
      refine HDO.out.mono ?_
      rintro e y1 ⟨fa', fc', la', lc', ⟨rfl, hr'⟩, hb1, hfr⟩
      generalize han : (aj.does o.k o.i o.v).2 = an at *
      have HAN := Lib.hid han
      clear han
      generalize haq : (aj.does o.k o.i o.v).1 = a' at *
      have HAQ := Lib.hid haq
      clear haq
      obtain ⟨ai, av, ab, ae⟩ := an
      have HB3 := Lib.hid (bt (below_new y1 (.cells #[.int .i64 a'.room, .int .i64 a'.ever, .slice fa' a'.free.length fc', .slice la' a'.l.length lc'] 31)) (below_new _ (.cells #[.int .i64 ai, .int .i64 av, .bool ab, .int .i64 ae] 37)))
      have HX3 := Lib.hid (((HM1.out.below hb1).below HB3.out).bx)
      have HOP3 := Lib.hid (box_on (box_on HOP.out hb1) HB3.out)
      have HM4 := Lib.hid (HM.out.step (below_new wr (opB o.k o.i o.v)) hr' hb1 hfr HB3.out)
      have hRlt : R < wr.heap.size := lt_of_block HM.out.bx
      have HNX : Hid (((y1.alloc (.cells #[.int .i64 a'.room, .int .i64 a'.ever, .slice fa' a'.free.length fc', .slice la' a'.l.length lc'] 31)).alloc (.cells #[.int .i64 ai, .int .i64 av, .bool ab, .int .i64 ae] 37)).heap[y1.heap.size]? = some (.cells #[.int .i64 a'.room, .int .i64 a'.ever, .slice fa' a'.free.length fc', .slice la' a'.l.length lc'] 31 (0, 0))) := box_on (heap_alloc_new _ _) (below_new _ _)
      have HWN : Hid (((y1.alloc (.cells #[.int .i64 a'.room, .int .i64 a'.ever, .slice fa' a'.free.length fc', .slice la' a'.l.length lc'] 31)).alloc (.cells #[.int .i64 ai, .int .i64 av, .bool ab, .int .i64 ae] 37)).heap[y1.heap.size + 1]? = some (.cells #[.int .i64 ai, .int .i64 av, .bool ab, .int .i64 ae] 37 (0, 0))) := new_at' _ (by simp)
      have hwy : wr.heap.size < y1.heap.size := by have := hb1.size; simp at this; omega
      clear hr' hb1 hfr HDO
      go_upto_region 13 with fail
      generalize (y1.alloc (.cells #[.int .i64 a'.room, .int .i64 a'.ever, .slice fa' a'.free.length fc', .slice la' a'.l.length lc'] 31)).alloc (.cells #[.int .i64 ai, .int .i64 av, .bool ab, .int .i64 ae] 37) = X3 at *
      obtain ⟨⟨n1, n2, n3, n4⟩, _⟩ := four_cells HNX.out
      obtain ⟨⟨m1, m2, m3, m4⟩, m5, m6, m7, m8⟩ := four_cells HX3.out
      have HOP4 := Lib.hid (four_far HOP3.out (c := R) (by omega) (.int .i64 a'.room) (.int .i64 a'.ever) (.slice fa' a'.free.length fc') (.slice la' a'.l.length lc'))
      have HWN4 := Lib.hid (four_far HWN.out (c := R) (by omega) (.int .i64 a'.room) (.int .i64 a'.ever) (.slice fa' a'.free.length fc') (.slice la' a'.l.length lc'))
      go_upto_region 14 with fail
      simp only [set4] at HM4 HOP4 HWN4
      generalize (((X3.setCell ⟨R, 0, none⟩ (.int .i64 a'.room)).setCell ⟨R, 1, none⟩ (.int .i64 a'.ever)).setCell ⟨R, 2, none⟩ (.slice fa' a'.free.length fc')).setCell ⟨R, 3, none⟩ (.slice la' a'.l.length lc') = X4 at *
      clear n1 n2 n3 n4 m1 m2 m3 m4 m5 m6 m7 m8
      have hne : ∀ W : World, Sem.run Try.prog (binOp .neq 37 (.agg #[.int .i64 ai, .int .i64 av, .bool ab, .int .i64 ae]) (.agg #[.int .i64 ai, .int .i64 av, .bool ab, .int .i64 ae])) W = .ok (.bool false) W := fun W => neqAn_self ⟨ai, av, ab, ae⟩ W
      have HM4d := Lib.hid HM4.out.drew
      have HDS := Lib.hid (does_m HM4d.out HG.out o.k o.i o.v)
      rw [HAN.out, HAQ.out] at HDS
      have hS0 := Lib.hid (all_keep (W := X4.drew) HOP4.out HWN4.out HM4.out.bx)
      go_region_held3 (fun w' => (w'.cell? ⟨wr.heap.size, 0, none⟩ = some (.int .i64 o.k) ∧ w'.cell? ⟨wr.heap.size, 1, none⟩ = some (.int .i64 o.i) ∧ w'.cell? ⟨wr.heap.size, 2, none⟩ = some (.int .i64 o.v)) ∧ (w'.cell? ⟨y1.heap.size + 1, 0, none⟩ = some (.int .i64 ai) ∧ w'.cell? ⟨y1.heap.size + 1, 1, none⟩ = some (.int .i64 av) ∧ w'.cell? ⟨y1.heap.size + 1, 2, none⟩ = some (.bool ab) ∧ w'.cell? ⟨y1.heap.size + 1, 3, none⟩ = some (.int .i64 ae)) ∧ (w'.cell? ⟨R, 0, none⟩ = some (.int .i64 a'.room) ∧ w'.cell? ⟨R, 1, none⟩ = some (.int .i64 a'.ever) ∧ w'.cell? ⟨R, 2, none⟩ = some (.slice fa' a'.free.length fc') ∧ w'.cell? ⟨R, 3, none⟩ = some (.slice la' a'.l.length lc')))
        (with_reducible first | exact hS0.out | exact hS1.out | exact hS2.out)
        (first
          | (go_at_call 14; refine HDS.out.mono ?_; rintro e y9 ⟨⟨rfl, S', hm'⟩, hot⟩; have HM9 := Lib.hid hm'; have HOP9 := Lib.hid (hot _ _ _ HOP4.out (by decide) (by decide) (by decide)); have HWN9 := Lib.hid (hot _ _ _ HWN4.out (by decide) (by decide) (by decide)); have hS1 := Lib.hid (all_keep HOP9.out HWN9.out HM9.out.bx); clear hm' hot)
          | (go_at_call 15; refine (stands_any HM9.out.ar HG2.out HM9.out.rw HL2.out.1 HL2.out.2).mono ?_; rintro e y10 ⟨rfl, hb10⟩; have HM10 := Lib.hid (HM9.out.below hb10); have hS2 := Lib.hid (all_keep (box_on HOP9.out hb10) (box_on HWN9.out hb10) HM10.out.bx); clear hb10))
      all_goals
        go_wp2_with fail
        go_roundw
        case rel => exact ⟨j + 1, by go_num, by omega, by rw [HSTEP.out]; exact ⟨S', fa', fc', la', lc', HM10.out⟩⟩
        case measure => simp [intOf]; omega
    · obtain rfl : j = z.length := by omega
      obtain ⟨S, fa, fc, la, lc, hm⟩ := hst
      obtain ⟨az, haz⟩ : ∃ az, arun (Ar.new room) (z.take z.length) = az := ⟨_, rfl⟩
      rw [haz] at HG HSM hm
      have HM := Lib.hid hm
      clear haz hm HR HZ
      have HIE := Lib.hid (is_ends HG.out)
      go_wp2_with fail
      refine (HAL.out _).mono ?_
      rintro e y6 ⟨rfl, hb6⟩
      have HM6 := Lib.hid (HM.out.below hb6)
      clear hb6
      go_wp2_with fail
      refine (aat_nil HM6.out.ar HG.out.ok (by have := HSM.out; omega) (-1) HIE.out.1).mono ?_
      rintro e y7 ⟨rfl, rfl⟩
      go_wp2_with fail
      refine (aat_nil HM6.out.ar HG.out.ok (by have := HSM.out; omega) room HIE.out.2).mono ?_
      rintro e y8 ⟨rfl, rfl⟩
      go_wp2_with fail
      go_ret
      exact ⟨rfl, HM6.out.be⟩
end Go.Proofs.Ytdebmokpdchgpaa
