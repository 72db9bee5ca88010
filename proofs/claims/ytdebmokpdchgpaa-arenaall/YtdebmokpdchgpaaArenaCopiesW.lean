/- The walk of the law ArenaCopies. -/
import Derived.Test.YtdebmokpdchgpaaArenaWritesW
namespace Go.Proofs.Ytdebmokpdchgpaa
open Go.RowKit Go.Sort Go.Proofs.Ytdebmokpdchgpaa.Bo
set_option linter.unusedVariables false

theorem arun_agG {a : Ar} {room : Int} (hg : AG a room) (z : List O3) (hz : ∀ o ∈ z, o.ok) : ∀ j, j ≤ z.length → AG (arun a (z.take j)) room := by
  intro j
  induction j with
  | zero => intro _; exact hg
  | succ j ih =>
    intro hj
    rw [arun_step _ _ _ (by omega)]
    exact (ih (by omega)).does _ _ _ (hz _ (List.getElem_mem _)).2.2
theorem copies_keep {W W' : World} {b c : Nat} {k i v x0 x1 x2 x3 : Value} (h1 : W.heap[b]? = some (.cells #[k, i, v] 35 (0, 0))) (h2 : W.heap[c]? = some (.cells #[x0, x1, x2, x3] 37 (0, 0))) (ho : Other W W') :
    (W'.cell? ⟨b, 0, none⟩ = some k ∧ W'.cell? ⟨b, 1, none⟩ = some i ∧ W'.cell? ⟨b, 2, none⟩ = some v) ∧ W'.cell? ⟨c, 0, none⟩ = some x0 ∧ W'.cell? ⟨c, 1, none⟩ = some x1 ∧ W'.cell? ⟨c, 2, none⟩ = some x2 ∧ W'.cell? ⟨c, 3, none⟩ = some x3 :=
  ⟨three_cells (ho _ _ _ h1 (by decide) (by decide) (by decide)), (four_cells (ho _ _ _ h2 (by decide) (by decide) (by decide))).1⟩
theorem other_refl (W : World) : Other W W := fun _ _ _ h _ _ _ => h
theorem MidAt.drew {w : World} {A R : Nat} {a r : Ar} {S : Nat → Prop} {fa la : Option Addr} {fc lc : Nat} {W : World} (h : MidAt w A R a r S fa fc la lc W) : MidAt w A R a r S fa fc la lc W.drew := h.below ((Go.RowKit.Below.refl _ _).drew)
set_option maxRecDepth 100000 in
set_option maxHeartbeats 4000000 in
theorem arenaCopies_walk (room : Int) (a : Option Addr) (len cap : Nat) (z : List O3) (a2 : Option Addr) (len2 cap2 : Nat) (z2 : List O3) (w : World) (wr0 : (Lit.int .i64 room).wf = true) (h : IsOps w a len z) (hs1 : len * 24 ≤ 140737488351232) (hh2 : IsOps w a2 len2 z2) (hs2 : len2 * 24 ≤ 140737488351232) :
    Calls Try.prog 4 #[.int .i64 room, .slice a len cap, .slice a2 len2 cap2] w fun e w' => e = .returned (.bool true) ∧ Go.RowKit.Below w.heap.size w w' := by
  have mx := mixed
  obtain ⟨rfl, hz, hr⟩ := h
  obtain ⟨rfl, hz2, hr2⟩ := hh2
  clear wr0
  have HAL := Lib.hid aralive_any
  have HZ := Lib.hid hz
  have HR := Lib.hid hr
  have HZ2 := Lib.hid hz2
  have HR0 := Lib.hid hr2
  clear hz hr hz2 hr2
  have hl1 : z.length ≤ 10000000000000 := by omega
  have hl2 : z2.length ≤ 10000000000000 := by omega
  clear hs1 hs2
  by_cases h0 : ¬ (0 ≤ room ∧ room ≤ 65536)
  · have HN := Lib.hid (anew_no room w h0)
    have HRN := Lib.hid (fun W => rarnew_no room W h0)
    clear h0
    go_enter Try.func4, Try.ntmps4
    go_wp2_with fail
    refine (HN.out).mono ?_
    rintro e y0 ⟨rfl, rfl⟩
    go_wp2_with fail
    refine (HRN.out _).mono ?_
    rintro e y1 ⟨rfl, hB1⟩
    have HB2 := Lib.hid hB1
    clear hB1
    go_wp2_with fail
    refine (HAL.out _).mono ?_
    rintro e y2 ⟨rfl, hB3⟩
    go_wp2_with fail
    go_ret
    exact ⟨rfl, bt (Go.RowKit.Below.refl _ _) (bt HB2.out (bt (below_new _ _) hB3))⟩
  have h1 := Classical.not_not.1 h0
  clear h0
  have HN := Lib.hid (anew_ok room w h1)
  have HRN := Lib.hid (fun W => rarnew_ok room W h1)
  have q1 : IntKind.i64.wrap ((z.length : Int) + (z2.length : Int)) = (z.length : Int) + (z2.length : Int) := IntWalk.i64_in _ (by omega)
  by_cases h3 : 200 < z.length + z2.length
  · have t2 : decide ((200 : Int) < (z.length : Int) + (z2.length : Int)) = true := decide_eq_true (by omega)
    go_enter Try.func4, Try.ntmps4
    go_wp2_with fail
    refine HN.out.mono ?_
    rintro e y0 ⟨rfl, rfl⟩
    go_wp2_with fail
    refine (HRN.out _).mono ?_
    rintro e y1 ⟨rfl, hB1⟩
    have HB2 := Lib.hid hB1
    clear hB1
    go_wp2_with fail
    refine (HAL.out _).mono ?_
    rintro e y2 ⟨rfl, hB3⟩
    go_wp2_with fail
    go_ret
    exact ⟨rfl, bt (below_new _ _) (bt HB2.out (bt (below_new _ _) hB3))⟩
  have t2 : decide ((200 : Int) < (z.length : Int) + (z2.length : Int)) = false := decide_eq_false (by omega)
  go_enter Try.func4, Try.ntmps4
  go_wp2_with fail
  refine HN.out.mono ?_
  rintro e y0 ⟨rfl, rfl⟩
  go_wp2_with fail
  refine (HRN.out _).mono ?_
  rintro e y1 ⟨rfl, hB1⟩
  have HMD := Lib.hid (mid_start room w w y1 _ (Go.RowKit.Below.refl _ _) hB1 rfl)
  clear HN HRN hB1
  obtain ⟨A, hA⟩ : ∃ A, w.heap.size = A := ⟨_, rfl⟩
  obtain ⟨R, hR⟩ : ∃ R, y1.heap.size = R := ⟨_, rfl⟩
  go_wp2_with fail
  rw [hA, hR] at HMD
  clear t2 hA hR q1
  generalize y1.alloc (.cells #[.int .i64 room, .int .i64 0, .slice none 0 0, .slice none 0 0] 31) = y2 at *
  go_loopw [52] (fun k wr => ∃ j : Nat, k = .int .i64 (j : Int) ∧ j ≤ z.length ∧ Mid w A R (arun (Ar.new room) (z.take j)) (arun (Ar.new room) (z.take j)) wr) (fun k _ => z.length - (intOf k).toNat)
  case atStart => exact ⟨0, rfl, Nat.zero_le _, HMD.out⟩
  case round =>
    clear HMD
    obtain ⟨j, rfl, hj, hst⟩ := hrel
    have HG := Lib.hid (arun_ag h1 z HZ.out j hj)
    have HSM := Lib.hid (arun_small room z j hj (by omega))
    by_cases hlt : j < z.length
    · skip
      obtain ⟨S, fa, fc, la, lc, hm⟩ := hst
      obtain ⟨b, off, rfl, hc⟩ := (HR.out.below hm.be) (by omega)
      obtain ⟨c1, c2, c3⟩ := hc j hlt
      have HSTEP := Lib.hid (arun_step (Ar.new room) z j hlt)
      have ti0 : (0 : Int) ≤ (j : Int) := by omega
      have ti1 : (j : Int) < (z.length : Int) := by omega
      clear hc
      generalize z[j] = o at *
      obtain ⟨aj, haj⟩ : ∃ aj, arun (Ar.new room) (z.take j) = aj := ⟨_, rfl⟩
      rw [haj] at HG HSM hm HSTEP
      clear haj
      have HM := Lib.hid hm
      have HM1 := Lib.hid (hm.below (below_new wr (opB o.k o.i o.v)))
      have hop : (wr.alloc (opB o.k o.i o.v)).heap[wr.heap.size]? = some (opB o.k o.i o.v) := heap_alloc_new _ _
      have HOP := Lib.hid hop
      have HDO := Lib.hid (mid_round HM1.out HG.out (by have := HSM.out.1; omega) (by have := HSM.out.2; omega) o.k o.i o.v)
      obtain ⟨⟨r1, r2, r3, r4⟩, _⟩ := four_cells HM1.out.bx
      clear hm hop
      go_wp2_with fail
      clear c1 c2 c3 r1 r2 r3 r4
      refine HDO.out.mono ?_
      rintro e y1 ⟨fa', fc', la', lc', ⟨rfl, hr'⟩, hb1, hfr⟩
      generalize (aj.does o.k o.i o.v).2 = an at *
      generalize haq : (aj.does o.k o.i o.v).1 = a' at *
      have HAQ := Lib.hid haq
      clear haq
      obtain ⟨ai, av, ab, ae⟩ := an
      have HB3 := Lib.hid (bt (below_new y1 (.cells #[.int .i64 a'.room, .int .i64 a'.ever, .slice fa' a'.free.length fc', .slice la' a'.l.length lc'] 31)) (below_new _ (.cells #[.int .i64 ai, .int .i64 av, .bool ab, .int .i64 ae] 37)))
      have HX3 := Lib.hid (((HM1.out.below hb1).below HB3.out).bx)
      have HOP3 := Lib.hid (box_on (box_on HOP.out hb1) HB3.out)
      have HM4 := Lib.hid (HM.out.step (below_new wr (opB o.k o.i o.v)) hr' hb1 hfr HB3.out)
      have hRlt : R < wr.heap.size := lt_of_block HM.out.bx
      have HNX : Hid (((y1.alloc (.cells #[.int .i64 a'.room, .int .i64 a'.ever, .slice fa' a'.free.length fc', .slice la' a'.l.length lc'] 31)).alloc (.cells #[.int .i64 ai, .int .i64 av, .bool ab, .int .i64 ae] 37)).heap[y1.heap.size]? = some (.cells #[.int .i64 a'.room, .int .i64 a'.ever, .slice fa' a'.free.length fc', .slice la' a'.l.length lc'] 31 (0, 0))) := box_on (heap_alloc_new _ _) (below_new _ _)
      have HWN : Hid (((y1.alloc (.cells #[.int .i64 a'.room, .int .i64 a'.ever, .slice fa' a'.free.length fc', .slice la' a'.l.length lc'] 31)).alloc (.cells #[.int .i64 ai, .int .i64 av, .bool ab, .int .i64 ae] 37)).heap[y1.heap.size + 1]? = some (.cells #[.int .i64 ai, .int .i64 av, .bool ab, .int .i64 ae] 37 (0, 0))) := new_at' _ (by simp)
      have hwy : wr.heap.size < y1.heap.size := by have := hb1.size; simp at this; omega
      clear hr' hb1 hfr HDO
      go_upto_region 9 with fail
      generalize (y1.alloc (.cells #[.int .i64 a'.room, .int .i64 a'.ever, .slice fa' a'.free.length fc', .slice la' a'.l.length lc'] 31)).alloc (.cells #[.int .i64 ai, .int .i64 av, .bool ab, .int .i64 ae] 37) = X3 at *
      obtain ⟨⟨n1, n2, n3, n4⟩, _⟩ := four_cells HNX.out
      obtain ⟨⟨m1, m2, m3, m4⟩, m5, m6, m7, m8⟩ := four_cells HX3.out
      have HOP4 := Lib.hid (four_far HOP3.out (c := R) (by omega) (.int .i64 a'.room) (.int .i64 a'.ever) (.slice fa' a'.free.length fc') (.slice la' a'.l.length lc'))
      have HWN4 := Lib.hid (four_far HWN.out (c := R) (by omega) (.int .i64 a'.room) (.int .i64 a'.ever) (.slice fa' a'.free.length fc') (.slice la' a'.l.length lc'))
      go_upto_region 10 with fail
      simp only [set4] at HM4 HOP4 HWN4
      generalize (((X3.setCell ⟨R, 0, none⟩ (.int .i64 a'.room)).setCell ⟨R, 1, none⟩ (.int .i64 a'.ever)).setCell ⟨R, 2, none⟩ (.slice fa' a'.free.length fc')).setCell ⟨R, 3, none⟩ (.slice la' a'.l.length lc') = X4 at *
      clear n1 n2 n3 n4 m1 m2 m3 m4 m5 m6 m7 m8
      obtain ⟨o1, o2, o3⟩ := three_cells HOP4.out
      have HDS := Lib.hid (does_m HM4.out HG.out o.k o.i o.v)
      go_wp2_with fail
      refine HDS.out.mono ?_
      rintro e y9 ⟨⟨rfl, S', hm'⟩, hot⟩
      clear hot o1 o2 o3
      go_wp2_with fail
      go_roundw
      case rel => exact ⟨j + 1, by go_num, by omega, by rw [HSTEP.out]; rw [HAQ.out] at hm'; exact ⟨S', fa', fc', la', lc', hm'⟩⟩
      case measure => simp [intOf]; omega
    · obtain rfl : j = z.length := by omega
      obtain ⟨S, fa, fc, la, lc, hm⟩ := hst
      obtain ⟨az, haz⟩ : ∃ az, arun (Ar.new room) (z.take z.length) = az := ⟨_, rfl⟩
      rw [haz] at HG HSM hm
      have HM := Lib.hid hm
      clear haz hm HR HZ
      generalize wr = X at *
      have HCP := Lib.hid (acopy_any HM.out.ar HG.out)
      have HR2 := Lib.hid (HR0.out.below HM.out.be)
      go_wp2_with fail
      refine HCP.out.mono ?_
      rintro e y3 ⟨C, Sc, ⟨rfl, hC⟩, hb3⟩
      have HC3 := Lib.hid hC
      have HB3x := Lib.hid hb3
      have HM3 := Lib.hid (HM.out.below hb3)
      clear hC hb3 HCP
      obtain ⟨⟨r1, r2, r3, r4⟩, _⟩ := four_cells HM3.out.bx
      go_wp2_with fail
      refine (stands_any HC3.out HG.out HM3.out.rw (by have := HSM.out; omega) (by have := HSM.out; omega)).mono ?_
      rintro e y4 ⟨rfl, hb4⟩
      have HC4 := Lib.hid (HC3.out.below hb4)
      have HB4x := Lib.hid (bt HB3x.out hb4)
      have HM5 := Lib.hid (HM3.out.below hb4)
      clear hb4 r1 r2 r3 r4
      obtain ⟨⟨r1, r2, r3, r4⟩, _⟩ := four_cells HM5.out.bx
      have HQB := Lib.hid (heap_alloc_new y4 (.cells #[.int .i64 az.room, .int .i64 az.ever, .slice fa az.free.length fc, .slice la az.l.length lc] 31))
      have HQL := Lib.hid (below_new y4 (.cells #[.int .i64 az.room, .int .i64 az.ever, .slice fa az.free.length fc, .slice la az.l.length lc] 31))
      have HMQ : Hid (Mid X C y4.heap.size az az (y4.alloc (.cells #[.int .i64 az.room, .int .i64 az.ever, .slice fa az.free.length fc, .slice la az.l.length lc] 31))) :=
        ⟨Sc, fa, fc, la, lc, HC4.out.below HQL.out, bt HB4x.out HQL.out, HQB.out, HM5.out.rw.below HQL.out, fun b off e => ⟨Nat.lt_of_lt_of_le (HM.out.apart b off e).1 (bt HB4x.out HQL.out).size, fun hS => by have h9 := (HM.out.apart b off e).1; have := (HC4.out.lt b hS).1; omega⟩, HB4x.out.size⟩
      go_upto_region 16 with fail
      clear r1 r2 r3 r4
      obtain ⟨Q, hQ⟩ : ∃ Q, y4.heap.size = Q := ⟨_, rfl⟩
      rw [hQ] at HMQ
      rw [hQ]
      clear hQ HQB HQL HC3 HC4 HM3 HM5 HB3x HB4x
      generalize y4.alloc (.cells #[.int .i64 az.room, .int .i64 az.ever, .slice fa az.free.length fc, .slice la az.l.length lc] 31) = y5 at *
      go_wp2_with fail
      go_loopw [80] (fun k wr => ∃ j : Nat, k = .int .i64 (j : Int) ∧ j ≤ z2.length ∧ Mid X C Q (arun az (z2.take j)) (arun az (z2.take j)) wr) (fun k _ => z2.length - (intOf k).toNat)
      case atStart => exact ⟨0, rfl, Nat.zero_le _, HMQ.out⟩
      case round =>
        clear HMQ
        obtain ⟨j, rfl, hj, hst⟩ := hrel
        have HGA := Lib.hid HG.out
        have HMA := Lib.hid HM.out
        have HSA := Lib.hid HSM.out
        have hfa := HSM.out
        obtain ⟨fa0, hfa0⟩ : ∃ fa0, fa = fa0 := ⟨_, rfl⟩
        obtain ⟨la0, hla0⟩ : ∃ la0, la = la0 := ⟨_, rfl⟩
        rw [hfa0, hla0] at HMA
        clear HM hfa0 hla0
        have HG := Lib.hid (arun_agG HGA.out z2 HZ2.out j hj)
        have HSM : Hid ((arun az (z2.take j)).l.length ≤ 400 ∧ (arun az (z2.take j)).free.length ≤ 400) := by
          have := arun_len az z2 j hj
          exact ⟨by omega, by omega⟩
        clear hfa
        by_cases hlt : j < z2.length
        · skip
          obtain ⟨S, fa, fc, la, lc, hm⟩ := hst
          obtain ⟨b, off, rfl, hc⟩ := (HR2.out.below hm.be) (by omega)
          obtain ⟨c1, c2, c3⟩ := hc j hlt
          have HSTEP := Lib.hid (arun_step (az) z2 j hlt)
          have ti0 : (0 : Int) ≤ (j : Int) := by omega
          have ti1 : (j : Int) < (z2.length : Int) := by omega
          clear hc
          generalize z2[j] = o at *
          obtain ⟨aj, haj⟩ : ∃ aj, arun (az) (z2.take j) = aj := ⟨_, rfl⟩
          rw [haj] at HG HSM hm HSTEP
          clear haj
          have HM := Lib.hid hm
          have HM1 := Lib.hid (hm.below (below_new wr (opB o.k o.i o.v)))
          have hop : (wr.alloc (opB o.k o.i o.v)).heap[wr.heap.size]? = some (opB o.k o.i o.v) := heap_alloc_new _ _
          have HOP := Lib.hid hop
          have HDO := Lib.hid (mid_round HM1.out HG.out (by have := HSM.out.1; omega) (by have := HSM.out.2; omega) o.k o.i o.v)
          obtain ⟨⟨r1, r2, r3, r4⟩, _⟩ := four_cells HM1.out.bx
          clear hm hop
          go_wp2_with fail
          clear c1 c2 c3 r1 r2 r3 r4
          refine HDO.out.mono ?_
          rintro e y1 ⟨fa', fc', la', lc', ⟨rfl, hr'⟩, hb1, hfr⟩
          generalize han : (aj.does o.k o.i o.v).2 = an at *
          have HAN := Lib.hid han
          clear han
          generalize haq : (aj.does o.k o.i o.v).1 = a' at *
          have HAQ := Lib.hid haq
          clear haq
          obtain ⟨ai, av, ab, ae⟩ := an
          have HB3 := Lib.hid (bt (below_new y1 (.cells #[.int .i64 a'.room, .int .i64 a'.ever, .slice fa' a'.free.length fc', .slice la' a'.l.length lc'] 31)) (below_new _ (.cells #[.int .i64 ai, .int .i64 av, .bool ab, .int .i64 ae] 37)))
          have HX3 := Lib.hid (((HM1.out.below hb1).below HB3.out).bx)
          have HOP3 := Lib.hid (box_on (box_on HOP.out hb1) HB3.out)
          have HM4 := Lib.hid (HM.out.step (below_new wr (opB o.k o.i o.v)) hr' hb1 hfr HB3.out)
          have hQlt : Q < wr.heap.size := lt_of_block HM.out.bx
          have HNX : Hid (((y1.alloc (.cells #[.int .i64 a'.room, .int .i64 a'.ever, .slice fa' a'.free.length fc', .slice la' a'.l.length lc'] 31)).alloc (.cells #[.int .i64 ai, .int .i64 av, .bool ab, .int .i64 ae] 37)).heap[y1.heap.size]? = some (.cells #[.int .i64 a'.room, .int .i64 a'.ever, .slice fa' a'.free.length fc', .slice la' a'.l.length lc'] 31 (0, 0))) := box_on (heap_alloc_new _ _) (below_new _ _)
          have HWN : Hid (((y1.alloc (.cells #[.int .i64 a'.room, .int .i64 a'.ever, .slice fa' a'.free.length fc', .slice la' a'.l.length lc'] 31)).alloc (.cells #[.int .i64 ai, .int .i64 av, .bool ab, .int .i64 ae] 37)).heap[y1.heap.size + 1]? = some (.cells #[.int .i64 ai, .int .i64 av, .bool ab, .int .i64 ae] 37 (0, 0))) := new_at' _ (by simp)
          have hwy : wr.heap.size < y1.heap.size := by have := hb1.size; simp at this; omega
          clear hr' hb1 hfr HDO
          go_upto_region 20 with fail
          generalize (y1.alloc (.cells #[.int .i64 a'.room, .int .i64 a'.ever, .slice fa' a'.free.length fc', .slice la' a'.l.length lc'] 31)).alloc (.cells #[.int .i64 ai, .int .i64 av, .bool ab, .int .i64 ae] 37) = X3 at *
          obtain ⟨⟨n1, n2, n3, n4⟩, _⟩ := four_cells HNX.out
          obtain ⟨⟨m1, m2, m3, m4⟩, m5, m6, m7, m8⟩ := four_cells HX3.out
          have HOP4 := Lib.hid (four_far HOP3.out (c := Q) (by omega) (.int .i64 a'.room) (.int .i64 a'.ever) (.slice fa' a'.free.length fc') (.slice la' a'.l.length lc'))
          have HWN4 := Lib.hid (four_far HWN.out (c := Q) (by omega) (.int .i64 a'.room) (.int .i64 a'.ever) (.slice fa' a'.free.length fc') (.slice la' a'.l.length lc'))
          go_upto_region 21 with fail
          simp only [set4] at HM4 HOP4 HWN4
          generalize (((X3.setCell ⟨Q, 0, none⟩ (.int .i64 a'.room)).setCell ⟨Q, 1, none⟩ (.int .i64 a'.ever)).setCell ⟨Q, 2, none⟩ (.slice fa' a'.free.length fc')).setCell ⟨Q, 3, none⟩ (.slice la' a'.l.length lc') = X4 at *
          clear n1 n2 n3 n4 m1 m2 m3 m4 m5 m6 m7 m8
          have hne : ∀ W : World, Sem.run Try.prog (binOp .neq 37 (.agg #[.int .i64 ai, .int .i64 av, .bool ab, .int .i64 ae]) (.agg #[.int .i64 ai, .int .i64 av, .bool ab, .int .i64 ae])) W = .ok (.bool false) W := fun W => neqAn_self ⟨ai, av, ab, ae⟩ W
          have HM4d := Lib.hid HM4.out.drew
          have HDS := Lib.hid (does_m HM4d.out HG.out o.k o.i o.v)
          rw [HAN.out, HAQ.out] at HDS
          have hS0 := Lib.hid (copies_keep (W' := X4.drew) HOP4.out HWN4.out (other_refl X4))
          go_region_held3 (fun w' => (w'.cell? ⟨wr.heap.size, 0, none⟩ = some (.int .i64 o.k) ∧ w'.cell? ⟨wr.heap.size, 1, none⟩ = some (.int .i64 o.i) ∧ w'.cell? ⟨wr.heap.size, 2, none⟩ = some (.int .i64 o.v)) ∧ w'.cell? ⟨y1.heap.size + 1, 0, none⟩ = some (.int .i64 ai) ∧ w'.cell? ⟨y1.heap.size + 1, 1, none⟩ = some (.int .i64 av) ∧ w'.cell? ⟨y1.heap.size + 1, 2, none⟩ = some (.bool ab) ∧ w'.cell? ⟨y1.heap.size + 1, 3, none⟩ = some (.int .i64 ae))
            (with_reducible first | exact hS0.out | exact hS1.out)
            (first | (go_at_call 14; refine HDS.out.mono ?_; rintro e y9 ⟨⟨rfl, hm'⟩, hot⟩; have HM9 := Lib.hid hm'; have hS1 := Lib.hid (copies_keep HOP4.out HWN4.out hot); clear hm' hot))
          all_goals
            obtain ⟨S', hm'⟩ := HM9.out
            go_wp2_with fail
            go_roundw
            case rel => exact ⟨j + 1, by go_num, by omega, by rw [HSTEP.out]; exact ⟨S', fa', fc', la', lc', hm'⟩⟩
            case measure => simp [intOf]; omega
        · obtain rfl : j = z2.length := by omega
          obtain ⟨S2, fa2, fc2, la2, lc2, hm2⟩ := hst
          obtain ⟨cz, hcz⟩ : ∃ cz, arun az (z2.take z2.length) = cz := ⟨_, rfl⟩
          rw [hcz] at HG HSM hm2
          have HM2 := Lib.hid hm2
          clear hcz hm2
          go_wp2_with fail
          refine (HAL.out _).mono ?_
          rintro e y6 ⟨rfl, hb6⟩
          have HM6 := Lib.hid (HM2.out.below hb6)
          have HMA6 := Lib.hid (HMA.out.below HM6.out.be)
          clear hb6
          obtain ⟨⟨r1, r2, r3, r4⟩, _⟩ := four_cells HMA6.out.bx
          go_wp2_with fail
          refine (stands_any HMA6.out.ar HGA.out HMA6.out.rw (by have := HSA.out; omega) (by have := HSA.out; omega)).mono ?_
          rintro e y7 ⟨rfl, hb7⟩
          have HM7 := Lib.hid (HM6.out.below hb7)
          clear hb7 r1 r2 r3 r4
          obtain ⟨⟨r1, r2, r3, r4⟩, _⟩ := four_cells HM7.out.bx
          go_wp2_with fail
          refine (stands_any HM7.out.ar HG.out HM7.out.rw (by have := HSM.out; omega) (by have := HSM.out; omega)).mono ?_
          rintro e y8 ⟨rfl, hb8⟩
          go_wp2_with fail
          go_ret
          exact ⟨rfl, bt HMA.out.be (bt HM7.out.be hb8)⟩
end Go.Proofs.Ytdebmokpdchgpaa
