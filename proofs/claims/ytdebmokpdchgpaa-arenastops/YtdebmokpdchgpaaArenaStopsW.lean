/- The walk of the law ArenaStops. -/
import Derived.Test.YtdebmokpdchgpaaBG
import Derived.Lib.QuietBelow
namespace Go.Proofs.Ytdebmokpdchgpaa
open Go.RowKit Go.Sort Go.Shelf Go.Proofs.Ytdebmokpdchgpaa.Bo
set_option linter.unusedVariables false
attribute [local go_sem] Oper.semAt_some

/-- Between two rounds: how many came. -/
def SpI (X : World) (stop : Int) (pre : List (Int × Int)) (W : World) : Prop := (W.heap[X.heap.size]? = some (.cells #[.int .i64 (pre.length : Int)] 3 (0, 0)) ∧ X.heap.size + 1 < W.heap.size) ∧ Go.RowKit.Below X.heap.size X W
def SpX (X : World) (stop : Int) (id : Nat) (c : Code) (pre : List (Int × Int)) (W : World) : Prop := ((c = .exit id ∧ (pre.length : Int) = stop) ∧ W.heap[X.heap.size]? = some (.cells #[.int .i64 (pre.length : Int)] 3 (0, 0))) ∧ Go.RowKit.Below X.heap.size X W
theorem spI_own (X : World) (stop : Int) (B : Nat) (hB : X.heap.size ≤ B) : OwnFrom B (SpI X stop) := by
  intro s W W' row hs hg hr
  exact ⟨⟨ownFrom_heap B _ (fun _ : Unit => #[.int .i64 (s.length : Int)]) _ () W W' row hs.1.1 hg hr, Nat.lt_of_lt_of_le hs.1.2 hg.size⟩, hs.2.grown hg hs.2.size (fun j e => by have := (hr j e).1; omega)⟩
theorem spX_own (X : World) (stop : Int) (id B : Nat) (hB : X.heap.size ≤ B) (c : Code) : OwnFrom B (SpX X stop id c) := by
  intro s W W' row hs hg hr
  exact ⟨⟨hs.1.1, ownFrom_heap B _ (fun _ : Unit => #[.int .i64 (s.length : Int)]) _ () W W' row hs.1.2 hg hr⟩, hs.2.grown hg hs.2.size (fun j e => by have := (hr j e).1; omega)⟩
set_option maxRecDepth 100000 in
set_option maxHeartbeats 4000000 in
theorem arenaStops_walk (room : Int) (a : Option Addr) (len cap : Nat) (z : List O3) (stop : Int) (w : World) (wr0 : (Lit.int .i64 room).wf = true) (h : IsOps w a len z) (ws0 : (Lit.int .i64 stop).wf = true) :
    Calls Try.prog 7 #[.int .i64 room, .slice a len cap, .int .i64 stop] w fun e w' => e = .returned (.bool true) ∧ Go.RowKit.Below w.heap.size w w' := by
  have mx := mixed
  obtain ⟨rfl, hz, hr⟩ := h
  clear wr0 ws0
  have HAL := Lib.hid aralive_any
  have HZ := Lib.hid hz
  have HR := Lib.hid (hr.below (below_new w (.cells #[.int .i64 stop] 3)))
  clear hz hr
  by_cases h0 : ¬ (0 ≤ room ∧ room ≤ 65536)
  · have HN := Lib.hid (fun W => anew_no room W h0)
    clear h0
    go_enter Try.func7, Try.ntmps7
    go_wp2_with fail
    refine (HN.out _).mono ?_
    rintro e y0 ⟨rfl, rfl⟩
    go_wp2_with fail
    refine (HAL.out _).mono ?_
    rintro e y1 ⟨rfl, hB1⟩
    go_wp2_with fail
    go_ret
    exact ⟨rfl, bt (below_new _ _) hB1⟩
  have h1 := Classical.not_not.1 h0
  clear h0
  have HN := Lib.hid (fun W => anew_ok room W h1)
  by_cases h3 : 200 < z.length
  · have t2 : decide ((200 : Int) < (z.length : Int)) = true := decide_eq_true (by omega)
    have t3 : decide (200 < z.length) = true := decide_eq_true (by omega)
    go_enter Try.func7, Try.ntmps7
    go_wp2_with fail
    refine (HN.out _).mono ?_
    rintro e y0 ⟨rfl, rfl⟩
    go_wp2_with fail
    refine (HAL.out _).mono ?_
    rintro e y1 ⟨rfl, hB1⟩
    go_wp2_with fail
    go_ret
    exact ⟨rfl, bt (below_new _ _) (bt (below_new _ _) hB1)⟩
  have t2 : decide ((200 : Int) < (z.length : Int)) = false := decide_eq_false (by omega)
  have t3 : decide (200 < z.length) = false := decide_eq_false (by omega)
  have HW0 := Lib.hid (below_new w (.cells #[.int .i64 stop] 3))
  have HSB := Lib.hid (heap_alloc_new w (.cells #[.int .i64 stop] 3))
  have HST := Lib.hid (ast_new room (w.alloc (.cells #[.int .i64 stop] 3)))
  have hsz0 : w.heap.size < (w.alloc (.cells #[.int .i64 stop] 3)).heap.size := by simp
  refine (callsIn_wide (n := 3)).1 ?_
  refine callsIn_of_wp_marks Try.func7 rfl trivial ?_ rfl
  simp only [Try.ntmps7, List.size_toArray, List.length_cons, List.length_nil, Nat.reduceAdd, Nat.reduceSub, Array.replicate_succ, Array.replicate_zero, List.push_toArray, List.append_toArray, List.nil_append, List.cons_append]
  refine wpIn_wide.2 ?_
  go_wp2_with fail
  refine (HN.out _).mono ?_
  rintro e y0 ⟨rfl, rfl⟩
  clear HN
  generalize w.alloc (.cells #[.int .i64 stop] 3) = w0 at *
  generalize w0.alloc (aZ room) = y0 at *
  go_wp2_with fail
  clear t2 t3
  go_loopw [31] (fun k wr => ∃ j : Nat, k = .int .i64 (j : Int) ∧ j ≤ z.length ∧ ASt w0 w0.heap.size (arun (Ar.new room) (z.take j)) wr) (fun k _ => z.length - (intOf k).toNat)
  case atStart => exact ⟨0, rfl, Nat.zero_le _, HST.out⟩
  case round =>
    clear HST
    obtain ⟨j, rfl, hj, hst⟩ := hrel
    have HS := Lib.hid hst
    clear hst
    have HG := Lib.hid (arun_ag h1 z HZ.out j hj)
    by_cases hlt : j < z.length
    · have HSTEP := Lib.hid (arun_step (Ar.new room) z j hlt)
      obtain ⟨b, off, rfl, hc⟩ := (HR.out.below HS.out.bel) (by omega)
      obtain ⟨c1, c2, c3⟩ := hc j hlt
      have ti0 : (0 : Int) ≤ (j : Int) := by omega
      have ti1 : (j : Int) < (z.length : Int) := by omega
      clear hc
      generalize z[j] = o at *
      have HB := Lib.hid (HS.out.below (below_new wr (opB o.k o.i o.v)))
      go_wp2_with fail
      refine (does_s HB.out HG.out o.k o.i o.v).mono ?_
      rintro e y1 ⟨rfl, hst⟩
      clear c1 c2 c3
      go_wp2_with fail
      go_roundw
      case rel => exact ⟨j + 1, by go_num, by omega, by rw [HSTEP.out]; exact hst⟩
      case measure => simp [intOf]; omega
    · obtain rfl : j = z.length := by omega
      clear HR HZ
      obtain ⟨az, haz⟩ : ∃ az, arun (Ar.new room) (z.take z.length) = az := ⟨_, rfl⟩
      rw [haz] at HS HG
      clear haz
      obtain ⟨S, hAI, hBW⟩ := HS.out
      have HA := Lib.hid hAI
      have HW := Lib.hid hBW
      clear hAI hBW HS
      have HLE : Hid (∀ W, Go.RowKit.Below wr.heap.size wr W → Calls Try.prog 22 #[aP w0.heap.size] W fun e w' => e = .returned (.int .i64 az.len) ∧ Go.RowKit.Below W.heap.size W w') := fun W hb => alen_g (HA.out.below hb) HG.out
      have HWW := Lib.hid (bt HW0.out HW.out)
      have HSB2 := Lib.hid ((HW.out.block w.heap.size hsz0).trans HSB.out)
      have hwlt : w.heap.size < wr.heap.size := lt_of_block HSB2.out
      have HTL := Lib.hid (az.things_len HG.out.ok)
      have hll := HG.out.len.1
      have HB2 : Hid (Go.RowKit.Below wr.heap.size wr ((wr.alloc (.cells #[.int .i64 0] 3)).alloc (.cells #[aP w0.heap.size] 24))) := bt (below_new _ _) (below_new _ _)
      have HNB : Hid (((wr.alloc (.cells #[.int .i64 0] 3)).alloc (.cells #[aP w0.heap.size] 24)).heap[wr.heap.size]? = some (.cells #[.int .i64 0] 3 (0, 0))) := box_on (heap_alloc_new _ _) (below_new _ _)
      have HBX : Hid (((wr.alloc (.cells #[.int .i64 0] 3)).alloc (.cells #[aP w0.heap.size] 24)).heap[wr.heap.size + 1]? = some (.cells #[aP w0.heap.size] 24 (0, 0))) := new_at' _ (by simp)
      go_wp2_with (go_at_call 21; refine (each_any w0.heap.size _).mono ?_; rintro e w' ⟨rfl, rfl⟩)
      generalize (wr.alloc (.cells #[.int .i64 0] 3)).alloc (.cells #[aP w0.heap.size] 24) = W0 at *
      have hW0 : wr.heap.size + 1 < W0.heap.size := lt_of_block HBX.out
      refine (wpIn_wide (n := 3)).1 ?_
      refine wpIn_rangeFunc_ownF rfl (by omega) (gf := 31) (lb := #[.pointer (some ⟨wr.heap.size + 1, 0, none⟩)]) rfl trivial (enters_of Try.func31 (by kernel_rfl) rfl)
        (each_stops (3 - 1) w0.heap.size (wr.heap.size + 1) wr.heap.size w0.heap.size S az room (by omega) W0 (HA.out.below HB2.out) HG.out (fun b hb => (HA.out.lt b hb).2) HB2.out.size HBX.out) KpE.trans (kpE_b HB2.out.size hW0) (Go.RowKit.Below.refl _ _) (fun _ => rfl)
        (SpI wr stop) (SpX wr stop 2) (spI_own wr stop _ HB2.out.size) (fun c => spX_own wr stop 2 _ HB2.out.size c) ⟨⟨HNB.out, hW0⟩, HB2.out⟩
        (fun x => { tmps := #[.int .i64 room, .slice a z.length cap, .int .i64 stop, undef, undef, .pointer (some ⟨w.heap.size, 0, none⟩), .bool false, aP w0.heap.size, .int .i64 0, undef, u10, .pointer (some ⟨wr.heap.size, 0, none⟩), .tuple #[aP w0.heap.size, .int .i64 0], .int .i64 room, .tuple #[aP w0.heap.size, .int .i64 0], aP w0.heap.size, .int .i64 0, .int .i64 0, .bool false, .bool false, aP w0.heap.size, .bool false, .bool false, .bool false, .slice a z.length cap, .int .i64 (z.length : Int), .bool false, .bool false, undef, .slice a z.length cap, .int .i64 (z.length : Int), .int .i64 (z.length : Int), .bool false, u33, u34, u35, u36, u37, u38, aP w0.heap.size,
          .func (.func 31) #[] #[.pointer (some ⟨wr.heap.size + 1, 0, none⟩)], .int .i64 x.1, .int .i64 x.2, undef, undef, undef, undef, undef, undef, undef, undef, undef, undef, undef, undef, undef, undef, undef, undef, undef, undef, undef, undef, undef, undef, undef], defers := [] }) ?assign ?body ?done ?stop
      case assign =>
        intro l x W K hK
        gi_wp2
        exact hK
      case body =>
        rintro l pre ⟨xi, xv⟩ W ⟨⟨hn, hsz⟩, hB⟩ hlen
        have HN1 := Lib.hid hn
        have HBW := Lib.hid hB
        have HS3 := Lib.hid (box_on HSB2.out hB)
        obtain ⟨c1, c2⟩ := one_cell hn
        obtain ⟨q, hq⟩ : ∃ q, pre.length = q := ⟨_, rfl⟩
        have HQ : Hid ((pre ++ [(xi, xv)]).length = q + 1) := by show _ = _; rw [List.length_append, hq]; rfl
        rw [hq] at c1 hlen HN1
        have hqb : q < 100000 := by omega
        have HN2 := Lib.hid (heap_setCell_same W wr.heap.size 0 _ _ (.int .i64 ((q : Int) + 1)) HN1.out)
        have HS4 := Lib.hid (set_far (i := 0) (v := .int .i64 ((q : Int) + 1)) HS3.out (c := wr.heap.size) (by omega))
        obtain ⟨d1, _⟩ := one_cell HN2.out
        obtain ⟨d2, _⟩ := one_cell HS4.out
        clear hn hB hq
        by_cases hs : (q : Int) + 1 = stop
        · have HS := Lib.hid hs
          have t1 : ((q : Int) + 1 == stop) = true := beq_iff_eq.2 hs
          clear hs
          gi_wp2
          refine ⟨KeepsOthers.setCell _ _ _, ⟨⟨rfl, ?_⟩, ?_⟩, HBW.out.setCell (p := ⟨wr.heap.size, 0, none⟩) (Nat.le_refl _) _⟩
          · rw [HQ.out]; exact HS.out
          · rw [HQ.out]; exact HN2.out
        · have t1 : ((q : Int) + 1 == stop) = false := beq_eq_false_iff_ne.2 hs
          clear hs
          gi_wp2
          refine ⟨KeepsOthers.setCell _ _ _, kpE_set ⟨Go.RowKit.Below.refl _ _, rfl⟩ _ (Nat.le_refl _) (by omega) _, ⟨?_, ?_⟩, HBW.out.setCell (p := ⟨wr.heap.size, 0, none⟩) (Nat.le_refl _) _⟩
          · rw [HQ.out]; exact HN2.out
          · have := hsz; simp [World.setCell]; omega
      case done =>
        rintro D ys W hD rfl ⟨⟨hn, _⟩, hB⟩ hK
        have HKD := Lib.hid hK
        have HBW := Lib.hid hB
        have hDw : w.heap.size ≤ D := by have := HB2.out.size; omega
        rw [HTL.out] at hn
        have p1 := cell_regrown (one_cell hn).1
        have p2 := cell_regrown (one_cell (box_on HSB2.out hB)).1
        have HLL := Lib.hid hn
        clear hn hB hK
        generalize az.len = ln at *
        have t3 : decide (ln ≤ ln) = true := decide_eq_true (Int.le_refl _)
        have t4 : (ln == ln) = true := beq_self_eq_true _
        by_cases hs : ln = stop
        · have t1 : (ln == stop) = true := beq_iff_eq.2 hs
          clear hs
          go_wp2_with fail
          refine wp_region_quiet_below (by assumption) (by kernel_rfl) ?_
          repeat (go_big_quiet_step (first | (go_at_call 10; exact Calls.regrown_of (HAL.out _)) | (go_at_call 22; exact Calls.regrown_of (HLE.out _ (bt HBW.out (below_regrown _ _ _))))))
          refine wpQuiet_nil ?_
          intro _ hw'
          obtain ⟨⟨nq, osq⟩, hw''⟩ := hw'
          subst hw''
          have HYB := Lib.hid (below_regrown W nq osq)
          show Exit.then _ _ Exit.normal _ (grow (redrawn W nq) osq)
          generalize grow (redrawn W nq) osq = Y at *
          have hKY := box_on HKD.out HYB.out
          clear p1 p2
          go_wp2_with fail
          refine ⟨by simp, .inl ⟨_, _, rfl, run_takeDeferred hKY, ?_⟩⟩
          exact ⟨_, results_tmp rfl _ _ _, rfl, (bt HWW.out (bt HBW.out HYB.out)).trans (belowK_b (w := w) (Nat.le_refl _) _ D _ _ hDw hKY rfl rfl)⟩
        · have t1 : (ln == stop) = false := beq_eq_false_iff_ne.2 hs
          clear hs
          go_wp2_with fail
          refine wp_region_quiet_below (by assumption) (by kernel_rfl) ?_
          repeat (go_big_quiet_step (first | (go_at_call 10; exact Calls.regrown_of (HAL.out _)) | (go_at_call 22; exact Calls.regrown_of (HLE.out _ (bt HBW.out (below_regrown _ _ _))))))
          refine wpQuiet_nil ?_
          intro _ hw'
          obtain ⟨⟨nq, osq⟩, hw''⟩ := hw'
          subst hw''
          have HYB := Lib.hid (below_regrown W nq osq)
          show Exit.then _ _ Exit.normal _ (grow (redrawn W nq) osq)
          generalize grow (redrawn W nq) osq = Y at *
          have hKY := box_on HKD.out HYB.out
          clear p1 p2
          go_wp2_with fail
          refine ⟨by simp, .inl ⟨_, _, rfl, run_takeDeferred hKY, ?_⟩⟩
          exact ⟨_, results_tmp rfl _ _ _, rfl, (bt HWW.out (bt HBW.out HYB.out)).trans (belowK_b (w := w) (Nat.le_refl _) _ D _ _ hDw hKY rfl rfl)⟩
      case stop =>
        rintro D c pre W hD hSp ⟨⟨⟨rfl, hlen⟩, hn⟩, hB⟩ hK
        have HKD := Lib.hid hK
        have HBW := Lib.hid hB
        have hDw : w.heap.size ≤ D := by have := HB2.out.size; omega
        have hle : stop ≤ az.len := by
          have := hSp.length_le
          have := HTL.out
          omega
        rw [hlen] at hn
        have p1 := cell_regrown (one_cell hn).1
        have p2 := cell_regrown (one_cell (box_on HSB2.out hB)).1
        clear hn hB hK hlen
        have t1 : (stop == stop) = true := beq_self_eq_true _
        have t3 : decide (stop ≤ az.len) = true := decide_eq_true hle
        generalize az.len = ln at *
        refine wpIn_wide.2 ?_
        go_wp2_with fail
        refine wp_region_quiet_below (by assumption) (by kernel_rfl) ?_
        repeat (go_big_quiet_step (first | (go_at_call 10; exact Calls.regrown_of (HAL.out _)) | (go_at_call 22; exact Calls.regrown_of (HLE.out _ (bt HBW.out (below_regrown _ _ _))))))
        refine wpQuiet_nil ?_
        intro _ hw'
        obtain ⟨⟨nq, osq⟩, hw''⟩ := hw'
        subst hw''
        have HYB := Lib.hid (below_regrown W nq osq)
        show Exit.then _ _ Exit.normal _ (grow (redrawn W nq) osq)
        generalize grow (redrawn W nq) osq = Y at *
        have hKY := box_on HKD.out HYB.out
        clear p1 p2
        go_wp2_with fail
        refine ⟨by simp, .inl ⟨_, _, rfl, run_takeDeferred hKY, ?_⟩⟩
        exact ⟨_, results_tmp rfl _ _ _, rfl, (bt HWW.out (bt HBW.out HYB.out)).trans (belowK_b (w := w) (Nat.le_refl _) _ D _ _ hDw hKY rfl rfl)⟩
end Go.Proofs.Ytdebmokpdchgpaa
