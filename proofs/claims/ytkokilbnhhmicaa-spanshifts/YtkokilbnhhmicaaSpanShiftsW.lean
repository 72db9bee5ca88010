/- The walk of the law SpanShifts. -/
import Derived.Test.YtkokilbnhhmicaaBH
namespace Go.Proofs.Ytkokilbnhhmicaa
open Go.RowKit Go.Sort Go.Proofs.Ytkokilbnhhmicaa.Bo
set_option linter.unusedVariables false

set_option maxRecDepth 100000 in
set_option maxHeartbeats 2000000 in
theorem spanShifts_core (q Z : S4) (d : Int) (B : Bool) (w : World)
    (HS : Hid (∀ W, Calls Try.prog 37 #[.agg #[.int .i64 q.ls, .int .i64 q.la, .int .i64 q.hs, .int .i64 q.ha], .int .i64 d] W fun e w' => e = .returned (.tuple #[.agg #[.int .i64 Z.ls, .int .i64 Z.la, .int .i64 Z.hs, .int .i64 Z.ha], .bool B]) ∧ Go.RowKit.Below W.heap.size W w'))
    (HR : Hid (∀ W, Calls Try.prog 38 #[.agg #[.int .i64 q.ls, .int .i64 q.la, .int .i64 q.hs, .int .i64 q.ha], .int .i64 d] W fun e w' => e = .returned (.tuple #[.agg #[.int .i64 Z.ls, .int .i64 Z.la, .int .i64 Z.hs, .int .i64 Z.ha], .bool B]) ∧ Go.RowKit.Below W.heap.size W w'))
    (HF : Hid (B = true → q.ls = 0 → q.hs = 0 → ∃ (m : Int) (b1 b2 : Bool), (∀ W, Calls Try.prog 26 #[.agg #[.int .i64 q.ls, .int .i64 q.la, .int .i64 q.hs, .int .i64 q.ha]] W fun e w' => e = .returned (.tuple #[.int .u64 m, .bool b1]) ∧ Go.RowKit.Below W.heap.size W w') ∧ (∀ W, Calls Try.prog 26 #[.agg #[.int .i64 Z.ls, .int .i64 Z.la, .int .i64 Z.hs, .int .i64 Z.ha]] W fun e w' => e = .returned (.tuple #[.int .u64 m, .bool b2]) ∧ Go.RowKit.Below W.heap.size W w') ∧ (∀ W, Calls Try.prog 28 #[.agg #[.int .i64 Z.ls, .int .i64 Z.la, .int .i64 Z.hs, .int .i64 Z.ha]] W fun e w' => e = .returned (.bool true) ∧ Go.RowKit.Below W.heap.size W w'))) :
    Calls Try.prog 5 #[vS q, .int .i64 d] w fun e w' => e = .returned (.bool true) ∧ Go.RowKit.Below w.heap.size w w' := by
  have mx := mixed
  have HAL := Lib.hid salive_any
  have nes := neq_self Z
  have tb : (B != B) = false := by simp
  have HB : Hid (Box4 (w.alloc (.cells #[.int .i64 q.ls, .int .i64 q.la, .int .i64 q.hs, .int .i64 q.ha] 25)) w.heap.size q) := heap_alloc_new _ _
  have hL := below_new w (.cells #[.int .i64 q.ls, .int .i64 q.la, .int .i64 q.hs, .int .i64 q.ha] 25)
  go_enter Try.func5, Try.ntmps5
  go_wp2_with fail
  refine (HS.out _).mono ?_
  rintro e y1 ⟨rfl, hB1⟩
  have hA1 := bt hB1 (below_new y1 (.cells #[.int .i64 Z.ls, .int .i64 Z.la, .int .i64 Z.hs, .int .i64 Z.ha] 25))
  have hL1 := bt hL hA1
  have HB1 := Lib.hid (HB.out.on hA1)
  have HZ1 : Hid (Box4 (y1.alloc (.cells #[.int .i64 Z.ls, .int .i64 Z.la, .int .i64 Z.hs, .int .i64 Z.ha] 25)) y1.heap.size Z) := heap_alloc_new _ _
  obtain ⟨c1, c2, c3, c4⟩ := HB1.out.cells
  clear hB1 hA1 hL HB
  go_wp2_with fail
  generalize y1.alloc (.cells #[.int .i64 Z.ls, .int .i64 Z.la, .int .i64 Z.hs, .int .i64 Z.ha] 25) = X1 at *
  generalize y1.heap.size = N1 at *
  refine (HR.out _).mono ?_
  rintro e y2 ⟨rfl, hB2⟩
  have hA2 := bt hB2 (below_new y2 (.cells #[.int .i64 Z.ls, .int .i64 Z.la, .int .i64 Z.hs, .int .i64 Z.ha] 25))
  have hL2 := bt hL1 hA2
  have HB2 := Lib.hid (HB1.out.on hA2)
  have HZ2 := Lib.hid (HZ1.out.on hA2)
  have HZ3 : Hid (Box4 (y2.alloc (.cells #[.int .i64 Z.ls, .int .i64 Z.la, .int .i64 Z.hs, .int .i64 Z.ha] 25)) y2.heap.size Z) := heap_alloc_new _ _
  have HY1 := Lib.hid (HB1.out.on hB2)
  have HY2 := Lib.hid (HZ1.out.on hB2)
  clear c1 c2 c3 c4 hB2 hA2 hL1 HB1 HZ1
  obtain ⟨c1, c2, c3, c4⟩ := HY1.out.cells
  obtain ⟨c5, c6, c7, c8⟩ := HY2.out.cells
  obtain ⟨d1, d2, d3, d4⟩ := HB2.out.cells
  obtain ⟨d5, d6, d7, d8⟩ := HZ2.out.cells
  have hFA : ∀ (y : World), Go.RowKit.Below (y2.alloc (.cells #[.int .i64 Z.ls, .int .i64 Z.la, .int .i64 Z.hs, .int .i64 Z.ha] 25)).heap.size (y2.alloc (.cells #[.int .i64 Z.ls, .int .i64 Z.la, .int .i64 Z.hs, .int .i64 Z.ha] 25)) y → Go.RowKit.Below w.heap.size w y := fun y h => bt hL2 h
  have HFA := Lib.hid hFA
  clear hFA
  cases B with
  | false =>
    go_wp2_with fail
    refine (HAL.out _).mono ?_
    rintro e y3 ⟨rfl, hB3⟩
    go_wp2_with fail
    go_ret
    exact ⟨rfl, HFA.out _ hB3⟩
  | true =>
    by_cases h1 : q.ls = 0
    · have t1 : (q.ls != 0) = false := by simp [h1]
      by_cases h2 : q.hs = 0
      · have t2 : (q.hs != 0) = false := by simp [h2]
        obtain ⟨m, b1, b2, hc1, hc2, hr⟩ := HF.out rfl h1 h2
        have HC1 := Lib.hid hc1
        have HC2 := Lib.hid hc2
        have HRT := Lib.hid hr
        clear hc1 hc2 hr h1 h2 HF
        go_wp2_with fail
        refine (HC1.out _).mono ?_
        rintro e y3 ⟨rfl, hB3⟩
        have HL3 := Lib.hid (HFA.out _ hB3)
        have HZ4 := Lib.hid (HZ2.out.on hB3)
        clear c1 c2 c3 c4 c5 c6 c7 c8 d1 d2 d3 d4 d5 d6 d7 d8 hB3 HZ2 HB2 HZ3 HY1 HY2
        obtain ⟨d5, d6, d7, d8⟩ := HZ4.out.cells
        go_wp2_with fail
        refine (HC2.out _).mono ?_
        rintro e y4 ⟨rfl, hB4⟩
        have HL4 := Lib.hid (bt HL3.out hB4)
        have HZ5 := Lib.hid (HZ4.out.on hB4)
        clear d5 d6 d7 d8 hB4 HZ4 HL3
        go_wp2_with fail
        refine (HAL.out _).mono ?_
        rintro e y5 ⟨rfl, hB5⟩
        have HL5 := Lib.hid (bt HL4.out hB5)
        have HZ6 := Lib.hid (HZ5.out.on hB5)
        clear hB5 HZ5 HL4
        obtain ⟨d5, d6, d7, d8⟩ := HZ6.out.cells
        have tm : (m == m) = true := beq_self_eq_true _
        go_wp2_with fail
        refine (HRT.out _).mono ?_
        rintro e y6 ⟨rfl, hB6⟩
        go_wp2_with fail
        go_ret
        exact ⟨rfl, bt HL5.out hB6⟩
      · have t2 : (q.hs != 0) = true := bne_iff_ne.2 h2
        clear h1 h2
        go_wp2_with fail
        refine (HAL.out _).mono ?_
        rintro e y3 ⟨rfl, hB3⟩
        go_wp2_with fail
        go_ret
        exact ⟨rfl, HFA.out _ hB3⟩
    · have t1 : (q.ls != 0) = true := bne_iff_ne.2 h1
      clear h1
      go_wp2_with fail
      refine (HAL.out _).mono ?_
      rintro e y3 ⟨rfl, hB3⟩
      go_wp2_with fail
      go_ret
      exact ⟨rfl, HFA.out _ hB3⟩
theorem shb_mid (k d : Int) (h1 : -9223372036854775808 < k) (h2 : k < 9223372036854775808) (h : shb k d = true) : shk k d = k + d ∧ -9223372036854775808 < k + d ∧ k + d < 9223372036854775808 := by
  unfold shb at h
  rw [if_neg (by omega)] at h
  have h3 := of_decide_eq_true h
  exact ⟨(sh_in k d h1 h2 h3).1, h3⟩
theorem sd_zero (k : Int) (hk : Ky k) (h : sd k = 0) : -9223372036854775808 < k ∧ k < 9223372036854775808 := by
  rcases ky_cases k hk with ⟨_, h1, _⟩ | ⟨_, h1, _⟩ | ⟨h1, h2, _, _⟩
  · rw [h1] at h; exact absurd h (by decide)
  · rw [h1] at h; exact absurd h (by decide)
  · exact ⟨h1, h2⟩
theorem cnt_mid (k l : Int) (h1 : -9223372036854775808 < k) (h2 : k < l) (h3 : l < 9223372036854775808) : cntB (sp (k, l)) = true ∧ cntV (sp (k, l)) = l - k := by
  have hk : Ky k := by unfold Ky; omega
  have hl : Ky l := by unfold Ky; omega
  have e : cntB (sp (k, l)) = true := by
    unfold cntB
    rw [sp_right (k, l) hk hl, decide_eq_true (show (k, l).1 < (k, l).2 from h2)]
    show (true && !(decide (sd k < 0) && decide (0 < sd l))) = true
    rw [sd_mid k (by omega) (by omega)]; rfl
  refine ⟨e, ?_⟩
  unfold cntV
  rw [if_pos e, sp_lo (k, l) hk, sp_hi (k, l) hl]
theorem spanShifts_walk (q : S4) (d : Int) (hq : q.ok) (wd : (Lit.int .i64 d).wf = true) (w : World) : Calls Try.prog 5 #[vS q, .int .i64 d] w fun e w' => e = .returned (.bool true) ∧ Go.RowKit.Below w.heap.size w w' := by
  have hd := i64_of_wf2 wd
  refine spanShifts_core q (shS q d) d _ w (fun W => sshift_any q d W hq hd) (fun W => rsshift_any q d W hq hd) ?_
  intro hB h1 h2
  have hB' := hB
  simp only [Bool.and_eq_true] at hB'
  obtain ⟨⟨hr, s1⟩, s2⟩ := hB'
  obtain ⟨e, hlt⟩ := sp_of_right q hr
  have z1 := sd_zero q.lo (q.ky_lo hq) (by rw [← h1]; exact (congrArg S4.ls e).symm)
  have z2 := sd_zero q.hi (q.ky_hi hq) (by rw [← h2]; exact (congrArg S4.hs e).symm)
  obtain ⟨k1, k2, k3⟩ := shb_mid q.lo d z1.1 z1.2 s1
  obtain ⟨k4, k5, k6⟩ := shb_mid q.hi d z2.1 z2.2 s2
  have eZ : shS q d = sp (q.lo + d, q.hi + d) := by
    unfold shS
    rw [if_pos hB, k1, k4]; rfl
  have hk1 : Ky (q.lo + d) := by unfold Ky; omega
  have hk2 : Ky (q.hi + d) := by unfold Ky; omega
  have c1 := cnt_mid q.lo q.hi z1.1 hlt z2.2
  have c2 := cnt_mid (q.lo + d) (q.hi + d) k2 (by omega) k6
  refine ⟨q.hi - q.lo, true, true, fun W => ?_, fun W => ?_, fun W => ?_⟩
  · have h := scount_any q W hq
    rw [← e] at c1
    rw [c1.1, c1.2] at h
    exact h
  · have h := scount_any (shS q d) W (by rw [eZ]; exact sp_ok _ hk1 hk2)
    rw [eZ] at h ⊢
    rw [c2.1, c2.2, show q.hi + d - (q.lo + d) = q.hi - q.lo by omega] at h
    exact h
  · have h := sright_any (shS q d) W (by rw [eZ]; exact sp_ok _ hk1 hk2)
    rw [eZ] at h ⊢
    rw [sp_right _ hk1 hk2, decide_eq_true (show (q.lo + d, q.hi + d).1 < (q.lo + d, q.hi + d).2 by show q.lo + d < q.hi + d; omega)] at h
    exact h
end Go.Proofs.Ytkokilbnhhmicaa
