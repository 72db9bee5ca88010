/- Contracts of cut.Text and cut.Read. -/
import Derived.Test.YtbpplhlkpfdegaaCutB
import Derived.Test.YtbpplhlkpfdegaaCutTM
import Derived.Test.YtbpplhlkpfdegaaSatRead2
namespace Go.Proofs.Ytbpplhlkpfdegaa
open Go.RowKit Go.Sort Go.Proofs.Ytbpplhlkpfdegaa.Bo
set_option linter.unusedVariables false

set_option maxRecDepth 100000 in
theorem ctext_any (s a : Int) (w : World) (ha : I64 a) :
    Calls Try.prog 18 #[.agg #[.int .i64 s, .int .i64 a]] w fun e w' => e = .returned (.string ⟨(ktext (key s a)).toArray⟩) ∧ Below w.heap.size w w' := by
  have mx := mixed
  have HC := Lib.hid (fun W => canon_any s a W ha)
  have hk := key_ky s a ha
  generalize key s a = k at *
  have hcases := ky_cases k hk
  have eqc := eql_cut
  rcases hcases with ⟨rfl, h1, h2⟩ | ⟨rfl, h1, h2⟩ | ⟨g1, g2, h1, h2⟩
  · rw [h1, h2] at HC
    clear h1 h2 hk
    go_enter Try.func18, Try.ntmps18
    go_wp2_with fail
    refine (HC.out _).mono ?_
    rintro e w1 ⟨rfl, hL⟩
    have hb : w1.heap[w.heap.size]? = some (.cells #[.int .i64 s, .int .i64 a] 27 (0, 0)) := by rw [hL.1.block _ (by simp)]; exact heap_alloc_new _ _
    have hL1 := ((((Lays.refl _).alloc _).trans hL).setCell (p := ⟨w.heap.size, 0, none⟩) (by simp) (.int .i64 (-1))).setCell (p := ⟨w.heap.size, 1, none⟩) (by simp) (.int .i64 0)
    have hb2 := two_put (p := .int .i64 (-1)) (q := .int .i64 0) hb
    obtain ⟨q1, q2, q3, q4⟩ := two_cells hb
    have HB := Lib.hid hb2
    clear hb hb2
    go_wp2_with fail
    have hb2 := HB.out
    generalize (w1.setCell ⟨w.heap.size, 0, none⟩ (.int .i64 (-1))).setCell ⟨w.heap.size, 1, none⟩ (.int .i64 0) = X at *
    obtain ⟨p1, p2⟩ := cut_grown hb2
    clear q1 q2 q3 q4 hb2 HC
    go_quiet_grown (first | (go_at_call 13; exact Calls.grown_of (first_g _)))
    have hL2 := hL1.trans (lays_grow X nq osq)
    go_wp2_with fail
    go_ret
    exact ⟨ret_str ktext_lo.symm, hL2.1⟩
  · rw [h1, h2] at HC
    clear h1 h2 hk
    go_enter Try.func18, Try.ntmps18
    go_wp2_with fail
    refine (HC.out _).mono ?_
    rintro e w1 ⟨rfl, hL⟩
    have hb : w1.heap[w.heap.size]? = some (.cells #[.int .i64 s, .int .i64 a] 27 (0, 0)) := by rw [hL.1.block _ (by simp)]; exact heap_alloc_new _ _
    have hL1 := ((((Lays.refl _).alloc _).trans hL).setCell (p := ⟨w.heap.size, 0, none⟩) (by simp) (.int .i64 1)).setCell (p := ⟨w.heap.size, 1, none⟩) (by simp) (.int .i64 0)
    have hb2 := two_put (p := .int .i64 1) (q := .int .i64 0) hb
    obtain ⟨q1, q2, q3, q4⟩ := two_cells hb
    have HB := Lib.hid hb2
    clear hb hb2
    go_wp2_with fail
    have hb2 := HB.out
    generalize (w1.setCell ⟨w.heap.size, 0, none⟩ (.int .i64 1)).setCell ⟨w.heap.size, 1, none⟩ (.int .i64 0) = X at *
    obtain ⟨p1, p2⟩ := cut_grown hb2
    clear q1 q2 q3 q4 hb2 HC
    go_quiet_grown (first | (go_at_call 13; exact Calls.grown_of (first_g _)))
    have hY : (grow (X.drewN nq) osq).heap[w.heap.size]? = some (.cells #[.int .i64 1, .int .i64 0] 27 (0, 0)) := by rw [(lays_grow X nq osq).1.block _ (lt_of_block HB.out)]; exact HB.out
    have hL2 := hL1.trans (lays_grow X nq osq)
    have HY := Lib.hid hY
    clear p1 p2 hY HB hL1
    go_wp2_with fail
    generalize grow (X.drewN nq) osq = Y at *
    obtain ⟨p1, p2⟩ := cut_grown HY.out
    go_quiet_grown (first | (go_at_call 17; exact Calls.grown_of (last_g _)))
    have hL3 := hL2.trans (lays_grow Y nq osq)
    go_wp2_with fail
    go_ret
    exact ⟨ret_str ktext_hi.symm, hL3.1⟩
  · rw [h1, h2] at HC
    clear h1 h2 hk
    go_enter Try.func18, Try.ntmps18
    go_wp2_with fail
    refine (HC.out _).mono ?_
    rintro e w1 ⟨rfl, hL⟩
    have hb : w1.heap[w.heap.size]? = some (.cells #[.int .i64 s, .int .i64 a] 27 (0, 0)) := by rw [hL.1.block _ (by simp)]; exact heap_alloc_new _ _
    have hL1 := ((((Lays.refl _).alloc _).trans hL).setCell (p := ⟨w.heap.size, 0, none⟩) (by simp) (.int .i64 0)).setCell (p := ⟨w.heap.size, 1, none⟩) (by simp) (.int .i64 k)
    have hb2 := two_put (p := .int .i64 0) (q := .int .i64 k) hb
    obtain ⟨q1, q2, q3, q4⟩ := two_cells hb
    have HB := Lib.hid hb2
    clear hb hb2
    go_wp2_with fail
    have hb2 := HB.out
    generalize (w1.setCell ⟨w.heap.size, 0, none⟩ (.int .i64 0)).setCell ⟨w.heap.size, 1, none⟩ (.int .i64 k) = X at *
    obtain ⟨p1, p2⟩ := cut_grown hb2
    clear q1 q2 q3 q4 hb2 HC
    go_quiet_grown (first | (go_at_call 13; exact Calls.grown_of (first_g _)))
    have hY : (grow (X.drewN nq) osq).heap[w.heap.size]? = some (.cells #[.int .i64 0, .int .i64 k] 27 (0, 0)) := by rw [(lays_grow X nq osq).1.block _ (lt_of_block HB.out)]; exact HB.out
    have hL2 := hL1.trans (lays_grow X nq osq)
    have HY := Lib.hid hY
    clear p1 p2 hY HB hL1
    go_wp2_with fail
    generalize grow (X.drewN nq) osq = Y at *
    obtain ⟨p1, p2⟩ := cut_grown HY.out
    go_quiet_grown (first | (go_at_call 17; exact Calls.grown_of (last_g _)))
    have hL3 := hL2.trans (lays_grow Y nq osq)
    have HI : Hid (I64 k) := ⟨by omega, by omega⟩
    have HK := Lib.hid (ktext_mid k (by omega) (by omega))
    go_wp2_with fail
    refine (text_any k _ HI.out).mono ?_
    rintro e w9 ⟨rfl, hB9⟩
    go_wp2_with fail
    go_ret
    exact ⟨ret_str HK.out.symm, bt hL3.1 hB9⟩

/-- strings.HasPrefix at a text of four bytes. -/
theorem hasp4 (s : ByteArray) (p : Array UInt8) (w : World) (hp : p.size = 4) (hs : s.size ≤ maxLen) :
    Calls Try.prog 25 #[.string s, .string ⟨p⟩] w fun e w' => e = .returned (.bool (decide (s.data.toList.take 4 = p.toList))) ∧ w = w' := by
  unfold maxLen at hs
  have hsz : (⟨p⟩ : ByteArray).size = 4 := hp
  by_cases hlt : 4 ≤ s.size
  · have t0 : decide ((4 : Int) ≤ (s.size : Int)) = true := decide_eq_true (by omega)
    have hD : ((s.extract 0 4).toList == (⟨p⟩ : ByteArray).toList) = decide (s.data.toList.take 4 = p.toList) := by
      rw [ByteArray.toList_eq, ByteArray.toList_eq]
      have : (s.extract 0 4).data.toList = s.data.toList.take 4 := by simp
      rw [this]
      by_cases h : s.data.toList.take 4 = p.toList
      · rw [decide_eq_true h, h]; exact beq_self_eq_true _
      · rw [decide_eq_false h]; exact beq_eq_false_iff_ne.2 h
    generalize decide (s.data.toList.take 4 = p.toList) = D at *
    go_enter Try.func25, Try.ntmps25
    go_wp2
    go_ret
    exact ⟨rfl, rfl⟩
  · have t0 : decide ((4 : Int) ≤ (s.size : Int)) = false := decide_eq_false (by omega)
    have hD : decide (s.data.toList.take 4 = p.toList) = false := by
      refine decide_eq_false fun h => ?_
      have := congrArg List.length h
      simp at this
      omega
    rw [hD]
    clear hD
    go_enter Try.func25, Try.ntmps25
    go_wp2
    go_ret
    exact ⟨rfl, rfl⟩

set_option maxRecDepth 100000 in
theorem cread_any (s : ByteArray) (w : World) (hs : s.size ≤ maxLen) :
    Calls Try.prog 11 #[.string s] w fun e w' => e = .returned (.tuple #[.agg #[.int .i64 (sd (rdCut s.data.toList).1), .int .i64 (pa (rdCut s.data.toList).1)], .int .i64 ((rdCut s.data.toList).2 : Int)]) ∧ Below w.heap.size w w' := by
  have HA := Lib.hid (fun W => hasp4 s #[45, 105, 110, 102] W rfl hs)
  have HP := Lib.hid (fun W => hasp4 s #[43, 105, 110, 102] W rfl hs)
  by_cases h1 : s.data.toList.take 4 = [45, 105, 110, 102]
  · have HE : Hid (rdCut s.data.toList = (-9223372036854775808, 4)) := by unfold rdCut; show _ = _; rw [if_pos h1]
    rw [HE.out, sd_lo, pa_lo]
    rw [show decide (s.data.toList.take 4 = (#[45, 105, 110, 102] : Array UInt8).toList) = true from decide_eq_true h1] at HA
    clear h1 HE HP hs
    go_enter Try.func11, Try.ntmps11
    go_wp2_with fail
    refine (HA.out _).mono ?_
    rintro e w' ⟨rfl, rfl⟩
    go_wp2_with fail
    refine (first_any _).mono ?_
    rintro e w1 ⟨rfl, hL⟩
    have hB := hL.1
    have hb : w1.heap[w.heap.size]? = some (.cells #[.int .i64 0, .int .i64 0] 27 (0, 0)) := by rw [hB.block _ (by simp)]; exact heap_alloc_new _ _
    have hL1 := ((bt ((Below.refl w.heap.size w).alloc (Nat.le_refl _) _) hB).setCell (p := ⟨w.heap.size, 0, none⟩) (by simp) (.int .i64 (-1))).setCell (p := ⟨w.heap.size, 1, none⟩) (by simp) (.int .i64 0)
    obtain ⟨p1, p2, _, _⟩ := two_cells (two_put (p := .int .i64 (-1)) (q := .int .i64 0) hb)
    obtain ⟨q1, q2, q3, q4⟩ := two_cells hb
    clear hb
    go_wp2_with fail
    refine bodyPost_ret (v := .tuple #[.agg #[.int .i64 (-1), .int .i64 0], .int .i64 4]) (by simp [results, Try.results11, go_sem, p1, p2]) rfl ?_
    exact ⟨rfl, hL1⟩
  · rw [show decide (s.data.toList.take 4 = (#[45, 105, 110, 102] : Array UInt8).toList) = false from decide_eq_false h1] at HA
    by_cases h2 : s.data.toList.take 4 = [43, 105, 110, 102]
    · have HE : Hid (rdCut s.data.toList = (9223372036854775808, 4)) := by unfold rdCut; show _ = _; rw [if_neg h1, if_pos h2]
      rw [HE.out, sd_hi, pa_hi]
      rw [show decide (s.data.toList.take 4 = (#[43, 105, 110, 102] : Array UInt8).toList) = true from decide_eq_true h2] at HP
      clear h1 h2 HE hs
      go_enter Try.func11, Try.ntmps11
      go_wp2_with fail
      refine (HA.out _).mono ?_
      rintro e w' ⟨rfl, rfl⟩
      go_wp2_with fail
      refine (HP.out _).mono ?_
      rintro e w' ⟨rfl, rfl⟩
      go_wp2_with fail
      refine (last_any _).mono ?_
      rintro e w1 ⟨rfl, hL⟩
      have hB := hL.1
      have hb : w1.heap[w.heap.size]? = some (.cells #[.int .i64 0, .int .i64 0] 27 (0, 0)) := by rw [hB.block _ (by simp)]; exact heap_alloc_new _ _
      have hL1 := ((bt ((Below.refl w.heap.size w).alloc (Nat.le_refl _) _) hB).setCell (p := ⟨w.heap.size, 0, none⟩) (by simp) (.int .i64 1)).setCell (p := ⟨w.heap.size, 1, none⟩) (by simp) (.int .i64 0)
      obtain ⟨p1, p2, _, _⟩ := two_cells (two_put (p := .int .i64 1) (q := .int .i64 0) hb)
      obtain ⟨q1, q2, q3, q4⟩ := two_cells hb
      clear hb
      go_wp2_with fail
      refine bodyPost_ret (v := .tuple #[.agg #[.int .i64 1, .int .i64 0], .int .i64 4]) (by simp [results, Try.results11, go_sem, p1, p2]) rfl ?_
      exact ⟨rfl, hL1⟩
    · rw [show decide (s.data.toList.take 4 = (#[43, 105, 110, 102] : Array UInt8).toList) = false from decide_eq_false h2] at HP
      have HR := Lib.hid (fun W => read_any s W hs)
      have hbd := rdAll_bounds s.data.toList
      by_cases h3 : (rdAll s.data.toList).1 = -9223372036854775808
      · have HE : Hid (rdCut s.data.toList = (-922337203685477580, 19)) := by unfold rdCut; show _ = _; rw [if_neg h1, if_neg h2, if_pos h3]
        obtain ⟨h4, h5, h6⟩ := rdAll_least _ h3
        have hsz : 20 ≤ s.size := by simpa using h5
        have HR2 := Lib.hid (fun W => read_any (s.extract 0 19) W (by simp; omega))
        have hx : (s.extract 0 19).data.toList = s.data.toList.take 19 := by simp
        rw [hx, h6] at HR2
        rw [HE.out]
        rw [h3, h4] at HR
        have hmx := hs
        unfold maxLen at hmx
        clear h1 h2 HE hs h3 h4 h5 h6 hx hbd
        rw [sd_mid _ (by decide) (by decide), pa_mid _ (by decide) (by decide)]
        go_enter Try.func11, Try.ntmps11
        go_wp2_with fail
        refine (HA.out _).mono ?_
        rintro e w' ⟨rfl, rfl⟩
        go_wp2_with fail
        refine (HP.out _).mono ?_
        rintro e w' ⟨rfl, rfl⟩
        go_wp2_with fail
        refine (HR.out _).mono ?_
        rintro e w1 ⟨rfl, hB1⟩
        go_wp2_with fail
        refine (HR2.out _).mono ?_
        rintro e w2 ⟨rfl, hB2⟩
        have hB := bt hB1 hB2
        have hb : w2.heap[w.heap.size]? = some (.cells #[.int .i64 0, .int .i64 0] 27 (0, 0)) := by rw [hB.block _ (by simp)]; exact heap_alloc_new _ _
        have hL1 := ((bt ((Below.refl w.heap.size w).alloc (Nat.le_refl _) _) hB).setCell (p := ⟨w.heap.size, 0, none⟩) (by simp) (.int .i64 0)).setCell (p := ⟨w.heap.size, 1, none⟩) (by simp) (.int .i64 (-922337203685477580))
        obtain ⟨p1, p2, _, _⟩ := two_cells (two_put (p := .int .i64 0) (q := .int .i64 (-922337203685477580)) hb)
        obtain ⟨q1, q2, q3, q4⟩ := two_cells hb
        clear hb
        go_wp2_with fail
        refine bodyPost_ret (v := .tuple #[.agg #[.int .i64 0, .int .i64 (-922337203685477580)], .int .i64 19]) (by simp [results, Try.results11, go_sem, p1, p2]) rfl ?_
        exact ⟨rfl, hL1⟩
      · have HE : Hid (rdCut s.data.toList = rdAll s.data.toList) := by unfold rdCut; show _ = _; rw [if_neg h1, if_neg h2, if_neg h3]
        rw [HE.out]
        obtain ⟨hi, _⟩ := hbd
        have h7 : (rdAll s.data.toList).1 ≠ 9223372036854775808 := by unfold I64 at hi; omega
        rw [sd_mid _ h3 h7, pa_mid _ h3 h7]
        have t3 : ((rdAll s.data.toList).1 == -9223372036854775808) = false := beq_eq_false_iff_ne.2 h3
        generalize (rdAll s.data.toList).1 = N at *
        generalize (rdAll s.data.toList).2 = M at *
        clear h1 h2 HE hs h3 h7 hi
        go_enter Try.func11, Try.ntmps11
        go_wp2_with fail
        refine (HA.out _).mono ?_
        rintro e w' ⟨rfl, rfl⟩
        go_wp2_with fail
        refine (HP.out _).mono ?_
        rintro e w' ⟨rfl, rfl⟩
        go_wp2_with fail
        refine (HR.out _).mono ?_
        rintro e w1 ⟨rfl, hB⟩
        have hb : w1.heap[w.heap.size]? = some (.cells #[.int .i64 0, .int .i64 0] 27 (0, 0)) := by rw [hB.block _ (by simp)]; exact heap_alloc_new _ _
        have hL1 := ((bt ((Below.refl w.heap.size w).alloc (Nat.le_refl _) _) hB).setCell (p := ⟨w.heap.size, 0, none⟩) (by simp) (.int .i64 0)).setCell (p := ⟨w.heap.size, 1, none⟩) (by simp) (.int .i64 N)
        obtain ⟨p1, p2, _, _⟩ := two_cells (two_put (p := .int .i64 0) (q := .int .i64 N) hb)
        obtain ⟨q1, q2, q3, q4⟩ := two_cells hb
        clear hb
        go_wp2_with fail
        refine bodyPost_ret (v := .tuple #[.agg #[.int .i64 0, .int .i64 N], .int .i64 (M : Int)]) (by simp [results, Try.results11, go_sem, p1, p2]) rfl ?_
        exact ⟨rfl, hL1⟩
end Go.Proofs.Ytbpplhlkpfdegaa
