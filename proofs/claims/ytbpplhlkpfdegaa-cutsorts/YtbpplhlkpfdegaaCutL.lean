/- Contracts of cut.Least and cut.Greatest. -/
import Derived.Test.YtbpplhlkpfdegaaCutShiftsW
namespace Go.Proofs.Ytbpplhlkpfdegaa
open Go.RowKit Go.Sort Go.Proofs.Ytbpplhlkpfdegaa.Bo
set_option linter.unusedVariables false

/-- A slice of cuts that holds cs. -/
def CRow (w : World) (a : Option Addr) (cs : List (Int × Int)) : Prop :=
  0 < cs.length → ∃ b off, a = some ⟨b, off, none⟩ ∧ ∀ (j : Nat) (h : j < cs.length), w.cell? ⟨b, off + j * 2, none⟩ = some (.int .i64 cs[j].1) ∧ w.cell? ⟨b, off + j * 2 + 1, none⟩ = some (.int .i64 cs[j].2)
theorem CRow.below {w w' : World} {a : Option Addr} {cs : List (Int × Int)} (h : CRow w a cs) (hb : Below w.heap.size w w') : CRow w' a cs := by
  intro hp
  obtain ⟨b, off, e, hc⟩ := h hp
  refine ⟨b, off, e, fun j hj => ?_⟩
  obtain ⟨h1, h2⟩ := hc j hj
  exact ⟨(hb.cell (p := ⟨b, off + j * 2, none⟩) (World.block_lt_of_cell? w _ h1)).trans h1, (hb.cell (p := ⟨b, off + j * 2 + 1, none⟩) (World.block_lt_of_cell? w _ h2)).trans h2⟩

def kOf (c : Int × Int) : Int := key c.1 c.2
def leastK (cs : List (Int × Int)) : Int := (cs.map kOf).foldl klow 9223372036854775808
def greatK (cs : List (Int × Int)) : Int := (cs.map kOf).foldl khigh (-9223372036854775808)

theorem foldK_ky (f : Int → Int → Int) (hf : ∀ k l, f k l = k ∨ f k l = l) : ∀ (cs : List (Int × Int)) (m : Int), Ky m → (∀ c ∈ cs, I64 c.2) → Ky ((cs.map kOf).foldl f m)
  | [], m, h, _ => h
  | c :: l, m, h, hz => by
    refine foldK_ky f hf l _ ?_ (fun d hd => hz d (List.mem_cons_of_mem _ hd))
    rcases hf m (kOf c) with e | e
    · rw [e]; exact h
    · rw [e]; exact key_ky _ _ (hz c (List.mem_cons_self ..))
theorem klow_or (k l : Int) : klow k l = k ∨ klow k l = l := by unfold klow; split <;> simp
theorem khigh_or (k l : Int) : khigh k l = k ∨ khigh k l = l := by unfold khigh; split <;> simp
theorem leastK_ky (cs : List (Int × Int)) (hz : ∀ c ∈ cs, I64 c.2) : Ky (leastK cs) := foldK_ky klow klow_or cs _ ⟨by decide, by decide⟩ hz
theorem greatK_ky (cs : List (Int × Int)) (hz : ∀ c ∈ cs, I64 c.2) : Ky (greatK cs) := foldK_ky khigh khigh_or cs _ ⟨by decide, by decide⟩ hz
theorem leastK_snoc (cs : List (Int × Int)) (c : Int × Int) : leastK (cs ++ [c]) = klow (leastK cs) (kOf c) := by unfold leastK; rw [List.map_append, List.foldl_append]; rfl
theorem greatK_snoc (cs : List (Int × Int)) (c : Int × Int) : greatK (cs ++ [c]) = khigh (greatK cs) (kOf c) := by unfold greatK; rw [List.map_append, List.foldl_append]; rfl

set_option maxRecDepth 100000 in
set_option maxHeartbeats 2000000 in
theorem least_any (a : Option Addr) (cap : Nat) (cs : List (Int × Int)) (w : World) (hz : ∀ c ∈ cs, I64 c.2) (hr : CRow w a cs) (hl : cs.length ≤ 100000) :
    Calls Try.prog 9 #[.slice a cs.length cap] w fun e w' => e = .returned (.agg #[.int .i64 (sd (leastK cs)), .int .i64 (pa (leastK cs))]) ∧ Below w.heap.size w w' := by
  have HR := Lib.hid hr
  have HZ := Lib.hid hz
  clear hr hz
  go_enter Try.func9, Try.ntmps9
  go_wp2_with fail
  refine (last_b _).mono ?_
  rintro e x1 ⟨rfl, hB1⟩
  have hL1 := bt (bt (below_new w (.cells #[.int .i64 0, .int .i64 0] 27)) hB1) (below_new x1 (.cells #[.int .i64 1, .int .i64 0] 27))
  have R1 := Lib.hid (box_on (box_new _ hB1) (below_new x1 (.cells #[.int .i64 1, .int .i64 0] 27)))
  have A1 := Lib.hid (heap_alloc_new x1 (.cells #[.int .i64 1, .int .i64 0] 27))
  have hx1 : w.heap.size < x1.heap.size := lt_of_block (box_new _ hB1)
  clear hB1
  go_wp2_with fail
  go_loopw [9] (fun i wr => ∃ j : Nat, i = .int .i64 (j : Int) ∧ j ≤ cs.length ∧ wr.heap[w.heap.size]? = some (.cells #[.int .i64 0, .int .i64 0] 27 (0, 0)) ∧
      wr.heap[x1.heap.size]? = some (.cells #[.int .i64 (sd (leastK (cs.take j))), .int .i64 (pa (leastK (cs.take j)))] 27 (0, 0)) ∧ Below w.heap.size w wr) (fun i _ => cs.length - (intOf i).toNat)
  case atStart => exact ⟨0, rfl, Nat.zero_le _, R1.out, A1.out, hL1⟩
  case round =>
    obtain ⟨j, rfl, hj, hR, hA, hBr⟩ := hrel
    have hkm := leastK_ky (cs.take j) (fun c hc => HZ.out c (List.mem_of_mem_take hc))
    by_cases hlt : j < cs.length
    · obtain ⟨b, off, rfl, hcell⟩ := (HR.out.below hBr) (by omega)
      obtain ⟨hc1, hc2⟩ := hcell j hlt
      have hi : I64 cs[j].2 := HZ.out _ (List.getElem_mem hlt)
      have HE : Hid (leastK (cs.take (j + 1)) = klow (leastK (cs.take j)) (kOf cs[j])) := by
        show _ = _
        rw [List.take_succ_eq_append_getElem hlt, leastK_snoc]
      clear hcell
      obtain ⟨M, hM⟩ : ∃ M, M = leastK (cs.take j) := ⟨_, rfl⟩
      rw [← hM] at hkm hA HE
      have HM := Lib.hid hM
      clear hM
      obtain ⟨v, hv⟩ : ∃ v, kcmp (key cs[j].1 cs[j].2) (key (sd M) (pa M)) = v := ⟨_, rfl⟩
      have HCMP := Lib.hid (fun W => compare_b cs[j].1 cs[j].2 (sd M) (pa M) v hv hi (pa_i64 M hkm) W)
      have HCAN := Lib.hid (fun W => canon_b cs[j].1 cs[j].2 hi W)
      rw [key_back M hkm] at hv
      have HV : Hid (kcmp (kOf cs[j]) M = v) := hv
      have HS : Hid (∃ sk pk, sk = sd (kOf cs[j]) ∧ pk = pa (kOf cs[j])) := ⟨_, _, rfl, rfl⟩
      obtain ⟨sk, pk, hsk, hpk⟩ := HS.out
      rw [show key cs[j].1 cs[j].2 = kOf cs[j] from rfl, ← hsk, ← hpk] at HCAN
      have HSK := Lib.hid (And.intro hsk hpk)
      obtain ⟨sm, pm, hsm, hpm⟩ : ∃ sm pm, sm = sd M ∧ pm = pa M := ⟨_, _, rfl, rfl⟩
      rw [← hsm, ← hpm] at hA HCMP
      have HSM := Lib.hid (And.intro hsm hpm)
      have hxr : w.heap.size < wr.heap.size := lt_of_block hR
      have hxa : x1.heap.size < wr.heap.size := lt_of_block hA
      have HRB := Lib.hid hR
      have HAB := Lib.hid hA
      obtain ⟨m1, m2, _, _⟩ := two_cells hA
      clear hv hkm hi hsk hpk hsm hpm HS hR hA
      generalize hcj : cs[j] = cj at *
      obtain ⟨cs1, cs2⟩ := cj
      have HCJ := Lib.hid hcj
      clear hcj
      simp only at hc1 hc2 HCMP HCAN
      go_wp2_with fail
      refine (HCMP.out _).mono ?_
      rintro e y1 ⟨rfl, hB1⟩
      have hB2 := bt (below_new wr (.cells #[.int .i64 cs1, .int .i64 cs2] 27)) hB1
      have hb1 := box_new _ hB1
      have hR2 := box_on HRB.out hB2
      have hA2 := box_on HAB.out hB2
      obtain ⟨n1, n2, _, _⟩ := two_cells hb1
      by_cases hq : kOf (cs1, cs2) < M
      · have hv1 : v = -1 := by rw [← HV.out]; exact kcmp_lt _ _ hq
        subst hv1
        have HQ : Hid (klow M (kOf (cs1, cs2)) = kOf (cs1, cs2)) := by unfold klow; show _ = _; rw [if_pos hq]
        clear hq hb1 hB1
        go_wp2_with fail
        refine (HCAN.out _).mono ?_
        rintro e y2 ⟨rfl, hB3⟩
        have hR3 := box_on hR2 hB3
        have hA3 := box_on hA2 hB3
        obtain ⟨o1, o2, o3, o4⟩ := two_cells hA3
        have hA4 := two_put (p := .int .i64 sk) (q := .int .i64 pk) hA3
        have hL4 := ((bt (bt hBr hB2) hB3).setCell (p := ⟨x1.heap.size, 0, none⟩) (by show _ ≤ x1.heap.size; omega) (.int .i64 sk)).setCell (p := ⟨x1.heap.size, 1, none⟩) (by show _ ≤ x1.heap.size; omega) (.int .i64 pk)
        have hR4 : ((y2.setCell ⟨x1.heap.size, 0, none⟩ (.int .i64 sk)).setCell ⟨x1.heap.size, 1, none⟩ (.int .i64 pk)).heap[w.heap.size]? = some (.cells #[.int .i64 0, .int .i64 0] 27 (0, 0)) := by
          rw [heap_setCell_other _ _ _ _ (by show _ ≠ x1.heap.size; omega), heap_setCell_other _ _ _ _ (by show _ ≠ x1.heap.size; omega)]; exact hR3
        have HF := Lib.hid (And.intro hR4 (And.intro hA4 hL4))
        clear hR2 hA2 hR3 hA3 hB2 hB3 hR4 hA4 hL4 n1 n2 m1 m2
        go_wp2_with fail
        go_roundw
        case rel =>
          refine ⟨j + 1, by go_num, by omega, HF.out.1, ?_, HF.out.2.2⟩
          rw [HE.out, HQ.out, ← HSK.out.1, ← HSK.out.2]
          exact HF.out.2.1
        case measure => simp [intOf]; omega
      · have hv1 : decide (v < 0) = false := decide_eq_false (by rw [← HV.out]; unfold kcmp; split <;> (try split) <;> omega)
        have HQ : Hid (klow M (kOf (cs1, cs2)) = M) := by unfold klow; show _ = _; rw [if_neg hq]
        have HF := Lib.hid (And.intro hR2 (And.intro hA2 (bt hBr hB2)))
        clear hq hb1 hB1 hR2 hA2 hB2 m1 m2 HV
        go_wp2_with fail
        go_roundw
        case rel =>
          refine ⟨j + 1, by go_num, by omega, HF.out.1, ?_, HF.out.2.2⟩
          have h9 := HF.out.2.1
          rw [HSM.out.1, HSM.out.2] at h9
          rw [HE.out, HQ.out]
          exact h9
        case measure => simp [intOf]; omega
    · obtain rfl : j = cs.length := by omega
      rw [List.take_length] at hA hkm
      obtain ⟨sm, pm, hsm, hpm⟩ : ∃ sm pm, sm = sd (leastK cs) ∧ pm = pa (leastK cs) := ⟨_, _, rfl, rfl⟩
      rw [← hsm, ← hpm] at hA
      have HSM := Lib.hid (And.intro hsm hpm)
      obtain ⟨m1, m2, _, _⟩ := two_cells hA
      obtain ⟨r1, r2, r3, r4⟩ := two_cells hR
      obtain ⟨q1, q2, _, _⟩ := two_cells (two_put (p := .int .i64 sm) (q := .int .i64 pm) hR)
      have hL9 := (hBr.setCell (p := ⟨w.heap.size, 0, none⟩) (by simp) (.int .i64 sm)).setCell (p := ⟨w.heap.size, 1, none⟩) (by simp) (.int .i64 pm)
      clear hkm hsm hpm hA hR
      go_wp2_with fail
      refine bodyPost_ret (v := .agg #[.int .i64 sm, .int .i64 pm]) (by simp [results, Try.results9, go_sem, q1, q2]) rfl ?_
      exact ⟨ret_cut HSM.out.1 HSM.out.2, hL9⟩

set_option maxRecDepth 100000 in
set_option maxHeartbeats 2000000 in
theorem greatest_any (a : Option Addr) (cap : Nat) (cs : List (Int × Int)) (w : World) (hz : ∀ c ∈ cs, I64 c.2) (hr : CRow w a cs) (hl : cs.length ≤ 100000) :
    Calls Try.prog 10 #[.slice a cs.length cap] w fun e w' => e = .returned (.agg #[.int .i64 (sd (greatK cs)), .int .i64 (pa (greatK cs))]) ∧ Below w.heap.size w w' := by
  have HR := Lib.hid hr
  have HZ := Lib.hid hz
  clear hr hz
  go_enter Try.func10, Try.ntmps10
  go_wp2_with fail
  refine (first_b _).mono ?_
  rintro e x1 ⟨rfl, hB1⟩
  have hL1 := bt (bt (below_new w (.cells #[.int .i64 0, .int .i64 0] 27)) hB1) (below_new x1 (.cells #[.int .i64 (-1), .int .i64 0] 27))
  have R1 := Lib.hid (box_on (box_new _ hB1) (below_new x1 (.cells #[.int .i64 (-1), .int .i64 0] 27)))
  have A1 := Lib.hid (heap_alloc_new x1 (.cells #[.int .i64 (-1), .int .i64 0] 27))
  have hx1 : w.heap.size < x1.heap.size := lt_of_block (box_new _ hB1)
  clear hB1
  go_wp2_with fail
  go_loopw [9] (fun i wr => ∃ j : Nat, i = .int .i64 (j : Int) ∧ j ≤ cs.length ∧ wr.heap[w.heap.size]? = some (.cells #[.int .i64 0, .int .i64 0] 27 (0, 0)) ∧
      wr.heap[x1.heap.size]? = some (.cells #[.int .i64 (sd (greatK (cs.take j))), .int .i64 (pa (greatK (cs.take j)))] 27 (0, 0)) ∧ Below w.heap.size w wr) (fun i _ => cs.length - (intOf i).toNat)
  case atStart => exact ⟨0, rfl, Nat.zero_le _, R1.out, A1.out, hL1⟩
  case round =>
    obtain ⟨j, rfl, hj, hR, hA, hBr⟩ := hrel
    have hkm := greatK_ky (cs.take j) (fun c hc => HZ.out c (List.mem_of_mem_take hc))
    by_cases hlt : j < cs.length
    · obtain ⟨b, off, rfl, hcell⟩ := (HR.out.below hBr) (by omega)
      obtain ⟨hc1, hc2⟩ := hcell j hlt
      have hi : I64 cs[j].2 := HZ.out _ (List.getElem_mem hlt)
      have HE : Hid (greatK (cs.take (j + 1)) = khigh (greatK (cs.take j)) (kOf cs[j])) := by
        show _ = _
        rw [List.take_succ_eq_append_getElem hlt, greatK_snoc]
      clear hcell
      obtain ⟨M, hM⟩ : ∃ M, M = greatK (cs.take j) := ⟨_, rfl⟩
      rw [← hM] at hkm hA HE
      have HM := Lib.hid hM
      clear hM
      obtain ⟨v, hv⟩ : ∃ v, kcmp (key cs[j].1 cs[j].2) (key (sd M) (pa M)) = v := ⟨_, rfl⟩
      have HCMP := Lib.hid (fun W => compare_b cs[j].1 cs[j].2 (sd M) (pa M) v hv hi (pa_i64 M hkm) W)
      have HCAN := Lib.hid (fun W => canon_b cs[j].1 cs[j].2 hi W)
      rw [key_back M hkm] at hv
      have HV : Hid (kcmp (kOf cs[j]) M = v) := hv
      have HS : Hid (∃ sk pk, sk = sd (kOf cs[j]) ∧ pk = pa (kOf cs[j])) := ⟨_, _, rfl, rfl⟩
      obtain ⟨sk, pk, hsk, hpk⟩ := HS.out
      rw [show key cs[j].1 cs[j].2 = kOf cs[j] from rfl, ← hsk, ← hpk] at HCAN
      have HSK := Lib.hid (And.intro hsk hpk)
      obtain ⟨sm, pm, hsm, hpm⟩ : ∃ sm pm, sm = sd M ∧ pm = pa M := ⟨_, _, rfl, rfl⟩
      rw [← hsm, ← hpm] at hA HCMP
      have HSM := Lib.hid (And.intro hsm hpm)
      have hxr : w.heap.size < wr.heap.size := lt_of_block hR
      have hxa : x1.heap.size < wr.heap.size := lt_of_block hA
      have HRB := Lib.hid hR
      have HAB := Lib.hid hA
      obtain ⟨m1, m2, _, _⟩ := two_cells hA
      clear hv hkm hi hsk hpk hsm hpm HS hR hA
      generalize hcj : cs[j] = cj at *
      obtain ⟨cs1, cs2⟩ := cj
      have HCJ := Lib.hid hcj
      clear hcj
      simp only at hc1 hc2 HCMP HCAN
      go_wp2_with fail
      refine (HCMP.out _).mono ?_
      rintro e y1 ⟨rfl, hB1⟩
      have hB2 := bt (below_new wr (.cells #[.int .i64 cs1, .int .i64 cs2] 27)) hB1
      have hb1 := box_new _ hB1
      have hR2 := box_on HRB.out hB2
      have hA2 := box_on HAB.out hB2
      obtain ⟨n1, n2, _, _⟩ := two_cells hb1
      by_cases hq : M < kOf (cs1, cs2)
      · have hv1 : v = 1 := by rw [← HV.out]; exact kcmp_gt _ _ hq
        subst hv1
        have HQ : Hid (khigh M (kOf (cs1, cs2)) = kOf (cs1, cs2)) := by unfold khigh; show _ = _; rw [if_pos hq]
        clear hq hb1 hB1
        go_wp2_with fail
        refine (HCAN.out _).mono ?_
        rintro e y2 ⟨rfl, hB3⟩
        have hR3 := box_on hR2 hB3
        have hA3 := box_on hA2 hB3
        obtain ⟨o1, o2, o3, o4⟩ := two_cells hA3
        have hA4 := two_put (p := .int .i64 sk) (q := .int .i64 pk) hA3
        have hL4 := ((bt (bt hBr hB2) hB3).setCell (p := ⟨x1.heap.size, 0, none⟩) (by show _ ≤ x1.heap.size; omega) (.int .i64 sk)).setCell (p := ⟨x1.heap.size, 1, none⟩) (by show _ ≤ x1.heap.size; omega) (.int .i64 pk)
        have hR4 : ((y2.setCell ⟨x1.heap.size, 0, none⟩ (.int .i64 sk)).setCell ⟨x1.heap.size, 1, none⟩ (.int .i64 pk)).heap[w.heap.size]? = some (.cells #[.int .i64 0, .int .i64 0] 27 (0, 0)) := by
          rw [heap_setCell_other _ _ _ _ (by show _ ≠ x1.heap.size; omega), heap_setCell_other _ _ _ _ (by show _ ≠ x1.heap.size; omega)]; exact hR3
        have HF := Lib.hid (And.intro hR4 (And.intro hA4 hL4))
        clear hR2 hA2 hR3 hA3 hB2 hB3 hR4 hA4 hL4 n1 n2 m1 m2
        go_wp2_with fail
        go_roundw
        case rel =>
          refine ⟨j + 1, by go_num, by omega, HF.out.1, ?_, HF.out.2.2⟩
          rw [HE.out, HQ.out, ← HSK.out.1, ← HSK.out.2]
          exact HF.out.2.1
        case measure => simp [intOf]; omega
      · have hv1 : decide (0 < v) = false := decide_eq_false (by rw [← HV.out]; unfold kcmp; split <;> (try split) <;> omega)
        have HQ : Hid (khigh M (kOf (cs1, cs2)) = M) := by unfold khigh; show _ = _; rw [if_neg hq]
        have HF := Lib.hid (And.intro hR2 (And.intro hA2 (bt hBr hB2)))
        clear hq hb1 hB1 hR2 hA2 hB2 m1 m2 HV
        go_wp2_with fail
        go_roundw
        case rel =>
          refine ⟨j + 1, by go_num, by omega, HF.out.1, ?_, HF.out.2.2⟩
          have h9 := HF.out.2.1
          rw [HSM.out.1, HSM.out.2] at h9
          rw [HE.out, HQ.out]
          exact h9
        case measure => simp [intOf]; omega
    · obtain rfl : j = cs.length := by omega
      rw [List.take_length] at hA hkm
      obtain ⟨sm, pm, hsm, hpm⟩ : ∃ sm pm, sm = sd (greatK cs) ∧ pm = pa (greatK cs) := ⟨_, _, rfl, rfl⟩
      rw [← hsm, ← hpm] at hA
      have HSM := Lib.hid (And.intro hsm hpm)
      obtain ⟨m1, m2, _, _⟩ := two_cells hA
      obtain ⟨r1, r2, r3, r4⟩ := two_cells hR
      obtain ⟨q1, q2, _, _⟩ := two_cells (two_put (p := .int .i64 sm) (q := .int .i64 pm) hR)
      have hL9 := (hBr.setCell (p := ⟨w.heap.size, 0, none⟩) (by simp) (.int .i64 sm)).setCell (p := ⟨w.heap.size, 1, none⟩) (by simp) (.int .i64 pm)
      clear hkm hsm hpm hA hR
      go_wp2_with fail
      refine bodyPost_ret (v := .agg #[.int .i64 sm, .int .i64 pm]) (by simp [results, Try.results10, go_sem, q1, q2]) rfl ?_
      exact ⟨ret_cut HSM.out.1 HSM.out.2, hL9⟩
end Go.Proofs.Ytbpplhlkpfdegaa
