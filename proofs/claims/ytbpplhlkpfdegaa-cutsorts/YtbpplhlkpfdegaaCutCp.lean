/- The contract of slices.Compact over a row of cuts. -/
import Derived.Test.YtbpplhlkpfdegaaCutRow
namespace Go.Proofs.Ytbpplhlkpfdegaa
open Go.RowKit Go.Sort Go.Proofs.Ytbpplhlkpfdegaa.Bo
set_option linter.unusedVariables false

/-- Two keys: one, or told apart by a side or by a number. -/
theorem ky_apart (x y : Int) (hx : Ky x) (hy : Ky y) : x = y ∨ (x ≠ y ∧ (sd x == sd y) = false) ∨ (x ≠ y ∧ sd x = sd y ∧ (pa x == pa y) = false) := by
  by_cases h : x = y
  · exact .inl h
  · by_cases h1 : sd x = sd y
    · exact .inr (.inr ⟨h, h1, beq_eq_false_iff_ne.2 fun h2 => h (ky_inj x y hx hy h1 h2)⟩)
    · exact .inr (.inl ⟨h, beq_eq_false_iff_ne.2 h1⟩)
theorem row_regrown {w : World} {g cap : Nat} {ks : List Int} (h : RowAt w g cap ks) (j : Nat) (hj : j < ks.length) :
    (∀ d os, (grow (redrawn w d) os).cell? ⟨g, j * 2, none⟩ = some (.int .i64 (sd ks[j]))) ∧ (∀ d os, (grow (redrawn w d) os).cell? ⟨g, j * 2 + 1, none⟩ = some (.int .i64 (pa ks[j]))) :=
  ⟨cell_regrown (h.2.2 j hj).1, cell_regrown (h.2.2 j hj).2⟩
theorem below_any {B : Nat} {a b c : World} (h : Below B a b) (hB : B ≤ b.heap.size) (h2 : Below b.heap.size b c) : Below B a c := h.trans (h2.mono hB)

set_option maxRecDepth 100000 in
set_option maxHeartbeats 4000000 in
theorem compact_any (B g cap : Nat) (ks : List Int) (w : World) (hB : B ≤ g) (hrow : RowAt w g cap ks) (hky : ∀ k ∈ ks, Ky k) (hcap : cap ≤ 9223372036854775807) (hn : ks.length ≤ 100000) :
    Calls Try.prog 21 #[.slice (some ⟨g, 0, none⟩) ks.length cap] w fun e w' => (e = .returned (.slice (some ⟨g, 0, none⟩) (dd ks).length cap) ∧ RowAt w' g cap (dd ks)) ∧ Below B w w' := by
  have mx := mixed
  have eqc := eql_cut
  have nec := neq_cut
  have HR := Lib.hid hrow
  have HK := Lib.hid hky
  have hlc := hrow.2.1
  have hgw := hrow.1.lt
  clear hrow hky
  by_cases h2 : ks.length < 2
  · have HD : Hid (dd ks = ks) := by
      match ks, h2 with
      | [], _ => rfl
      | [a], _ => rfl
    have t1 : decide ((ks.length : Int) < 2) = true := decide_eq_true (by omega)
    go_enter Try.func21, Try.ntmps21
    go_wp2_with fail
    go_ret
    rw [HD.out]
    exact ⟨⟨rfl, HR.out⟩, Below.refl _ _⟩
  · have t1 : decide ((ks.length : Int) < 2) = false := decide_eq_false (by omega)
    go_enter Try.func21, Try.ntmps21
    go_wp2_with fail
    go_loopw [3] (fun s3 wr => ∃ k : Nat, s3 = .int .i64 (k : Int) ∧ 1 ≤ k ∧ k ≤ ks.length ∧ dd (ks.take k) = ks.take k ∧ RowAt wr g cap ks ∧ Below B w wr) (fun s3 _ => ks.length - (intOf s3).toNat)
    case atStart =>
      refine ⟨1, rfl, Nat.le_refl _, by omega, ?_, HR.out, Below.refl _ _⟩
      match ks, h2 with
      | a :: l, _ => rfl
    case round =>
      obtain ⟨k, rfl, hk1, hk, hdd, hrow, hBr⟩ := hrel
      have HDD := Lib.hid hdd
      have HRW := Lib.hid hrow
      clear hdd hrow
      by_cases hlt : k < ks.length
      · obtain ⟨q, rfl⟩ : ∃ q, k = q + 1 := ⟨k - 1, by omega⟩
        have HX : Hid (Ky ks[q + 1]) := HK.out _ (List.getElem_mem hlt)
        have HY : Hid (Ky ks[q]) := HK.out _ (List.getElem_mem (by omega))
        obtain ⟨p1, p2⟩ := row_regrown HRW.out (q + 1) hlt
        obtain ⟨p3, p4⟩ := row_regrown HRW.out q (by omega)
        have HSN := Lib.hid (dd_snoc (ks.take (q + 1)) (by rw [List.length_take]; omega) ks[q + 1])
        have HTK : Hid (ks.take (q + 1 + 1) = ks.take (q + 1) ++ [ks[q + 1]]) := List.take_succ_eq_append_getElem hlt
        have HLS : Hid (∀ h, (ks.take (q + 1))[(ks.take (q + 1)).length - 1]'h = ks[q]) := by
          intro h
          rw [List.getElem_take]
          congr 1
          rw [List.length_take]; omega
        obtain ⟨x, hx⟩ : ∃ x, x = ks[q + 1] := ⟨_, rfl⟩
        obtain ⟨y, hy⟩ : ∃ y, y = ks[q] := ⟨_, rfl⟩
        rw [← hx] at p1 p2 HX
        rw [← hy] at p3 p4 HY
        have HXE := Lib.hid hx
        have HYE := Lib.hid hy
        clear hx hy
        have hsx : ∃ X1 X2 Y1 Y2, X1 = sd x ∧ X2 = pa x ∧ Y1 = sd y ∧ Y2 = pa y := ⟨_, _, _, _, rfl, rfl, rfl, rfl⟩
        have hap := ky_apart x y HX.out HY.out
        obtain ⟨X1, X2, Y1, Y2, e1, e2, e3, e4⟩ := hsx
        rw [← e1, ← e2, ← e3, ← e4] at hap
        rw [← e1] at p1
        rw [← e2] at p2
        rw [← e3] at p3
        rw [← e4] at p4
        have hdupEq : x = y → X1 = Y1 ∧ X2 = Y2 := fun h => by subst h; exact ⟨e1.trans e3.symm, e2.trans e4.symm⟩
        clear e1 e2 e3 e4
        have hgr : g < wr.heap.size := HRW.out.1.lt
        rcases hap with hdup | ⟨hne, t2⟩ | ⟨hne, hs, t2⟩
        · obtain ⟨rfl, rfl⟩ := hdupEq hdup
          have HDUP := Lib.hid hdup
          clear hdup
          go_wp2_with fail
          refine wp_region_quiet_below (by assumption) (by kernel_rfl) ?_
          repeat (go_big_quiet_step (fail))
          refine wpQuiet_nil ?_
          intro _ hw'
          obtain ⟨⟨nq, osq⟩, hw''⟩ := hw'
          subst hw''
          have hB1 := below_regrown wr nq osq
          have hBn := below_any hBr (by omega) hB1
          have HRN := Lib.hid (HRW.out.below hB1)
          have HST : Hid (dd (ks.take (q + 1 + 1)) = ks.take (q + 1)) := by
            show _ = _
            rw [HTK.out, HSN.out, HDD.out, HLS.out _, ← HXE.out, ← HYE.out, if_pos HDUP.out, List.append_nil]
          clear p1 p2 p3 p4 hB1 hBr
          go_wp2_with fail
          have hneq : ¬ cap = q + 1 := by omega
          go_loopw [3, 5] (fun s3 s5 wr2 => ∃ (kk r : Nat) (cs : List Int), s3 = .int .i64 (kk : Int) ∧ s5 = .int .i64 ((r + 1 : Nat) : Int) ∧ q + r + 2 ≤ ks.length ∧ kk ≤ q + r + 1 ∧ cs.length = ks.length ∧ cs.take kk = dd (ks.take (q + r + 2)) ∧ (∀ p, q + r + 1 ≤ p → cs[p]? = ks[p]?) ∧ RowAt wr2 g cap cs ∧ Below B w wr2) (fun _ s5 _ => ks.length - (intOf s5).toNat)
          case atStart => exact ⟨q + 1, 0, ks, by go_num, rfl, by omega, by omega, rfl, HST.out.symm, fun _ _ => rfl, HRN.out, hBn⟩
          case round =>
            clear HRN hBn HRW HST HSN HTK HLS HDD HX HY HXE HYE HDUP hdupEq nq osq hgr
            obtain ⟨kk, r, cs, rfl, rfl, hr, hkk, hcl, htk, hhi, hrow, hB2⟩ := hrel
            have HTK := Lib.hid htk
            have HHI := Lib.hid hhi
            have HRW := Lib.hid hrow
            have hg2 : g < wr.heap.size := hrow.1.lt
            clear htk hhi
            by_cases hlt2 : q + r + 2 < ks.length
            · have hU : Hid (cs[q + r + 2]'(by omega) = ks[q + r + 2]) := by
                have h := HHI.out (q + r + 2) (by omega)
                rw [List.getElem?_eq_getElem (by omega), List.getElem?_eq_getElem (by omega)] at h
                exact Option.some.inj h
              have hV : Hid (cs[q + r + 1]'(by omega) = ks[q + r + 1]'(by omega)) := by
                have h := HHI.out (q + r + 1) (by omega)
                rw [List.getElem?_eq_getElem (by omega), List.getElem?_eq_getElem (by omega)] at h
                exact Option.some.inj h
              have hcu := hrow.2.2 (q + r + 2) (by omega)
              have hcv := hrow.2.2 (q + r + 1) (by omega)
              rw [hU.out, show (q + r + 2) * 2 = (q + 1) * 2 + (r + 1) * 2 by omega] at hcu
              rw [hV.out, show (q + r + 1) * 2 = (q + 1) * 2 + r * 2 by omega] at hcv
              have HX : Hid (Ky ks[q + r + 2]) := HK.out _ (List.getElem_mem hlt2)
              have HY : Hid (Ky (ks[q + r + 1]'(by omega))) := HK.out _ (List.getElem_mem (by omega))
              have HSN := Lib.hid (dd_snoc (ks.take (q + r + 2)) (by rw [List.length_take]; omega) ks[q + r + 2])
              have HTS : Hid (ks.take (q + r + 2 + 1) = ks.take (q + r + 2) ++ [ks[q + r + 2]]) := List.take_succ_eq_append_getElem hlt2
              have HLS : Hid (∀ h, (ks.take (q + r + 2))[(ks.take (q + r + 2)).length - 1]'h = ks[q + r + 1]'(by omega)) := by
                intro h
                rw [List.getElem_take]
                congr 1
                rw [List.length_take]; omega
              obtain ⟨x, hx⟩ : ∃ x, x = ks[q + r + 2] := ⟨_, rfl⟩
              obtain ⟨y, hy⟩ : ∃ y, y = ks[q + r + 1]'(by omega) := ⟨_, rfl⟩
              rw [← hx] at hcu HX
              rw [← hy] at hcv HY
              have HXE := Lib.hid hx
              have HYE := Lib.hid hy
              obtain ⟨X1, X2, Y1, Y2, e1, e2, e3, e4⟩ : ∃ X1 X2 Y1 Y2, X1 = sd x ∧ X2 = pa x ∧ Y1 = sd y ∧ Y2 = pa y := ⟨_, _, _, _, rfl, rfl, rfl, rfl⟩
              have hap := ky_apart x y HX.out HY.out
              rw [← e1, ← e2, ← e3, ← e4] at hap
              rw [← e1, ← e2] at hcu
              rw [← e3, ← e4] at hcv
              have hdupEq : x = y → X1 = Y1 ∧ X2 = Y2 := fun h => by subst h; exact ⟨e1.trans e3.symm, e2.trans e4.symm⟩
              have HE12 := Lib.hid (And.intro e1 e2)
              have p1 := cell_regrown hcu.1
              have p2 := cell_regrown hcu.2
              have p3 := cell_regrown hcv.1
              have p4 := cell_regrown hcv.2
              have ti : (0 : Int) ≤ (r : Int) := by omega
              clear e1 e2 e3 e4 hx hy hU hV hcu hcv hrow HX HY
              rcases hap with hdup | ⟨hne, t2⟩ | ⟨hne, hs, t2⟩
              · obtain ⟨rfl, rfl⟩ := hdupEq hdup
                have HDUP := Lib.hid hdup
                clear hdup hdupEq
                go_wp2_with fail
                refine wp_region_quiet_below (by assumption) (by kernel_rfl) ?_
                repeat (go_big_quiet_step (fail))
                refine wpQuiet_nil ?_
                intro _ hw'
                obtain ⟨⟨nq2, osq2⟩, hw''⟩ := hw'
                subst hw''
                have hB1 := below_regrown wr nq2 osq2
                have hBn := below_any hB2 (by omega) hB1
                have HRN := Lib.hid (HRW.out.below hB1)
                clear p1 p2 p3 p4 hB1 hB2
                go_wp2_with fail
                go_roundw
                case rel =>
                  refine ⟨kk, r + 1, cs, rfl, by go_num, by omega, by omega, hcl, ?_, fun p hp => HHI.out p (by omega), HRN.out, hBn⟩
                  show cs.take kk = dd (ks.take (q + r + 2 + 1))
                  rw [HTS.out, HSN.out, HLS.out _, ← HXE.out, ← HYE.out, if_pos HDUP.out, List.append_nil]
                  exact HTK.out
                case measure => simp [intOf]; omega
              · have HNE := Lib.hid hne
                clear hne hdupEq
                go_wp2_with fail
                refine wp_region_quiet_below (by assumption) (by kernel_rfl) ?_
                repeat (go_big_quiet_step (fail))
                refine wpQuiet_nil ?_
                intro _ hw'
                obtain ⟨⟨nq2, osq2⟩, hw''⟩ := hw'
                subst hw''
                have hB1 := below_regrown wr nq2 osq2
                have hBn := below_any hB2 (by omega) hB1
                have HRN := Lib.hid (HRW.out.below hB1)
                have q1 := p1 nq2 osq2
                have q2 := p2 nq2 osq2
                clear p1 p2 p3 p4 hB1 hB2
                obtain ⟨v1, hv1⟩ := HRN.out.1.cell (kk * 2) (by omega)
                obtain ⟨v2, hv2⟩ := HRN.out.1.cell (kk * 2 + 1) (by omega)
                have f1 := HRN.out.1.free (kk * 2)
                have f2 := HRN.out.1.free (kk * 2 + 1)
                have tk : (0 : Int) ≤ (kk : Int) := by omega
                have hkl : kk < ks.length := by omega
                have HP := Lib.hid (HRN.out.put kk (by omega) x)
                have hBp := (hBn.setCell (p := ⟨g, kk * 2, none⟩) hB (.int .i64 X1)).setCell (p := ⟨g, kk * 2 + 1, none⟩) hB (.int .i64 X2)
                rw [← HE12.out.1, ← HE12.out.2] at HP
                clear hBn
                show Exit.then _ _ Exit.normal _ (grow (redrawn wr nq2) osq2)
                generalize grow (redrawn wr nq2) osq2 = Y at *
                go_wp2_with fail
                go_roundw
                case rel =>
                  refine ⟨kk + 1, r + 1, cs.set kk x, by go_num, by go_num, by omega, by omega, by simpa using hcl, ?_, fun p hp => ?_, HP.out, hBp⟩
                  · show (cs.set kk x).take (kk + 1) = dd (ks.take (q + r + 2 + 1))
                    rw [HTS.out, HSN.out, HLS.out _, ← HXE.out, ← HYE.out, if_neg HNE.out, ← HTK.out, List.take_succ_eq_append_getElem (by simp; omega), List.take_set_of_le (Nat.le_refl _), List.getElem_set_self]
                  · rw [List.getElem?_set_ne (by omega)]; exact HHI.out p (by omega)
                case measure => simp [intOf]; omega

              · subst hs
                have HNE := Lib.hid hne
                clear hne hdupEq
                go_wp2_with fail
                refine wp_region_quiet_below (by assumption) (by kernel_rfl) ?_
                repeat (go_big_quiet_step (fail))
                refine wpQuiet_nil ?_
                intro _ hw'
                obtain ⟨⟨nq2, osq2⟩, hw''⟩ := hw'
                subst hw''
                have hB1 := below_regrown wr nq2 osq2
                have hBn := below_any hB2 (by omega) hB1
                have HRN := Lib.hid (HRW.out.below hB1)
                have q1 := p1 nq2 osq2
                have q2 := p2 nq2 osq2
                clear p1 p2 p3 p4 hB1 hB2
                obtain ⟨v1, hv1⟩ := HRN.out.1.cell (kk * 2) (by omega)
                obtain ⟨v2, hv2⟩ := HRN.out.1.cell (kk * 2 + 1) (by omega)
                have f1 := HRN.out.1.free (kk * 2)
                have f2 := HRN.out.1.free (kk * 2 + 1)
                have tk : (0 : Int) ≤ (kk : Int) := by omega
                have hkl : kk < ks.length := by omega
                have HP := Lib.hid (HRN.out.put kk (by omega) x)
                have hBp := (hBn.setCell (p := ⟨g, kk * 2, none⟩) hB (.int .i64 X1)).setCell (p := ⟨g, kk * 2 + 1, none⟩) hB (.int .i64 X2)
                rw [← HE12.out.1, ← HE12.out.2] at HP
                clear hBn
                show Exit.then _ _ Exit.normal _ (grow (redrawn wr nq2) osq2)
                generalize grow (redrawn wr nq2) osq2 = Y at *
                go_wp2_with fail
                go_roundw
                case rel =>
                  refine ⟨kk + 1, r + 1, cs.set kk x, by go_num, by go_num, by omega, by omega, by simpa using hcl, ?_, fun p hp => ?_, HP.out, hBp⟩
                  · show (cs.set kk x).take (kk + 1) = dd (ks.take (q + r + 2 + 1))
                    rw [HTS.out, HSN.out, HLS.out _, ← HXE.out, ← HYE.out, if_neg HNE.out, ← HTK.out, List.take_succ_eq_append_getElem (by simp; omega), List.take_set_of_le (Nat.le_refl _), List.getElem_set_self]
                  · rw [List.getElem?_set_ne (by omega)]; exact HHI.out p (by omega)
                case measure => simp [intOf]; omega

            · have hend : q + r + 2 = ks.length := by omega
              have hdd : cs.take kk = dd ks := by have h := HTK.out; rw [hend, List.take_length] at h; exact h
              have hlen : (dd ks).length = kk := by rw [← hdd, List.length_take]; omega
              have HD := Lib.hid (And.intro hdd hlen)
              have hcl2 : ∀ ty, (Builtin.clear_ #[22] ty #[.slice (some ⟨g, kk * 2, none⟩) (ks.length - kk) (cap - kk)]).run Try.prog wr = .ok (.tuple #[]) (wr.setCells g (kk * 2) (List.replicate ((ks.length - kk) * 2) (.int .i64 0))) :=
                fun ty => run_clear_cuts wr ty g (kk * 2) (ks.length - kk) (cap - kk) cap (by omega) hrow.1 (by omega)
              have HRT := Lib.hid (((hrow.take kk (by omega)).clear (List.replicate ((ks.length - kk) * 2) (.int .i64 0)) (kk * 2) (by rw [List.length_take]; omega)))
              have hBc := below_setCells B g hB (List.replicate ((ks.length - kk) * 2) (.int .i64 0)) (kk * 2) wr w hB2
              have hnk : ¬ cap = kk := by omega
              have hkl : kk < ks.length := by omega
              have tk : (0 : Int) ≤ (kk : Int) := by omega
              clear hdd hlen hrow hB2
              go_wp2_with fail
              go_ret
              rw [← HD.out.1]
              refine ⟨⟨?_, HRT.out⟩, hBc⟩
              rw [show (cs.take kk).length = kk by rw [List.length_take]; omega]
              rfl

        · have HNE := Lib.hid hne
          clear hne hdupEq
          go_wp2_with fail
          refine wp_region_quiet_below (by assumption) (by kernel_rfl) ?_
          repeat (go_big_quiet_step (fail))
          refine wpQuiet_nil ?_
          intro _ hw'
          obtain ⟨⟨nq, osq⟩, hw''⟩ := hw'
          subst hw''
          have hB1 := below_regrown wr nq osq
          have hBn := below_any hBr (by omega) hB1
          have HRN := Lib.hid (HRW.out.below hB1)
          clear p1 p2 p3 p4 hB1 hBr
          go_wp2_with fail
          go_roundw
          case rel =>
            refine ⟨q + 1 + 1, by go_num, by omega, by omega, ?_, HRN.out, hBn⟩
            rw [HTK.out, HSN.out, HDD.out, HLS.out _, ← HXE.out, ← HYE.out, if_neg HNE.out]
          case measure => simp [intOf]; omega

        · subst hs
          have HNE := Lib.hid hne
          clear hne hdupEq
          go_wp2_with fail
          refine wp_region_quiet_below (by assumption) (by kernel_rfl) ?_
          repeat (go_big_quiet_step (fail))
          refine wpQuiet_nil ?_
          intro _ hw'
          obtain ⟨⟨nq, osq⟩, hw''⟩ := hw'
          subst hw''
          have hB1 := below_regrown wr nq osq
          have hBn := below_any hBr (by omega) hB1
          have HRN := Lib.hid (HRW.out.below hB1)
          clear p1 p2 p3 p4 hB1 hBr
          go_wp2_with fail
          go_roundw
          case rel =>
            refine ⟨q + 1 + 1, by go_num, by omega, by omega, ?_, HRN.out, hBn⟩
            rw [HTK.out, HSN.out, HDD.out, HLS.out _, ← HXE.out, ← HYE.out, if_neg HNE.out]
          case measure => simp [intOf]; omega

      · obtain rfl : k = ks.length := by omega
        have HD : Hid (dd ks = ks) := by have := HDD.out; rwa [List.take_length] at this
        go_wp2_with fail
        go_ret
        rw [HD.out]
        exact ⟨⟨rfl, HRW.out⟩, hBr⟩
end Go.Proofs.Ytbpplhlkpfdegaa
