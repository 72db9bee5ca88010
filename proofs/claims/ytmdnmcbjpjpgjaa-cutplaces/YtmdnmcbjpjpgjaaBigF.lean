/- Contract of Plus, the signs unlike. -/
import Derived.Test.YtmdnmcbjpjpgjaaBigE
namespace Go.Proofs.Ytmdnmcbjpjpgjaa
open Go.RowKit Go.Proofs.Ytmdnmcbjpjpgjaa.Bo
set_option linter.unusedVariables false

theorem al6 (w : World) (A B C D E F : Obj) :
    ((((((w.alloc A).alloc B).alloc C).alloc D).alloc E).alloc F).heap[w.heap.size]? = some A ∧ ((((((w.alloc A).alloc B).alloc C).alloc D).alloc E).alloc F).heap[w.heap.size + 1]? = some B ∧
    ((((((w.alloc A).alloc B).alloc C).alloc D).alloc E).alloc F).heap[w.heap.size + 2]? = some C ∧ ((((((w.alloc A).alloc B).alloc C).alloc D).alloc E).alloc F).heap[w.heap.size + 3]? = some D ∧
    ((((((w.alloc A).alloc B).alloc C).alloc D).alloc E).alloc F).heap[w.heap.size + 4]? = some E ∧ ((((((w.alloc A).alloc B).alloc C).alloc D).alloc E).alloc F).heap[w.heap.size + 5]? = some F := by
  obtain ⟨h1, h2, h3, h4⟩ := al4 w A B C D
  have e5 : (((((w.alloc A).alloc B).alloc C).alloc D).alloc E).heap[w.heap.size + 4]? = some E := by have := heap_alloc_new ((((w.alloc A).alloc B).alloc C).alloc D) E; simpa using this
  have e6 : ((((((w.alloc A).alloc B).alloc C).alloc D).alloc E).alloc F).heap[w.heap.size + 5]? = some F := by have := heap_alloc_new (((((w.alloc A).alloc B).alloc C).alloc D).alloc E) F; simpa using this
  refine ⟨?_, ?_, ?_, ?_, ?_, e6⟩
  · rw [heap_alloc_old _ _ (by simp <;> omega), heap_alloc_old _ _ (by simp <;> omega)]; exact h1
  · rw [heap_alloc_old _ _ (by simp <;> omega), heap_alloc_old _ _ (by simp <;> omega)]; exact h2
  · rw [heap_alloc_old _ _ (by simp), heap_alloc_old _ _ (by simp)]; exact h3
  · rw [heap_alloc_old _ _ (by simp), heap_alloc_old _ _ (by simp)]; exact h4
  · rw [heap_alloc_old _ _ (by simp)]; exact e5
theorem below6 (w : World) (A B C D E F : Obj) : Below w.heap.size w ((((((w.alloc A).alloc B).alloc C).alloc D).alloc E).alloc F) :=
  ((((((Below.refl _ _).alloc (Nat.le_refl _) _).alloc (by simp) _).alloc (by simp <;> omega) _).alloc (by simp <;> omega) _).alloc (by simp <;> omega) _).alloc (by simp <;> omega) _

theorem diff_a (sa sb : Int) (x y o : Nat) (hs : (sa = 1 ∧ sb = -1) ∨ (sa = -1 ∧ sb = 1)) (hle : y ≤ x) (h : o = x - y) : sa * (x : Int) + sb * (y : Int) = sa * (o : Int) := by
  rcases hs with ⟨rfl, rfl⟩ | ⟨rfl, rfl⟩ <;> omega
theorem diff_b (sa sb : Int) (x y o : Nat) (hs : (sa = 1 ∧ sb = -1) ∨ (sa = -1 ∧ sb = 1)) (hle : x ≤ y) (h : o = y - x) : sa * (x : Int) + sb * (y : Int) = sb * (o : Int) := by
  rcases hs with ⟨rfl, rfl⟩ | ⟨rfl, rfl⟩ <;> omega

set_option maxRecDepth 100000 in
set_option maxHeartbeats 8000000 in
theorem plus_diff (sa sb : Int) (va vb : Value) (xs ys : List Nat) (w : World) (hs : (sa = 1 ∧ sb = -1) ∨ (sa = -1 ∧ sb = 1)) (hx : Dg w va xs) (hy : Dg w vb ys) (ox : Ok xs) (oy : Ok ys) (lx : xs.length ≤ 400) (ly : ys.length ≤ 400) :
    Calls Try.prog 44 #[.agg #[.int .i64 sa, va], .agg #[.int .i64 sb, vb]] w (BigPost (sa * (val xs : Int) + sb * (val ys : Int)) (xs.length + ys.length + 1) w) := by
  have t0 : (sa == 0) = false := beq_eq_false_iff_ne.2 (by omega)
  have t1 : (sb == 0) = false := beq_eq_false_iff_ne.2 (by omega)
  have t2 : (sa == sb) = false := beq_eq_false_iff_ne.2 (by omega)
  have HS := Lib.hid hs
  clear hs
  obtain ⟨i0, hi, hz0, hz1, hz2⟩ := info_parts Try.infoInt
  have HX := Lib.hid hx
  have HY := Lib.hid hy
  have hmore := Lib.hid (fun W (h : Below w.heap.size w W) => more_any _ _ ys xs W (hy.below h) (hx.below h) oy ox (by omega) (by omega))
  obtain ⟨a1, cap1, rfl, hc1, hg1⟩ := hx
  obtain ⟨a2, cap2, rfl, hc2, hg2⟩ := hy
  clear hg1 hg2
  by_cases hlt : val xs < val ys
  · have HLE : Hid (val xs ≤ val ys) := Nat.le_of_lt hlt
    rw [show decide (val xs < val ys) = true from decide_eq_true hlt] at hmore
    clear hlt
    go_enter Try.func44, Try.ntmps44
    go_wp2_with fail
    refine (hmore.out _ (below6 w _ _ _ _ _ _)).mono ?_
    rintro e x1 ⟨rfl, rfl⟩
    go_wp2_with fail
    go_loopw [11, 12] (fun bo i wr => ∃ (k b : Nat) (v : Value) (os : List Nat), i = .int .i64 (k : Int) ∧ bo = .int .i64 (b : Int) ∧ k ≤ ys.length ∧ SubInv ys xs os k b ∧ PlusAt w (w.heap.size + 5) sa sb 0 (.slice a1 xs.length cap1) (.slice a2 ys.length cap2) v os wr ∧
        wr.heap[w.heap.size + 4]? = some (.cells #[.int .i64 sb, .slice a2 ys.length cap2] 52 (0, 0)) ∧ wr.heap[w.heap.size + 5]? = some (.cells #[.int .i64 sa, .slice a1 xs.length cap1] 52 (0, 0))) (fun _ i _ => ys.length - (intOf i).toNat)
    case atStart =>
      obtain ⟨q1, q2, q3, q4, q5, q6⟩ := al6 w (.cells #[.int .i64 sa, .slice a1 xs.length cap1] 52) (.cells #[.int .i64 sb, .slice a2 ys.length cap2] 52) (.cells #[.int .i64 0, .slice none 0 0] 52) (.cells #[.int .i64 0, .slice none 0 0] 52) (.cells #[.int .i64 sb, .slice a2 ys.length cap2] 52) (.cells #[.int .i64 sa, .slice a1 xs.length cap1] 52)
      exact ⟨0, 0, _, [], rfl, rfl, Nat.zero_le _, subInv_start ys xs, ⟨q1, q2, ⟨_, _, q3⟩, q4, World.ownsRow_nil _ _ _ _, by omega, by simp, below6 w _ _ _ _ _ _⟩, q5, q6⟩
    case round =>
      obtain ⟨k, b, v, os, rfl, rfl, hk, hinv, hA, hbx, hby⟩ := hrel
      have HA := Lib.hid hA
      have HI := Lib.hid hinv
      have HBX := Lib.hid hbx
      have HBY := Lib.hid hby
      have x0 := cell_of_row _ _ 0 _ _ _ hbx
      have x1 := cell_of_row _ _ 1 _ _ _ hbx
      have y1 := cell_of_row _ _ 1 _ _ _ hby
      have o0 := cell_of_row _ _ 0 _ _ _ hA.out
      have o1 := cell_of_row _ _ 1 _ _ _ hA.out
      have f0 := frozen_of_row _ _ 0 _ _ hA.out
      have f1 := frozen_of_row _ _ 1 _ _ hA.out
      have hdx := HY.out.below hA.below
      have hdy := Lib.hid (HX.out.below hA.below)
      have hsz := hA.hsize
      have hol : os.length ≤ 401 := by have := hinv.1; omega
      have hb := hinv.2.2.1
      simp at x0 x1 y1 o0 o1
      by_cases hend : k < ys.length
      · obtain ⟨_, _, hgx⟩ := hdx.cellAt
        obtain ⟨g, hga, hgl, hcell⟩ := hgx (by omega)
        have hck := hcell k hend
        have hX10 := oy _ (List.getElem_mem hend)
        have hge : ys.getD k 0 = ys[k] := by rw [List.getD_eq_getElem?_getD, List.getElem?_eq_getElem hend]; rfl
        have hY10 := (ox).getD k
        have cy := Lib.hid (fun n => Calls.quiet_of_same (digit_q _ xs k _ (hdy.out.drewN n) (by omega) (by omega)))
        have HSTEP := Lib.hid (fun d b' hd hb' he => subInv_step ys xs os k b d b' hd hb' hinv he)
        rw [hge] at HSTEP
        subst hga
        generalize ys[k] = D at *
        generalize xs.getD k 0 = E at *
        have tk : decide ((k : Int) < (ys.length : Int)) = true := decide_eq_true (by omega)
        clear hA hinv hk hbx hby hgx hcell hge hdx
        by_cases hneg : D < E + b
        · have tn : decide ((D : Int) - (E : Int) - (b : Int) < 0) = true := decide_eq_true (by omega)
          have HST := Lib.hid (HSTEP.out (D + 10 - E - b) 1 (by omega) (by omega) (by omega))
          have HDD : Hid (Value.int .i64 ((D : Int) - (E : Int) - (b : Int) + 10) = iv (D + 10 - E - b)) := by
            show Value.int _ _ = Value.int _ _
            congr 1; omega
          clear HSTEP
          go_wp2_with fail
          have q1 : IntKind.i64.wrap ((D : Int) - (E : Int)) = (D : Int) - (E : Int) := IntWalk.i64_in _ (by omega)
          have q2 : IntKind.i64.wrap ((D : Int) - (E : Int) - (b : Int)) = (D : Int) - (E : Int) - (b : Int) := IntWalk.i64_in _ (by omega)
          have i1 : (0 : Int) ≤ (k : Int) := by omega
          have i2 : (k : Int) < (ys.length : Int) := by omega
          go_quiet (first | (go_at_call 56; exact cy.out _))
          clear q1 q2
          have hown : Hid ((wr.drewN nq).ownsRow (w.heap.size + 5 + 1) 3 1 v os.length (os.map iv)) := HA.out.own
          go_wp2_with (at_builtin; refine wpList_append_own _ rfl _ _ 50 rfl (w.heap.size + 5 + 1) 3 i0 (.int .i64 0) 1 8 Try.underlying50 hi hz0 hz1 hz2 rfl (by decide) _ _ _ rfl (hown.out.alloc _) ⟨wr.heap.size, 0, none⟩ 1 1 [.int .i64 ((D : Int) - (E : Int) - (b : Int) + 10)] rfl rfl ?c1 ?c2 ?c3 ?c4 ?c5 ?_)
          case c1 => exact cell_one_new _ _ _
          case c2 => intro u hu; rw [List.mem_singleton.1 hu]; rfl
          case c3 => unfold maxLen; omega
          case c4 => omega
          case c5 => simp; omega
          intro v' w1 hown1 hg1 hnil
          rw [HDD.out] at hown1
          obtain ⟨hm1, hA1, hk1⟩ := plusAt_step HA.out hown1 hg1
          have d1 := cell_of_row _ _ 1 _ _ _ hm1
          have e1 := frozen_of_row _ _ 1 _ _ hm1
          simp at d1
          have HA1 := Lib.hid hA1
          have HBX1 := Lib.hid ((hk1 (w.heap.size + 4) (by omega) (by omega)).trans HBX.out)
          have HBY1 := Lib.hid ((hk1 (w.heap.size + 5) (by omega) (by omega)).trans HBY.out)
          obtain ⟨g', cap', rfl⟩ := own_form hown1 (by omega)
          clear hA1 hown1 hg1 hnil hm1 hk1
          go_wp2_with fail
          go_roundw
          case rel => exact ⟨k + 1, 1, _, os ++ [D + 10 - E - b], by go_num, by go_num, by omega, HST.out, HA1.out, HBX1.out, HBY1.out⟩
          case measure => simp [intOf]; omega
        · have tn : decide ((D : Int) - (E : Int) - (b : Int) < 0) = false := decide_eq_false (by omega)
          have HST := Lib.hid (HSTEP.out (D - E - b) 0 (by omega) (by omega) (by omega))
          have HDD : Hid (Value.int .i64 ((D : Int) - (E : Int) - (b : Int)) = iv (D - E - b)) := by
            show Value.int _ _ = Value.int _ _
            congr 1; omega
          clear HSTEP
          go_wp2_with fail
          have q1 : IntKind.i64.wrap ((D : Int) - (E : Int)) = (D : Int) - (E : Int) := IntWalk.i64_in _ (by omega)
          have q2 : IntKind.i64.wrap ((D : Int) - (E : Int) - (b : Int)) = (D : Int) - (E : Int) - (b : Int) := IntWalk.i64_in _ (by omega)
          have i1 : (0 : Int) ≤ (k : Int) := by omega
          have i2 : (k : Int) < (ys.length : Int) := by omega
          go_quiet (first | (go_at_call 56; exact cy.out _))
          clear q1 q2
          have hown : Hid ((wr.drewN nq).ownsRow (w.heap.size + 5 + 1) 3 1 v os.length (os.map iv)) := HA.out.own
          go_wp2_with (at_builtin; refine wpList_append_own _ rfl _ _ 50 rfl (w.heap.size + 5 + 1) 3 i0 (.int .i64 0) 1 8 Try.underlying50 hi hz0 hz1 hz2 rfl (by decide) _ _ _ rfl (hown.out.alloc _) ⟨wr.heap.size, 0, none⟩ 1 1 [.int .i64 ((D : Int) - (E : Int) - (b : Int))] rfl rfl ?e1 ?e2 ?e3 ?e4 ?e5 ?_)
          case e1 => exact cell_one_new _ _ _
          case e2 => intro u hu; rw [List.mem_singleton.1 hu]; rfl
          case e3 => unfold maxLen; omega
          case e4 => omega
          case e5 => simp; omega
          intro v' w1 hown1 hg1 hnil
          rw [HDD.out] at hown1
          obtain ⟨hm1, hA1, hk1⟩ := plusAt_step HA.out hown1 hg1
          have d1 := cell_of_row _ _ 1 _ _ _ hm1
          have e1 := frozen_of_row _ _ 1 _ _ hm1
          simp at d1
          have HA1 := Lib.hid hA1
          have HBX1 := Lib.hid ((hk1 (w.heap.size + 4) (by omega) (by omega)).trans HBX.out)
          have HBY1 := Lib.hid ((hk1 (w.heap.size + 5) (by omega) (by omega)).trans HBY.out)
          obtain ⟨g', cap', rfl⟩ := own_form hown1 (by omega)
          clear hA1 hown1 hg1 hnil hm1 hk1
          go_wp2_with fail
          go_roundw
          case rel => exact ⟨k + 1, 0, _, os ++ [D - E - b], by go_num, by go_num, by omega, HST.out, HA1.out, HBX1.out, HBY1.out⟩
          case measure => simp [intOf]; omega
      · obtain rfl : k = ys.length := by omega
        have tk : decide ((ys.length : Int) < (ys.length : Int)) = false := decide_eq_false (by omega)
        have HV := Lib.hid (subInv_end ys xs os b HLE.out hinv)
        have HOK := Lib.hid hinv.2.1
        obtain ⟨rx, ry, hres⟩ := hA.res
        have r0 := cell_of_row _ _ 0 _ _ _ hres
        have r1 := cell_of_row _ _ 1 _ _ _ hres
        have g0 := frozen_of_row _ _ 0 _ _ hres
        have g1 := frozen_of_row _ _ 1 _ _ hres
        simp at r0 r1
        have HRES := Lib.hid hres
        obtain ⟨av, cv, hv, hcv, hgv⟩ := dg_of_own hA.own
        clear hgv hA hinv hres hend hk hbx hby hdx
        subst hv
        have hO1 := ownsRow_setCell_below HA.out.own (a := ⟨w.heap.size + 3, 0, none⟩) (by simp <;> omega) (.int .i64 sb)
        have hcut := Lib.hid (cut_any av cv os _ (dg_of_own hO1) (by omega))
        have HO1 := Lib.hid hO1
        clear hO1
        go_wp2_with fail
        refine hcut.out.mono ?_
        rintro e x2 ⟨n, rfl, hn, hvn, rfl⟩
        have HVN := Lib.hid hvn
        clear hvn
        by_cases hn0 : n = 0
        · have tz : ((n : Int) == 0) = true := beq_iff_eq.2 (by omega)
          have HN0 := Lib.hid hn0
          clear hn0
          have hO2 := ownsRow_setCell_below (ownsRow_setCell_below (ownsRow_setCell_below (ownsRow_setCell_below HO1.out (a := ⟨w.heap.size + 3, 1, none⟩) (by simp <;> omega) (.slice av n cv)) (a := ⟨w.heap.size + 3, 0, none⟩) (by simp <;> omega) (.int .i64 0)) (a := ⟨w.heap.size + 2, 0, none⟩) (by simp <;> omega) (.int .i64 0)) (a := ⟨w.heap.size + 2, 1, none⟩) (by simp <;> omega) (.slice av n cv)
          have hres1 := (heap_setCell_other wr ⟨w.heap.size + 3, 0, none⟩ (w.heap.size + 2) (.int .i64 sb) (by simp)).trans HRES.out
          have hres2 := (heap_setCell_other _ ⟨w.heap.size + 3, 1, none⟩ (w.heap.size + 2) (.slice av n cv) (by simp)).trans hres1
          have hres3 := (heap_setCell_other _ ⟨w.heap.size + 3, 0, none⟩ (w.heap.size + 2) (.int .i64 0) (by simp)).trans hres2
          have hfin := two_set (p := .int .i64 0) (q := .slice av n cv) hres3
          have q0 := cell_of_row _ _ 0 _ _ _ hfin
          have q1 := cell_of_row _ _ 1 _ _ _ hfin
          simp at q0 q1
          have HQ0 := Lib.hid q0
          have HQ1 := Lib.hid q1
          have HD2 := Lib.hid ((dg_of_own hO2).take n hn)
          have hBb := ((((HA.out.below.setCell (p := ⟨w.heap.size + 3, 0, none⟩) (by simp) (.int .i64 sb)).setCell (p := ⟨w.heap.size + 3, 1, none⟩) (by simp) (.slice av n cv)).setCell (p := ⟨w.heap.size + 3, 0, none⟩) (by simp) (.int .i64 0)).setCell (p := ⟨w.heap.size + 2, 0, none⟩) (by simp) (.int .i64 0)).setCell (p := ⟨w.heap.size + 2, 1, none⟩) (by simp) (.slice av n cv)
          clear hres1 hres2 hres3 hfin q0 q1 hO2
          go_wp2_with fail
          have q0 := HQ0.out
          have q1 := HQ1.out
          refine bodyPost_ret (v := .agg #[.int .i64 0, .slice av n cv]) (by simp [results, Try.results44, go_sem, q0, q1]) rfl ?_
          have hz := diff_b sa sb (val xs) (val ys) (val os) HS.out HLE.out HV.out
          have hv0 : val os = 0 := by rw [← HVN.out, HN0.out]; rfl
          rw [hz, hv0]
          refine ⟨_, rfl, ⟨0, _, os.take n, rfl, Or.inr (Or.inl rfl), HD2.out, HOK.out.take n, ?_, by simp, fun _ => by rw [HVN.out]; exact hv0⟩, hBb⟩
          rw [List.length_take]; have := HI.out.1; omega
        · have tz : ((n : Int) == 0) = false := beq_eq_false_iff_ne.2 (by omega)
          clear hn0
          have hO2 := ownsRow_setCell_below (ownsRow_setCell_below (ownsRow_setCell_below HO1.out (a := ⟨w.heap.size + 3, 1, none⟩) (by simp <;> omega) (.slice av n cv)) (a := ⟨w.heap.size + 2, 0, none⟩) (by simp <;> omega) (.int .i64 sb)) (a := ⟨w.heap.size + 2, 1, none⟩) (by simp <;> omega) (.slice av n cv)
          have hres1 := (heap_setCell_other wr ⟨w.heap.size + 3, 0, none⟩ (w.heap.size + 2) (.int .i64 sb) (by simp)).trans HRES.out
          have hres2 := (heap_setCell_other _ ⟨w.heap.size + 3, 1, none⟩ (w.heap.size + 2) (.slice av n cv) (by simp)).trans hres1
          have hfin := two_set (p := .int .i64 sb) (q := .slice av n cv) hres2
          have q0 := cell_of_row _ _ 0 _ _ _ hfin
          have q1 := cell_of_row _ _ 1 _ _ _ hfin
          simp at q0 q1
          have HQ0 := Lib.hid q0
          have HQ1 := Lib.hid q1
          have HD2 := Lib.hid ((dg_of_own hO2).take n hn)
          have hBb := (((HA.out.below.setCell (p := ⟨w.heap.size + 3, 0, none⟩) (by simp) (.int .i64 sb)).setCell (p := ⟨w.heap.size + 3, 1, none⟩) (by simp) (.slice av n cv)).setCell (p := ⟨w.heap.size + 2, 0, none⟩) (by simp) (.int .i64 sb)).setCell (p := ⟨w.heap.size + 2, 1, none⟩) (by simp) (.slice av n cv)
          clear hres1 hres2 hfin q0 q1 hO2
          go_wp2_with fail
          have q0 := HQ0.out
          have q1 := HQ1.out
          refine bodyPost_ret (v := .agg #[.int .i64 sb, .slice av n cv]) (by simp [results, Try.results44, go_sem, q0, q1]) rfl ?_
          have hz := diff_b sa sb (val xs) (val ys) (val os) HS.out HLE.out HV.out
          rw [hz]
          refine ⟨_, rfl, ⟨sb, _, os.take n, rfl, by have := HS.out; omega, HD2.out, HOK.out.take n, ?_, by rw [HVN.out], fun h => by have := HS.out; omega⟩, hBb⟩
          rw [List.length_take]; have := HI.out.1; omega
  · have HLE : Hid (val ys ≤ val xs) := Nat.le_of_not_lt hlt
    rw [show decide (val xs < val ys) = false from decide_eq_false hlt] at hmore
    clear hlt
    go_enter Try.func44, Try.ntmps44
    go_wp2_with fail
    refine (hmore.out _ (below6 w _ _ _ _ _ _)).mono ?_
    rintro e x1 ⟨rfl, rfl⟩
    go_wp2_with fail
    go_loopw [11, 12] (fun bo i wr => ∃ (k b : Nat) (v : Value) (os : List Nat), i = .int .i64 (k : Int) ∧ bo = .int .i64 (b : Int) ∧ k ≤ xs.length ∧ SubInv xs ys os k b ∧ PlusAt w (w.heap.size + 5) sa sb 0 (.slice a1 xs.length cap1) (.slice a2 ys.length cap2) v os wr ∧
        wr.heap[w.heap.size + 4]? = some (.cells #[.int .i64 sa, .slice a1 xs.length cap1] 52 (0, 0)) ∧ wr.heap[w.heap.size + 5]? = some (.cells #[.int .i64 sb, .slice a2 ys.length cap2] 52 (0, 0))) (fun _ i _ => xs.length - (intOf i).toNat)
    case atStart =>
      obtain ⟨q1, q2, q3, q4, q5, q6⟩ := al6 w (.cells #[.int .i64 sa, .slice a1 xs.length cap1] 52) (.cells #[.int .i64 sb, .slice a2 ys.length cap2] 52) (.cells #[.int .i64 0, .slice none 0 0] 52) (.cells #[.int .i64 0, .slice none 0 0] 52) (.cells #[.int .i64 sa, .slice a1 xs.length cap1] 52) (.cells #[.int .i64 sb, .slice a2 ys.length cap2] 52)
      exact ⟨0, 0, _, [], rfl, rfl, Nat.zero_le _, subInv_start xs ys, ⟨q1, q2, ⟨_, _, q3⟩, q4, World.ownsRow_nil _ _ _ _, by omega, by simp, below6 w _ _ _ _ _ _⟩, q5, q6⟩
    case round =>
      obtain ⟨k, b, v, os, rfl, rfl, hk, hinv, hA, hbx, hby⟩ := hrel
      have HA := Lib.hid hA
      have HI := Lib.hid hinv
      have HBX := Lib.hid hbx
      have HBY := Lib.hid hby
      have x0 := cell_of_row _ _ 0 _ _ _ hbx
      have x1 := cell_of_row _ _ 1 _ _ _ hbx
      have y1 := cell_of_row _ _ 1 _ _ _ hby
      have o0 := cell_of_row _ _ 0 _ _ _ hA.out
      have o1 := cell_of_row _ _ 1 _ _ _ hA.out
      have f0 := frozen_of_row _ _ 0 _ _ hA.out
      have f1 := frozen_of_row _ _ 1 _ _ hA.out
      have hdx := HX.out.below hA.below
      have hdy := Lib.hid (HY.out.below hA.below)
      have hsz := hA.hsize
      have hol : os.length ≤ 401 := by have := hinv.1; omega
      have hb := hinv.2.2.1
      simp at x0 x1 y1 o0 o1
      by_cases hend : k < xs.length
      · obtain ⟨_, _, hgx⟩ := hdx.cellAt
        obtain ⟨g, hga, hgl, hcell⟩ := hgx (by omega)
        have hck := hcell k hend
        have hX10 := ox _ (List.getElem_mem hend)
        have hge : xs.getD k 0 = xs[k] := by rw [List.getD_eq_getElem?_getD, List.getElem?_eq_getElem hend]; rfl
        have hY10 := (oy).getD k
        have cy := Lib.hid (fun n => Calls.quiet_of_same (digit_q _ ys k _ (hdy.out.drewN n) (by omega) (by omega)))
        have HSTEP := Lib.hid (fun d b' hd hb' he => subInv_step xs ys os k b d b' hd hb' hinv he)
        rw [hge] at HSTEP
        subst hga
        generalize xs[k] = D at *
        generalize ys.getD k 0 = E at *
        have tk : decide ((k : Int) < (xs.length : Int)) = true := decide_eq_true (by omega)
        clear hA hinv hk hbx hby hgx hcell hge hdx
        by_cases hneg : D < E + b
        · have tn : decide ((D : Int) - (E : Int) - (b : Int) < 0) = true := decide_eq_true (by omega)
          have HST := Lib.hid (HSTEP.out (D + 10 - E - b) 1 (by omega) (by omega) (by omega))
          have HDD : Hid (Value.int .i64 ((D : Int) - (E : Int) - (b : Int) + 10) = iv (D + 10 - E - b)) := by
            show Value.int _ _ = Value.int _ _
            congr 1; omega
          clear HSTEP
          go_wp2_with fail
          have q1 : IntKind.i64.wrap ((D : Int) - (E : Int)) = (D : Int) - (E : Int) := IntWalk.i64_in _ (by omega)
          have q2 : IntKind.i64.wrap ((D : Int) - (E : Int) - (b : Int)) = (D : Int) - (E : Int) - (b : Int) := IntWalk.i64_in _ (by omega)
          have i1 : (0 : Int) ≤ (k : Int) := by omega
          have i2 : (k : Int) < (xs.length : Int) := by omega
          go_quiet (first | (go_at_call 56; exact cy.out _))
          clear q1 q2
          have hown : Hid ((wr.drewN nq).ownsRow (w.heap.size + 5 + 1) 3 1 v os.length (os.map iv)) := HA.out.own
          go_wp2_with (at_builtin; refine wpList_append_own _ rfl _ _ 50 rfl (w.heap.size + 5 + 1) 3 i0 (.int .i64 0) 1 8 Try.underlying50 hi hz0 hz1 hz2 rfl (by decide) _ _ _ rfl (hown.out.alloc _) ⟨wr.heap.size, 0, none⟩ 1 1 [.int .i64 ((D : Int) - (E : Int) - (b : Int) + 10)] rfl rfl ?c1 ?c2 ?c3 ?c4 ?c5 ?_)
          case c1 => exact cell_one_new _ _ _
          case c2 => intro u hu; rw [List.mem_singleton.1 hu]; rfl
          case c3 => unfold maxLen; omega
          case c4 => omega
          case c5 => simp; omega
          intro v' w1 hown1 hg1 hnil
          rw [HDD.out] at hown1
          obtain ⟨hm1, hA1, hk1⟩ := plusAt_step HA.out hown1 hg1
          have d1 := cell_of_row _ _ 1 _ _ _ hm1
          have e1 := frozen_of_row _ _ 1 _ _ hm1
          simp at d1
          have HA1 := Lib.hid hA1
          have HBX1 := Lib.hid ((hk1 (w.heap.size + 4) (by omega) (by omega)).trans HBX.out)
          have HBY1 := Lib.hid ((hk1 (w.heap.size + 5) (by omega) (by omega)).trans HBY.out)
          obtain ⟨g', cap', rfl⟩ := own_form hown1 (by omega)
          clear hA1 hown1 hg1 hnil hm1 hk1
          go_wp2_with fail
          go_roundw
          case rel => exact ⟨k + 1, 1, _, os ++ [D + 10 - E - b], by go_num, by go_num, by omega, HST.out, HA1.out, HBX1.out, HBY1.out⟩
          case measure => simp [intOf]; omega
        · have tn : decide ((D : Int) - (E : Int) - (b : Int) < 0) = false := decide_eq_false (by omega)
          have HST := Lib.hid (HSTEP.out (D - E - b) 0 (by omega) (by omega) (by omega))
          have HDD : Hid (Value.int .i64 ((D : Int) - (E : Int) - (b : Int)) = iv (D - E - b)) := by
            show Value.int _ _ = Value.int _ _
            congr 1; omega
          clear HSTEP
          go_wp2_with fail
          have q1 : IntKind.i64.wrap ((D : Int) - (E : Int)) = (D : Int) - (E : Int) := IntWalk.i64_in _ (by omega)
          have q2 : IntKind.i64.wrap ((D : Int) - (E : Int) - (b : Int)) = (D : Int) - (E : Int) - (b : Int) := IntWalk.i64_in _ (by omega)
          have i1 : (0 : Int) ≤ (k : Int) := by omega
          have i2 : (k : Int) < (xs.length : Int) := by omega
          go_quiet (first | (go_at_call 56; exact cy.out _))
          clear q1 q2
          have hown : Hid ((wr.drewN nq).ownsRow (w.heap.size + 5 + 1) 3 1 v os.length (os.map iv)) := HA.out.own
          go_wp2_with (at_builtin; refine wpList_append_own _ rfl _ _ 50 rfl (w.heap.size + 5 + 1) 3 i0 (.int .i64 0) 1 8 Try.underlying50 hi hz0 hz1 hz2 rfl (by decide) _ _ _ rfl (hown.out.alloc _) ⟨wr.heap.size, 0, none⟩ 1 1 [.int .i64 ((D : Int) - (E : Int) - (b : Int))] rfl rfl ?e1 ?e2 ?e3 ?e4 ?e5 ?_)
          case e1 => exact cell_one_new _ _ _
          case e2 => intro u hu; rw [List.mem_singleton.1 hu]; rfl
          case e3 => unfold maxLen; omega
          case e4 => omega
          case e5 => simp; omega
          intro v' w1 hown1 hg1 hnil
          rw [HDD.out] at hown1
          obtain ⟨hm1, hA1, hk1⟩ := plusAt_step HA.out hown1 hg1
          have d1 := cell_of_row _ _ 1 _ _ _ hm1
          have e1 := frozen_of_row _ _ 1 _ _ hm1
          simp at d1
          have HA1 := Lib.hid hA1
          have HBX1 := Lib.hid ((hk1 (w.heap.size + 4) (by omega) (by omega)).trans HBX.out)
          have HBY1 := Lib.hid ((hk1 (w.heap.size + 5) (by omega) (by omega)).trans HBY.out)
          obtain ⟨g', cap', rfl⟩ := own_form hown1 (by omega)
          clear hA1 hown1 hg1 hnil hm1 hk1
          go_wp2_with fail
          go_roundw
          case rel => exact ⟨k + 1, 0, _, os ++ [D - E - b], by go_num, by go_num, by omega, HST.out, HA1.out, HBX1.out, HBY1.out⟩
          case measure => simp [intOf]; omega
      · obtain rfl : k = xs.length := by omega
        have tk : decide ((xs.length : Int) < (xs.length : Int)) = false := decide_eq_false (by omega)
        have HV := Lib.hid (subInv_end xs ys os b HLE.out hinv)
        have HOK := Lib.hid hinv.2.1
        obtain ⟨rx, ry, hres⟩ := hA.res
        have r0 := cell_of_row _ _ 0 _ _ _ hres
        have r1 := cell_of_row _ _ 1 _ _ _ hres
        have g0 := frozen_of_row _ _ 0 _ _ hres
        have g1 := frozen_of_row _ _ 1 _ _ hres
        simp at r0 r1
        have HRES := Lib.hid hres
        obtain ⟨av, cv, hv, hcv, hgv⟩ := dg_of_own hA.own
        clear hgv hA hinv hres hend hk hbx hby hdx
        subst hv
        have hO1 := ownsRow_setCell_below HA.out.own (a := ⟨w.heap.size + 3, 0, none⟩) (by simp <;> omega) (.int .i64 sa)
        have hcut := Lib.hid (cut_any av cv os _ (dg_of_own hO1) (by omega))
        have HO1 := Lib.hid hO1
        clear hO1
        go_wp2_with fail
        refine hcut.out.mono ?_
        rintro e x2 ⟨n, rfl, hn, hvn, rfl⟩
        have HVN := Lib.hid hvn
        clear hvn
        by_cases hn0 : n = 0
        · have tz : ((n : Int) == 0) = true := beq_iff_eq.2 (by omega)
          have HN0 := Lib.hid hn0
          clear hn0
          have hO2 := ownsRow_setCell_below (ownsRow_setCell_below (ownsRow_setCell_below (ownsRow_setCell_below HO1.out (a := ⟨w.heap.size + 3, 1, none⟩) (by simp <;> omega) (.slice av n cv)) (a := ⟨w.heap.size + 3, 0, none⟩) (by simp <;> omega) (.int .i64 0)) (a := ⟨w.heap.size + 2, 0, none⟩) (by simp <;> omega) (.int .i64 0)) (a := ⟨w.heap.size + 2, 1, none⟩) (by simp <;> omega) (.slice av n cv)
          have hres1 := (heap_setCell_other wr ⟨w.heap.size + 3, 0, none⟩ (w.heap.size + 2) (.int .i64 sa) (by simp)).trans HRES.out
          have hres2 := (heap_setCell_other _ ⟨w.heap.size + 3, 1, none⟩ (w.heap.size + 2) (.slice av n cv) (by simp)).trans hres1
          have hres3 := (heap_setCell_other _ ⟨w.heap.size + 3, 0, none⟩ (w.heap.size + 2) (.int .i64 0) (by simp)).trans hres2
          have hfin := two_set (p := .int .i64 0) (q := .slice av n cv) hres3
          have q0 := cell_of_row _ _ 0 _ _ _ hfin
          have q1 := cell_of_row _ _ 1 _ _ _ hfin
          simp at q0 q1
          have HQ0 := Lib.hid q0
          have HQ1 := Lib.hid q1
          have HD2 := Lib.hid ((dg_of_own hO2).take n hn)
          have hBb := ((((HA.out.below.setCell (p := ⟨w.heap.size + 3, 0, none⟩) (by simp) (.int .i64 sa)).setCell (p := ⟨w.heap.size + 3, 1, none⟩) (by simp) (.slice av n cv)).setCell (p := ⟨w.heap.size + 3, 0, none⟩) (by simp) (.int .i64 0)).setCell (p := ⟨w.heap.size + 2, 0, none⟩) (by simp) (.int .i64 0)).setCell (p := ⟨w.heap.size + 2, 1, none⟩) (by simp) (.slice av n cv)
          clear hres1 hres2 hres3 hfin q0 q1 hO2
          go_wp2_with fail
          have q0 := HQ0.out
          have q1 := HQ1.out
          refine bodyPost_ret (v := .agg #[.int .i64 0, .slice av n cv]) (by simp [results, Try.results44, go_sem, q0, q1]) rfl ?_
          have hz := diff_a sa sb (val xs) (val ys) (val os) HS.out HLE.out HV.out
          have hv0 : val os = 0 := by rw [← HVN.out, HN0.out]; rfl
          rw [hz, hv0]
          refine ⟨_, rfl, ⟨0, _, os.take n, rfl, Or.inr (Or.inl rfl), HD2.out, HOK.out.take n, ?_, by simp, fun _ => by rw [HVN.out]; exact hv0⟩, hBb⟩
          rw [List.length_take]; have := HI.out.1; omega
        · have tz : ((n : Int) == 0) = false := beq_eq_false_iff_ne.2 (by omega)
          clear hn0
          have hO2 := ownsRow_setCell_below (ownsRow_setCell_below (ownsRow_setCell_below HO1.out (a := ⟨w.heap.size + 3, 1, none⟩) (by simp <;> omega) (.slice av n cv)) (a := ⟨w.heap.size + 2, 0, none⟩) (by simp <;> omega) (.int .i64 sa)) (a := ⟨w.heap.size + 2, 1, none⟩) (by simp <;> omega) (.slice av n cv)
          have hres1 := (heap_setCell_other wr ⟨w.heap.size + 3, 0, none⟩ (w.heap.size + 2) (.int .i64 sa) (by simp)).trans HRES.out
          have hres2 := (heap_setCell_other _ ⟨w.heap.size + 3, 1, none⟩ (w.heap.size + 2) (.slice av n cv) (by simp)).trans hres1
          have hfin := two_set (p := .int .i64 sa) (q := .slice av n cv) hres2
          have q0 := cell_of_row _ _ 0 _ _ _ hfin
          have q1 := cell_of_row _ _ 1 _ _ _ hfin
          simp at q0 q1
          have HQ0 := Lib.hid q0
          have HQ1 := Lib.hid q1
          have HD2 := Lib.hid ((dg_of_own hO2).take n hn)
          have hBb := (((HA.out.below.setCell (p := ⟨w.heap.size + 3, 0, none⟩) (by simp) (.int .i64 sa)).setCell (p := ⟨w.heap.size + 3, 1, none⟩) (by simp) (.slice av n cv)).setCell (p := ⟨w.heap.size + 2, 0, none⟩) (by simp) (.int .i64 sa)).setCell (p := ⟨w.heap.size + 2, 1, none⟩) (by simp) (.slice av n cv)
          clear hres1 hres2 hfin q0 q1 hO2
          go_wp2_with fail
          have q0 := HQ0.out
          have q1 := HQ1.out
          refine bodyPost_ret (v := .agg #[.int .i64 sa, .slice av n cv]) (by simp [results, Try.results44, go_sem, q0, q1]) rfl ?_
          have hz := diff_a sa sb (val xs) (val ys) (val os) HS.out HLE.out HV.out
          rw [hz]
          refine ⟨_, rfl, ⟨sa, _, os.take n, rfl, by have := HS.out; omega, HD2.out, HOK.out.take n, ?_, by rw [HVN.out], fun h => by have := HS.out; omega⟩, hBb⟩
          rw [List.length_take]; have := HI.out.1; omega

theorem slice_of_dg {w : World} {v : Value} {xs : List Nat} (h : Dg w v xs) : ∃ a n c, v = .slice a n c := by
  obtain ⟨a, c, h, _⟩ := h
  exact ⟨a, _, c, h⟩
theorem plus_any (V U : Value) (x y : Int) (L M : Nat) (w : World) (hV : BigAt w V x L) (hU : BigAt w U y M) (hL : L ≤ 400) (hM : M ≤ 400) :
    Calls Try.prog 44 #[V, U] w (BigPost (x + y) (L + M + 1) w) := by
  obtain ⟨sa, va, xs, rfl, hsa, hdx, ox, lx, rfl, hza⟩ := hV
  obtain ⟨sb, vb, ys, rfl, hsb, hdy, oy, ly, rfl, hzb⟩ := hU
  by_cases h1 : sa = 0
  · subst h1
    refine (plus_zero1 sb va vb w (slice_of_dg hdy) (slice_of_dg hdx)).mono ?_
    rintro e w' ⟨rfl, hB⟩
    exact ⟨_, rfl, ⟨sb, vb, ys, rfl, hsb, hdy.below hB, oy, by omega, by simp, hzb⟩, hB⟩
  · by_cases h2 : sb = 0
    · subst h2
      refine (plus_zero2 sa vb va w h1 (slice_of_dg hdx) (slice_of_dg hdy)).mono ?_
      rintro e w' ⟨rfl, hB⟩
      exact ⟨_, rfl, ⟨sa, va, xs, rfl, hsa, hdx.below hB, ox, by omega, by simp, hza⟩, hB⟩
    · by_cases h3 : sa = sb
      · subst h3
        refine (plus_same sa va vb xs ys w (by omega) hdx hdy ox oy (by omega) (by omega)).mono ?_
        rintro e w' ⟨v, zs, rfl, hd, ok, hl, hv, hB⟩
        exact ⟨_, rfl, ⟨sa, v, zs, rfl, hsa, hd, ok, by omega, by rw [hv, ← Int.mul_add]; rfl, fun h => absurd h h1⟩, hB⟩
      · refine (plus_diff sa sb va vb xs ys w (by omega) hdx hdy ox oy (by omega) (by omega)).mono ?_
        rintro e w' ⟨V, rfl, ⟨s, v, zs, h4, h5, h6, h7, h8, h9⟩, hB⟩
        exact ⟨V, rfl, ⟨s, v, zs, h4, h5, h6, h7, by omega, h9⟩, hB⟩
theorem end_big (V : Value) (z : Int) (L : Nat) (w : World) (h : BigAt w V z L) (hL : L ≤ 100000) :
    Calls Try.prog 47 #[V] w fun e w' => e = .returned (.int .i64 (clamp z)) ∧ Below w.heap.size w w' := by
  obtain ⟨s, v, xs, rfl, hs, hd, ok, hl, rfl, h0⟩ := h
  exact end_any s v xs w hs hd ok (by omega)
theorem is_big (V : Value) (z : Int) (L : Nat) (w : World) (h : BigAt w V z L) (hL : L ≤ 100000) :
    Calls Try.prog 46 #[V] w fun e w' => e = .returned (.bool (decide (clamp z = z))) ∧ Below w.heap.size w w' := by
  obtain ⟨s, v, xs, rfl, hs, hd, ok, hl, rfl, h0⟩ := h
  have h := is_any s v xs w hs hd ok (by omega)
  rw [show (!decide (lim s < val xs)) = decide (clamp (s * (val xs : Int)) = s * (val xs : Int)) from ?_] at h
  · exact h
  · have hc := clamp_sign s (val xs) hs
    rw [hc]
    by_cases hb : lim s < val xs
    · rw [if_pos hb, decide_eq_true hb]
      symm
      rw [Bool.not_true]
      refine decide_eq_false ?_
      rcases hs with rfl | rfl | rfl
      · omega
      · have := h0 rfl; omega
      · omega
    · rw [if_neg hb, decide_eq_false hb]; simp
end Go.Proofs.Ytmdnmcbjpjpgjaa
