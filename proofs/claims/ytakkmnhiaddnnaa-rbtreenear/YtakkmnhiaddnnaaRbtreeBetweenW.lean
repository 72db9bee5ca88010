/- The walk of the law RbtreeBetween. -/
import Derived.Test.YtakkmnhiaddnnaaCQ
namespace Go.Proofs.Ytakkmnhiaddnnaa
open Go.RowKit Go.Sort Go.Proofs.Ytakkmnhiaddnnaa.Bo
set_option linter.unusedVariables false
set_option maxRecDepth 100000

theorem getG_some (L : List G5) (k : Int) (h : RowOk L) (hk : Ky k) : (getG L k).2 = true ↔ ∃ g ∈ L, g.key = k := by
  unfold getG
  by_cases hf : findG L k < L.length
  · rw [dif_pos hf]
    exact ⟨fun _ => ⟨_, List.getElem_mem hf, findG_key L k hk hf⟩, fun _ => rfl⟩
  · rw [dif_neg hf]
    constructor
    · intro e; cases e
    · rintro ⟨g, hg, e⟩
      refine absurd ?_ hf
      subst e
      unfold findG
      exact List.findIdx_lt_length_of_exists ⟨g, hg, g.may_is (h.may g hg)⟩
theorem hitB_step (L : List G5) (p : G5 → Bool) (j : Nat) (h : j < L.length) : (L.take (j + 1)).countP p = (L.take j).countP p + (p L[j]).toNat := by
  rw [List.take_succ_eq_append_getElem h, List.countP_append]
  cases hp : p L[j] with
  | true => rw [List.countP_cons_of_pos hp]; rfl
  | false => rw [List.countP_cons_of_neg (by rw [hp]; simp)]; rfl
set_option maxHeartbeats 8000000 in
theorem rbtreeBetween_walk (room : Int) (a : Option Addr) (len cap : Nat) (z : List O6) (s x : Int) (w : World) (wr0 : (Lit.int .i64 room).wf = true) (h : IsOps6 w a len z) (ws : (Lit.int .i64 s).wf = true) (wx : (Lit.int .i64 x).wf = true) :
    Calls Try.prog 9 #[.int .i64 room, .slice a len cap, .agg #[.int .i64 s, .int .i64 x]] w fun e w' => e = .returned (.bool true) ∧ Go.RowKit.Below w.heap.size w w' := by
  have mx := mixed
  have hx : I64 x := i64_of_wf2 wx
  clear wr0 ws wx
  have HAL := Lib.hid ralive_any
  have HKB := Lib.hid (heap_alloc_new w (.cells #[.int .i64 s, .int .i64 x] 31))
  have hB0 := below_new w (.cells #[.int .i64 s, .int .i64 x] 31)
  have HB0 := Lib.hid hB0
  by_cases hgood : ¬ ((0 ≤ room ∧ room ≤ 4096) ∧ len ≤ 200)
  · have HM : Hid (∀ W, Calls Try.prog 18 #[.int .i64 room, .slice a len cap] W fun e w' => e = .returned (.tuple #[.pointer none, .slice none 0 0, .bool false]) ∧ Go.RowKit.Below W.heap.size W w') := fun W => by
      by_cases h1 : 0 ≤ room ∧ room ≤ 4096
      · exact rmade_long room a len cap W h1 (by omega)
      · exact rmade_no room a len cap W h1
    clear hgood h
    go_enter Try.func9, Try.ntmps9
    go_wp2_with fail
    refine (HM.out _).mono ?_
    rintro e y0 ⟨rfl, hb⟩
    have HY := Lib.hid (bt HB0.out hb)
    clear hb
    go_wp2_with fail
    refine (HAL.out _).mono ?_
    rintro e y1 ⟨rfl, hB1⟩
    go_wp2_with fail
    go_ret
    exact ⟨rfl, bt HY.out hB1⟩
  have hgood := Classical.not_not.1 hgood
  have HM := Lib.hid (rmade_any room a len cap z (w.alloc (.cells #[.int .i64 s, .int .i64 x] 31)) ⟨h.1, h.2.1, h.2.2.below hB0⟩ hgood.1 hgood.2)
  have hzl : (gRun room z).length ≤ 200 := by
    have := gRun_len room z z.length (Nat.le_refl _)
    rw [List.take_length] at this
    have := h.1
    omega
  clear hgood h
  generalize gRun room z = L at *
  go_enter Try.func9, Try.ntmps9
  go_wp2_with fail
  refine HM.out.mono ?_
  rintro e y0 ⟨T, A, la, lc, rfl, hm⟩
  obtain ⟨t, tx, S, hr, hino, hroom⟩ := hm.tk.w.r
  replace HKB := Lib.hid (box_on HKB.out hm.be)
  have HBY := Lib.hid (bt HB0.out hm.be)
  have HROW := Lib.hid hm.row
  have hNF := near_four L (key s x) hm.tk.row
  have hGS := getG_some L (key s x) hm.tk.row (key_ky _ _ hx)
  have HFl : Hid (∀ W, Go.RowKit.Below y0.heap.size y0 W → Calls Try.prog 19 #[aP T, .agg #[.int .i64 s, .int .i64 x]] W fun e w' => e = .returned (.tuple #[vG (nearG L (key s x) 0).1, .bool (nearG L (key s x) 0).2]) ∧ Go.RowKit.Below W.heap.size W w') := fun W hW => by
    have := rfloor_any (hr.below hW) s x hx; rw [hino] at this; exact this
  have HHi : Hid (∀ W, Go.RowKit.Below y0.heap.size y0 W → Calls Try.prog 22 #[aP T, .agg #[.int .i64 s, .int .i64 x]] W fun e w' => e = .returned (.tuple #[vG (nearG L (key s x) 3).1, .bool (nearG L (key s x) 3).2]) ∧ Go.RowKit.Below W.heap.size W w') := fun W hW => by
    have := rhigher_any (hr.below hW) s x hx; rw [hino] at this; exact this
  have HLo : Hid (∀ W, Go.RowKit.Below y0.heap.size y0 W → Calls Try.prog 20 #[aP T, .agg #[.int .i64 s, .int .i64 x]] W fun e w' => e = .returned (.tuple #[vG (nearG L (key s x) 1).1, .bool (nearG L (key s x) 1).2]) ∧ Go.RowKit.Below W.heap.size W w') := fun W hW => by
    have := rlower_any (hr.below hW) s x hx; rw [hino] at this; exact this
  have HCe : Hid (∀ W, Go.RowKit.Below y0.heap.size y0 W → Calls Try.prog 21 #[aP T, .agg #[.int .i64 s, .int .i64 x]] W fun e w' => e = .returned (.tuple #[vG (nearG L (key s x) 2).1, .bool (nearG L (key s x) 2).2]) ∧ Go.RowKit.Below W.heap.size W w') := fun W hW => by
    have := rceiling_any (hr.below hW) s x hx; rw [hino] at this; exact this
  have HGe : Hid (∀ W, Go.RowKit.Below y0.heap.size y0 W → Calls Try.prog 24 #[aP T, .agg #[.int .i64 s, .int .i64 x]] W fun e w' => e = .returned (.tuple #[vG (getG L (key s x)).1, .bool (getG L (key s x)).2]) ∧ Go.RowKit.Below W.heap.size W w') := fun W hW => by
    have := rget_any (hr.below hW) s x hx; rw [hino] at this; exact this
  clear hm hr hino hroom HM
  generalize nearG L (key s x) 0 = n0 at *
  generalize nearG L (key s x) 1 = n1 at *
  generalize nearG L (key s x) 2 = n2 at *
  generalize nearG L (key s x) 3 = n3 at *
  generalize getG L (key s x) = ng at *
  obtain ⟨aS, o1⟩ := n0
  obtain ⟨bS, o2⟩ := n3
  obtain ⟨dS, o3⟩ := n1
  obtain ⟨fS, o4⟩ := n2
  obtain ⟨gS, ow⟩ := ng
  dsimp only at *
  have HNF := Lib.hid hNF
  have HGS := Lib.hid hGS
  clear hNF hGS
  have HY := Lib.hid (Go.RowKit.Below.refl y0.heap.size y0)
  obtain ⟨k1, k2, _, _⟩ := two_cells HKB.out
  go_wp2_with fail
  refine (HFl.out _ HY.out).mono ?_
  rintro e y1 ⟨rfl, hb⟩
  have HaS := Lib.hid (heap_alloc_new y1 (oG aS))
  have HBQ := Lib.hid (bt hb (below_new y1 (oG aS)))
  replace HY := Lib.hid (bt HY.out HBQ.out)
  replace HKB := Lib.hid (box_on HKB.out HBQ.out)
  clear k1 k2 hb HBQ HFl
  obtain ⟨k1, k2, _, _⟩ := two_cells HKB.out
  go_wp2_with fail
  refine (HHi.out _ HY.out).mono ?_
  rintro e y2 ⟨rfl, hb⟩
  have HbS := Lib.hid (heap_alloc_new y2 (oG bS))
  have HBQ := Lib.hid (bt hb (below_new y2 (oG bS)))
  replace HaS := Lib.hid (box_on HaS.out HBQ.out)
  replace HY := Lib.hid (bt HY.out HBQ.out)
  replace HKB := Lib.hid (box_on HKB.out HBQ.out)
  clear k1 k2 hb HBQ HHi
  obtain ⟨k1, k2, _, _⟩ := two_cells HKB.out
  go_wp2_with fail
  refine (HLo.out _ HY.out).mono ?_
  rintro e y3 ⟨rfl, hb⟩
  have HdS := Lib.hid (heap_alloc_new y3 (oG dS))
  have HBQ := Lib.hid (bt hb (below_new y3 (oG dS)))
  replace HaS := Lib.hid (box_on HaS.out HBQ.out)
  replace HbS := Lib.hid (box_on HbS.out HBQ.out)
  replace HY := Lib.hid (bt HY.out HBQ.out)
  replace HKB := Lib.hid (box_on HKB.out HBQ.out)
  clear k1 k2 hb HBQ HLo
  obtain ⟨k1, k2, _, _⟩ := two_cells HKB.out
  go_wp2_with fail
  refine (HCe.out _ HY.out).mono ?_
  rintro e y4 ⟨rfl, hb⟩
  have HfS := Lib.hid (heap_alloc_new y4 (oG fS))
  have HBQ := Lib.hid (bt hb (below_new y4 (oG fS)))
  replace HaS := Lib.hid (box_on HaS.out HBQ.out)
  replace HbS := Lib.hid (box_on HbS.out HBQ.out)
  replace HdS := Lib.hid (box_on HdS.out HBQ.out)
  replace HY := Lib.hid (bt HY.out HBQ.out)
  replace HKB := Lib.hid (box_on HKB.out HBQ.out)
  clear k1 k2 hb HBQ HCe
  obtain ⟨k1, k2, _, _⟩ := two_cells HKB.out
  go_wp2_with fail
  refine (HGe.out _ HY.out).mono ?_
  rintro e y5 ⟨rfl, hb⟩
  have HgS := Lib.hid (heap_alloc_new y5 (oG gS))
  have HBQ := Lib.hid (bt hb (below_new y5 (oG gS)))
  replace HaS := Lib.hid (box_on HaS.out HBQ.out)
  replace HbS := Lib.hid (box_on HbS.out HBQ.out)
  replace HdS := Lib.hid (box_on HdS.out HBQ.out)
  replace HfS := Lib.hid (box_on HfS.out HBQ.out)
  replace HY := Lib.hid (bt HY.out HBQ.out)
  replace HKB := Lib.hid (box_on HKB.out HBQ.out)
  clear k1 k2 hb HBQ HGe
  obtain ⟨k1, k2, _, _⟩ := two_cells HKB.out
  clear k1 k2 HKB
  go_upto_region 9 with fail
  generalize y1.heap.size = na at *
  generalize y2.heap.size = nb at *
  generalize y3.heap.size = nd at *
  generalize y4.heap.size = nf at *
  generalize y5.heap.size = ng at *
  generalize y5.alloc (oG gS) = Y at *
  obtain ⟨hn1, hn2, hn3⟩ := HNF.out
  have tt : ∀ (g : G5) (W : World), Sem.run Try.prog (binOp .eql 35 (vG g) (vG g)) W = .ok (.bool true) W := fun g W => by have := eql_seg g g W; rw [g.eqb_self] at this; exact this
  have nt : ∀ (g : G5) (W : World), Sem.run Try.prog (binOp .neq 35 (vG g) (vG g)) W = .ok (.bool false) W := fun g W => by have := neq_seg g g W; rw [g.eqb_self] at this; exact this
  rcases (show ow = true ∨ ow = false from by cases ow <;> simp) with how | how
  · subst how
    obtain ⟨g, hk, e1, e2⟩ := hn1 (HGS.out.1 rfl)
    injection e1 with e1 e3
    injection e2 with e2 e4
    subst e1
    have e5 := e2.symm
    subst e5
    subst e3 e4
    clear hn1 hn2 HGS hk HNF e2
    have t1 := tt aS
    clear tt nt
    cases o2
    · skip
      have HCN : Hid (L.countP (hitB true false aS bS) = 1) := hn3
      clear hn3
      obtain ⟨p1, p2, p3, p4, p5⟩ := five_cells HaS.out
      simp only [Nat.zero_add] at p2 p3 p4 p5
      obtain ⟨u1, u2, u3, u4, u5⟩ := five_cells HfS.out
      simp only [Nat.zero_add] at u2 u3 u4 u5
      go_wp2_with fail
      go_loopw [20, 101] (fun c k wr => ∃ j : Nat, k = .int .i64 (j : Int) ∧ c = .int .i64 (((L.take j).countP (hitB true false aS bS) : Nat) : Int) ∧ j ≤ L.length ∧ Go.RowKit.Below Y.heap.size Y wr) (fun _ k _ => L.length - (intOf k).toNat)
      case atStart => exact ⟨0, rfl, rfl, Nat.zero_le _, Go.RowKit.Below.refl _ _⟩
      case round =>
        obtain ⟨j, rfl, rfl, hj, hBr⟩ := hrel
        clear p1 p2 p3 p4 p5 u1 u2 u3 u4 u5
        by_cases hlt : j < L.length
        · obtain ⟨b, off, rfl, hc⟩ := (HROW.out.below (bt HY.out hBr)) (by omega)
          obtain ⟨c1, c2, c3, c4, c5⟩ := hc j hlt
          have HST := Lib.hid (hitB_step L (hitB true false aS bS) j hlt)
          have hcb : (L.take j).countP (hitB true false aS bS) ≤ j := Nat.le_trans List.countP_le_length (by rw [List.length_take]; omega)
          have ti0 : (0 : Int) ≤ (j : Int) := by omega
          have ti1 : (j : Int) < (L.length : Int) := by omega
          have HAW := Lib.hid (box_on (box_on HaS.out hBr) (below_new wr (oG L[j])))
          have HBW := Lib.hid (box_on (box_on HbS.out hBr) (below_new wr (oG L[j])))
          have HGW := Lib.hid (heap_alloc_new wr (oG L[j]))
          clear hc
          generalize L[j] = g at *
          generalize (L.take j).countP (hitB true false aS bS) = cn at *
          have q1 : IntKind.i64.wrap ((cn : Int) + 1) = (cn : Int) + 1 := IntWalk.i64_in _ (by omega)
          obtain ⟨d1, d2, d3, d4, d5⟩ := five_cells HGW.out
          obtain ⟨e1, e2, e3, e4, e5⟩ := five_cells HAW.out
          obtain ⟨f1, f2, f3, f4, f5⟩ := five_cells HBW.out
          simp only [Nat.zero_add] at d2 d3 d4 d5 e2 e3 e4 e5 f2 f3 f4 f5
          have eA := eql_seg g aS
          have eB := eql_seg g bS
          cases hA : g.eqb aS <;> cases hB : g.eqb bS
          · rw [hA] at eA
            rw [hB] at eB
            have HH : Hid ((hitB true false aS bS g).toNat = 0) := by show _ = _; unfold hitB; rw [hA, hB]; rfl
            clear hA hB
            go_wp2_with fail
            go_roundw
            case rel => exact ⟨j + 1, by go_num, by rw [HST.out, HH.out]; rfl, by omega, bt hBr (below_new wr (oG g))⟩
            case measure => simp [intOf]; omega
          · rw [hA] at eA
            rw [hB] at eB
            have HH : Hid ((hitB true false aS bS g).toNat = 0) := by show _ = _; unfold hitB; rw [hA, hB]; rfl
            clear hA hB
            go_wp2_with fail
            go_roundw
            case rel => exact ⟨j + 1, by go_num, by rw [HST.out, HH.out]; rfl, by omega, bt hBr (below_new wr (oG g))⟩
            case measure => simp [intOf]; omega
          · rw [hA] at eA
            rw [hB] at eB
            have HH : Hid ((hitB true false aS bS g).toNat = 1) := by show _ = _; unfold hitB; rw [hA, hB]; rfl
            clear hA hB
            go_wp2_with fail
            go_roundw
            case rel => exact ⟨j + 1, by go_num, by rw [HST.out, HH.out]; go_num, by omega, bt hBr (below_new wr (oG g))⟩
            case measure => simp [intOf]; omega
          · rw [hA] at eA
            rw [hB] at eB
            have HH : Hid ((hitB true false aS bS g).toNat = 1) := by show _ = _; unfold hitB; rw [hA, hB]; rfl
            clear hA hB
            go_wp2_with fail
            go_roundw
            case rel => exact ⟨j + 1, by go_num, by rw [HST.out, HH.out]; go_num, by omega, bt hBr (below_new wr (oG g))⟩
            case measure => simp [intOf]; omega
        · obtain rfl : j = L.length := by omega
          rw [List.take_length, HCN.out]
          go_wp2_with fail
          refine (HAL.out _).mono ?_
          rintro e y9 ⟨rfl, hB9⟩
          go_wp2_with fail
          go_ret
          exact ⟨rfl, bt HBY.out (bt (bt HY.out hBr) hB9)⟩
    · skip
      have HCN : Hid (L.countP (hitB true true aS bS) = 2) := hn3
      clear hn3
      obtain ⟨p1, p2, p3, p4, p5⟩ := five_cells HaS.out
      simp only [Nat.zero_add] at p2 p3 p4 p5
      obtain ⟨u1, u2, u3, u4, u5⟩ := five_cells HfS.out
      simp only [Nat.zero_add] at u2 u3 u4 u5
      go_wp2_with fail
      go_loopw [20, 101] (fun c k wr => ∃ j : Nat, k = .int .i64 (j : Int) ∧ c = .int .i64 (((L.take j).countP (hitB true true aS bS) : Nat) : Int) ∧ j ≤ L.length ∧ Go.RowKit.Below Y.heap.size Y wr) (fun _ k _ => L.length - (intOf k).toNat)
      case atStart => exact ⟨0, rfl, rfl, Nat.zero_le _, Go.RowKit.Below.refl _ _⟩
      case round =>
        obtain ⟨j, rfl, rfl, hj, hBr⟩ := hrel
        clear p1 p2 p3 p4 p5 u1 u2 u3 u4 u5
        by_cases hlt : j < L.length
        · obtain ⟨b, off, rfl, hc⟩ := (HROW.out.below (bt HY.out hBr)) (by omega)
          obtain ⟨c1, c2, c3, c4, c5⟩ := hc j hlt
          have HST := Lib.hid (hitB_step L (hitB true true aS bS) j hlt)
          have hcb : (L.take j).countP (hitB true true aS bS) ≤ j := Nat.le_trans List.countP_le_length (by rw [List.length_take]; omega)
          have ti0 : (0 : Int) ≤ (j : Int) := by omega
          have ti1 : (j : Int) < (L.length : Int) := by omega
          have HAW := Lib.hid (box_on (box_on HaS.out hBr) (below_new wr (oG L[j])))
          have HBW := Lib.hid (box_on (box_on HbS.out hBr) (below_new wr (oG L[j])))
          have HGW := Lib.hid (heap_alloc_new wr (oG L[j]))
          clear hc
          generalize L[j] = g at *
          generalize (L.take j).countP (hitB true true aS bS) = cn at *
          have q1 : IntKind.i64.wrap ((cn : Int) + 1) = (cn : Int) + 1 := IntWalk.i64_in _ (by omega)
          obtain ⟨d1, d2, d3, d4, d5⟩ := five_cells HGW.out
          obtain ⟨e1, e2, e3, e4, e5⟩ := five_cells HAW.out
          obtain ⟨f1, f2, f3, f4, f5⟩ := five_cells HBW.out
          simp only [Nat.zero_add] at d2 d3 d4 d5 e2 e3 e4 e5 f2 f3 f4 f5
          have eA := eql_seg g aS
          have eB := eql_seg g bS
          cases hA : g.eqb aS <;> cases hB : g.eqb bS
          · rw [hA] at eA
            rw [hB] at eB
            have HH : Hid ((hitB true true aS bS g).toNat = 0) := by show _ = _; unfold hitB; rw [hA, hB]; rfl
            clear hA hB
            go_wp2_with fail
            go_roundw
            case rel => exact ⟨j + 1, by go_num, by rw [HST.out, HH.out]; rfl, by omega, bt hBr (below_new wr (oG g))⟩
            case measure => simp [intOf]; omega
          · rw [hA] at eA
            rw [hB] at eB
            have HH : Hid ((hitB true true aS bS g).toNat = 1) := by show _ = _; unfold hitB; rw [hA, hB]; rfl
            clear hA hB
            go_wp2_with fail
            go_roundw
            case rel => exact ⟨j + 1, by go_num, by rw [HST.out, HH.out]; go_num, by omega, bt hBr (below_new wr (oG g))⟩
            case measure => simp [intOf]; omega
          · rw [hA] at eA
            rw [hB] at eB
            have HH : Hid ((hitB true true aS bS g).toNat = 1) := by show _ = _; unfold hitB; rw [hA, hB]; rfl
            clear hA hB
            go_wp2_with fail
            go_roundw
            case rel => exact ⟨j + 1, by go_num, by rw [HST.out, HH.out]; go_num, by omega, bt hBr (below_new wr (oG g))⟩
            case measure => simp [intOf]; omega
          · rw [hA] at eA
            rw [hB] at eB
            have HH : Hid ((hitB true true aS bS g).toNat = 1) := by show _ = _; unfold hitB; rw [hA, hB]; rfl
            clear hA hB
            go_wp2_with fail
            go_roundw
            case rel => exact ⟨j + 1, by go_num, by rw [HST.out, HH.out]; go_num, by omega, bt hBr (below_new wr (oG g))⟩
            case measure => simp [intOf]; omega
        · obtain rfl : j = L.length := by omega
          rw [List.take_length, HCN.out]
          go_wp2_with fail
          refine (HAL.out _).mono ?_
          rintro e y9 ⟨rfl, hB9⟩
          go_wp2_with fail
          go_ret
          exact ⟨rfl, bt HBY.out (bt (bt HY.out hBr) hB9)⟩
  · subst how
    obtain ⟨e1, e2, he⟩ := hn2 (fun h => by have := HGS.out.2 h; cases this)
    injection e1 with e1 e3
    injection e2 with e2 e4
    subst e1 e2 e3 e4
    clear hn1 hn2 HGS HNF tt
    have t1 := nt aS
    have t2 := nt bS
    have t3 := eql_seg aS bS
    clear nt
    cases o1 <;> cases o2
    · skip
      have HCN : Hid (L.countP (hitB false false aS bS) = 0) := hn3
      clear hn3
      clear he
      obtain ⟨p1, p2, p3, p4, p5⟩ := five_cells HaS.out
      simp only [Nat.zero_add] at p2 p3 p4 p5
      obtain ⟨q1, q2, q3, q4, q5⟩ := five_cells HbS.out
      simp only [Nat.zero_add] at q2 q3 q4 q5
      obtain ⟨r1, r2, r3, r4, r5⟩ := five_cells HdS.out
      simp only [Nat.zero_add] at r2 r3 r4 r5
      obtain ⟨u1, u2, u3, u4, u5⟩ := five_cells HfS.out
      simp only [Nat.zero_add] at u2 u3 u4 u5
      go_wp2_with fail
      go_loopw [20, 101] (fun c k wr => ∃ j : Nat, k = .int .i64 (j : Int) ∧ c = .int .i64 (((L.take j).countP (hitB false false aS bS) : Nat) : Int) ∧ j ≤ L.length ∧ Go.RowKit.Below Y.heap.size Y wr) (fun _ k _ => L.length - (intOf k).toNat)
      case atStart => exact ⟨0, rfl, rfl, Nat.zero_le _, Go.RowKit.Below.refl _ _⟩
      case round =>
        obtain ⟨j, rfl, rfl, hj, hBr⟩ := hrel
        clear p1 p2 p3 p4 p5 q1 q2 q3 q4 q5 r1 r2 r3 r4 r5 u1 u2 u3 u4 u5
        by_cases hlt : j < L.length
        · obtain ⟨b, off, rfl, hc⟩ := (HROW.out.below (bt HY.out hBr)) (by omega)
          obtain ⟨c1, c2, c3, c4, c5⟩ := hc j hlt
          have HST := Lib.hid (hitB_step L (hitB false false aS bS) j hlt)
          have hcb : (L.take j).countP (hitB false false aS bS) ≤ j := Nat.le_trans List.countP_le_length (by rw [List.length_take]; omega)
          have ti0 : (0 : Int) ≤ (j : Int) := by omega
          have ti1 : (j : Int) < (L.length : Int) := by omega
          have HAW := Lib.hid (box_on (box_on HaS.out hBr) (below_new wr (oG L[j])))
          have HBW := Lib.hid (box_on (box_on HbS.out hBr) (below_new wr (oG L[j])))
          have HGW := Lib.hid (heap_alloc_new wr (oG L[j]))
          clear hc
          generalize L[j] = g at *
          generalize (L.take j).countP (hitB false false aS bS) = cn at *
          have q1 : IntKind.i64.wrap ((cn : Int) + 1) = (cn : Int) + 1 := IntWalk.i64_in _ (by omega)
          obtain ⟨d1, d2, d3, d4, d5⟩ := five_cells HGW.out
          obtain ⟨e1, e2, e3, e4, e5⟩ := five_cells HAW.out
          obtain ⟨f1, f2, f3, f4, f5⟩ := five_cells HBW.out
          simp only [Nat.zero_add] at d2 d3 d4 d5 e2 e3 e4 e5 f2 f3 f4 f5
          have eA := eql_seg g aS
          have eB := eql_seg g bS
          cases hA : g.eqb aS <;> cases hB : g.eqb bS
          · rw [hA] at eA
            rw [hB] at eB
            have HH : Hid ((hitB false false aS bS g).toNat = 0) := by show _ = _; unfold hitB; rw [hA, hB]; rfl
            clear hA hB
            go_wp2_with fail
            go_roundw
            case rel => exact ⟨j + 1, by go_num, by rw [HST.out, HH.out]; rfl, by omega, bt hBr (below_new wr (oG g))⟩
            case measure => simp [intOf]; omega
          · rw [hA] at eA
            rw [hB] at eB
            have HH : Hid ((hitB false false aS bS g).toNat = 0) := by show _ = _; unfold hitB; rw [hA, hB]; rfl
            clear hA hB
            go_wp2_with fail
            go_roundw
            case rel => exact ⟨j + 1, by go_num, by rw [HST.out, HH.out]; rfl, by omega, bt hBr (below_new wr (oG g))⟩
            case measure => simp [intOf]; omega
          · rw [hA] at eA
            rw [hB] at eB
            have HH : Hid ((hitB false false aS bS g).toNat = 0) := by show _ = _; unfold hitB; rw [hA, hB]; rfl
            clear hA hB
            go_wp2_with fail
            go_roundw
            case rel => exact ⟨j + 1, by go_num, by rw [HST.out, HH.out]; rfl, by omega, bt hBr (below_new wr (oG g))⟩
            case measure => simp [intOf]; omega
          · rw [hA] at eA
            rw [hB] at eB
            have HH : Hid ((hitB false false aS bS g).toNat = 0) := by show _ = _; unfold hitB; rw [hA, hB]; rfl
            clear hA hB
            go_wp2_with fail
            go_roundw
            case rel => exact ⟨j + 1, by go_num, by rw [HST.out, HH.out]; rfl, by omega, bt hBr (below_new wr (oG g))⟩
            case measure => simp [intOf]; omega
        · obtain rfl : j = L.length := by omega
          rw [List.take_length, HCN.out]
          go_wp2_with fail
          refine (HAL.out _).mono ?_
          rintro e y9 ⟨rfl, hB9⟩
          go_wp2_with fail
          go_ret
          exact ⟨rfl, bt HBY.out (bt (bt HY.out hBr) hB9)⟩
    · skip
      have HCN : Hid (L.countP (hitB false true aS bS) = 1) := hn3
      clear hn3
      clear he
      obtain ⟨p1, p2, p3, p4, p5⟩ := five_cells HaS.out
      simp only [Nat.zero_add] at p2 p3 p4 p5
      obtain ⟨q1, q2, q3, q4, q5⟩ := five_cells HbS.out
      simp only [Nat.zero_add] at q2 q3 q4 q5
      obtain ⟨r1, r2, r3, r4, r5⟩ := five_cells HdS.out
      simp only [Nat.zero_add] at r2 r3 r4 r5
      obtain ⟨u1, u2, u3, u4, u5⟩ := five_cells HfS.out
      simp only [Nat.zero_add] at u2 u3 u4 u5
      go_wp2_with fail
      go_loopw [20, 101] (fun c k wr => ∃ j : Nat, k = .int .i64 (j : Int) ∧ c = .int .i64 (((L.take j).countP (hitB false true aS bS) : Nat) : Int) ∧ j ≤ L.length ∧ Go.RowKit.Below Y.heap.size Y wr) (fun _ k _ => L.length - (intOf k).toNat)
      case atStart => exact ⟨0, rfl, rfl, Nat.zero_le _, Go.RowKit.Below.refl _ _⟩
      case round =>
        obtain ⟨j, rfl, rfl, hj, hBr⟩ := hrel
        clear p1 p2 p3 p4 p5 q1 q2 q3 q4 q5 r1 r2 r3 r4 r5 u1 u2 u3 u4 u5
        by_cases hlt : j < L.length
        · obtain ⟨b, off, rfl, hc⟩ := (HROW.out.below (bt HY.out hBr)) (by omega)
          obtain ⟨c1, c2, c3, c4, c5⟩ := hc j hlt
          have HST := Lib.hid (hitB_step L (hitB false true aS bS) j hlt)
          have hcb : (L.take j).countP (hitB false true aS bS) ≤ j := Nat.le_trans List.countP_le_length (by rw [List.length_take]; omega)
          have ti0 : (0 : Int) ≤ (j : Int) := by omega
          have ti1 : (j : Int) < (L.length : Int) := by omega
          have HAW := Lib.hid (box_on (box_on HaS.out hBr) (below_new wr (oG L[j])))
          have HBW := Lib.hid (box_on (box_on HbS.out hBr) (below_new wr (oG L[j])))
          have HGW := Lib.hid (heap_alloc_new wr (oG L[j]))
          clear hc
          generalize L[j] = g at *
          generalize (L.take j).countP (hitB false true aS bS) = cn at *
          have q1 : IntKind.i64.wrap ((cn : Int) + 1) = (cn : Int) + 1 := IntWalk.i64_in _ (by omega)
          obtain ⟨d1, d2, d3, d4, d5⟩ := five_cells HGW.out
          obtain ⟨e1, e2, e3, e4, e5⟩ := five_cells HAW.out
          obtain ⟨f1, f2, f3, f4, f5⟩ := five_cells HBW.out
          simp only [Nat.zero_add] at d2 d3 d4 d5 e2 e3 e4 e5 f2 f3 f4 f5
          have eA := eql_seg g aS
          have eB := eql_seg g bS
          cases hA : g.eqb aS <;> cases hB : g.eqb bS
          · rw [hA] at eA
            rw [hB] at eB
            have HH : Hid ((hitB false true aS bS g).toNat = 0) := by show _ = _; unfold hitB; rw [hA, hB]; rfl
            clear hA hB
            go_wp2_with fail
            go_roundw
            case rel => exact ⟨j + 1, by go_num, by rw [HST.out, HH.out]; rfl, by omega, bt hBr (below_new wr (oG g))⟩
            case measure => simp [intOf]; omega
          · rw [hA] at eA
            rw [hB] at eB
            have HH : Hid ((hitB false true aS bS g).toNat = 1) := by show _ = _; unfold hitB; rw [hA, hB]; rfl
            clear hA hB
            go_wp2_with fail
            go_roundw
            case rel => exact ⟨j + 1, by go_num, by rw [HST.out, HH.out]; go_num, by omega, bt hBr (below_new wr (oG g))⟩
            case measure => simp [intOf]; omega
          · rw [hA] at eA
            rw [hB] at eB
            have HH : Hid ((hitB false true aS bS g).toNat = 0) := by show _ = _; unfold hitB; rw [hA, hB]; rfl
            clear hA hB
            go_wp2_with fail
            go_roundw
            case rel => exact ⟨j + 1, by go_num, by rw [HST.out, HH.out]; rfl, by omega, bt hBr (below_new wr (oG g))⟩
            case measure => simp [intOf]; omega
          · rw [hA] at eA
            rw [hB] at eB
            have HH : Hid ((hitB false true aS bS g).toNat = 1) := by show _ = _; unfold hitB; rw [hA, hB]; rfl
            clear hA hB
            go_wp2_with fail
            go_roundw
            case rel => exact ⟨j + 1, by go_num, by rw [HST.out, HH.out]; go_num, by omega, bt hBr (below_new wr (oG g))⟩
            case measure => simp [intOf]; omega
        · obtain rfl : j = L.length := by omega
          rw [List.take_length, HCN.out]
          go_wp2_with fail
          refine (HAL.out _).mono ?_
          rintro e y9 ⟨rfl, hB9⟩
          go_wp2_with fail
          go_ret
          exact ⟨rfl, bt HBY.out (bt (bt HY.out hBr) hB9)⟩
    · skip
      have HCN : Hid (L.countP (hitB true false aS bS) = 1) := hn3
      clear hn3
      clear he
      obtain ⟨p1, p2, p3, p4, p5⟩ := five_cells HaS.out
      simp only [Nat.zero_add] at p2 p3 p4 p5
      obtain ⟨q1, q2, q3, q4, q5⟩ := five_cells HbS.out
      simp only [Nat.zero_add] at q2 q3 q4 q5
      obtain ⟨r1, r2, r3, r4, r5⟩ := five_cells HdS.out
      simp only [Nat.zero_add] at r2 r3 r4 r5
      obtain ⟨u1, u2, u3, u4, u5⟩ := five_cells HfS.out
      simp only [Nat.zero_add] at u2 u3 u4 u5
      go_wp2_with fail
      go_loopw [20, 101] (fun c k wr => ∃ j : Nat, k = .int .i64 (j : Int) ∧ c = .int .i64 (((L.take j).countP (hitB true false aS bS) : Nat) : Int) ∧ j ≤ L.length ∧ Go.RowKit.Below Y.heap.size Y wr) (fun _ k _ => L.length - (intOf k).toNat)
      case atStart => exact ⟨0, rfl, rfl, Nat.zero_le _, Go.RowKit.Below.refl _ _⟩
      case round =>
        obtain ⟨j, rfl, rfl, hj, hBr⟩ := hrel
        clear p1 p2 p3 p4 p5 q1 q2 q3 q4 q5 r1 r2 r3 r4 r5 u1 u2 u3 u4 u5
        by_cases hlt : j < L.length
        · obtain ⟨b, off, rfl, hc⟩ := (HROW.out.below (bt HY.out hBr)) (by omega)
          obtain ⟨c1, c2, c3, c4, c5⟩ := hc j hlt
          have HST := Lib.hid (hitB_step L (hitB true false aS bS) j hlt)
          have hcb : (L.take j).countP (hitB true false aS bS) ≤ j := Nat.le_trans List.countP_le_length (by rw [List.length_take]; omega)
          have ti0 : (0 : Int) ≤ (j : Int) := by omega
          have ti1 : (j : Int) < (L.length : Int) := by omega
          have HAW := Lib.hid (box_on (box_on HaS.out hBr) (below_new wr (oG L[j])))
          have HBW := Lib.hid (box_on (box_on HbS.out hBr) (below_new wr (oG L[j])))
          have HGW := Lib.hid (heap_alloc_new wr (oG L[j]))
          clear hc
          generalize L[j] = g at *
          generalize (L.take j).countP (hitB true false aS bS) = cn at *
          have q1 : IntKind.i64.wrap ((cn : Int) + 1) = (cn : Int) + 1 := IntWalk.i64_in _ (by omega)
          obtain ⟨d1, d2, d3, d4, d5⟩ := five_cells HGW.out
          obtain ⟨e1, e2, e3, e4, e5⟩ := five_cells HAW.out
          obtain ⟨f1, f2, f3, f4, f5⟩ := five_cells HBW.out
          simp only [Nat.zero_add] at d2 d3 d4 d5 e2 e3 e4 e5 f2 f3 f4 f5
          have eA := eql_seg g aS
          have eB := eql_seg g bS
          cases hA : g.eqb aS <;> cases hB : g.eqb bS
          · rw [hA] at eA
            rw [hB] at eB
            have HH : Hid ((hitB true false aS bS g).toNat = 0) := by show _ = _; unfold hitB; rw [hA, hB]; rfl
            clear hA hB
            go_wp2_with fail
            go_roundw
            case rel => exact ⟨j + 1, by go_num, by rw [HST.out, HH.out]; rfl, by omega, bt hBr (below_new wr (oG g))⟩
            case measure => simp [intOf]; omega
          · rw [hA] at eA
            rw [hB] at eB
            have HH : Hid ((hitB true false aS bS g).toNat = 0) := by show _ = _; unfold hitB; rw [hA, hB]; rfl
            clear hA hB
            go_wp2_with fail
            go_roundw
            case rel => exact ⟨j + 1, by go_num, by rw [HST.out, HH.out]; rfl, by omega, bt hBr (below_new wr (oG g))⟩
            case measure => simp [intOf]; omega
          · rw [hA] at eA
            rw [hB] at eB
            have HH : Hid ((hitB true false aS bS g).toNat = 1) := by show _ = _; unfold hitB; rw [hA, hB]; rfl
            clear hA hB
            go_wp2_with fail
            go_roundw
            case rel => exact ⟨j + 1, by go_num, by rw [HST.out, HH.out]; go_num, by omega, bt hBr (below_new wr (oG g))⟩
            case measure => simp [intOf]; omega
          · rw [hA] at eA
            rw [hB] at eB
            have HH : Hid ((hitB true false aS bS g).toNat = 1) := by show _ = _; unfold hitB; rw [hA, hB]; rfl
            clear hA hB
            go_wp2_with fail
            go_roundw
            case rel => exact ⟨j + 1, by go_num, by rw [HST.out, HH.out]; go_num, by omega, bt hBr (below_new wr (oG g))⟩
            case measure => simp [intOf]; omega
        · obtain rfl : j = L.length := by omega
          rw [List.take_length, HCN.out]
          go_wp2_with fail
          refine (HAL.out _).mono ?_
          rintro e y9 ⟨rfl, hB9⟩
          go_wp2_with fail
          go_ret
          exact ⟨rfl, bt HBY.out (bt (bt HY.out hBr) hB9)⟩
    · skip
      have HCN : Hid (L.countP (hitB true true aS bS) = 2) := hn3
      clear hn3
      rw [he rfl rfl] at t3
      clear he
      obtain ⟨p1, p2, p3, p4, p5⟩ := five_cells HaS.out
      simp only [Nat.zero_add] at p2 p3 p4 p5
      obtain ⟨q1, q2, q3, q4, q5⟩ := five_cells HbS.out
      simp only [Nat.zero_add] at q2 q3 q4 q5
      obtain ⟨r1, r2, r3, r4, r5⟩ := five_cells HdS.out
      simp only [Nat.zero_add] at r2 r3 r4 r5
      obtain ⟨u1, u2, u3, u4, u5⟩ := five_cells HfS.out
      simp only [Nat.zero_add] at u2 u3 u4 u5
      go_wp2_with fail
      go_loopw [20, 101] (fun c k wr => ∃ j : Nat, k = .int .i64 (j : Int) ∧ c = .int .i64 (((L.take j).countP (hitB true true aS bS) : Nat) : Int) ∧ j ≤ L.length ∧ Go.RowKit.Below Y.heap.size Y wr) (fun _ k _ => L.length - (intOf k).toNat)
      case atStart => exact ⟨0, rfl, rfl, Nat.zero_le _, Go.RowKit.Below.refl _ _⟩
      case round =>
        obtain ⟨j, rfl, rfl, hj, hBr⟩ := hrel
        clear p1 p2 p3 p4 p5 q1 q2 q3 q4 q5 r1 r2 r3 r4 r5 u1 u2 u3 u4 u5
        by_cases hlt : j < L.length
        · obtain ⟨b, off, rfl, hc⟩ := (HROW.out.below (bt HY.out hBr)) (by omega)
          obtain ⟨c1, c2, c3, c4, c5⟩ := hc j hlt
          have HST := Lib.hid (hitB_step L (hitB true true aS bS) j hlt)
          have hcb : (L.take j).countP (hitB true true aS bS) ≤ j := Nat.le_trans List.countP_le_length (by rw [List.length_take]; omega)
          have ti0 : (0 : Int) ≤ (j : Int) := by omega
          have ti1 : (j : Int) < (L.length : Int) := by omega
          have HAW := Lib.hid (box_on (box_on HaS.out hBr) (below_new wr (oG L[j])))
          have HBW := Lib.hid (box_on (box_on HbS.out hBr) (below_new wr (oG L[j])))
          have HGW := Lib.hid (heap_alloc_new wr (oG L[j]))
          clear hc
          generalize L[j] = g at *
          generalize (L.take j).countP (hitB true true aS bS) = cn at *
          have q1 : IntKind.i64.wrap ((cn : Int) + 1) = (cn : Int) + 1 := IntWalk.i64_in _ (by omega)
          obtain ⟨d1, d2, d3, d4, d5⟩ := five_cells HGW.out
          obtain ⟨e1, e2, e3, e4, e5⟩ := five_cells HAW.out
          obtain ⟨f1, f2, f3, f4, f5⟩ := five_cells HBW.out
          simp only [Nat.zero_add] at d2 d3 d4 d5 e2 e3 e4 e5 f2 f3 f4 f5
          have eA := eql_seg g aS
          have eB := eql_seg g bS
          cases hA : g.eqb aS <;> cases hB : g.eqb bS
          · rw [hA] at eA
            rw [hB] at eB
            have HH : Hid ((hitB true true aS bS g).toNat = 0) := by show _ = _; unfold hitB; rw [hA, hB]; rfl
            clear hA hB
            go_wp2_with fail
            go_roundw
            case rel => exact ⟨j + 1, by go_num, by rw [HST.out, HH.out]; rfl, by omega, bt hBr (below_new wr (oG g))⟩
            case measure => simp [intOf]; omega
          · rw [hA] at eA
            rw [hB] at eB
            have HH : Hid ((hitB true true aS bS g).toNat = 1) := by show _ = _; unfold hitB; rw [hA, hB]; rfl
            clear hA hB
            go_wp2_with fail
            go_roundw
            case rel => exact ⟨j + 1, by go_num, by rw [HST.out, HH.out]; go_num, by omega, bt hBr (below_new wr (oG g))⟩
            case measure => simp [intOf]; omega
          · rw [hA] at eA
            rw [hB] at eB
            have HH : Hid ((hitB true true aS bS g).toNat = 1) := by show _ = _; unfold hitB; rw [hA, hB]; rfl
            clear hA hB
            go_wp2_with fail
            go_roundw
            case rel => exact ⟨j + 1, by go_num, by rw [HST.out, HH.out]; go_num, by omega, bt hBr (below_new wr (oG g))⟩
            case measure => simp [intOf]; omega
          · rw [hA] at eA
            rw [hB] at eB
            have HH : Hid ((hitB true true aS bS g).toNat = 1) := by show _ = _; unfold hitB; rw [hA, hB]; rfl
            clear hA hB
            go_wp2_with fail
            go_roundw
            case rel => exact ⟨j + 1, by go_num, by rw [HST.out, HH.out]; go_num, by omega, bt hBr (below_new wr (oG g))⟩
            case measure => simp [intOf]; omega
        · obtain rfl : j = L.length := by omega
          rw [List.take_length, HCN.out]
          go_wp2_with fail
          refine (HAL.out _).mono ?_
          rintro e y9 ⟨rfl, hB9⟩
          go_wp2_with fail
          go_ret
          exact ⟨rfl, bt HBY.out (bt (bt HY.out hBr) hB9)⟩
end Go.Proofs.Ytakkmnhiaddnnaa
