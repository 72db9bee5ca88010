/- The walk of the law BtreeNear. -/
import Derived.Test.YtjgcdmeojjnjlaaCQ
namespace Go.Proofs.Ytjgcdmeojjnjlaa
open Go.RowKit Go.Sort Go.Proofs.Ytjgcdmeojjnjlaa.Bo Go.Proofs.Ytjgcdmeojjnjlaa.Bb
set_option linter.unusedVariables false
set_option maxRecDepth 100000

theorem bnear_ends (L : List G5) (hok : ∀ g ∈ L, g.ok) : nearG L (key (-1) 0) 2 = opt L.head? ∧ nearG L (key 1 0) 0 = opt L.getLast? := by
  have hk : ∀ g ∈ L, -9223372036854775808 ≤ g.key ∧ g.key ≤ 9223372036854775808 := fun g hg => g.ky (hok g hg)
  have f1 : L.filter (fun g => decide (key (-1) 0 ≤ g.key)) = L := List.filter_eq_self.2 (fun g hg => by have := (hk g hg).1; show decide ((-9223372036854775808 : Int) ≤ g.key) = true; exact decide_eq_true this)
  have f2 : L.filter (fun g => decide (g.key ≤ key 1 0)) = L := List.filter_eq_self.2 (fun g hg => by have := (hk g hg).2; show decide (g.key ≤ (9223372036854775808 : Int)) = true; exact decide_eq_true this)
  rw [near2, near0, f1, f2]
  exact ⟨rfl, rfl⟩
/-- The block of the four questions. -/
abbrev oFB4 (T : Nat) : Obj := .cells #[.func (.func 23) #[aP T] #[], .func (.func 24) #[aP T] #[], .func (.func 25) #[aP T] #[], .func (.func 26) #[aP T] #[]] 51
set_option maxHeartbeats 8000000 in
theorem btreeNear_walk (dg room : Int) (a : Option Addr) (len cap : Nat) (z : List O6) (s x : Int) (w : World) (h : IsOps6 w a len z) (ws : (Lit.int .i64 s).wf = true) (wx : (Lit.int .i64 x).wf = true) :
    Calls Try.prog 4 #[seV dg room, .slice a len cap, .agg #[.int .i64 s, .int .i64 x]] w fun e w' => e = .returned (.bool true) ∧ Go.RowKit.Below w.heap.size w w' := by
  have mx := mixed
  have hx : I64 x := i64_of_wf2 wx
  clear ws wx
  have HAL := Lib.hid balive_any
  have HSE : Hid (((w.alloc (seO dg room)).alloc (.cells #[.int .i64 s, .int .i64 x] 34)).heap[w.heap.size]? = some (seO dg room)) := box_on (heap_alloc_new w _) (below_new _ _)
  have HKB : Hid (((w.alloc (seO dg room)).alloc (.cells #[.int .i64 s, .int .i64 x] 34)).heap[w.heap.size + 1]? = some (.cells #[.int .i64 s, .int .i64 x] 34)) := new_at' _ (by simp)
  have HB0 : Hid (Go.RowKit.Below w.heap.size w ((w.alloc (seO dg room)).alloc (.cells #[.int .i64 s, .int .i64 x] 34))) := bt (below_new w (seO dg room)) (below_new _ _)
  obtain ⟨se1, se2⟩ := seO_cells HSE.out
  by_cases hgood : ¬ (((2 ≤ dg ∧ dg ≤ 64) ∧ 0 ≤ room ∧ room ≤ 4096) ∧ len ≤ 200)
  · have HM : Hid (∀ W, Calls Try.prog 22 #[seV dg room, .slice a len cap] W fun e w' => e = .returned (.tuple #[.pointer none, .slice none 0 0, .bool false]) ∧ Go.RowKit.Below W.heap.size W w') := fun W => by
      by_cases h1 : (2 ≤ dg ∧ dg ≤ 64) ∧ 0 ≤ room ∧ room ≤ 4096
      · obtain ⟨d, rfl⟩ : ∃ d : Nat, dg = (d : Int) := ⟨dg.toNat, by omega⟩
        exact bmade_long d room a len cap W ⟨by omega, by omega⟩ h1.2 (by omega)
      · exact bmade_no dg room a len cap W h1
    clear hgood h
    go_enter Try.func4, Try.ntmps4
    go_wp2_with fail
    refine (HM.out _).mono ?_
    rintro e y0 ⟨rfl, hb⟩
    have HY := Lib.hid (bt HB0.out hb)
    clear hb se1 se2
    go_wp2_with fail
    refine (HAL.out _).mono ?_
    rintro e y1 ⟨rfl, hB1⟩
    go_wp2_with fail
    go_ret
    exact ⟨rfl, bt HY.out hB1⟩
  have hgood := Classical.not_not.1 hgood
  obtain ⟨d, rfl⟩ : ∃ d : Nat, dg = (d : Int) := ⟨dg.toNat, by omega⟩
  have HM := Lib.hid (bmade_any d room a len cap z ((w.alloc (seO (d : Int) room)).alloc (.cells #[.int .i64 s, .int .i64 x] 34)) ⟨h.1, h.2.1, h.2.2.below HB0.out⟩ ⟨by omega, by omega⟩ hgood.1.2 hgood.2)
  have hzl : (gRunB room z).length ≤ 200 := by
    have := gRunB_len room z z.length (Nat.le_refl _)
    rw [List.take_length] at this
    have := h.1
    omega
  clear hgood h
  generalize gRunB room z = L at *
  go_enter Try.func4, Try.ntmps4
  go_wp2_with fail
  refine HM.out.mono ?_
  rintro e y0 ⟨T, A, la, lc, rfl, hm⟩
  clear se1 se2
  replace HKB := Lib.hid (box_on HKB.out hm.be)
  have HBY := Lib.hid (bt HB0.out hm.be)
  have HROW := Lib.hid hm.row
  have hEN := bnear_ends L hm.tk.ok
  have HFl : Hid (∀ W, Go.RowKit.Below y0.heap.size y0 W → Calls Try.prog 23 #[aP T, .agg #[.int .i64 s, .int .i64 x]] W fun e w' => e = .returned (.tuple #[vG (nearG L (key s x) 0).1, .bool (nearG L (key s x) 0).2]) ∧ Go.RowKit.Below W.heap.size W w') := fun W hW => by
    exact (hm.tk.on hW).floor s x hx
  have HHi : Hid (∀ W, Go.RowKit.Below y0.heap.size y0 W → Calls Try.prog 26 #[aP T, .agg #[.int .i64 s, .int .i64 x]] W fun e w' => e = .returned (.tuple #[vG (nearG L (key s x) 3).1, .bool (nearG L (key s x) 3).2]) ∧ Go.RowKit.Below W.heap.size W w') := fun W hW => by
    exact (hm.tk.on hW).higher s x hx
  have HLo : Hid (∀ W, Go.RowKit.Below y0.heap.size y0 W → Calls Try.prog 24 #[aP T, .agg #[.int .i64 s, .int .i64 x]] W fun e w' => e = .returned (.tuple #[vG (nearG L (key s x) 1).1, .bool (nearG L (key s x) 1).2]) ∧ Go.RowKit.Below W.heap.size W w') := fun W hW => by
    exact (hm.tk.on hW).lower s x hx
  have HCe : Hid (∀ W, Go.RowKit.Below y0.heap.size y0 W → Calls Try.prog 25 #[aP T, .agg #[.int .i64 s, .int .i64 x]] W fun e w' => e = .returned (.tuple #[vG (nearG L (key s x) 2).1, .bool (nearG L (key s x) 2).2]) ∧ Go.RowKit.Below W.heap.size W w') := fun W hW => by
    exact (hm.tk.on hW).ceil s x hx
  have HGe : Hid (∀ W, Go.RowKit.Below y0.heap.size y0 W → Calls Try.prog 28 #[aP T, .agg #[.int .i64 s, .int .i64 x]] W fun e w' => e = .returned (.tuple #[vG (getG L (key s x)).1, .bool (getG L (key s x)).2]) ∧ Go.RowKit.Below W.heap.size W w') := fun W hW => by
    exact (hm.tk.on hW).get s x hx
  have HFi : Hid (∀ W, Go.RowKit.Below y0.heap.size y0 W → Calls Try.prog 30 #[aP T] W fun e w' => e = .returned (.tuple #[vG (opt L.head?).1, .bool (opt L.head?).2]) ∧ Go.RowKit.Below W.heap.size W w') := fun W hW => by
    have := (hm.tk.on hW).first; rw [hEN.1] at this; exact this
  have HLa : Hid (∀ W, Go.RowKit.Below y0.heap.size y0 W → Calls Try.prog 31 #[aP T] W fun e w' => e = .returned (.tuple #[vG (opt L.getLast?).1, .bool (opt L.getLast?).2]) ∧ Go.RowKit.Below W.heap.size W w') := fun W hW => by
    have := (hm.tk.on hW).last; rw [hEN.2] at this; exact this
  have HNE : Hid (∀ (k : Int) W, Go.RowKit.Below y0.heap.size y0 W → Calls Try.prog 27 #[.slice la L.length lc, .agg #[.int .i64 s, .int .i64 x], .int .i64 k] W fun e w' => e = .returned (.tuple #[vG (nearG L (key s x) k).1, .bool (nearG L (key s x) k).2]) ∧ Go.RowKit.Below W.heap.size W w') := fun k W hW => rnear_any la lc L s x k W hx hm.tk.ok (HROW.out.below hW) (by omega)
  have HFD : Hid (∀ W, Go.RowKit.Below y0.heap.size y0 W → Calls Try.prog 29 #[.slice la L.length lc, .agg #[.int .i64 s, .int .i64 x]] W fun e w' => e = .returned (.int .i64 (findV L (key s x))) ∧ Go.RowKit.Below W.heap.size W w') := fun W hW => rfind_any la lc L s x W hx (HROW.out.below hW) (by omega)
  clear hm HM hEN hx
  generalize key s x = kk at *
  have HF4 := Lib.hid (heap_alloc_new y0 (oFB4 T))
  have HB4 := Lib.hid (below_new y0 (oFB4 T))
  have hmf : ∀ (fn : Fn) (first cap : Array Value) (w : World), (Instr.makeFunc fn first cap).run Try.prog w = .ok (.func fn first cap) w := fun _ _ _ _ => rfl
  go_wp2_with fail
  generalize y0.alloc (oFB4 T) = Y at *
  go_loopw [43] (fun k wr => ∃ j : Nat, k = .int .i64 (j : Int) ∧ j ≤ 4 ∧ Go.RowKit.Below Y.heap.size Y wr) (fun k _ => 4 - (intOf k).toNat)
  case atStart => exact ⟨0, rfl, Nat.zero_le _, Go.RowKit.Below.refl _ _⟩
  case round =>
    obtain ⟨j, rfl, hj, hBr⟩ := hrel
    have HBr := Lib.hid hBr
    have HF := Lib.hid (box_on HF4.out hBr)
    have HKW := Lib.hid (box_on (box_on HKB.out HB4.out) hBr)
    have HBW := Lib.hid (bt HB4.out hBr)
    obtain ⟨k1, k2, _, _⟩ := two_cells HKW.out
    clear hBr
    rcases (show j = 0 ∨ j = 1 ∨ j = 2 ∨ j = 3 ∨ j = 4 by omega) with rfl | rfl | rfl | rfl | rfl
    · have f1 : wr.cell? ⟨y0.heap.size, 0, none⟩ = some (.func (.func 23) #[aP T] #[]) := (cell_of_row _ _ 0 _ _ _ HF.out).trans rfl
      have HQ := Lib.hid (HFl.out wr HBW.out)
      have HN := Lib.hid (HNE.out 0)
      clear HFl HHi HLo HCe HGe HFi HLa HNE HFD HF HF4 HAL
      generalize nearG L kk 0 = nn at *
      obtain ⟨g, o⟩ := nn
      dsimp only at *
      go_wp2_with fail
      refine HQ.out.mono ?_
      rintro e y1 ⟨rfl, hb⟩
      have HA1 := Lib.hid (heap_alloc_new y1 (oG g))
      have HB1 := Lib.hid (bt hb (below_new y1 (oG g)))
      have HK1 := Lib.hid (box_on HKW.out HB1.out)
      clear k1 k2 hb f1 HQ
      obtain ⟨k1, k2, _, _⟩ := two_cells HK1.out
      go_wp2_with fail
      refine (HN.out _ (bt HBW.out HB1.out)).mono ?_
      rintro e y2 ⟨rfl, hb⟩
      have HA2 := Lib.hid (heap_alloc_new y2 (oG g))
      have HB2 := Lib.hid (bt hb (below_new y2 (oG g)))
      have HA3 := Lib.hid (box_on HA1.out HB2.out)
      clear k1 k2 hb HN
      generalize hn1 : y1.heap.size = n1 at *
      obtain ⟨c1, c2, c3, c4, c5⟩ := five_cells HA2.out
      obtain ⟨d1, d2, d3, d4, d5⟩ := five_cells HA3.out
      simp only [Nat.zero_add] at c2 c3 c4 c5 d2 d3 d4 d5
      have nt : ∀ (W : World), Sem.run Try.prog (binOp .neq 38 (vG g) (vG g)) W = .ok (.bool false) W := fun W => by have := neq_seg g g W; rw [g.eqb_self] at this; exact this
      have no : (o != o) = false := bne_self_eq_false o
      clear hn1
      go_wp2_with fail
      go_roundw
      case rel => exact ⟨1, rfl, by omega, bt HBr.out (bt HB1.out HB2.out)⟩
      case measure => simp [intOf]
    · have f1 : wr.cell? ⟨y0.heap.size, 1, none⟩ = some (.func (.func 24) #[aP T] #[]) := (cell_of_row _ _ 1 _ _ _ HF.out).trans rfl
      have HQ := Lib.hid (HLo.out wr HBW.out)
      have HN := Lib.hid (HNE.out 1)
      clear HFl HHi HLo HCe HGe HFi HLa HNE HFD HF HF4 HAL
      generalize nearG L kk 1 = nn at *
      obtain ⟨g, o⟩ := nn
      dsimp only at *
      go_wp2_with fail
      refine HQ.out.mono ?_
      rintro e y1 ⟨rfl, hb⟩
      have HA1 := Lib.hid (heap_alloc_new y1 (oG g))
      have HB1 := Lib.hid (bt hb (below_new y1 (oG g)))
      have HK1 := Lib.hid (box_on HKW.out HB1.out)
      clear k1 k2 hb f1 HQ
      obtain ⟨k1, k2, _, _⟩ := two_cells HK1.out
      go_wp2_with fail
      refine (HN.out _ (bt HBW.out HB1.out)).mono ?_
      rintro e y2 ⟨rfl, hb⟩
      have HA2 := Lib.hid (heap_alloc_new y2 (oG g))
      have HB2 := Lib.hid (bt hb (below_new y2 (oG g)))
      have HA3 := Lib.hid (box_on HA1.out HB2.out)
      clear k1 k2 hb HN
      generalize hn1 : y1.heap.size = n1 at *
      obtain ⟨c1, c2, c3, c4, c5⟩ := five_cells HA2.out
      obtain ⟨d1, d2, d3, d4, d5⟩ := five_cells HA3.out
      simp only [Nat.zero_add] at c2 c3 c4 c5 d2 d3 d4 d5
      have nt : ∀ (W : World), Sem.run Try.prog (binOp .neq 38 (vG g) (vG g)) W = .ok (.bool false) W := fun W => by have := neq_seg g g W; rw [g.eqb_self] at this; exact this
      have no : (o != o) = false := bne_self_eq_false o
      clear hn1
      go_wp2_with fail
      go_roundw
      case rel => exact ⟨2, rfl, by omega, bt HBr.out (bt HB1.out HB2.out)⟩
      case measure => simp [intOf]
    · have f1 : wr.cell? ⟨y0.heap.size, 2, none⟩ = some (.func (.func 25) #[aP T] #[]) := (cell_of_row _ _ 2 _ _ _ HF.out).trans rfl
      have HQ := Lib.hid (HCe.out wr HBW.out)
      have HN := Lib.hid (HNE.out 2)
      clear HFl HHi HLo HCe HGe HFi HLa HNE HFD HF HF4 HAL
      generalize nearG L kk 2 = nn at *
      obtain ⟨g, o⟩ := nn
      dsimp only at *
      go_wp2_with fail
      refine HQ.out.mono ?_
      rintro e y1 ⟨rfl, hb⟩
      have HA1 := Lib.hid (heap_alloc_new y1 (oG g))
      have HB1 := Lib.hid (bt hb (below_new y1 (oG g)))
      have HK1 := Lib.hid (box_on HKW.out HB1.out)
      clear k1 k2 hb f1 HQ
      obtain ⟨k1, k2, _, _⟩ := two_cells HK1.out
      go_wp2_with fail
      refine (HN.out _ (bt HBW.out HB1.out)).mono ?_
      rintro e y2 ⟨rfl, hb⟩
      have HA2 := Lib.hid (heap_alloc_new y2 (oG g))
      have HB2 := Lib.hid (bt hb (below_new y2 (oG g)))
      have HA3 := Lib.hid (box_on HA1.out HB2.out)
      clear k1 k2 hb HN
      generalize hn1 : y1.heap.size = n1 at *
      obtain ⟨c1, c2, c3, c4, c5⟩ := five_cells HA2.out
      obtain ⟨d1, d2, d3, d4, d5⟩ := five_cells HA3.out
      simp only [Nat.zero_add] at c2 c3 c4 c5 d2 d3 d4 d5
      have nt : ∀ (W : World), Sem.run Try.prog (binOp .neq 38 (vG g) (vG g)) W = .ok (.bool false) W := fun W => by have := neq_seg g g W; rw [g.eqb_self] at this; exact this
      have no : (o != o) = false := bne_self_eq_false o
      clear hn1
      go_wp2_with fail
      go_roundw
      case rel => exact ⟨3, rfl, by omega, bt HBr.out (bt HB1.out HB2.out)⟩
      case measure => simp [intOf]
    · have f1 : wr.cell? ⟨y0.heap.size, 3, none⟩ = some (.func (.func 26) #[aP T] #[]) := (cell_of_row _ _ 3 _ _ _ HF.out).trans rfl
      have HQ := Lib.hid (HHi.out wr HBW.out)
      have HN := Lib.hid (HNE.out 3)
      clear HFl HHi HLo HCe HGe HFi HLa HNE HFD HF HF4 HAL
      generalize nearG L kk 3 = nn at *
      obtain ⟨g, o⟩ := nn
      dsimp only at *
      go_wp2_with fail
      refine HQ.out.mono ?_
      rintro e y1 ⟨rfl, hb⟩
      have HA1 := Lib.hid (heap_alloc_new y1 (oG g))
      have HB1 := Lib.hid (bt hb (below_new y1 (oG g)))
      have HK1 := Lib.hid (box_on HKW.out HB1.out)
      clear k1 k2 hb f1 HQ
      obtain ⟨k1, k2, _, _⟩ := two_cells HK1.out
      go_wp2_with fail
      refine (HN.out _ (bt HBW.out HB1.out)).mono ?_
      rintro e y2 ⟨rfl, hb⟩
      have HA2 := Lib.hid (heap_alloc_new y2 (oG g))
      have HB2 := Lib.hid (bt hb (below_new y2 (oG g)))
      have HA3 := Lib.hid (box_on HA1.out HB2.out)
      clear k1 k2 hb HN
      generalize hn1 : y1.heap.size = n1 at *
      obtain ⟨c1, c2, c3, c4, c5⟩ := five_cells HA2.out
      obtain ⟨d1, d2, d3, d4, d5⟩ := five_cells HA3.out
      simp only [Nat.zero_add] at c2 c3 c4 c5 d2 d3 d4 d5
      have nt : ∀ (W : World), Sem.run Try.prog (binOp .neq 38 (vG g) (vG g)) W = .ok (.bool false) W := fun W => by have := neq_seg g g W; rw [g.eqb_self] at this; exact this
      have no : (o != o) = false := bne_self_eq_false o
      clear hn1
      go_wp2_with fail
      go_roundw
      case rel => exact ⟨4, rfl, by omega, bt HBr.out (bt HB1.out HB2.out)⟩
      case measure => simp [intOf]
    · clear HFl HHi HLo HCe HNE HF HF4
      have HFD2 := Lib.hid (HFD.out)
      generalize hgg : getG L kk = gg at *
      obtain ⟨gS, ow⟩ := gg
      dsimp only at *
      go_wp2_with fail
      refine (HGe.out _ HBW.out).mono ?_
      rintro e y1 ⟨rfl, hb⟩
      have HG := Lib.hid (heap_alloc_new y1 (oG gS))
      have HB1 := Lib.hid (bt hb (below_new y1 (oG gS)))
      have HK1 := Lib.hid (box_on HKW.out HB1.out)
      clear k1 k2 hb HGe
      obtain ⟨k1, k2, _, _⟩ := two_cells HK1.out
      go_wp2_with fail
      refine (HFD2.out _ (bt HBW.out HB1.out)).mono ?_
      rintro e y2 ⟨rfl, hb⟩
      replace HG := Lib.hid (box_on HG.out hb)
      have HB2 := Lib.hid (bt HB1.out hb)
      clear k1 k2 hb HFD HFD2 HK1 HKW
      go_wp2_with fail
      refine (HFi.out _ (bt HBW.out HB2.out)).mono ?_
      rintro e y3 ⟨rfl, hb⟩
      have HF := Lib.hid (heap_alloc_new y3 (oG (opt L.head?).1))
      have hq := bt hb (below_new y3 (oG (opt L.head?).1))
      replace HG := Lib.hid (box_on HG.out hq)
      have HB3 := Lib.hid (bt HB2.out hq)
      clear hb hq HFi
      go_wp2_with fail
      refine (HLa.out _ (bt HBW.out HB3.out)).mono ?_
      rintro e y4 ⟨rfl, hb⟩
      have HLL := Lib.hid (heap_alloc_new y4 (oG (opt L.getLast?).1))
      have hq := bt hb (below_new y4 (oG (opt L.getLast?).1))
      replace HG := Lib.hid (box_on HG.out hq)
      replace HF := Lib.hid (box_on HF.out hq)
      have HB4' := Lib.hid (bt HB3.out hq)
      have HRW := Lib.hid (HROW.out.below (bt HBW.out HB4'.out))
      clear hb hq HLa
      go_upto_region 16 with fail
      generalize y1.heap.size = n1 at *
      generalize y3.heap.size = n3 at *
      generalize hn4 : y4.heap.size = n4 at *
      generalize hZ : y4.alloc (oG (opt L.getLast?).1) = Z at *
      clear hn4 hZ
      have HZB := Lib.hid (bt HBY.out (bt HBW.out HB4'.out))
      have bz : ∀ W : World, (Instr.build 38 #[]).run Try.prog W = .ok (vG g0) W := fun W => run_build W _ _ _ (by kernel_rfl)
      have nz : ∀ (g : G5) (W : World), Sem.run Try.prog (binOp .neq 38 (vG g) (vG g)) W = .ok (.bool false) W := fun g W => by have := neq_seg g g W; rw [g.eqb_self] at this; exact this
      have ez : ∀ (g : G5) (W : World), Sem.run Try.prog (binOp .eql 38 (vG g) (vG g)) W = .ok (.bool true) W := fun g W => by have := eql_seg g g W; rw [g.eqb_self] at this; exact this
      obtain ⟨g1, g2, g3, g4, g5⟩ := (five_cells HG.out).re
      simp only [Nat.zero_add] at g2 g3 g4 g5
      cases L with
      | nil =>
        have e1 : findV [] kk = -1 := rfl
        have e2 : (gS, ow) = (g0, false) := by rw [← hgg]; rfl
        injection e2 with e2 e3
        subst e2 e3
        rw [e1]
        have nzz := nz g0
        have ezz := ez g0
        dsimp only [List.head?, List.getLast?, opt] at HF HLL ⊢
        have nm : ∀ (W : World), Sem.run Try.prog (binOp .neq 38 (vG g0) (.agg #[.int .i64 0, .int .i64 0, .int .i64 0, .int .i64 0, .int .i64 0])) W = .ok (.bool false) W := nz g0
        have em : ∀ (W : World), Sem.run Try.prog (binOp .eql 38 (vG g0) (.agg #[.int .i64 0, .int .i64 0, .int .i64 0, .int .i64 0, .int .i64 0])) W = .ok (.bool true) W := ez g0
        clear hgg e1 nz ez bz
        generalize g0 = gz at *
        refine wp_region_quiet_below (by assumption) (by kernel_rfl) ?_
        repeat (go_big_quiet_step (first | (go_at_call 9; exact Calls.regrown_of (HAL.out _))))
        refine wpQuiet_nil ?_
        intro _ hw'
        obtain ⟨⟨nq, osq⟩, hw''⟩ := hw'
        subst hw''
        have HZ2 := Lib.hid (below_regrown Z nq osq)
        replace HF := Lib.hid (box_on HF.out HZ2.out)
        replace HLL := Lib.hid (box_on HLL.out HZ2.out)
        replace HZB := Lib.hid (bt HZB.out HZ2.out)
        clear g1 g2 g3 g4 g5 HZ2
        generalize grow (redrawn Z nq) osq = Z2 at *
        obtain ⟨h1, h2, h3, h4, h5⟩ := (five_cells HF.out).re
        obtain ⟨m1, m2, m3, m4, m5⟩ := (five_cells HLL.out).re
        simp only [Nat.zero_add] at h2 h3 h4 h5 m2 m3 m4 m5
        go_wp2_with fail
        refine wp_region_quiet_below (by assumption) (by kernel_rfl) ?_
        repeat (go_big_quiet_step (first | (go_at_call 9; exact Calls.regrown_of (HAL.out _))))
        refine wpQuiet_nil ?_
        intro _ hw'
        obtain ⟨⟨nq, osq⟩, hw''⟩ := hw'
        subst hw''
        replace HZB := Lib.hid (bt HZB.out (below_regrown Z2 nq osq))
        generalize grow (redrawn Z2 nq) osq = Z3 at *
        go_wp2_with fail
        go_ret
        exact ⟨rfl, HZB.out⟩
      | cons gh gt =>
        obtain ⟨b, off, rfl, hc⟩ := HRW.out (by simp)
        have hl1 : (gh :: gt).length - 1 < (gh :: gt).length := by simp
        obtain ⟨gl, hgl⟩ : ∃ gl, (gh :: gt)[(gh :: gt).length - 1] = gl := ⟨_, rfl⟩
        have HC0 : Hid (Cells5 Z b (off + 0 * 5) gh) := hc 0 (by simp)
        have HCL := Lib.hid (hc ((gh :: gt).length - 1) hl1)
        rw [hgl] at HCL
        have hlast : (gh :: gt).getLast? = some gl := by rw [List.getLast?_eq_getElem?, List.getElem?_eq_getElem hl1, hgl]
        rw [hlast] at HLL ⊢
        dsimp only [List.head?, opt] at HF HLL ⊢
        obtain ⟨LN, hLN⟩ : ∃ LN, (gh :: gt).length = LN := ⟨_, rfl⟩
        have hpos : 0 < LN := by rw [← hLN]; simp
        rw [hLN] at hzl
        have tl : decide ((0 : Int) < (LN : Int)) = true := decide_eq_true (by omega)
        have i1 : (0 : Int) < (LN : Int) := by omega
        have w1 : IntKind.i64.wrap ((LN : Int) - 1) = ((LN - 1 : Nat) : Int) := by rw [show (LN : Int) - 1 = ((LN - 1 : Nat) : Int) by omega]; exact IntWalk.i64_in _ (by omega)
        have i2 : (0 : Int) ≤ ((LN - 1 : Nat) : Int) := by omega
        have i3 : ((LN - 1 : Nat) : Int) < (LN : Int) := by omega
        have n1z := nz gh
        have e1z := ez gh
        have e2z := ez gl
        by_cases hf : findG (gh :: gt) kk < (gh :: gt).length
        · have HCK := Lib.hid (hc (findG (gh :: gt) kk) hf)
          have e1 : findV (gh :: gt) kk = ((findG (gh :: gt) kk : Nat) : Int) := by unfold findV; exact if_pos hf
          have e2 : (gS, ow) = ((gh :: gt)[findG (gh :: gt) kk], true) := by rw [← hgg]; unfold getG; exact dif_pos hf
          injection e2 with e2 e3
          rw [← e2] at HCK
          subst e3
          rw [e1]
          clear e1 e2 hgl hlast hc hgg
          rw [hLN] at hf HCL ⊢
          clear hLN hl1 HRW
          generalize findG (gh :: gt) kk = fk at *
          generalize hll2 : LN - 1 = lk at *
          have tf : decide ((0 : Int) ≤ (fk : Int)) = true := decide_eq_true (by omega)
          have i4 : (0 : Int) ≤ (fk : Int) := by omega
          have i5 : (fk : Int) < (LN : Int) := by omega
          obtain ⟨r1, r2, r3, r4, r5⟩ := HCK.out.re
          have nsz := nz gS
          clear nz ez hll2
          refine wp_region_quiet_below (by assumption) (by kernel_rfl) ?_
          repeat (go_big_quiet_step (first | (go_at_call 9; exact Calls.regrown_of (HAL.out _))))
          refine wpQuiet_nil ?_
          intro _ hw'
          obtain ⟨⟨nq, osq⟩, hw''⟩ := hw'
          subst hw''
          have HZ2 := Lib.hid (below_regrown Z nq osq)
          replace HF := Lib.hid (box_on HF.out HZ2.out)
          replace HLL := Lib.hid (box_on HLL.out HZ2.out)
          replace HC0 := Lib.hid (HC0.out.below HZ2.out)
          replace HCL := Lib.hid (HCL.out.below HZ2.out)
          replace HZB := Lib.hid (bt HZB.out HZ2.out)
          clear g1 g2 g3 g4 g5 HZ2 r1 r2 r3 r4 r5
          generalize grow (redrawn Z nq) osq = Z2 at *
          obtain ⟨h1, h2, h3, h4, h5⟩ := (five_cells HF.out).re
          obtain ⟨m1, m2, m3, m4, m5⟩ := (five_cells HLL.out).re
          simp only [Nat.zero_add] at h2 h3 h4 h5 m2 m3 m4 m5
          obtain ⟨p1, p2, p3, p4, p5⟩ := HC0.out.re
          obtain ⟨q1, q2, q3, q4, q5⟩ := HCL.out.re
          simp only [Nat.zero_mul, Nat.add_zero] at p1 p2 p3 p4 p5
          go_wp2_with fail
          refine wp_region_quiet_below (by assumption) (by kernel_rfl) ?_
          repeat (go_big_quiet_step (first | (go_at_call 9; exact Calls.regrown_of (HAL.out _))))
          refine wpQuiet_nil ?_
          intro _ hw'
          obtain ⟨⟨nq, osq⟩, hw''⟩ := hw'
          subst hw''
          replace HZB := Lib.hid (bt HZB.out (below_regrown Z2 nq osq))
          generalize grow (redrawn Z2 nq) osq = Z3 at *
          go_wp2_with fail
          go_ret
          exact ⟨rfl, HZB.out⟩
        · have e1 : findV (gh :: gt) kk = -1 := by unfold findV; exact if_neg hf
          have e2 : (gS, ow) = (g0, false) := by rw [← hgg]; unfold getG; exact dif_neg hf
          injection e2 with e2 e3
          subst e2 e3
          rw [e1]
          clear e1 hgl hlast hc hgg hf
          rw [hLN] at HCL ⊢
          clear hLN hl1 HRW
          generalize hll2 : LN - 1 = lk at *
          have nm : ∀ (W : World), Sem.run Try.prog (binOp .neq 38 (vG g0) (.agg #[.int .i64 0, .int .i64 0, .int .i64 0, .int .i64 0, .int .i64 0])) W = .ok (.bool false) W := nz g0
          clear nz ez hll2 bz
          generalize g0 = gz at *
          refine wp_region_quiet_below (by assumption) (by kernel_rfl) ?_
          repeat (go_big_quiet_step (first | (go_at_call 9; exact Calls.regrown_of (HAL.out _))))
          refine wpQuiet_nil ?_
          intro _ hw'
          obtain ⟨⟨nq, osq⟩, hw''⟩ := hw'
          subst hw''
          have HZ2 := Lib.hid (below_regrown Z nq osq)
          replace HF := Lib.hid (box_on HF.out HZ2.out)
          replace HLL := Lib.hid (box_on HLL.out HZ2.out)
          replace HC0 := Lib.hid (HC0.out.below HZ2.out)
          replace HCL := Lib.hid (HCL.out.below HZ2.out)
          replace HZB := Lib.hid (bt HZB.out HZ2.out)
          clear g1 g2 g3 g4 g5 HZ2
          generalize grow (redrawn Z nq) osq = Z2 at *
          obtain ⟨h1, h2, h3, h4, h5⟩ := (five_cells HF.out).re
          obtain ⟨m1, m2, m3, m4, m5⟩ := (five_cells HLL.out).re
          simp only [Nat.zero_add] at h2 h3 h4 h5 m2 m3 m4 m5
          obtain ⟨p1, p2, p3, p4, p5⟩ := HC0.out.re
          obtain ⟨q1, q2, q3, q4, q5⟩ := HCL.out.re
          simp only [Nat.zero_mul, Nat.add_zero] at p1 p2 p3 p4 p5
          go_wp2_with fail
          refine wp_region_quiet_below (by assumption) (by kernel_rfl) ?_
          repeat (go_big_quiet_step (first | (go_at_call 9; exact Calls.regrown_of (HAL.out _))))
          refine wpQuiet_nil ?_
          intro _ hw'
          obtain ⟨⟨nq, osq⟩, hw''⟩ := hw'
          subst hw''
          replace HZB := Lib.hid (bt HZB.out (below_regrown Z2 nq osq))
          generalize grow (redrawn Z2 nq) osq = Z3 at *
          go_wp2_with fail
          go_ret
          exact ⟨rfl, HZB.out⟩
end Go.Proofs.Ytjgcdmeojjnjlaa
