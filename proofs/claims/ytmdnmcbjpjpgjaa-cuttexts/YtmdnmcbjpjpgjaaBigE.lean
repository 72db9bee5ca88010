/- Contract of Plus. -/
import Derived.Test.YtmdnmcbjpjpgjaaBigD
import Derived.Test.YtmdnmcbjpjpgjaaPlusMath
namespace Go.Proofs.Ytmdnmcbjpjpgjaa
open Go.RowKit Go.Proofs.Ytmdnmcbjpjpgjaa.Bo
set_option linter.unusedVariables false

theorem digit_q (v : Value) (xs : List Nat) (i : Nat) (w : World) (h : Dg w v xs) (hl : xs.length ≤ 1000) (hi : i ≤ 10000) :
    Calls Try.prog 56 #[v, .int .i64 (i : Int)] w fun e w' => e = .returned (.int .i64 ((xs.getD i 0 : Nat) : Int)) ∧ w' = w :=
  (digit_any v xs i w h (by omega) (by omega)).mono fun _ _ ⟨h1, h2⟩ => ⟨h1, h2.symm⟩
theorem Dg.drewN {w : World} {v : Value} {xs : List Nat} (h : Dg w v xs) (n : Nat) : Dg (w.drewN n) v xs := h.below (below_drewN (Below.refl _ _) n)

/-- What stands in memory while digits are gathered: the two whole numbers, the answer's place, the row so far. -/
structure PlusAt (w : World) (base : Nat) (sa sb so : Int) (va vb v : Value) (os : List Nat) (wr : World) : Prop where
  boxa : wr.heap[w.heap.size]? = some (.cells #[.int .i64 sa, va] 52 (0, 0))
  boxb : wr.heap[w.heap.size + 1]? = some (.cells #[.int .i64 sb, vb] 52 (0, 0))
  res : ∃ x y, wr.heap[w.heap.size + 2]? = some (.cells #[x, y] 52 (0, 0))
  out : wr.heap[w.heap.size + 3]? = some (.cells #[.int .i64 so, v] 52 (0, 0))
  own : wr.ownsRow (base + 1) 3 1 v os.length (os.map iv)
  hbase : w.heap.size + 3 ≤ base
  hsize : base < wr.heap.size
  below : Below w.heap.size w wr

theorem plus_zero1 (s : Int) (u v : Value) (w : World) (hv : ∃ a n c, v = .slice a n c) (hu : ∃ a n c, u = .slice a n c) :
    Calls Try.prog 44 #[.agg #[.int .i64 0, u], .agg #[.int .i64 s, v]] w fun e w' => e = .returned (.agg #[.int .i64 s, v]) ∧ Below w.heap.size w w' := by
  obtain ⟨a, n, c, rfl⟩ := hv
  obtain ⟨a', n', c', rfl⟩ := hu
  have hBb : Below w.heap.size w (((w.alloc (.cells #[.int .i64 0, .slice a' n' c'] 52)).alloc (.cells #[.int .i64 s, .slice a n c] 52)).alloc (.cells #[.int .i64 s, .slice a n c] 52)) :=
    (((Below.refl _ _).alloc (Nat.le_refl _) _).alloc (by simp) _).alloc (by simp; omega) _
  go_enter Try.func44, Try.ntmps44
  go_wp2_with fail
  refine bodyPost_ret (v := .agg #[.int .i64 s, .slice a n c]) (by simp [results, Try.results44, go_sem]) rfl ⟨rfl, hBb⟩
theorem plus_zero2 (s : Int) (u v : Value) (w : World) (hs : s ≠ 0) (hv : ∃ a n c, v = .slice a n c) (hu : ∃ a n c, u = .slice a n c) :
    Calls Try.prog 44 #[.agg #[.int .i64 s, v], .agg #[.int .i64 0, u]] w fun e w' => e = .returned (.agg #[.int .i64 s, v]) ∧ Below w.heap.size w w' := by
  obtain ⟨a, n, c, rfl⟩ := hv
  obtain ⟨a', n', c', rfl⟩ := hu
  have hBb : Below w.heap.size w (((w.alloc (.cells #[.int .i64 s, .slice a n c] 52)).alloc (.cells #[.int .i64 0, .slice a' n' c'] 52)).alloc (.cells #[.int .i64 s, .slice a n c] 52)) :=
    (((Below.refl _ _).alloc (Nat.le_refl _) _).alloc (by simp) _).alloc (by simp; omega) _
  have t0 : (s == 0) = false := beq_eq_false_iff_ne.2 hs
  clear hs
  go_enter Try.func44, Try.ntmps44
  go_wp2_with fail
  refine bodyPost_ret (v := .agg #[.int .i64 s, .slice a n c]) (by simp [results, Try.results44, go_sem]) rfl ⟨rfl, hBb⟩

theorem plusAt_step {w wr w' : World} {base : Nat} {sa sb so : Int} {va vb v v' : Value} {os : List Nat} {d : Nat} {o : Obj} {n : Nat}
    (hA : PlusAt w base sa sb so va vb v os wr) (hown : w'.ownsRow (base + 1) 3 1 v' (os.length + 1) (os.map iv ++ [iv d])) (hg : ((wr.drewN n).alloc o).grownBy w' v.ownBlock) :
    w'.heap[w.heap.size + 3]? = some (.cells #[.int .i64 so, v] 52 (0, 0)) ∧ PlusAt w base sa sb so va vb v' (os ++ [d]) (w'.setCell ⟨w.heap.size + 3, 1, none⟩ v') ∧
      ∀ j, j ≤ base → j ≠ w.heap.size + 3 → (w'.setCell ⟨w.heap.size + 3, 1, none⟩ v').heap[j]? = wr.heap[j]? := by
  have hsz := hA.hsize
  have hbs := hA.hbase
  have hk : ∀ j, j ≤ base → w'.heap[j]? = wr.heap[j]? := fun j hj =>
    (hg.block j (by simp; omega) (own_ne hA.own hj)).trans (heap_alloc_old _ _ (show j < (wr.drewN n).heap.size from by show j < wr.heap.size; omega))
  have hm := (hk (w.heap.size + 3) (by omega)).trans hA.out
  refine ⟨hm, ⟨?_, ?_, ?_, ?_, ?_, hbs, ?_, ?_⟩, fun j hj hne => by rw [heap_setCell_other _ _ _ _ hne]; exact hk j hj⟩
  · rw [heap_setCell_other _ _ _ _ (by simp)]; exact (hk _ (by omega)).trans hA.boxa
  · rw [heap_setCell_other _ _ _ _ (by simp)]; exact (hk _ (by omega)).trans hA.boxb
  · obtain ⟨x, y, hr⟩ := hA.res
    exact ⟨x, y, by rw [heap_setCell_other _ _ _ _ (by simp)]; exact (hk _ (by omega)).trans hr⟩
  · have := heap_setCell_same w' (w.heap.size + 3) 1 _ _ v' hm
    rw [this]; rfl
  · have h1 := ownsRow_setCell_below hown (a := ⟨w.heap.size + 3, 1, none⟩) (by simp; omega) v'
    rw [show (os ++ [d]).length = os.length + 1 from by simp, List.map_append]
    exact h1
  · have := hg.size
    simp at this
    simp [World.setCell]
    have h2 : (wr.drewN n).heap.size = wr.heap.size := rfl
    omega
  · refine Below.setCell ?_ (by simp) _
    refine ((below_drewN hA.below n).alloc (by show w.heap.size ≤ wr.heap.size; omega) o).grown hg (by simp; show w.heap.size ≤ wr.heap.size + 1; omega) (fun j hj => ?_)
    have := (hA.own.lt j hj).1
    omega

theorem al4 (w : World) (A B C D : Obj) :
    ((((w.alloc A).alloc B).alloc C).alloc D).heap[w.heap.size]? = some A ∧ ((((w.alloc A).alloc B).alloc C).alloc D).heap[w.heap.size + 1]? = some B ∧
    ((((w.alloc A).alloc B).alloc C).alloc D).heap[w.heap.size + 2]? = some C ∧ ((((w.alloc A).alloc B).alloc C).alloc D).heap[w.heap.size + 3]? = some D := by
  have e1 := heap_alloc2_old w A B
  have e2 := heap_alloc2_new w A B
  have e3 : (((w.alloc A).alloc B).alloc C).heap[w.heap.size + 2]? = some C := by have := heap_alloc_new ((w.alloc A).alloc B) C; simpa using this
  have e4 : ((((w.alloc A).alloc B).alloc C).alloc D).heap[w.heap.size + 3]? = some D := by have := heap_alloc_new (((w.alloc A).alloc B).alloc C) D; simpa using this
  refine ⟨?_, ?_, ?_, e4⟩
  · rw [heap_alloc_old _ _ (by simp; omega), heap_alloc_old _ _ (by simp; omega)]; exact e1
  · rw [heap_alloc_old _ _ (by simp), heap_alloc_old _ _ (by simp)]; exact e2
  · rw [heap_alloc_old _ _ (by simp)]; exact e3

def SamePost (s : Int) (xs ys : List Nat) (w : World) (e : Ending) (w' : World) : Prop :=
  ∃ v zs, e = .returned (.agg #[.int .i64 s, v]) ∧ Dg w' v zs ∧ Ok zs ∧ zs.length ≤ xs.length + ys.length + 1 ∧ val zs = val xs + val ys ∧ Below w.heap.size w w'

set_option maxRecDepth 100000 in
set_option maxHeartbeats 4000000 in
theorem plus_same (s : Int) (va vb : Value) (xs ys : List Nat) (w : World) (hs : s = -1 ∨ s = 1) (hx : Dg w va xs) (hy : Dg w vb ys) (ox : Ok xs) (oy : Ok ys) (lx : xs.length ≤ 400) (ly : ys.length ≤ 400) :
    Calls Try.prog 44 #[.agg #[.int .i64 s, va], .agg #[.int .i64 s, vb]] w (SamePost s xs ys w) := by
  have t0 : (s == 0) = false := beq_eq_false_iff_ne.2 (by omega)
  clear hs
  obtain ⟨i0, hi, hz0, hz1, hz2⟩ := info_parts Try.infoInt
  have HX := Lib.hid hx
  have HY := Lib.hid hy
  obtain ⟨a1, cap1, rfl, hc1, hg1⟩ := hx
  obtain ⟨a2, cap2, rfl, hc2, hg2⟩ := hy
  clear hg1 hg2
  go_enter Try.func44, Try.ntmps44
  go_wp2_with fail
  go_loopw [6, 7] (fun over i wr => ∃ (k c : Nat) (v : Value) (os : List Nat), i = .int .i64 (k : Int) ∧ over = .int .i64 (c : Int) ∧ k ≤ xs.length + ys.length + 1 ∧ AddInv xs ys os k c ∧ PlusAt w (w.heap.size + 3) s s 0 (.slice a1 xs.length cap1) (.slice a2 ys.length cap2) v os wr) (fun _ i _ => xs.length + ys.length + 1 - (intOf i).toNat)
  case atStart =>
    obtain ⟨q1, q2, q3, q4⟩ := al4 w (.cells #[.int .i64 s, .slice a1 xs.length cap1] 52) (.cells #[.int .i64 s, .slice a2 ys.length cap2] 52) (.cells #[.int .i64 0, .slice none 0 0] 52) (.cells #[.int .i64 0, .slice none 0 0] 52)
    exact ⟨0, 0, _, [], rfl, rfl, Nat.zero_le _, addInv_start xs ys, q1, q2, ⟨_, _, q3⟩, q4, World.ownsRow_nil _ _ _ _, Nat.le_refl _, by simp, ((((Below.refl _ _).alloc (Nat.le_refl _) _).alloc (by simp) _).alloc (by simp; omega) _).alloc (by simp; omega) _⟩
  case round =>
    obtain ⟨k, c, v, os, rfl, rfl, hk, hinv, hA⟩ := hrel
    have HA := Lib.hid hA
    have HI := Lib.hid hinv
    have a0 := cell_of_row _ _ 0 _ _ _ hA.boxa
    have a1' := cell_of_row _ _ 1 _ _ _ hA.boxa
    have b0 := cell_of_row _ _ 0 _ _ _ hA.boxb
    have b1' := cell_of_row _ _ 1 _ _ _ hA.boxb
    have o0 := cell_of_row _ _ 0 _ _ _ hA.out
    have o1 := cell_of_row _ _ 1 _ _ _ hA.out
    have f0 := frozen_of_row _ _ 0 _ _ hA.out
    have f1 := frozen_of_row _ _ 1 _ _ hA.out
    have hdx := Lib.hid (HX.out.below hA.below)
    have hdy := Lib.hid (HY.out.below hA.below)
    have hsz := hA.hsize
    have hol : os.length ≤ 801 := by have := hinv.1; omega
    have hc := hinv.2.2.1
    simp at a0 a1' b0 b1' o0 o1
    by_cases hend : k ≤ xs.length + ys.length
    · have tk : decide ((k : Int) ≤ (xs.length : Int) + (ys.length : Int)) = true := decide_eq_true (by omega)
      have hgx := ox.getD k
      have hgy := oy.getD k
      have hst := Lib.hid (addInv_step xs ys os k c ox oy hinv)
      have cx := Lib.hid (fun n => Calls.quiet_of_same (digit_q _ xs k _ (hdx.out.drewN n) (by omega) (by omega)))
      have cy := Lib.hid (fun n => Calls.quiet_of_same (digit_q _ ys k _ (hdy.out.drewN n) (by omega) (by omega)))
      generalize xs.getD k 0 = X at *
      generalize ys.getD k 0 = Y at *
      clear hA hinv hk
      go_wp2_with fail
      have q1 : IntKind.i64.wrap ((X : Int) + (Y : Int)) = (X : Int) + (Y : Int) := IntWalk.i64_in _ (by omega)
      have q2 : IntKind.i64.wrap ((X : Int) + (Y : Int) + (c : Int)) = (X : Int) + (Y : Int) + (c : Int) := IntWalk.i64_in _ (by omega)
      go_quiet (first | (go_at_call_of 56 (Value.slice a1 xs.length cap1); exact cx.out _) | (go_at_call_of 56 (Value.slice a2 ys.length cap2); exact cy.out _))
      clear q1 q2
      have hown : Hid ((wr.drewN nq).ownsRow (w.heap.size + 3 + 1) 3 1 v os.length (os.map iv)) := HA.out.own
      go_wp2_with (at_builtin; refine wpList_append_own _ rfl _ _ 50 rfl (w.heap.size + 3 + 1) 3 i0 (.int .i64 0) 1 8 Try.underlying50 hi hz0 hz1 hz2 rfl (by decide) _ _ _ rfl (hown.out.alloc _) ⟨wr.heap.size, 0, none⟩ 1 1 [iv ((X + Y + c) % 10)] rfl rfl ?c1 ?c2 ?c3 ?c4 ?c5 ?_)
      case c1 => exact cell_one_new _ _ _
      case c2 => exact iv_one [(X + Y + c) % 10]
      case c3 => unfold maxLen; omega
      case c4 => omega
      case c5 => simp; omega
      intro v' w1 hown1 hg1 hnil
      obtain ⟨hm1, hA1, _⟩ := plusAt_step HA.out hown1 hg1
      have d1 := cell_of_row _ _ 1 _ _ _ hm1
      have e1 := frozen_of_row _ _ 1 _ _ hm1
      simp at d1
      have HA1 := Lib.hid hA1
      obtain ⟨g', cap', rfl⟩ := own_form hown1 (by omega)
      clear hA1 hown1 hg1 hnil hm1
      go_wp2_with fail
      go_roundw
      case rel => exact ⟨k + 1, (X + Y + c) / 10, _, os ++ [(X + Y + c) % 10], by go_num, by go_num, by omega, hst.out, HA1.out⟩
      case measure => simp [intOf]; omega
    · obtain rfl : k = xs.length + ys.length + 1 := by omega
      have tk : decide ((((xs.length + ys.length + 1 : Nat) : Int)) ≤ (xs.length : Int) + (ys.length : Int)) = false := decide_eq_false (by omega)
      have HV := Lib.hid (addInv_end xs ys os c ox oy hinv)
      have HOK := Lib.hid hinv.2.1
      have HDV := Lib.hid (dg_of_own hA.own)
      obtain ⟨rx, ry, hres⟩ := hA.res
      have r0 := cell_of_row _ _ 0 _ _ _ hres
      have r1 := cell_of_row _ _ 1 _ _ _ hres
      have g0 := frozen_of_row _ _ 0 _ _ hres
      have g1 := frozen_of_row _ _ 1 _ _ hres
      simp at r0 r1
      have HRES := Lib.hid hres
      clear hA hinv hres hend hk
      obtain ⟨av, cv, hv, hcv, hgv⟩ := HDV.out
      clear hgv
      subst hv
      have hO1 := ownsRow_setCell_below HA.out.own (a := ⟨w.heap.size + 3, 0, none⟩) (by simp) (.int .i64 s)
      have hout1 := heap_setCell_same wr (w.heap.size + 3) 0 _ _ (.int .i64 s) HA.out.out
      have hcut := Lib.hid (cut_any av cv os _ (dg_of_own hO1) (by omega))
      have HO1 := Lib.hid hO1
      have HOUT1 := Lib.hid hout1
      clear hO1 hout1
      go_wp2_with fail
      refine hcut.out.mono ?_
      rintro e x1 ⟨n, rfl, hn, hvn, rfl⟩
      have HVN := Lib.hid hvn
      have hres1 := (heap_setCell_other wr ⟨w.heap.size + 3, 0, none⟩ (w.heap.size + 2) (.int .i64 s) (by simp)).trans HRES.out
      have hres2 := (heap_setCell_other _ ⟨w.heap.size + 3, 1, none⟩ (w.heap.size + 2) (.slice av n cv) (by simp)).trans hres1
      have hfin := two_set (p := .int .i64 s) (q := .slice av n cv) hres2
      have q0 := cell_of_row _ _ 0 _ _ _ hfin
      have q1 := cell_of_row _ _ 1 _ _ _ hfin
      simp at q0 q1
      have HQ0 := Lib.hid q0
      have HQ1 := Lib.hid q1
      have hO2 := ownsRow_setCell_below (ownsRow_setCell_below (ownsRow_setCell_below HO1.out (a := ⟨w.heap.size + 3, 1, none⟩) (by simp) (.slice av n cv)) (a := ⟨w.heap.size + 2, 0, none⟩) (by simp) (.int .i64 s)) (a := ⟨w.heap.size + 2, 1, none⟩) (by simp) (.slice av n cv)
      have HD2 := Lib.hid ((dg_of_own hO2).take n hn)
      have hBb := (((HA.out.below.setCell (p := ⟨w.heap.size + 3, 0, none⟩) (by simp) (.int .i64 s)).setCell (p := ⟨w.heap.size + 3, 1, none⟩) (by simp) (.slice av n cv)).setCell (p := ⟨w.heap.size + 2, 0, none⟩) (by simp) (.int .i64 s)).setCell (p := ⟨w.heap.size + 2, 1, none⟩) (by simp) (.slice av n cv)
      clear hvn hres1 hres2 hfin q0 q1 hO2
      go_wp2_with fail
      have q0 := HQ0.out
      have q1 := HQ1.out
      refine bodyPost_ret (v := .agg #[.int .i64 s, .slice av n cv]) (by simp [results, Try.results44, go_sem, q0, q1]) rfl ?_
      refine ⟨_, os.take n, rfl, HD2.out, HOK.out.take n, ?_, ?_, hBb⟩
      · rw [List.length_take]; have := HI.out.1; omega
      · rw [HVN.out]; exact HV.out
end Go.Proofs.Ytmdnmcbjpjpgjaa
