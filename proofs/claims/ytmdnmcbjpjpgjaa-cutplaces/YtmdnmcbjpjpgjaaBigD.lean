/- Contracts of Of and Minus. -/
import Derived.Test.YtmdnmcbjpjpgjaaBigC
import Derived.Maps.AppendAt
namespace Go.Proofs.Ytmdnmcbjpjpgjaa
open Go.RowKit Go.Proofs.Ytmdnmcbjpjpgjaa.Bo
set_option linter.unusedVariables false

def iv (d : Nat) : Value := .int .i64 (d : Int)
theorem iv_one (l : List Nat) : ∀ u ∈ l.map iv, u.oneCell' = true := by
  intro u hu
  obtain ⟨d, _, rfl⟩ := List.mem_map.1 hu
  rfl
theorem Try.infoInt : (Try.prog.info? 3).map (fun i => (i.zero, i.size, i.bytes)) = some (some (.int .i64 0), 1, 8) := by kernel_rfl
theorem dg_of_own {w : World} {base : Nat} {v : Value} {xs : List Nat} (h : w.ownsRow base 3 1 v xs.length (xs.map iv)) : Dg w v xs := by
  rcases h.2 with ⟨rfl, h0⟩ | ⟨g, cap, cur, rfl, hb, hh, hnc, hcm, hcs, htake⟩
  · exact ⟨none, 0, by rw [h0], by omega, fun hp => absurd h0 (by omega)⟩
  · refine ⟨_, cap, rfl, hnc, fun _ => ⟨g, cur, rfl, hh, fun j hj => ?_⟩⟩
    have h1 : (cur.toList.take (xs.length * 1))[j]? = some (iv xs[j]) := by rw [htake]; simp [hj]
    rw [List.getElem?_take, if_pos (by omega)] at h1
    simpa [iv] using h1

/-- What stands in memory while the digits of a number are gathered: B + 1 the whole number so far. -/
structure OfAt (w : World) (sg : Int) (m k : Nat) (wr : World) (v : Value) (ds : List Nat) : Prop where
  res : ∃ x y, wr.heap[w.heap.size]? = some (.cells #[x, y] 52 (0, 0))
  mem : wr.heap[w.heap.size + 1]? = some (.cells #[.int .i64 sg, v] 52 (0, 0))
  own : wr.ownsRow (w.heap.size + 2) 3 1 v ds.length (ds.map iv)
  digs : ds ++ low k = low m
  below : Below w.heap.size w wr

theorem own_form {wr : World} {v : Value} {n b : Nat} {xs : List Value} (h : wr.ownsRow b 3 1 v n xs) (hn : 0 < n) : ∃ g cap, v = .slice (some ⟨g, 0, none⟩) n cap := by
  rcases h.2 with ⟨_, h0⟩ | ⟨g, cap, cur, h1, _⟩
  · omega
  · exact ⟨g, cap, h1⟩
theorem own_ne {wr : World} {v : Value} {n b : Nat} {xs : List Value} (h : wr.ownsRow (b + 1) 3 1 v n xs) {j : Nat} (hj : j ≤ b) : some j ≠ v.ownBlock := by
  intro e
  have := (h.lt j e.symm).1
  omega
theorem of_step {w wr w' : World} {sg : Int} {m k : Nat} {v v' : Value} {ds : List Nat} {o : Obj} (hA : OfAt w sg m k wr v ds) (hk : k ≠ 0)
    (hown : w'.ownsRow (w.heap.size + 2) 3 1 v' (ds.length + 1) (ds.map iv ++ [iv (k % 10)])) (hg : (wr.alloc o).grownBy w' v.ownBlock) :
    w'.heap[w.heap.size + 1]? = some (.cells #[.int .i64 sg, v] 52 (0, 0)) ∧ OfAt w sg m (k / 10) (w'.setCell ⟨w.heap.size + 1, 1, none⟩ v') v' (ds ++ [k % 10]) := by
  have hl1 := lt_of_block hA.mem
  have hm : w'.heap[w.heap.size + 1]? = some (.cells #[.int .i64 sg, v] 52 (0, 0)) :=
    (hg.block _ (by simp; omega) (own_ne hA.own (Nat.le_refl _))).trans ((heap_alloc_old _ _ hl1).trans hA.mem)
  refine ⟨hm, ?_, ?_, ?_, ?_, ?_⟩
  · obtain ⟨x, y, hc⟩ := hA.res
    refine ⟨x, y, ?_⟩
    rw [heap_setCell_other _ _ _ _ (by simp)]
    exact (hg.block _ (by simp; omega) (own_ne hA.own (by omega))).trans ((heap_alloc_old _ _ (by omega)).trans hc)
  · have := heap_setCell_same w' (w.heap.size + 1) 1 _ _ v' hm
    rw [this]; rfl
  · have h1 := ownsRow_setCell_below hown (a := ⟨w.heap.size + 1, 1, none⟩) (by simp) v'
    rw [show (ds ++ [k % 10]).length = ds.length + 1 from by simp, List.map_append]
    exact h1
  · rw [List.append_assoc, ← hA.digs, low_pos k hk]; rfl
  · refine Below.setCell ?_ (by simp) _
    refine (hA.below.alloc (by omega) o).grown hg (by simp; omega) (fun j hj => ?_)
    have := (hA.own.lt j hj).1
    omega

theorem two_set {W : World} {b : Nat} {x y p q : Value} {t : TypeId} (h : W.heap[b]? = some (.cells #[x, y] t (0, 0))) :
    ((W.setCell ⟨b, 0, none⟩ p).setCell ⟨b, 1, none⟩ q).heap[b]? = some (.cells #[p, q] t (0, 0)) := by
  have h1 := heap_setCell_same W b 0 _ _ p h
  have h2 := heap_setCell_same _ b 1 _ _ q h1
  rw [h2]; rfl

def sgn (n : Int) : Int := if n < 0 then -1 else if n = 0 then 0 else 1
def OfPost (n : Int) (w : World) (e : Ending) (w' : World) : Prop := ∃ v, e = .returned (.agg #[.int .i64 (sgn n), v]) ∧ Dg w' v (low n.natAbs) ∧ Below w.heap.size w w'

/-- Behind the loop: the sign is mended, and the whole number is told. -/
theorem of_end {w wr : World} {sg : Int} {m : Nat} {v : Value} {ds : List Nat} (hA : OfAt w sg m 0 wr v ds) : ds = low m ∧ (∃ a c, v = .slice a ds.length c) := by
  have hd : ds = low m := by have := hA.digs; rw [low_zero, List.append_nil] at this; exact this
  refine ⟨hd, ?_⟩
  obtain ⟨a, c, h, _⟩ := dg_of_own hA.own
  exact ⟨a, c, h⟩
theorem OfAt.len {w wr : World} {sg : Int} {m k : Nat} {v : Value} {ds : List Nat} (hA : OfAt w sg m k wr v ds) (hm : m ≤ 9223372036854775808) : ds.length ≤ 20 := by
  have h1 := low_len 20 m (by omega)
  have h2 : (ds ++ low k).length = (low m).length := by rw [hA.digs]
  rw [List.length_append] at h2
  omega

theorem low_nil (m : Nat) : (low m).length = 0 ↔ m = 0 := by
  constructor
  · intro h
    by_cases h0 : m = 0
    · exact h0
    · rw [low_pos m h0] at h; simp at h
  · rintro rfl; rw [low_zero]; rfl

set_option maxRecDepth 100000 in
set_option maxHeartbeats 2000000 in
theorem of_pos (n : Nat) (w : World) (hn : n ≤ 9223372036854775807) :
    Calls Try.prog 45 #[.int .i64 (n : Int)] w (OfPost (n : Int) w) := by
  obtain ⟨i0, hi, hz0, hz1, hz2⟩ := info_parts Try.infoInt
  have t0 : decide ((n : Int) < 0) = false := decide_eq_false (by omega)
  have hbn : n ≤ 9223372036854775808 := by omega
  go_enter Try.func45, Try.ntmps45
  go_wp2_with fail
  go_loopw [0] (fun c wr => ∃ (k : Nat) (v : Value) (ds : List Nat), c = .int .i64 ((k : Int)) ∧ k ≤ 9223372036854775807 ∧ OfAt w 1 n k wr v ds) (fun c _ => (intOf c).natAbs)
  case atStart =>
    refine ⟨n, _, [], rfl, hn, ⟨⟨_, _, heap_alloc2_old _ _ _⟩, heap_alloc2_new _ _ _, World.ownsRow_nil _ _ _ _, rfl, ((Below.refl _ _).alloc (Nat.le_refl _) _).alloc (by simp) _⟩⟩
  case round =>
    obtain ⟨k, v, ds, rfl, hk, hA⟩ := hrel
    have hdl := hA.len hbn
    have HA := Lib.hid hA
    have c0 := cell_of_row _ _ 0 _ _ _ hA.mem
    have c1 := cell_of_row _ _ 1 _ _ _ hA.mem
    have f1 := frozen_of_row _ _ 1 _ _ hA.mem
    have f0 := frozen_of_row _ _ 0 _ _ hA.mem
    have hszr := lt_of_block hA.mem
    simp at c0 c1
    by_cases hz : k = 0
    · subst hz
      obtain ⟨hds, ⟨a, c, rfl⟩⟩ := of_end hA
      obtain ⟨x, y, hres⟩ := hA.res
      have r0 := cell_of_row _ _ 0 _ _ _ hres
      have r1 := cell_of_row _ _ 1 _ _ _ hres
      have g0 := frozen_of_row _ _ 0 _ _ hres
      have g1 := frozen_of_row _ _ 1 _ _ hres
      simp at r0 r1
      have HR := Lib.hid hds
      have HRES := Lib.hid hres
      clear hds hA hres
      by_cases hn0 : ds.length = 0
      · have t3 : ((ds.length : Int) == 0) = true := beq_iff_eq.2 (by omega)
        have HN := Lib.hid hn0
        have hres2 := (heap_setCell_other wr ⟨w.heap.size + 1, 0, none⟩ w.heap.size (.int .i64 0) (by simp)).trans HRES.out
        have hfin := two_set (p := .int .i64 0) (q := .slice a ds.length c) hres2
        have q0 := cell_of_row _ _ 0 _ _ _ hfin
        have q1 := cell_of_row _ _ 1 _ _ _ hfin
        simp at q0 q1
        have hO := ownsRow_setCell_below (ownsRow_setCell_below (ownsRow_setCell_below HA.out.own (a := ⟨w.heap.size + 1, 0, none⟩) (by simp) (.int .i64 0)) (a := ⟨w.heap.size, 0, none⟩) (by simp) (.int .i64 0)) (a := ⟨w.heap.size, 1, none⟩) (by simp) (.slice a ds.length c)
        have HD := Lib.hid (dg_of_own hO)
        have hBb := ((HA.out.below.setCell (p := ⟨w.heap.size + 1, 0, none⟩) (by simp) (.int .i64 0)).setCell (p := ⟨w.heap.size, 0, none⟩) (by simp) (.int .i64 0)).setCell (p := ⟨w.heap.size, 1, none⟩) (by simp) (.slice a ds.length c)
        have HQ0 := Lib.hid q0
        have HQ1 := Lib.hid q1
        clear hn0 hres2 hfin q0 q1 hO
        go_wp2_with fail
        have q0 := HQ0.out
        have q1 := HQ1.out
        refine bodyPost_ret (v := .agg #[.int .i64 0, .slice a ds.length c]) (by simp [results, Try.results45, go_sem, q0, q1]) rfl ?_
        have hz : n = 0 := (low_nil n).1 (by rw [← HR.out]; exact HN.out)
        refine ⟨.slice a ds.length c, by rw [hz]; rfl, ?_, hBb⟩
        rw [show low (n : Int).natAbs = ds from HR.out.symm]
        exact HD.out
      · have t3 : ((ds.length : Int) == 0) = false := beq_eq_false_iff_ne.2 (by omega)
        have HN := Lib.hid hn0
        have hfin := two_set (p := .int .i64 1) (q := .slice a ds.length c) HRES.out
        have q0 := cell_of_row _ _ 0 _ _ _ hfin
        have q1 := cell_of_row _ _ 1 _ _ _ hfin
        simp at q0 q1
        have hO := ownsRow_setCell_below (ownsRow_setCell_below HA.out.own (a := ⟨w.heap.size, 0, none⟩) (by simp) (.int .i64 1)) (a := ⟨w.heap.size, 1, none⟩) (by simp) (.slice a ds.length c)
        have HD := Lib.hid (dg_of_own hO)
        have hBb := (HA.out.below.setCell (p := ⟨w.heap.size, 0, none⟩) (by simp) (.int .i64 1)).setCell (p := ⟨w.heap.size, 1, none⟩) (by simp) (.slice a ds.length c)
        have HQ0 := Lib.hid q0
        have HQ1 := Lib.hid q1
        clear hn0 hfin q0 q1 hO
        go_wp2_with fail
        have q0 := HQ0.out
        have q1 := HQ1.out
        refine bodyPost_ret (v := .agg #[.int .i64 1, .slice a ds.length c]) (by simp [results, Try.results45, go_sem, q0, q1]) rfl ?_
        have hz : ¬ n = 0 := fun h => HN.out (by rw [HR.out]; exact (low_nil n).2 h)
        refine ⟨.slice a ds.length c, by rw [show sgn (n : Int) = 1 from by unfold sgn; rw [if_neg (by omega), if_neg (by omega)]], ?_, hBb⟩
        rw [show low (n : Int).natAbs = ds from HR.out.symm]
        exact HD.out
    · have t1 : ((k : Int) != 0) = true := by rw [bne_iff_ne]; omega
      have t2 : decide ((k : Int) % 10 < 0) = false := decide_eq_false (by omega)
      have hown := Lib.hid hA.own
      have HZ := Lib.hid hz
      clear hA hz
      go_wp2_with (at_builtin; refine wpList_append_own _ rfl _ _ 50 rfl (w.heap.size + 2) 3 i0 (.int .i64 0) 1 8 Try.underlying50 hi hz0 hz1 hz2 rfl (by decide) _ _ _ rfl (hown.out.alloc _) ⟨wr.heap.size, 0, none⟩ 1 1 [iv (k % 10)] rfl rfl ?c1 ?c2 ?c3 ?c4 ?c5 ?_)
      case c1 => exact cell_one_new _ _ _
      case c2 => exact iv_one [k % 10]
      case c3 => unfold maxLen; omega
      case c4 => omega
      case c5 => simp; omega
      intro v' w1 hown1 hg1 hnil
      obtain ⟨hm1, hA1⟩ := of_step HA.out HZ.out hown1 hg1
      have d1 := cell_of_row _ _ 1 _ _ _ hm1
      have e1 := frozen_of_row _ _ 1 _ _ hm1
      simp at d1
      have HA1 := Lib.hid hA1
      obtain ⟨g', cap', rfl⟩ := own_form hown1 (by omega)
      clear hA1 hown1 hg1 hnil hm1
      go_wp2_with fail
      go_roundw
      case rel => exact ⟨k / 10, _, ds ++ [k % 10], rfl, by omega, HA1.out⟩
      case measure => have hz := HZ.out; simp [intOf]; omega
theorem neg_tmod10 (k : Nat) : (-(k : Int)).tmod 10 = -((k % 10 : Nat) : Int) := by rw [Int.neg_tmod]; rfl
theorem neg_tdiv10 (k : Nat) : (-(k : Int)).tdiv 10 = -((k / 10 : Nat) : Int) := by rw [Int.neg_tdiv]; rfl

set_option maxRecDepth 100000 in
set_option maxHeartbeats 2000000 in
theorem of_neg (n : Nat) (w : World) (hn : n ≤ 9223372036854775808) (hn1 : 1 ≤ n) :
    Calls Try.prog 45 #[.int .i64 (-(n : Int))] w (OfPost (-(n : Int)) w) := by
  obtain ⟨i0, hi, hz0, hz1, hz2⟩ := info_parts Try.infoInt
  have t0 : decide (-(n : Int) < 0) = true := decide_eq_true (by omega)
  have t01 : decide (0 < (n : Int)) = true := decide_eq_true (by omega)
  have t02 : decide (0 < n) = true := decide_eq_true (by omega)
  have hbn : n ≤ 9223372036854775808 := by omega
  go_enter Try.func45, Try.ntmps45
  go_wp2_with fail
  go_loopw [0] (fun c wr => ∃ (k : Nat) (v : Value) (ds : List Nat), c = .int .i64 (-(k : Int)) ∧ k ≤ 9223372036854775808 ∧ OfAt w (-1) n k wr v ds) (fun c _ => (intOf c).natAbs)
  case atStart =>
    refine ⟨n, _, [], rfl, hn, ⟨⟨_, _, heap_alloc2_old _ _ _⟩, heap_alloc2_new _ _ _, World.ownsRow_nil _ _ _ _, rfl, ((Below.refl _ _).alloc (Nat.le_refl _) _).alloc (by simp) _⟩⟩
  case round =>
    obtain ⟨k, v, ds, rfl, hk, hA⟩ := hrel
    have hdl := hA.len hbn
    have HA := Lib.hid hA
    have c0 := cell_of_row _ _ 0 _ _ _ hA.mem
    have c1 := cell_of_row _ _ 1 _ _ _ hA.mem
    have f1 := frozen_of_row _ _ 1 _ _ hA.mem
    have f0 := frozen_of_row _ _ 0 _ _ hA.mem
    have hszr := lt_of_block hA.mem
    simp at c0 c1
    by_cases hz : k = 0
    · subst hz
      obtain ⟨hds, ⟨a, c, rfl⟩⟩ := of_end hA
      obtain ⟨x, y, hres⟩ := hA.res
      have r0 := cell_of_row _ _ 0 _ _ _ hres
      have r1 := cell_of_row _ _ 1 _ _ _ hres
      have g0 := frozen_of_row _ _ 0 _ _ hres
      have g1 := frozen_of_row _ _ 1 _ _ hres
      simp at r0 r1
      have HR := Lib.hid hds
      have HRES := Lib.hid hres
      clear hds hA hres
      by_cases hn0 : ds.length = 0
      · have t3 : ((ds.length : Int) == 0) = true := beq_iff_eq.2 (by omega)
        have HN := Lib.hid hn0
        have hres2 := (heap_setCell_other wr ⟨w.heap.size + 1, 0, none⟩ w.heap.size (.int .i64 0) (by simp)).trans HRES.out
        have hfin := two_set (p := .int .i64 0) (q := .slice a ds.length c) hres2
        have q0 := cell_of_row _ _ 0 _ _ _ hfin
        have q1 := cell_of_row _ _ 1 _ _ _ hfin
        simp at q0 q1
        have hO := ownsRow_setCell_below (ownsRow_setCell_below (ownsRow_setCell_below HA.out.own (a := ⟨w.heap.size + 1, 0, none⟩) (by simp) (.int .i64 0)) (a := ⟨w.heap.size, 0, none⟩) (by simp) (.int .i64 0)) (a := ⟨w.heap.size, 1, none⟩) (by simp) (.slice a ds.length c)
        have HD := Lib.hid (dg_of_own hO)
        have hBb := ((HA.out.below.setCell (p := ⟨w.heap.size + 1, 0, none⟩) (by simp) (.int .i64 0)).setCell (p := ⟨w.heap.size, 0, none⟩) (by simp) (.int .i64 0)).setCell (p := ⟨w.heap.size, 1, none⟩) (by simp) (.slice a ds.length c)
        have HQ0 := Lib.hid q0
        have HQ1 := Lib.hid q1
        clear hn0 hres2 hfin q0 q1 hO
        go_wp2_with fail
        have q0 := HQ0.out
        have q1 := HQ1.out
        refine bodyPost_ret (v := .agg #[.int .i64 0, .slice a ds.length c]) (by simp [results, Try.results45, go_sem, q0, q1]) rfl ?_
        have hz : n = 0 := (low_nil n).1 (by rw [← HR.out]; exact HN.out)
        exact absurd hz (by omega)
      · have t3 : ((ds.length : Int) == 0) = false := beq_eq_false_iff_ne.2 (by omega)
        have HN := Lib.hid hn0
        have hfin := two_set (p := .int .i64 (-1)) (q := .slice a ds.length c) HRES.out
        have q0 := cell_of_row _ _ 0 _ _ _ hfin
        have q1 := cell_of_row _ _ 1 _ _ _ hfin
        simp at q0 q1
        have hO := ownsRow_setCell_below (ownsRow_setCell_below HA.out.own (a := ⟨w.heap.size, 0, none⟩) (by simp) (.int .i64 (-1))) (a := ⟨w.heap.size, 1, none⟩) (by simp) (.slice a ds.length c)
        have HD := Lib.hid (dg_of_own hO)
        have hBb := (HA.out.below.setCell (p := ⟨w.heap.size, 0, none⟩) (by simp) (.int .i64 (-1))).setCell (p := ⟨w.heap.size, 1, none⟩) (by simp) (.slice a ds.length c)
        have HQ0 := Lib.hid q0
        have HQ1 := Lib.hid q1
        clear hn0 hfin q0 q1 hO
        go_wp2_with fail
        have q0 := HQ0.out
        have q1 := HQ1.out
        refine bodyPost_ret (v := .agg #[.int .i64 (-1), .slice a ds.length c]) (by simp [results, Try.results45, go_sem, q0, q1]) rfl ?_
        have hz : ¬ n = 0 := fun h => HN.out (by rw [HR.out]; exact (low_nil n).2 h)
        refine ⟨.slice a ds.length c, by rw [show sgn (-(n : Int)) = -1 from by unfold sgn; rw [if_pos (by omega)]], ?_, hBb⟩
        rw [show low (-(n : Int)).natAbs = ds from by rw [Int.natAbs_neg]; exact HR.out.symm]
        exact HD.out
    · have t1 : ((-(k : Int)) != 0) = true := by rw [bne_iff_ne]; omega
      have em := neg_tmod10 k
      have eq := neg_tdiv10 k
      have hr10 : k % 10 < 10 := by omega
      generalize hr : k % 10 = r at *
      generalize hq : k / 10 = q at *
      have HRR : Hid (r = k % 10) := hr.symm
      have HQQ : Hid (q = k / 10) := hq.symm
      have hqb : q ≤ 922337203685477581 := by omega
      clear hr hq
      by_cases hr0 : r = 0
      · have em0 : (-(k : Int)).tmod 10 = 0 := by rw [em, hr0]; rfl
        have HR0 : Hid (iv 0 = iv (k % 10)) := by
          show iv 0 = iv (k % 10)
          rw [← HRR.out, hr0]
        clear hr0 em
        have hown := Lib.hid hA.own
        have HZ := Lib.hid hz
        clear hA hz
        go_wp2_with (at_builtin; refine wpList_append_own _ rfl _ _ 50 rfl (w.heap.size + 2) 3 i0 (.int .i64 0) 1 8 Try.underlying50 hi hz0 hz1 hz2 rfl (by decide) _ _ _ rfl (hown.out.alloc _) ⟨wr.heap.size, 0, none⟩ 1 1 [iv 0] rfl rfl ?c1 ?c2 ?c3 ?c4 ?c5 ?_)
        case c1 => exact cell_one_new _ _ _
        case c2 => exact iv_one [0]
        case c3 => unfold maxLen; omega
        case c4 => omega
        case c5 => simp; omega
        intro v' w1 hown1 hg1 hnil
        rw [HR0.out] at hown1
        obtain ⟨hm1, hA1⟩ := of_step HA.out HZ.out hown1 hg1
        have d1 := cell_of_row _ _ 1 _ _ _ hm1
        have e1 := frozen_of_row _ _ 1 _ _ hm1
        simp at d1
        have HA1 := Lib.hid hA1
        obtain ⟨g', cap', rfl⟩ := own_form hown1 (by omega)
        clear hA1 hown1 hg1 hnil hm1
        go_wp2_with fail
        go_roundw
        case rel => exact ⟨k / 10, _, ds ++ [k % 10], by rw [HQQ.out], by omega, HA1.out⟩
        case measure => have hz := HZ.out; have hqq := HQQ.out; simp [intOf]; omega
      · have t2 : decide (-(r : Int) < 0) = true := decide_eq_true (by omega)
        have t4 : decide ((0 : Int) < (r : Int)) = true := decide_eq_true (by omega)
        have t5 : decide (0 < r) = true := decide_eq_true (by omega)
        clear hr0
        have hown := Lib.hid hA.own
        have HZ := Lib.hid hz
        clear hA hz
        go_wp2_with (at_builtin; refine wpList_append_own _ rfl _ _ 50 rfl (w.heap.size + 2) 3 i0 (.int .i64 0) 1 8 Try.underlying50 hi hz0 hz1 hz2 rfl (by decide) _ _ _ rfl (hown.out.alloc _) ⟨wr.heap.size, 0, none⟩ 1 1 [iv r] rfl rfl ?c1 ?c2 ?c3 ?c4 ?c5 ?_)
        case c1 => exact cell_one_new _ _ _
        case c2 => exact iv_one [r]
        case c3 => unfold maxLen; omega
        case c4 => omega
        case c5 => simp; omega
        intro v' w1 hown1 hg1 hnil
        rw [HRR.out] at hown1
        obtain ⟨hm1, hA1⟩ := of_step HA.out HZ.out hown1 hg1
        have d1 := cell_of_row _ _ 1 _ _ _ hm1
        have e1 := frozen_of_row _ _ 1 _ _ hm1
        simp at d1
        have HA1 := Lib.hid hA1
        obtain ⟨g', cap', rfl⟩ := own_form hown1 (by omega)
        clear hA1 hown1 hg1 hnil hm1
        go_wp2_with fail
        go_roundw
        case rel => exact ⟨k / 10, _, ds ++ [k % 10], by rw [HQQ.out], by omega, HA1.out⟩
        case measure => have hz := HZ.out; have hqq := HQQ.out; simp [intOf]; omega

theorem of_any (n : Int) (w : World) (hn : I64 n) : Calls Try.prog 45 #[.int .i64 n] w (OfPost n w) := by
  obtain ⟨h1, h2⟩ := hn
  by_cases h : n < 0
  · obtain ⟨m, rfl⟩ : ∃ m : Nat, n = -(m : Int) := ⟨n.natAbs, by omega⟩
    exact of_neg m w (by omega) (by omega)
  · obtain ⟨m, rfl⟩ := Int.eq_ofNat_of_zero_le (show 0 ≤ n by omega)
    exact of_pos m w (by omega)

def BigPost (z : Int) (L : Nat) (w : World) (e : Ending) (w' : World) : Prop := ∃ V, e = .returned V ∧ BigAt w' V z L ∧ Below w.heap.size w w'
theorem sgn_val (n : Int) : sgn n * (val (low n.natAbs) : Int) = n := by
  rw [val_low]; unfold sgn
  split
  · omega
  · split <;> omega
theorem of_big (n : Int) (w : World) (hn : I64 n) : Calls Try.prog 45 #[.int .i64 n] w (BigPost n 20 w) := by
  refine (of_any n w hn).mono ?_
  rintro e w' ⟨v, rfl, hd, hB⟩
  refine ⟨_, rfl, ⟨sgn n, v, _, rfl, ?_, hd, low_ok _, low_len 20 _ (by obtain ⟨h1, h2⟩ := hn; omega), (sgn_val n).symm, ?_⟩, hB⟩
  · unfold sgn; split
    · left; rfl
    · split
      · right; left; rfl
      · right; right; rfl
  · intro h
    have := sgn_val n
    rw [h] at this
    rw [val_low]
    simp at this
    omega

end Go.Proofs.Ytmdnmcbjpjpgjaa
