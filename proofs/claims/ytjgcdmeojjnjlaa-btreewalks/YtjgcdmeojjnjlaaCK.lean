/- A part of the proof: contracts of the functions that the statements reach. -/
import Derived.RangeFuncNested
import Derived.RangeFuncBound
import Derived.RangeFuncCalls
import Derived.RangeFuncLeaves
import Derived.Shelf.Abstract
import Derived.Shelf.RegionOpen
import Derived.WalkKit
import Derived.OwnWalkIn
import Derived.TacticsInMore
import Derived.LoopNIn
import Derived.LoopIn
import Derived.Shelf.SlSortCmp.WholeK
import Derived.WalkSpells
import Derived.WalkLawsBesides
import Derived.Lib.Hide
import Derived.Laws.StructEq
import Derived.Shelf.SlSortCmp.QuietGrown
import Derived.Laws.EntriesVeiled
import Derived.Deep.CutRange
import Derived.RegionTactic
import Derived.Lib.QuietBelow
import Derived.BigQuiet
import Derived.OpenShut
import Derived.Deep.RegionHeld3
import Derived.Deep.QuietTactic
import Derived.Maps.AppendAt
import Derived.Laws.IdiomCopy
import Derived.Deep.AppendLies
import Derived.Deep.LoopGhost
import Derived.Deep.Upon
import Derived.StillTailTactics
import Derived.Lib.SmallJoins
import Derived.Deep.SlicePairs
import Derived.Deep.Strs
import Derived.ChangeOld
import Derived.SizedLaws
import Derived.Lib.SliceRun
import Derived.Laws.CopyRow
import Derived.Below
import Derived.Laws.CopyOwn
import Derived.Deep.RegionLaw
import Derived.IntWalk
import Derived.Test.YtjgcdmeojjnjlaaCJ

/- turnOn: the child behind gives a segment. -/
namespace Go.Proofs.Ytjgcdmeojjnjlaa
open Go.RowKit Go.Sort Go.Proofs.Ytjgcdmeojjnjlaa.Bo Go.Proofs.Ytjgcdmeojjnjlaa.Bb Go.Proofs.Ytjgcdmeojjnjlaa.Rf
set_option linter.unusedVariables false
set_option linter.unusedSimpArgs false
set_option maxRecDepth 100000
theorem grown_of_alloc {W y : World} {o : Obj} {r : Option Nat} (h : (W.alloc o).grownBy y r) : W.grownBy y r :=
  ⟨h.os, h.tape, h.output, Nat.le_trans (below_new W o).size h.size, fun k hk hr => (h.block k (Nat.lt_of_lt_of_le hk (below_new W o).size) hr).trans ((below_new W o).block k hk)⟩
theorem cell_alloc {W : World} {o : Obj} {p : Addr} {u : Value} (h : W.cell? p = some u) : (W.alloc o).cell? p = some u := ((below_new W o).cell (World.block_lt_of_cell? W _ h)).trans h
set_option maxHeartbeats 8000000 in
set_option maxHeartbeats 8000000 in
theorem BtH.turnOnL {w0 W : World} {S B : Nat → Prop} {base T A g : Nat} {t : Bx} (h : BtH w0 S B base T A t W) (hg : PlG W A g) (y p q : Nat) (ny np nq : Kn) (fy : t.f (y : Int) = some ny) (fp : t.f (p : Int) = some np) (fq : t.f (q : Int) = some nq) (hyp : y ≠ p) (hyq : y ≠ q) (hpq : p ≠ q)
    (k : Nat) (x : G5) (m : G5) (qs : List G5) (hm : nq.segs = m :: qs) (hkk : nq.kids = []) (k1 : ny.kids[k]? = some (p : Int)) (k2 : ny.kids[k + 1]? = some (q : Int)) (hx : ny.segs[k]? = some x) (l1 : ny.segs.length ≤ 1000 ∧ ny.kids.length ≤ 1000) (l2 : np.segs.length ≤ 1000 ∧ np.kids.length ≤ 1000) (l3 : nq.segs.length ≤ 1000 ∧ nq.kids.length ≤ 1000) :
    Calls Try.prog 111 #[aP T, .pointer (some ⟨g, y * 3, none⟩), .int .i64 (k : Int)] W fun e w' => e = .returned (.tuple #[]) ∧ ∃ F, BtH w0 S B base T A { t with f := F } w' ∧ F (y : Int) = some ⟨ny.segs.set k m, ny.kids⟩ ∧ F (p : Int) = some ⟨np.segs ++ [x], np.kids⟩ ∧ F (q : Int) = some ⟨qs, nq.kids⟩ ∧ (∀ j : Int, j ≠ (y : Int) → j ≠ (p : Int) → j ≠ (q : Int) → F j = t.f j) ∧ ∀ b, B b → w'.heap[b]? = W.heap[b]? := by
  have mx := mixed
  obtain ⟨hk1, e1⟩ := List.getElem?_eq_some_iff.1 k1
  obtain ⟨hk2, e2⟩ := List.getElem?_eq_some_iff.1 k2
  obtain ⟨hxl, ex⟩ := List.getElem?_eq_some_iff.1 hx
  obtain ⟨S1, h5, h6⟩ := h.rebase
  have HRB := Lib.hid h6
  have HH := Lib.hid h5
  have HG := Lib.hid hg
  clear h6
  obtain ⟨say, kay, scy, kcy, vy⟩ := h5.node hg y ny fy
  obtain ⟨sap, kap, scp, kcp, vp⟩ := h5.node hg p np fp
  obtain ⟨saq, kaq, scq, kcq, vq⟩ := h5.node hg q nq fq
  have HAP := Lib.hid vp.at_
  have HAQ := Lib.hid vq.at_
  have cky := vy.ck
  obtain ⟨kb, rfl, _, q1, _⟩ := own_at vy.ok rfl k hk1
  obtain ⟨kb2, e3, _, q2, _⟩ := own_at vy.ok rfl (k + 1) hk2
  obtain rfl : kb = kb2 := by injection e3 with e3; injection e3
  rw [e1] at q1
  rw [e2] at q2
  have p1 := cell_regrown ((cell_of_row _ _ 1 _ _ _ h.top).trans rfl : W.cell? ⟨T, 1, none⟩ = some (aP A))
  have p2 := cell_regrown cky
  have p3 := cell_regrown q1
  have p4 := cell_regrown q2
  have i1 : IntKind.i64.wrap ((k : Int) + 1) = (k : Int) + 1 := IntWalk.i64_in _ (by omega)
  have i2 : (0 : Int) ≤ (k : Int) := by omega
  have i3 : (k : Int) < (ny.kids.length : Int) := by omega
  have i4 : (0 : Int) ≤ (k : Int) + 1 := by omega
  have i5 : (k : Int) + 1 < (ny.kids.length : Int) := by omega
  have HX := Lib.hid hx
  have HXL := Lib.hid hxl
  have HFY := Lib.hid fy
  have HFP := Lib.hid fp
  have HFQ := Lib.hid fq
  have HN1 := Lib.hid hyp
  have HN2 := Lib.hid hyq
  have HN3 := Lib.hid hpq
  have HM := Lib.hid hm
  have HKK := Lib.hid hkk
  clear vy vp vq cky q1 q2 e1 e2 e3 k1 k2 hx hk1 hk2 hxl ex fy fp fq hyp hyq hpq hm hkk h h5 hg 
  go_enter Try.func111, Try.ntmps111
  go_upto_region 0 with fail
  refine wp_region_quiet_below (by assumption) (by kernel_rfl) ?_
  repeat (go_big_quiet_step (first
    | (go_at_call 50; with_reducible exact Calls.regrown_of ((HAP.out _ (below_regrown _ _ _)).mono fun e w' h => ⟨h.1, h.2 ▸ Go.RowKit.Below.refl _ _⟩))
    | (go_at_call 50; with_reducible exact Calls.regrown_of ((HAQ.out _ (below_regrown _ _ _)).mono fun e w' h => ⟨h.1, h.2 ▸ Go.RowKit.Below.refl _ _⟩))))
  refine wpQuiet_nil ?_
  intro _ hw'
  obtain ⟨⟨nq0, osq⟩, hw''⟩ := hw'
  subst hw''
  have hb0 := below_regrown W nq0 osq
  generalize grow (redrawn W nq0) osq = Y at *
  clear p1 p2 p3 p4 i3 i4 i5
  have HY := Lib.hid (HH.out.below hb0)
  have HGY := Lib.hid (HG.out.below hb0)
  clear hb0 HAP HAQ HH HG
  go_upto_region 1 with fail
  -- the one between goes down
  have HD := Lib.hid (HY.out.below (Go.RowKit.Below.refl _ _).drew)
  have HGD := Lib.hid (HGY.out.below (Go.RowKit.Below.refl _ _).drew)
  obtain ⟨say, kay, scy, kcy, vy⟩ := HD.out.node HGD.out y ny HFY.out
  obtain ⟨sap, kap, scp, kcp, vp⟩ := HD.out.node HGD.out p np HFP.out
  obtain ⟨n1, hn1⟩ : ∃ n1, n1 = np.segs.length := ⟨_, rfl⟩
  obtain ⟨n3, hn3⟩ : ∃ n3, n3 = ny.segs.length := ⟨_, rfl⟩
  have HN1L := Lib.hid hn1
  have HN3L := Lib.hid hn3
  have c1 := vp.cs
  have c2 := vy.cs
  have HOA := Lib.hid (vp.os.alloc (oG x))
  rw [← hn1] at c1 HOA
  rw [← hn3] at c2
  obtain ⟨yb, rfl, _, hc5, _⟩ := own_atG vy.os rfl k HXL.out
  rw [show ny.segs[k]'HXL.out = x from (List.getElem?_eq_some_iff.1 HX.out).2] at hc5
  obtain ⟨d1, d2, d3, d4, d5⟩ := hc5
  have HLS := Lib.hid (Bs.Lies.of_own (own_one5 Y.drew x 0 (Nat.zero_le _)))
  have HSZ : Hid (base ≤ (Y.drew.alloc (oG x)).heap.size) := Nat.le_trans vp.le (below_new Y.drew (oG x)).size
  have HV := Lib.hid vp
  have HGF : Hid (∀ y1, Y.drew.grownBy y1 (Value.slice sap n1 scp).ownBlock → y1.cell? ⟨g, p * 3, none⟩ = some (.slice sap n1 scp) ∧ y1.frozen? ⟨g, p * 3, none⟩ = false) := fun y1 hy => by
    have hne : some g ≠ (Value.slice sap n1 scp).ownBlock := fun e => vp.gs g ((ownBlk _ _ _ _ _).trans e.symm) rfl
    exact ⟨(hy.cell_far ⟨g, p * 3, none⟩ vp.gb hne).trans c1, (hy.frozen_far ⟨g, p * 3, none⟩ vp.gb hne).trans (vp.fz _)⟩
  have i3 : (k : Int) < (n3 : Int) := by have := HXL.out; omega
  have i4n : n1 ≤ 1000 := by omega
  obtain ⟨i0, hi0, hz0, hz1, hz2⟩ := info_parts Try.infoSeg
  obtain ⟨S5, hS5⟩ : ∃ S5 : World → Prop, S5 = fun w' => w'.cell? ⟨g, p * 3, none⟩ = some (.slice sap n1 scp) ∧ w'.cell? ⟨g, y * 3, none⟩ = some (.slice (some ⟨yb, 0, none⟩) n3 scy) ∧ w'.cell? ⟨yb, k * 5, none⟩ = some (.int .i64 x.ls) ∧ w'.cell? ⟨yb, k * 5 + 1, none⟩ = some (.int .i64 x.la) ∧ w'.cell? ⟨yb, k * 5 + 2, none⟩ = some (.int .i64 x.hs) ∧ w'.cell? ⟨yb, k * 5 + 3, none⟩ = some (.int .i64 x.ha) ∧ w'.cell? ⟨yb, k * 5 + 4, none⟩ = some (.int .i64 x.v) := ⟨_, rfl⟩
  have HS1 : Hid (S5 Y.drew) := by show S5 _; rw [hS5]; exact ⟨c1, c2, d1, d2, d3, d4, d5⟩
  have HS2 : Hid (S5 (Y.drew.alloc (oG x))) := by show S5 _; rw [hS5]; exact ⟨cell_alloc c1, cell_alloc c2, cell_alloc d1, cell_alloc d2, cell_alloc d3, cell_alloc d4, cell_alloc d5⟩
  clear vy vp c1 c2 d1 d2 d3 d4 d5 hn1 hn3
  refine wp_plain_T S5 13 mx HS1.out (fun _ _ h => h) (fun hHeld => ?_)
  subst hS5
  generalize Y.drew = Z at *
  refine wpAnyT_pure (i := 0) (v := ?_) (by kernel_rfl) rfl (by kernel_rfl) (by kernel_rfl) (by kernel_rfl) (fun _ _ _ h => h) (Or.inl ⟨by rfl, ?_⟩) (by assumption) ?_
  rotate_left
  · intro w0; go_simp; all_goals (with_reducible rfl)
  try simp only [Act.put, List.setIfInBounds_toArray, List.set_cons_zero, List.set_cons_succ]
  refine wpAnyT_pure (i := 1) (v := ?_) (by kernel_rfl) rfl (by kernel_rfl) (by kernel_rfl) (by kernel_rfl) (fun _ _ _ h => h) (Or.inl ⟨by rfl, ?_⟩) (by assumption) ?_
  rotate_left
  · intro w0; go_simp; all_goals (with_reducible rfl)
  try simp only [Act.put, List.setIfInBounds_toArray, List.set_cons_zero, List.set_cons_succ]
  refine wpAnyT_pure (i := 2) (v := ?_) (by kernel_rfl) rfl (by kernel_rfl) (by kernel_rfl) (by kernel_rfl) (fun _ _ _ h => h) (Or.inl ⟨by rfl, ?_⟩) (by assumption) ?_
  rotate_left
  · intro w0; go_simp; all_goals (with_reducible rfl)
  try simp only [Act.put, List.setIfInBounds_toArray, List.set_cons_zero, List.set_cons_succ]
  refine wpAnyT_pure (i := 3) (v := ?_) (by kernel_rfl) rfl (by kernel_rfl) (by kernel_rfl) (by kernel_rfl) (fun _ _ _ h => h) (Or.inl ⟨by rfl, ?_⟩) (by assumption) ?_
  rotate_left
  · intro w0; go_simp; all_goals (with_reducible rfl)
  try simp only [Act.put, List.setIfInBounds_toArray, List.set_cons_zero, List.set_cons_succ]
  refine wpAnyT_take (i := 4) (v := ?_) [13, 14, 15, 16] (by kernel_rfl) (by kernel_rfl) (by kernel_rfl) rfl (by kernel_rfl) (by kernel_rfl) (by kernel_rfl) (fun _ _ _ h => h) (Or.inl ⟨by rfl, ?_⟩) (by assumption) ?_
  rotate_left
  · intro w0 hSw; (try dsimp only at hSw); go_simp; all_goals (with_reducible rfl)
  try simp only [Act.put, List.setIfInBounds_toArray, List.set_cons_zero, List.set_cons_succ]
  refine wpAnyT_pure (i := 5) (v := ?_) (by kernel_rfl) rfl (by kernel_rfl) (by kernel_rfl) (by kernel_rfl) (fun _ _ _ h => h) (Or.inl ⟨by rfl, ?_⟩) (by assumption) ?_
  rotate_left
  · intro w0; go_simp; all_goals (with_reducible rfl)
  try simp only [Act.put, List.setIfInBounds_toArray, List.set_cons_zero, List.set_cons_succ]
  refine wpAnyT_pure (i := 6) (v := ?_) (by kernel_rfl) rfl (by kernel_rfl) (by kernel_rfl) (by kernel_rfl) (fun _ _ _ h => h) (Or.inl ⟨by rfl, ?_⟩) (by assumption) ?_
  rotate_left
  · intro w0; go_simp; all_goals (with_reducible rfl)
  try simp only [Act.put, List.setIfInBounds_toArray, List.set_cons_zero, List.set_cons_succ]
  refine wpAnyT_pure (i := 7) (v := ?_) (by kernel_rfl) rfl (by kernel_rfl) (by kernel_rfl) (by kernel_rfl) (fun _ _ _ h => h) (Or.inl ⟨by rfl, ?_⟩) (by assumption) ?_
  rotate_left
  · intro w0; go_simp; all_goals (with_reducible rfl)
  try simp only [Act.put, List.setIfInBounds_toArray, List.set_cons_zero, List.set_cons_succ]
  refine wpAnyT_take (i := 8) (v := ?_) [10, 11, 12, 13, 14, 15, 16] (by kernel_rfl) (by kernel_rfl) (by kernel_rfl) rfl (by kernel_rfl) (by kernel_rfl) (by kernel_rfl) (fun _ _ _ h => h) (Or.inl ⟨by rfl, ?_⟩) (by assumption) ?_
  rotate_left
  · intro w0 hSw; (try dsimp only at hSw); go_simp; all_goals (with_reducible rfl)
  try simp only [Act.put, List.setIfInBounds_toArray, List.set_cons_zero, List.set_cons_succ]
  refine wpAnyT_pure (i := 9) (v := ?_) (by kernel_rfl) rfl (by kernel_rfl) (by kernel_rfl) (by kernel_rfl) (fun _ _ _ h => h) (Or.inl ⟨by rfl, ?_⟩) (by assumption) ?_
  rotate_left
  · intro w0; go_simp; all_goals (with_reducible rfl)
  try simp only [Act.put, List.setIfInBounds_toArray, List.set_cons_zero, List.set_cons_succ]
  refine wpAnyT_pure (i := 10) (v := ?_) (by kernel_rfl) rfl (by kernel_rfl) (by kernel_rfl) (by kernel_rfl) (fun _ _ _ h => h) (Or.inl ⟨by rfl, ?_⟩) (by assumption) ?_
  rotate_left
  · intro w0; go_simp; all_goals (with_reducible rfl)
  try simp only [Act.put, List.setIfInBounds_toArray, List.set_cons_zero, List.set_cons_succ]
  refine wpAnyT_take (i := 11) (v := ?_) [12, 13, 14, 15, 16] (by kernel_rfl) (by kernel_rfl) (by kernel_rfl) rfl (by kernel_rfl) (by kernel_rfl) (by kernel_rfl) (fun _ _ _ h => h) (Or.inl ⟨by rfl, ?_⟩) (by assumption) ?_
  rotate_left
  · intro w0 hSw; (try dsimp only at hSw); go_simp; all_goals (with_reducible rfl)
  try simp only [Act.put, List.setIfInBounds_toArray, List.set_cons_zero, List.set_cons_succ]
  refine wpAnyT_one (i := 12) (by kernel_rfl) (by kernel_rfl) rfl (fun K0 hK0 => ?_)
  go_simp
  refine hK0.out _ _ ⟨?_, ?_⟩
  · exact HS2.out
  clear hK0 K0
  try simp only [Act.put, List.setIfInBounds_toArray, List.set_cons_zero, List.set_cons_succ]
  refine wpAnyT_stop (by kernel_rfl) rfl (fun K0 hK0 => ?_)
  refine Bs.step_append_row (P := Try.prog) _ rfl (.tmp 37) (.tmp 45) 32 rfl base 38 i0 _ 5 40 Try.underlying32 hi0 hz0 hz1 hz2 rfl (by omega) _ n1 (flatG np.segs) (by rfl) HOA.out (some ⟨Z.heap.size, 0, none⟩) 1 1 (flatG [x]) (by rfl) rfl HLS.out (flatG_one [x]) (by simp only [maxLen]; omega) (by omega) HSZ.out ?_
  intro a1 c1 y1 ho1 hg1 hat1
  obtain ⟨y5, y6⟩ := HGF.out y1 (grown_of_alloc hg1)
  have HO1 := Lib.hid ho1
  have HG1 := Lib.hid (grown_of_alloc hg1)
  have HAT1 := Lib.hid hat1
  clear ho1 hg1 hat1
  try dsimp only
  refine hK0.out _ _ ?_
  clear hK0 K0
  try simp only [Act.put, List.setIfInBounds_toArray, List.set_cons_zero, List.set_cons_succ]
  refine wpAny_take (i := 14) (v := ?_) rfl (by kernel_rfl) (by kernel_rfl) (by kernel_rfl) (fun _ _ _ h => h) (Or.inl ⟨by rfl, ?_⟩) ?_
  rotate_left
  · intro w0; go_simp; all_goals (with_reducible rfl)
  try simp only [Act.put, List.setIfInBounds_toArray, List.set_cons_zero, List.set_cons_succ]
  refine wpAny_take (i := 15) (v := ?_) rfl (by kernel_rfl) (by kernel_rfl) (by kernel_rfl) (fun _ _ _ h => h) (Or.inl ⟨by rfl, ?_⟩) ?_
  rotate_left
  · intro w0; go_simp; all_goals (with_reducible rfl)
  try simp only [Act.put, List.setIfInBounds_toArray, List.set_cons_zero, List.set_cons_succ]
  refine wpAny_one (i := 16) (by kernel_rfl) rfl (fun K0 hK0 => ?_)
  go_simp
  refine hK0.out _ _ ?_
  clear hK0 K0
  try simp only [Act.put, List.setIfInBounds_toArray, List.set_cons_zero, List.set_cons_succ]
  refine wpAny_end (by kernel_rfl) ?_ _
  simp only [onlyN]
  have hset := HV.out.setS y1 a1 c1 (np.segs ++ [x]) (by rw [show (Value.slice sap np.segs.length scp).ownBlock = (Value.slice sap n1 scp).ownBlock from ownBlk _ _ _ _ _]; exact HG1.out) (by rw [List.length_append, ← HN1L.out, flatG_append]; exact HO1.out) (fun b hb => by
    have hb' : (Value.slice a1 (n1 + 1) c1).ownBlock = some b := by rw [← hb]; exact ownBlk _ _ _ _ _
    rcases HAT1.out with q | q
    · exact .inl ((ownBlk _ _ _ _ _).trans (q.symm.trans hb'))
    · refine .inr ⟨?_, (HO1.out.lt b hb').2, id⟩
      rw [hb'] at q; injection q with q; rw [q]; exact (below_new Z (oG x)).size)
  rw [List.length_append, List.length_cons, List.length_nil, ← HN1L.out] at hset
  obtain ⟨h7, h8, _⟩ := hset
  have H2 := Lib.hid h7
  have HG2 := Lib.hid h8
  clear h7 h8 hHeld HS1 HS2 HGF HOA HLS HSZ HO1 HG1 HAT1 HV HD HGD y5 y6 HY HGY i3 hi0 hz0 hz1 hz2
  generalize y1.setCell ⟨g, p * 3, none⟩ (.slice a1 (n1 + 1) c1) = Y2 at *
  go_upto_region 2 with fail
  -- the first one goes up
  have HD := Lib.hid (H2.out.below (Go.RowKit.Below.refl _ _).drew)
  have HGD := Lib.hid (HG2.out.below (Go.RowKit.Below.refl _ _).drew)
  obtain ⟨say, kay, scy, kcy, vy⟩ := HD.out.node HGD.out y ny ((updK_nat _ _ _ _ HN1.out).trans HFY.out)
  obtain ⟨saq, kaq, scq, kcq, vq⟩ := HD.out.node HGD.out q nq ((updK_nat _ _ _ _ HN3.out.symm).trans HFQ.out)
  obtain ⟨n2, hn2⟩ : ∃ n2, n2 = nq.segs.length := ⟨_, rfl⟩
  have HN2L := Lib.hid hn2
  have hnl : n2 = qs.length + 1 := by rw [hn2, HM.out]; rfl
  have HNL := Lib.hid hnl
  have c2 := vy.cs
  obtain ⟨yb, rfl, _, hy5, hyf⟩ := own_atG vy.os rfl k HXL.out
  have c2' := vy.cs
  rw [← HN3L.out] at c2'
  have hpl : 0 < nq.segs.length := by omega
  obtain ⟨qb, rfl, _, hp5, _⟩ := own_atG vq.os rfl 0 hpl
  have hmm : nq.segs[0]'hpl = m := by
    have : nq.segs[0]? = some m := by rw [HM.out]; rfl
    exact (List.getElem?_eq_some_iff.1 this).2
  rw [hmm] at hp5
  have c3' := vq.cs
  rw [← HN2L.out] at c3'
  obtain ⟨d1, d2, d3, d4, d5⟩ := hp5
  simp only [Nat.zero_mul, Nat.zero_add] at d1 d2 d3 d4 d5
  obtain ⟨f1, f2, f3, f4, f5⟩ := hy5
  have z1 := hyf (k * 5)
  have z2 := hyf (k * 5 + 1)
  have z3 := hyf (k * 5 + 2)
  have z4 := hyf (k * 5 + 3)
  have z5 := hyf (k * 5 + 4)
  have HOV := Lib.hid (HD.out.over HGD.out y ny ((updK_nat _ _ _ _ HN1.out).trans HFY.out) k HXL.out yb scy c2 m)
  have i3 : (k : Int) < (n3 : Int) := by have := HXL.out; have := HN3L.out; omega
  have i8 : (0 : Int) < (n2 : Int) := by omega
  have i9 : 0 < n2 := by omega
  obtain ⟨S5, hS5⟩ : ∃ S5 : World → Prop, S5 = fun w' => w'.cell? ⟨g, y * 3, none⟩ = some (.slice (some ⟨yb, 0, none⟩) n3 scy) ∧ w'.cell? ⟨g, q * 3, none⟩ = some (.slice (some ⟨qb, 0, none⟩) n2 scq) ∧ w'.cell? ⟨qb, 0, none⟩ = some (.int .i64 m.ls) ∧ w'.cell? ⟨qb, 1, none⟩ = some (.int .i64 m.la) ∧ w'.cell? ⟨qb, 2, none⟩ = some (.int .i64 m.hs) ∧ w'.cell? ⟨qb, 3, none⟩ = some (.int .i64 m.ha) ∧ w'.cell? ⟨qb, 4, none⟩ = some (.int .i64 m.v) := ⟨_, rfl⟩
  have HS1 : Hid (S5 Y2.drew) := by show S5 _; rw [hS5]; exact ⟨c2', c3', d1, d2, d3, d4, d5⟩
  clear vy vq c2 c2' c3' d1 d2 d3 d4 d5 hmm hpl hyf hn2 hnl
  refine wp_plain_T S5 12 mx HS1.out (fun _ _ h => h) (fun hHeld => ?_)
  subst hS5
  generalize Y2.drew = Z2 at *
  refine wpAnyT_pure (i := 0) (v := ?_) (by kernel_rfl) rfl (by kernel_rfl) (by kernel_rfl) (by kernel_rfl) (fun _ _ _ h => h) (Or.inl ⟨by rfl, ?_⟩) (by assumption) ?_
  rotate_left
  · intro w0; go_simp; all_goals (with_reducible rfl)
  try simp only [Act.put, List.setIfInBounds_toArray, List.set_cons_zero, List.set_cons_succ]
  refine wpAnyT_pure (i := 1) (v := ?_) (by kernel_rfl) rfl (by kernel_rfl) (by kernel_rfl) (by kernel_rfl) (fun _ _ _ h => h) (Or.inl ⟨by rfl, ?_⟩) (by assumption) ?_
  rotate_left
  · intro w0; go_simp; all_goals (with_reducible rfl)
  try simp only [Act.put, List.setIfInBounds_toArray, List.set_cons_zero, List.set_cons_succ]
  refine wpAnyT_pure (i := 2) (v := ?_) (by kernel_rfl) rfl (by kernel_rfl) (by kernel_rfl) (by kernel_rfl) (fun _ _ _ h => h) (Or.inl ⟨by rfl, ?_⟩) (by assumption) ?_
  rotate_left
  · intro w0; go_simp; all_goals (with_reducible rfl)
  try simp only [Act.put, List.setIfInBounds_toArray, List.set_cons_zero, List.set_cons_succ]
  refine wpAnyT_take (i := 3) (v := ?_) [11, 12] (by kernel_rfl) (by kernel_rfl) (by kernel_rfl) rfl (by kernel_rfl) (by kernel_rfl) (by kernel_rfl) (fun _ _ _ h => h) (Or.inl ⟨by rfl, ?_⟩) (by assumption) ?_
  rotate_left
  · intro w0 hSw; (try dsimp only at hSw); go_simp; all_goals (with_reducible rfl)
  try simp only [Act.put, List.setIfInBounds_toArray, List.set_cons_zero, List.set_cons_succ]
  refine wpAnyT_pure (i := 4) (v := ?_) (by kernel_rfl) rfl (by kernel_rfl) (by kernel_rfl) (by kernel_rfl) (fun _ _ _ h => h) (Or.inl ⟨by rfl, ?_⟩) (by assumption) ?_
  rotate_left
  · intro w0; go_simp; all_goals (with_reducible rfl)
  try simp only [Act.put, List.setIfInBounds_toArray, List.set_cons_zero, List.set_cons_succ]
  refine wpAnyT_pure (i := 5) (v := ?_) (by kernel_rfl) rfl (by kernel_rfl) (by kernel_rfl) (by kernel_rfl) (fun _ _ _ h => h) (Or.inl ⟨by rfl, ?_⟩) (by assumption) ?_
  rotate_left
  · intro w0; go_simp; all_goals (with_reducible rfl)
  try simp only [Act.put, List.setIfInBounds_toArray, List.set_cons_zero, List.set_cons_succ]
  refine wpAnyT_pure (i := 6) (v := ?_) (by kernel_rfl) rfl (by kernel_rfl) (by kernel_rfl) (by kernel_rfl) (fun _ _ _ h => h) (Or.inl ⟨by rfl, ?_⟩) (by assumption) ?_
  rotate_left
  · intro w0; go_simp; all_goals (with_reducible rfl)
  try simp only [Act.put, List.setIfInBounds_toArray, List.set_cons_zero, List.set_cons_succ]
  refine wpAnyT_pure (i := 7) (v := ?_) (by kernel_rfl) rfl (by kernel_rfl) (by kernel_rfl) (by kernel_rfl) (fun _ _ _ h => h) (Or.inl ⟨by rfl, ?_⟩) (by assumption) ?_
  rotate_left
  · intro w0; go_simp; all_goals (with_reducible rfl)
  try simp only [Act.put, List.setIfInBounds_toArray, List.set_cons_zero, List.set_cons_succ]
  refine wpAnyT_take (i := 8) (v := ?_) [9, 10, 11, 12] (by kernel_rfl) (by kernel_rfl) (by kernel_rfl) rfl (by kernel_rfl) (by kernel_rfl) (by kernel_rfl) (fun _ _ _ h => h) (Or.inl ⟨by rfl, ?_⟩) (by assumption) ?_
  rotate_left
  · intro w0 hSw; (try dsimp only at hSw); go_simp; all_goals (with_reducible rfl)
  try simp only [Act.put, List.setIfInBounds_toArray, List.set_cons_zero, List.set_cons_succ]
  refine wpAnyT_pure (i := 9) (v := ?_) (by kernel_rfl) rfl (by kernel_rfl) (by kernel_rfl) (by kernel_rfl) (fun _ _ _ h => h) (Or.inl ⟨by rfl, ?_⟩) (by assumption) ?_
  rotate_left
  · intro w0; go_simp; all_goals (with_reducible rfl)
  try simp only [Act.put, List.setIfInBounds_toArray, List.set_cons_zero, List.set_cons_succ]
  refine wpAnyT_take (i := 10) (v := ?_) [11, 12] (by kernel_rfl) (by kernel_rfl) (by kernel_rfl) rfl (by kernel_rfl) (by kernel_rfl) (by kernel_rfl) (fun _ _ _ h => h) (Or.inl ⟨by rfl, ?_⟩) (by assumption) ?_
  rotate_left
  · intro w0 hSw; (try dsimp only at hSw); go_simp; all_goals (with_reducible rfl)
  try simp only [Act.put, List.setIfInBounds_toArray, List.set_cons_zero, List.set_cons_succ]
  refine wpAnyT_pure (i := 11) (v := ?_) (by kernel_rfl) rfl (by kernel_rfl) (by kernel_rfl) (by kernel_rfl) (fun _ _ _ h => h) (Or.inl ⟨by rfl, ?_⟩) (by assumption) ?_
  rotate_left
  · intro w0; go_simp; all_goals (with_reducible rfl)
  try simp only [Act.put, List.setIfInBounds_toArray, List.set_cons_zero, List.set_cons_succ]
  refine wpAnyT_stop (by kernel_rfl) rfl (fun K0 hK0 => ?_)
  go_simp
  skip
  refine hK0.out _ _ ?_
  clear hK0 K0
  try simp only [Act.put, List.setIfInBounds_toArray, List.set_cons_zero, List.set_cons_succ]
  refine wpAny_end (by kernel_rfl) ?_ _
  simp only [onlyN]
  obtain ⟨h7, h8⟩ := HOV.out
  have H3 := Lib.hid h7
  have HG3 := Lib.hid h8
  clear h7 h8 hHeld HS1 HOV HD HGD H2 HG2 i3 i8 i9 f1 f2 f3 f4 f5 z1 z2 z3 z4 z5
  change Exit.then _ _ Exit.normal _ (set5 Z2 yb (k * 5) m)
  generalize set5 Z2 yb (k * 5) m = Y3 at *
  -- it leaves the child behind
  obtain ⟨saq, kaq, scq, kcq, vq⟩ := H3.out.node HG3.out q nq ((updK_nat _ _ _ _ HN2.out.symm).trans ((updK_nat _ _ _ _ HN3.out.symm).trans HFQ.out))
  have HDL : Hid (Calls Try.prog 95 #[.slice saq nq.segs.length scq, .int .i64 0, .int .i64 1] Y3 (OPost Y3 base 38 5 (.slice saq nq.segs.length scq) (nq.segs.length - 1) (flatG (nq.segs.take 0 ++ nq.segs.drop (0 + 1))))) := sdelG_any (i := 0) vq.os rfl (by have := HN2L.out; have := HNL.out; omega) (by omega) vq.le
  rw [show nq.segs.length - 1 = qs.length by have := HN2L.out; have := HNL.out; omega, show nq.segs.take 0 ++ nq.segs.drop (0 + 1) = qs by rw [HM.out]; rfl, ← HN2L.out] at HDL
  have HV := Lib.hid vq
  have c1 := vq.cs
  rw [← HN2L.out] at c1
  have HGF : Hid (∀ y1, Y3.grownBy y1 (Value.slice saq n2 scq).ownBlock → y1.cell? ⟨g, q * 3, none⟩ = some (.slice saq n2 scq) ∧ y1.frozen? ⟨g, q * 3, none⟩ = false) := fun y1 hy => by
    have hne : some g ≠ (Value.slice saq n2 scq).ownBlock := fun e => vq.gs g ((ownBlk _ _ _ _ _).trans e.symm) rfl
    exact ⟨(hy.cell_far ⟨g, q * 3, none⟩ vq.gb hne).trans c1, (hy.frozen_far ⟨g, q * 3, none⟩ vq.gb hne).trans (vq.fz _)⟩
  clear vq
  go_wp2_with fail
  refine HDL.out.mono ?_
  rintro e y1 ⟨a1, c1', ⟨rfl, ho1⟩, hg1, hn1'⟩
  obtain ⟨y5, y6⟩ := HGF.out y1 hg1
  have HO1 := Lib.hid ho1
  have HG1 := Lib.hid hg1
  have HN1' := Lib.hid hn1'
  clear ho1 hg1 hn1' c1
  have hset := HV.out.setS y1 a1 c1' qs (by rw [show (Value.slice saq nq.segs.length scq).ownBlock = (Value.slice saq n2 scq).ownBlock from ownBlk _ _ _ _ _]; exact HG1.out) HO1.out (fun b hb => by
    rcases HN1'.out b hb with q | q
    · exact .inl (by rw [← q]; exact ownBlk _ _ _ _ _)
    · exact .inr ⟨q, (HO1.out.lt b hb).2, id⟩)
  obtain ⟨h7, h8, _⟩ := hset
  have H4 := Lib.hid h7
  have HG4 := Lib.hid h8
  clear h7 h8
  go_upto_region 4 with fail
  clear y5 y6 H3 HG3 HDL HV HGF HO1 HG1 HN1'
  generalize y1.setCell ⟨g, q * 3, none⟩ (.slice a1 qs.length c1') = Y4 at *
  obtain ⟨saq, kaq, scq, kcq, vq⟩ := H4.out.node HG4.out q _ (updK_self _ _ _)
  have c1 := vq.ck
  rw [show (⟨qs, nq.kids⟩ : Kn).kids.length = 0 by show nq.kids.length = 0; rw [HKK.out]; rfl] at c1
  clear vq
  go_wp2_with fail
  go_end0
  have r := HRB.out _ _ H4.out
  refine ⟨rfl, _, r.1, (updK_nat _ _ _ _ HN2.out).trans (updK_self _ _ _), (updK_nat _ _ _ _ HN3.out).trans ((updK_nat _ _ _ _ HN1.out.symm).trans (updK_self _ _ _)), updK_self _ _ _, fun j j1 j2 j3 => (updK_ne _ _ _ _ j3).trans ((updK_ne _ _ _ _ j1).trans (updK_ne _ _ _ _ j2)), r.2.2⟩
set_option maxHeartbeats 8000000 in
set_option maxHeartbeats 8000000 in
theorem BtH.turnOnK {w0 W : World} {S B : Nat → Prop} {base T A g : Nat} {t : Bx} (h : BtH w0 S B base T A t W) (hg : PlG W A g) (y p q : Nat) (ny np nq : Kn) (fy : t.f (y : Int) = some ny) (fp : t.f (p : Int) = some np) (fq : t.f (q : Int) = some nq) (hyp : y ≠ p) (hyq : y ≠ q) (hpq : p ≠ q)
    (k : Nat) (x : G5) (m : G5) (qs : List G5) (hm : nq.segs = m :: qs) (c : Int) (qk : List Int) (hkk : nq.kids = c :: qk) (k1 : ny.kids[k]? = some (p : Int)) (k2 : ny.kids[k + 1]? = some (q : Int)) (hx : ny.segs[k]? = some x) (l1 : ny.segs.length ≤ 1000 ∧ ny.kids.length ≤ 1000) (l2 : np.segs.length ≤ 1000 ∧ np.kids.length ≤ 1000) (l3 : nq.segs.length ≤ 1000 ∧ nq.kids.length ≤ 1000) :
    Calls Try.prog 111 #[aP T, .pointer (some ⟨g, y * 3, none⟩), .int .i64 (k : Int)] W fun e w' => e = .returned (.tuple #[]) ∧ ∃ F, BtH w0 S B base T A { t with f := F } w' ∧ F (y : Int) = some ⟨ny.segs.set k m, ny.kids⟩ ∧ F (p : Int) = some ⟨np.segs ++ [x], np.kids ++ [c]⟩ ∧ F (q : Int) = some ⟨qs, qk⟩ ∧ (∀ j : Int, j ≠ (y : Int) → j ≠ (p : Int) → j ≠ (q : Int) → F j = t.f j) ∧ ∀ b, B b → w'.heap[b]? = W.heap[b]? := by
  have mx := mixed
  obtain ⟨hk1, e1⟩ := List.getElem?_eq_some_iff.1 k1
  obtain ⟨hk2, e2⟩ := List.getElem?_eq_some_iff.1 k2
  obtain ⟨hxl, ex⟩ := List.getElem?_eq_some_iff.1 hx
  obtain ⟨S1, h5, h6⟩ := h.rebase
  have HRB := Lib.hid h6
  have HH := Lib.hid h5
  have HG := Lib.hid hg
  clear h6
  obtain ⟨say, kay, scy, kcy, vy⟩ := h5.node hg y ny fy
  obtain ⟨sap, kap, scp, kcp, vp⟩ := h5.node hg p np fp
  obtain ⟨saq, kaq, scq, kcq, vq⟩ := h5.node hg q nq fq
  have HAP := Lib.hid vp.at_
  have HAQ := Lib.hid vq.at_
  have cky := vy.ck
  obtain ⟨kb, rfl, _, q1, _⟩ := own_at vy.ok rfl k hk1
  obtain ⟨kb2, e3, _, q2, _⟩ := own_at vy.ok rfl (k + 1) hk2
  obtain rfl : kb = kb2 := by injection e3 with e3; injection e3
  rw [e1] at q1
  rw [e2] at q2
  have p1 := cell_regrown ((cell_of_row _ _ 1 _ _ _ h.top).trans rfl : W.cell? ⟨T, 1, none⟩ = some (aP A))
  have p2 := cell_regrown cky
  have p3 := cell_regrown q1
  have p4 := cell_regrown q2
  have i1 : IntKind.i64.wrap ((k : Int) + 1) = (k : Int) + 1 := IntWalk.i64_in _ (by omega)
  have i2 : (0 : Int) ≤ (k : Int) := by omega
  have i3 : (k : Int) < (ny.kids.length : Int) := by omega
  have i4 : (0 : Int) ≤ (k : Int) + 1 := by omega
  have i5 : (k : Int) + 1 < (ny.kids.length : Int) := by omega
  have HX := Lib.hid hx
  have HXL := Lib.hid hxl
  have HFY := Lib.hid fy
  have HFP := Lib.hid fp
  have HFQ := Lib.hid fq
  have HN1 := Lib.hid hyp
  have HN2 := Lib.hid hyq
  have HN3 := Lib.hid hpq
  have HM := Lib.hid hm
  have HKK := Lib.hid hkk
  clear vy vp vq cky q1 q2 e1 e2 e3 k1 k2 hx hk1 hk2 hxl ex fy fp fq hyp hyq hpq hm hkk h h5 hg 
  go_enter Try.func111, Try.ntmps111
  go_upto_region 0 with fail
  refine wp_region_quiet_below (by assumption) (by kernel_rfl) ?_
  repeat (go_big_quiet_step (first
    | (go_at_call 50; with_reducible exact Calls.regrown_of ((HAP.out _ (below_regrown _ _ _)).mono fun e w' h => ⟨h.1, h.2 ▸ Go.RowKit.Below.refl _ _⟩))
    | (go_at_call 50; with_reducible exact Calls.regrown_of ((HAQ.out _ (below_regrown _ _ _)).mono fun e w' h => ⟨h.1, h.2 ▸ Go.RowKit.Below.refl _ _⟩))))
  refine wpQuiet_nil ?_
  intro _ hw'
  obtain ⟨⟨nq0, osq⟩, hw''⟩ := hw'
  subst hw''
  have hb0 := below_regrown W nq0 osq
  generalize grow (redrawn W nq0) osq = Y at *
  clear p1 p2 p3 p4 i3 i4 i5
  have HY := Lib.hid (HH.out.below hb0)
  have HGY := Lib.hid (HG.out.below hb0)
  clear hb0 HAP HAQ HH HG
  go_upto_region 1 with fail
  -- the one between goes down
  have HD := Lib.hid (HY.out.below (Go.RowKit.Below.refl _ _).drew)
  have HGD := Lib.hid (HGY.out.below (Go.RowKit.Below.refl _ _).drew)
  obtain ⟨say, kay, scy, kcy, vy⟩ := HD.out.node HGD.out y ny HFY.out
  obtain ⟨sap, kap, scp, kcp, vp⟩ := HD.out.node HGD.out p np HFP.out
  obtain ⟨n1, hn1⟩ : ∃ n1, n1 = np.segs.length := ⟨_, rfl⟩
  obtain ⟨n3, hn3⟩ : ∃ n3, n3 = ny.segs.length := ⟨_, rfl⟩
  have HN1L := Lib.hid hn1
  have HN3L := Lib.hid hn3
  have c1 := vp.cs
  have c2 := vy.cs
  have HOA := Lib.hid (vp.os.alloc (oG x))
  rw [← hn1] at c1 HOA
  rw [← hn3] at c2
  obtain ⟨yb, rfl, _, hc5, _⟩ := own_atG vy.os rfl k HXL.out
  rw [show ny.segs[k]'HXL.out = x from (List.getElem?_eq_some_iff.1 HX.out).2] at hc5
  obtain ⟨d1, d2, d3, d4, d5⟩ := hc5
  have HLS := Lib.hid (Bs.Lies.of_own (own_one5 Y.drew x 0 (Nat.zero_le _)))
  have HSZ : Hid (base ≤ (Y.drew.alloc (oG x)).heap.size) := Nat.le_trans vp.le (below_new Y.drew (oG x)).size
  have HV := Lib.hid vp
  have HGF : Hid (∀ y1, Y.drew.grownBy y1 (Value.slice sap n1 scp).ownBlock → y1.cell? ⟨g, p * 3, none⟩ = some (.slice sap n1 scp) ∧ y1.frozen? ⟨g, p * 3, none⟩ = false) := fun y1 hy => by
    have hne : some g ≠ (Value.slice sap n1 scp).ownBlock := fun e => vp.gs g ((ownBlk _ _ _ _ _).trans e.symm) rfl
    exact ⟨(hy.cell_far ⟨g, p * 3, none⟩ vp.gb hne).trans c1, (hy.frozen_far ⟨g, p * 3, none⟩ vp.gb hne).trans (vp.fz _)⟩
  have i3 : (k : Int) < (n3 : Int) := by have := HXL.out; omega
  have i4n : n1 ≤ 1000 := by omega
  obtain ⟨i0, hi0, hz0, hz1, hz2⟩ := info_parts Try.infoSeg
  obtain ⟨S5, hS5⟩ : ∃ S5 : World → Prop, S5 = fun w' => w'.cell? ⟨g, p * 3, none⟩ = some (.slice sap n1 scp) ∧ w'.cell? ⟨g, y * 3, none⟩ = some (.slice (some ⟨yb, 0, none⟩) n3 scy) ∧ w'.cell? ⟨yb, k * 5, none⟩ = some (.int .i64 x.ls) ∧ w'.cell? ⟨yb, k * 5 + 1, none⟩ = some (.int .i64 x.la) ∧ w'.cell? ⟨yb, k * 5 + 2, none⟩ = some (.int .i64 x.hs) ∧ w'.cell? ⟨yb, k * 5 + 3, none⟩ = some (.int .i64 x.ha) ∧ w'.cell? ⟨yb, k * 5 + 4, none⟩ = some (.int .i64 x.v) := ⟨_, rfl⟩
  have HS1 : Hid (S5 Y.drew) := by show S5 _; rw [hS5]; exact ⟨c1, c2, d1, d2, d3, d4, d5⟩
  have HS2 : Hid (S5 (Y.drew.alloc (oG x))) := by show S5 _; rw [hS5]; exact ⟨cell_alloc c1, cell_alloc c2, cell_alloc d1, cell_alloc d2, cell_alloc d3, cell_alloc d4, cell_alloc d5⟩
  clear vy vp c1 c2 d1 d2 d3 d4 d5 hn1 hn3
  refine wp_plain_T S5 13 mx HS1.out (fun _ _ h => h) (fun hHeld => ?_)
  subst hS5
  generalize Y.drew = Z at *
  refine wpAnyT_pure (i := 0) (v := ?_) (by kernel_rfl) rfl (by kernel_rfl) (by kernel_rfl) (by kernel_rfl) (fun _ _ _ h => h) (Or.inl ⟨by rfl, ?_⟩) (by assumption) ?_
  rotate_left
  · intro w0; go_simp; all_goals (with_reducible rfl)
  try simp only [Act.put, List.setIfInBounds_toArray, List.set_cons_zero, List.set_cons_succ]
  refine wpAnyT_pure (i := 1) (v := ?_) (by kernel_rfl) rfl (by kernel_rfl) (by kernel_rfl) (by kernel_rfl) (fun _ _ _ h => h) (Or.inl ⟨by rfl, ?_⟩) (by assumption) ?_
  rotate_left
  · intro w0; go_simp; all_goals (with_reducible rfl)
  try simp only [Act.put, List.setIfInBounds_toArray, List.set_cons_zero, List.set_cons_succ]
  refine wpAnyT_pure (i := 2) (v := ?_) (by kernel_rfl) rfl (by kernel_rfl) (by kernel_rfl) (by kernel_rfl) (fun _ _ _ h => h) (Or.inl ⟨by rfl, ?_⟩) (by assumption) ?_
  rotate_left
  · intro w0; go_simp; all_goals (with_reducible rfl)
  try simp only [Act.put, List.setIfInBounds_toArray, List.set_cons_zero, List.set_cons_succ]
  refine wpAnyT_pure (i := 3) (v := ?_) (by kernel_rfl) rfl (by kernel_rfl) (by kernel_rfl) (by kernel_rfl) (fun _ _ _ h => h) (Or.inl ⟨by rfl, ?_⟩) (by assumption) ?_
  rotate_left
  · intro w0; go_simp; all_goals (with_reducible rfl)
  try simp only [Act.put, List.setIfInBounds_toArray, List.set_cons_zero, List.set_cons_succ]
  refine wpAnyT_take (i := 4) (v := ?_) [13, 14, 15, 16] (by kernel_rfl) (by kernel_rfl) (by kernel_rfl) rfl (by kernel_rfl) (by kernel_rfl) (by kernel_rfl) (fun _ _ _ h => h) (Or.inl ⟨by rfl, ?_⟩) (by assumption) ?_
  rotate_left
  · intro w0 hSw; (try dsimp only at hSw); go_simp; all_goals (with_reducible rfl)
  try simp only [Act.put, List.setIfInBounds_toArray, List.set_cons_zero, List.set_cons_succ]
  refine wpAnyT_pure (i := 5) (v := ?_) (by kernel_rfl) rfl (by kernel_rfl) (by kernel_rfl) (by kernel_rfl) (fun _ _ _ h => h) (Or.inl ⟨by rfl, ?_⟩) (by assumption) ?_
  rotate_left
  · intro w0; go_simp; all_goals (with_reducible rfl)
  try simp only [Act.put, List.setIfInBounds_toArray, List.set_cons_zero, List.set_cons_succ]
  refine wpAnyT_pure (i := 6) (v := ?_) (by kernel_rfl) rfl (by kernel_rfl) (by kernel_rfl) (by kernel_rfl) (fun _ _ _ h => h) (Or.inl ⟨by rfl, ?_⟩) (by assumption) ?_
  rotate_left
  · intro w0; go_simp; all_goals (with_reducible rfl)
  try simp only [Act.put, List.setIfInBounds_toArray, List.set_cons_zero, List.set_cons_succ]
  refine wpAnyT_pure (i := 7) (v := ?_) (by kernel_rfl) rfl (by kernel_rfl) (by kernel_rfl) (by kernel_rfl) (fun _ _ _ h => h) (Or.inl ⟨by rfl, ?_⟩) (by assumption) ?_
  rotate_left
  · intro w0; go_simp; all_goals (with_reducible rfl)
  try simp only [Act.put, List.setIfInBounds_toArray, List.set_cons_zero, List.set_cons_succ]
  refine wpAnyT_take (i := 8) (v := ?_) [10, 11, 12, 13, 14, 15, 16] (by kernel_rfl) (by kernel_rfl) (by kernel_rfl) rfl (by kernel_rfl) (by kernel_rfl) (by kernel_rfl) (fun _ _ _ h => h) (Or.inl ⟨by rfl, ?_⟩) (by assumption) ?_
  rotate_left
  · intro w0 hSw; (try dsimp only at hSw); go_simp; all_goals (with_reducible rfl)
  try simp only [Act.put, List.setIfInBounds_toArray, List.set_cons_zero, List.set_cons_succ]
  refine wpAnyT_pure (i := 9) (v := ?_) (by kernel_rfl) rfl (by kernel_rfl) (by kernel_rfl) (by kernel_rfl) (fun _ _ _ h => h) (Or.inl ⟨by rfl, ?_⟩) (by assumption) ?_
  rotate_left
  · intro w0; go_simp; all_goals (with_reducible rfl)
  try simp only [Act.put, List.setIfInBounds_toArray, List.set_cons_zero, List.set_cons_succ]
  refine wpAnyT_pure (i := 10) (v := ?_) (by kernel_rfl) rfl (by kernel_rfl) (by kernel_rfl) (by kernel_rfl) (fun _ _ _ h => h) (Or.inl ⟨by rfl, ?_⟩) (by assumption) ?_
  rotate_left
  · intro w0; go_simp; all_goals (with_reducible rfl)
  try simp only [Act.put, List.setIfInBounds_toArray, List.set_cons_zero, List.set_cons_succ]
  refine wpAnyT_take (i := 11) (v := ?_) [12, 13, 14, 15, 16] (by kernel_rfl) (by kernel_rfl) (by kernel_rfl) rfl (by kernel_rfl) (by kernel_rfl) (by kernel_rfl) (fun _ _ _ h => h) (Or.inl ⟨by rfl, ?_⟩) (by assumption) ?_
  rotate_left
  · intro w0 hSw; (try dsimp only at hSw); go_simp; all_goals (with_reducible rfl)
  try simp only [Act.put, List.setIfInBounds_toArray, List.set_cons_zero, List.set_cons_succ]
  refine wpAnyT_one (i := 12) (by kernel_rfl) (by kernel_rfl) rfl (fun K0 hK0 => ?_)
  go_simp
  refine hK0.out _ _ ⟨?_, ?_⟩
  · exact HS2.out
  clear hK0 K0
  try simp only [Act.put, List.setIfInBounds_toArray, List.set_cons_zero, List.set_cons_succ]
  refine wpAnyT_stop (by kernel_rfl) rfl (fun K0 hK0 => ?_)
  refine Bs.step_append_row (P := Try.prog) _ rfl (.tmp 37) (.tmp 45) 32 rfl base 38 i0 _ 5 40 Try.underlying32 hi0 hz0 hz1 hz2 rfl (by omega) _ n1 (flatG np.segs) (by rfl) HOA.out (some ⟨Z.heap.size, 0, none⟩) 1 1 (flatG [x]) (by rfl) rfl HLS.out (flatG_one [x]) (by simp only [maxLen]; omega) (by omega) HSZ.out ?_
  intro a1 c1 y1 ho1 hg1 hat1
  obtain ⟨y5, y6⟩ := HGF.out y1 (grown_of_alloc hg1)
  have HO1 := Lib.hid ho1
  have HG1 := Lib.hid (grown_of_alloc hg1)
  have HAT1 := Lib.hid hat1
  clear ho1 hg1 hat1
  try dsimp only
  refine hK0.out _ _ ?_
  clear hK0 K0
  try simp only [Act.put, List.setIfInBounds_toArray, List.set_cons_zero, List.set_cons_succ]
  refine wpAny_take (i := 14) (v := ?_) rfl (by kernel_rfl) (by kernel_rfl) (by kernel_rfl) (fun _ _ _ h => h) (Or.inl ⟨by rfl, ?_⟩) ?_
  rotate_left
  · intro w0; go_simp; all_goals (with_reducible rfl)
  try simp only [Act.put, List.setIfInBounds_toArray, List.set_cons_zero, List.set_cons_succ]
  refine wpAny_take (i := 15) (v := ?_) rfl (by kernel_rfl) (by kernel_rfl) (by kernel_rfl) (fun _ _ _ h => h) (Or.inl ⟨by rfl, ?_⟩) ?_
  rotate_left
  · intro w0; go_simp; all_goals (with_reducible rfl)
  try simp only [Act.put, List.setIfInBounds_toArray, List.set_cons_zero, List.set_cons_succ]
  refine wpAny_one (i := 16) (by kernel_rfl) rfl (fun K0 hK0 => ?_)
  go_simp
  refine hK0.out _ _ ?_
  clear hK0 K0
  try simp only [Act.put, List.setIfInBounds_toArray, List.set_cons_zero, List.set_cons_succ]
  refine wpAny_end (by kernel_rfl) ?_ _
  simp only [onlyN]
  have hset := HV.out.setS y1 a1 c1 (np.segs ++ [x]) (by rw [show (Value.slice sap np.segs.length scp).ownBlock = (Value.slice sap n1 scp).ownBlock from ownBlk _ _ _ _ _]; exact HG1.out) (by rw [List.length_append, ← HN1L.out, flatG_append]; exact HO1.out) (fun b hb => by
    have hb' : (Value.slice a1 (n1 + 1) c1).ownBlock = some b := by rw [← hb]; exact ownBlk _ _ _ _ _
    rcases HAT1.out with q | q
    · exact .inl ((ownBlk _ _ _ _ _).trans (q.symm.trans hb'))
    · refine .inr ⟨?_, (HO1.out.lt b hb').2, id⟩
      rw [hb'] at q; injection q with q; rw [q]; exact (below_new Z (oG x)).size)
  rw [List.length_append, List.length_cons, List.length_nil, ← HN1L.out] at hset
  obtain ⟨h7, h8, _⟩ := hset
  have H2 := Lib.hid h7
  have HG2 := Lib.hid h8
  clear h7 h8 hHeld HS1 HS2 HGF HOA HLS HSZ HO1 HG1 HAT1 HV HD HGD y5 y6 HY HGY i3 hi0 hz0 hz1 hz2
  generalize y1.setCell ⟨g, p * 3, none⟩ (.slice a1 (n1 + 1) c1) = Y2 at *
  go_upto_region 2 with fail
  -- the first one goes up
  have HD := Lib.hid (H2.out.below (Go.RowKit.Below.refl _ _).drew)
  have HGD := Lib.hid (HG2.out.below (Go.RowKit.Below.refl _ _).drew)
  obtain ⟨say, kay, scy, kcy, vy⟩ := HD.out.node HGD.out y ny ((updK_nat _ _ _ _ HN1.out).trans HFY.out)
  obtain ⟨saq, kaq, scq, kcq, vq⟩ := HD.out.node HGD.out q nq ((updK_nat _ _ _ _ HN3.out.symm).trans HFQ.out)
  obtain ⟨n2, hn2⟩ : ∃ n2, n2 = nq.segs.length := ⟨_, rfl⟩
  have HN2L := Lib.hid hn2
  have hnl : n2 = qs.length + 1 := by rw [hn2, HM.out]; rfl
  have HNL := Lib.hid hnl
  have c2 := vy.cs
  obtain ⟨yb, rfl, _, hy5, hyf⟩ := own_atG vy.os rfl k HXL.out
  have c2' := vy.cs
  rw [← HN3L.out] at c2'
  have hpl : 0 < nq.segs.length := by omega
  obtain ⟨qb, rfl, _, hp5, _⟩ := own_atG vq.os rfl 0 hpl
  have hmm : nq.segs[0]'hpl = m := by
    have : nq.segs[0]? = some m := by rw [HM.out]; rfl
    exact (List.getElem?_eq_some_iff.1 this).2
  rw [hmm] at hp5
  have c3' := vq.cs
  rw [← HN2L.out] at c3'
  obtain ⟨d1, d2, d3, d4, d5⟩ := hp5
  simp only [Nat.zero_mul, Nat.zero_add] at d1 d2 d3 d4 d5
  obtain ⟨f1, f2, f3, f4, f5⟩ := hy5
  have z1 := hyf (k * 5)
  have z2 := hyf (k * 5 + 1)
  have z3 := hyf (k * 5 + 2)
  have z4 := hyf (k * 5 + 3)
  have z5 := hyf (k * 5 + 4)
  have HOV := Lib.hid (HD.out.over HGD.out y ny ((updK_nat _ _ _ _ HN1.out).trans HFY.out) k HXL.out yb scy c2 m)
  have i3 : (k : Int) < (n3 : Int) := by have := HXL.out; have := HN3L.out; omega
  have i8 : (0 : Int) < (n2 : Int) := by omega
  have i9 : 0 < n2 := by omega
  obtain ⟨S5, hS5⟩ : ∃ S5 : World → Prop, S5 = fun w' => w'.cell? ⟨g, y * 3, none⟩ = some (.slice (some ⟨yb, 0, none⟩) n3 scy) ∧ w'.cell? ⟨g, q * 3, none⟩ = some (.slice (some ⟨qb, 0, none⟩) n2 scq) ∧ w'.cell? ⟨qb, 0, none⟩ = some (.int .i64 m.ls) ∧ w'.cell? ⟨qb, 1, none⟩ = some (.int .i64 m.la) ∧ w'.cell? ⟨qb, 2, none⟩ = some (.int .i64 m.hs) ∧ w'.cell? ⟨qb, 3, none⟩ = some (.int .i64 m.ha) ∧ w'.cell? ⟨qb, 4, none⟩ = some (.int .i64 m.v) := ⟨_, rfl⟩
  have HS1 : Hid (S5 Y2.drew) := by show S5 _; rw [hS5]; exact ⟨c2', c3', d1, d2, d3, d4, d5⟩
  clear vy vq c2 c2' c3' d1 d2 d3 d4 d5 hmm hpl hyf hn2 hnl
  refine wp_plain_T S5 12 mx HS1.out (fun _ _ h => h) (fun hHeld => ?_)
  subst hS5
  generalize Y2.drew = Z2 at *
  refine wpAnyT_pure (i := 0) (v := ?_) (by kernel_rfl) rfl (by kernel_rfl) (by kernel_rfl) (by kernel_rfl) (fun _ _ _ h => h) (Or.inl ⟨by rfl, ?_⟩) (by assumption) ?_
  rotate_left
  · intro w0; go_simp; all_goals (with_reducible rfl)
  try simp only [Act.put, List.setIfInBounds_toArray, List.set_cons_zero, List.set_cons_succ]
  refine wpAnyT_pure (i := 1) (v := ?_) (by kernel_rfl) rfl (by kernel_rfl) (by kernel_rfl) (by kernel_rfl) (fun _ _ _ h => h) (Or.inl ⟨by rfl, ?_⟩) (by assumption) ?_
  rotate_left
  · intro w0; go_simp; all_goals (with_reducible rfl)
  try simp only [Act.put, List.setIfInBounds_toArray, List.set_cons_zero, List.set_cons_succ]
  refine wpAnyT_pure (i := 2) (v := ?_) (by kernel_rfl) rfl (by kernel_rfl) (by kernel_rfl) (by kernel_rfl) (fun _ _ _ h => h) (Or.inl ⟨by rfl, ?_⟩) (by assumption) ?_
  rotate_left
  · intro w0; go_simp; all_goals (with_reducible rfl)
  try simp only [Act.put, List.setIfInBounds_toArray, List.set_cons_zero, List.set_cons_succ]
  refine wpAnyT_take (i := 3) (v := ?_) [11, 12] (by kernel_rfl) (by kernel_rfl) (by kernel_rfl) rfl (by kernel_rfl) (by kernel_rfl) (by kernel_rfl) (fun _ _ _ h => h) (Or.inl ⟨by rfl, ?_⟩) (by assumption) ?_
  rotate_left
  · intro w0 hSw; (try dsimp only at hSw); go_simp; all_goals (with_reducible rfl)
  try simp only [Act.put, List.setIfInBounds_toArray, List.set_cons_zero, List.set_cons_succ]
  refine wpAnyT_pure (i := 4) (v := ?_) (by kernel_rfl) rfl (by kernel_rfl) (by kernel_rfl) (by kernel_rfl) (fun _ _ _ h => h) (Or.inl ⟨by rfl, ?_⟩) (by assumption) ?_
  rotate_left
  · intro w0; go_simp; all_goals (with_reducible rfl)
  try simp only [Act.put, List.setIfInBounds_toArray, List.set_cons_zero, List.set_cons_succ]
  refine wpAnyT_pure (i := 5) (v := ?_) (by kernel_rfl) rfl (by kernel_rfl) (by kernel_rfl) (by kernel_rfl) (fun _ _ _ h => h) (Or.inl ⟨by rfl, ?_⟩) (by assumption) ?_
  rotate_left
  · intro w0; go_simp; all_goals (with_reducible rfl)
  try simp only [Act.put, List.setIfInBounds_toArray, List.set_cons_zero, List.set_cons_succ]
  refine wpAnyT_pure (i := 6) (v := ?_) (by kernel_rfl) rfl (by kernel_rfl) (by kernel_rfl) (by kernel_rfl) (fun _ _ _ h => h) (Or.inl ⟨by rfl, ?_⟩) (by assumption) ?_
  rotate_left
  · intro w0; go_simp; all_goals (with_reducible rfl)
  try simp only [Act.put, List.setIfInBounds_toArray, List.set_cons_zero, List.set_cons_succ]
  refine wpAnyT_pure (i := 7) (v := ?_) (by kernel_rfl) rfl (by kernel_rfl) (by kernel_rfl) (by kernel_rfl) (fun _ _ _ h => h) (Or.inl ⟨by rfl, ?_⟩) (by assumption) ?_
  rotate_left
  · intro w0; go_simp; all_goals (with_reducible rfl)
  try simp only [Act.put, List.setIfInBounds_toArray, List.set_cons_zero, List.set_cons_succ]
  refine wpAnyT_take (i := 8) (v := ?_) [9, 10, 11, 12] (by kernel_rfl) (by kernel_rfl) (by kernel_rfl) rfl (by kernel_rfl) (by kernel_rfl) (by kernel_rfl) (fun _ _ _ h => h) (Or.inl ⟨by rfl, ?_⟩) (by assumption) ?_
  rotate_left
  · intro w0 hSw; (try dsimp only at hSw); go_simp; all_goals (with_reducible rfl)
  try simp only [Act.put, List.setIfInBounds_toArray, List.set_cons_zero, List.set_cons_succ]
  refine wpAnyT_pure (i := 9) (v := ?_) (by kernel_rfl) rfl (by kernel_rfl) (by kernel_rfl) (by kernel_rfl) (fun _ _ _ h => h) (Or.inl ⟨by rfl, ?_⟩) (by assumption) ?_
  rotate_left
  · intro w0; go_simp; all_goals (with_reducible rfl)
  try simp only [Act.put, List.setIfInBounds_toArray, List.set_cons_zero, List.set_cons_succ]
  refine wpAnyT_take (i := 10) (v := ?_) [11, 12] (by kernel_rfl) (by kernel_rfl) (by kernel_rfl) rfl (by kernel_rfl) (by kernel_rfl) (by kernel_rfl) (fun _ _ _ h => h) (Or.inl ⟨by rfl, ?_⟩) (by assumption) ?_
  rotate_left
  · intro w0 hSw; (try dsimp only at hSw); go_simp; all_goals (with_reducible rfl)
  try simp only [Act.put, List.setIfInBounds_toArray, List.set_cons_zero, List.set_cons_succ]
  refine wpAnyT_pure (i := 11) (v := ?_) (by kernel_rfl) rfl (by kernel_rfl) (by kernel_rfl) (by kernel_rfl) (fun _ _ _ h => h) (Or.inl ⟨by rfl, ?_⟩) (by assumption) ?_
  rotate_left
  · intro w0; go_simp; all_goals (with_reducible rfl)
  try simp only [Act.put, List.setIfInBounds_toArray, List.set_cons_zero, List.set_cons_succ]
  refine wpAnyT_stop (by kernel_rfl) rfl (fun K0 hK0 => ?_)
  go_simp
  skip
  refine hK0.out _ _ ?_
  clear hK0 K0
  try simp only [Act.put, List.setIfInBounds_toArray, List.set_cons_zero, List.set_cons_succ]
  refine wpAny_end (by kernel_rfl) ?_ _
  simp only [onlyN]
  obtain ⟨h7, h8⟩ := HOV.out
  have H3 := Lib.hid h7
  have HG3 := Lib.hid h8
  clear h7 h8 hHeld HS1 HOV HD HGD H2 HG2 i3 i8 i9 f1 f2 f3 f4 f5 z1 z2 z3 z4 z5
  change Exit.then _ _ Exit.normal _ (set5 Z2 yb (k * 5) m)
  generalize set5 Z2 yb (k * 5) m = Y3 at *
  -- it leaves the child behind
  obtain ⟨saq, kaq, scq, kcq, vq⟩ := H3.out.node HG3.out q nq ((updK_nat _ _ _ _ HN2.out.symm).trans ((updK_nat _ _ _ _ HN3.out.symm).trans HFQ.out))
  have HDL : Hid (Calls Try.prog 95 #[.slice saq nq.segs.length scq, .int .i64 0, .int .i64 1] Y3 (OPost Y3 base 38 5 (.slice saq nq.segs.length scq) (nq.segs.length - 1) (flatG (nq.segs.take 0 ++ nq.segs.drop (0 + 1))))) := sdelG_any (i := 0) vq.os rfl (by have := HN2L.out; have := HNL.out; omega) (by omega) vq.le
  rw [show nq.segs.length - 1 = qs.length by have := HN2L.out; have := HNL.out; omega, show nq.segs.take 0 ++ nq.segs.drop (0 + 1) = qs by rw [HM.out]; rfl, ← HN2L.out] at HDL
  have HV := Lib.hid vq
  have c1 := vq.cs
  rw [← HN2L.out] at c1
  have HGF : Hid (∀ y1, Y3.grownBy y1 (Value.slice saq n2 scq).ownBlock → y1.cell? ⟨g, q * 3, none⟩ = some (.slice saq n2 scq) ∧ y1.frozen? ⟨g, q * 3, none⟩ = false) := fun y1 hy => by
    have hne : some g ≠ (Value.slice saq n2 scq).ownBlock := fun e => vq.gs g ((ownBlk _ _ _ _ _).trans e.symm) rfl
    exact ⟨(hy.cell_far ⟨g, q * 3, none⟩ vq.gb hne).trans c1, (hy.frozen_far ⟨g, q * 3, none⟩ vq.gb hne).trans (vq.fz _)⟩
  clear vq
  go_wp2_with fail
  refine HDL.out.mono ?_
  rintro e y1 ⟨a1, c1', ⟨rfl, ho1⟩, hg1, hn1'⟩
  obtain ⟨y5, y6⟩ := HGF.out y1 hg1
  have HO1 := Lib.hid ho1
  have HG1 := Lib.hid hg1
  have HN1' := Lib.hid hn1'
  clear ho1 hg1 hn1' c1
  have hset := HV.out.setS y1 a1 c1' qs (by rw [show (Value.slice saq nq.segs.length scq).ownBlock = (Value.slice saq n2 scq).ownBlock from ownBlk _ _ _ _ _]; exact HG1.out) HO1.out (fun b hb => by
    rcases HN1'.out b hb with q | q
    · exact .inl (by rw [← q]; exact ownBlk _ _ _ _ _)
    · exact .inr ⟨q, (HO1.out.lt b hb).2, id⟩)
  obtain ⟨h7, h8, _⟩ := hset
  have H4 := Lib.hid h7
  have HG4 := Lib.hid h8
  clear h7 h8
  go_upto_region 4 with fail
  clear y5 y6 H3 HG3 HDL HV HGF HO1 HG1 HN1'
  generalize y1.setCell ⟨g, q * 3, none⟩ (.slice a1 qs.length c1') = Y4 at *
  have HN2K : Hid (0 < nq.kids.length) := by show _ < _; rw [HKK.out]; exact Nat.succ_pos _
  obtain ⟨n4, hn4⟩ : ∃ n4, n4 = nq.kids.length := ⟨_, rfl⟩
  have HN4 := Lib.hid hn4
  obtain ⟨saq, kaq, scq, kcq, vq⟩ := H4.out.node HG4.out q _ (updK_self _ _ _)
  have c1 := vq.ck
  dsimp only at c1
  rw [← hn4] at c1
  have t0 : 0 < n4 := by have := HN2K.out; omega
  have t1 : (0 : Int) < (n4 : Int) := by omega
  clear vq hn4
  go_upto_region 5 with fail
  clear c1
  -- the first child goes over
  have HD := Lib.hid (H4.out.below (Go.RowKit.Below.refl _ _).drew)
  have HGD := Lib.hid (HG4.out.below (Go.RowKit.Below.refl _ _).drew)
  obtain ⟨saq, kaq, scq, kcq, vq⟩ := HD.out.node HGD.out q _ (updK_self _ _ _)
  obtain ⟨sap, kap, scp, kcp, vp⟩ := HD.out.node HGD.out p ⟨np.segs ++ [x], np.kids⟩ ((updK_nat _ _ _ _ HN3.out).trans ((updK_nat _ _ _ _ HN1.out.symm).trans (updK_self _ _ _)))
  obtain ⟨n5, hn5⟩ : ∃ n5, n5 = np.kids.length := ⟨_, rfl⟩
  have HN5L := Lib.hid hn5
  have c1 := vp.ck
  have HOA : Hid ((Y4.drew.alloc (.cells #[.int .i64 c] 3)).ownsRow base 3 1 (.slice kap np.kids.length kcp) np.kids.length (np.kids.map nv)) := vp.ok.alloc (.cells #[.int .i64 c] 3)
  dsimp only at c1
  rw [← hn5] at c1 HOA
  have hcc : nq.kids[0]'HN2K.out = c := by
    have : nq.kids[0]? = some c := by rw [HKK.out]; rfl
    exact (List.getElem?_eq_some_iff.1 this).2
  obtain ⟨qb, rfl, _, q1, _⟩ := own_at vq.ok rfl 0 HN2K.out
  dsimp only at q1
  rw [hcc] at q1
  have c2 := vq.ck
  dsimp only at c2
  rw [← HN4.out] at c2
  have HLS := Lib.hid (Bs.Lies.of_own (w := Y4.drew.alloc (.cells #[.int .i64 c] 3)) (base := 0) (e := 3) (size := 1) (a := some ⟨Y4.drew.heap.size, 0, none⟩) (n := 1) (cap := 1) (xs := [c].map nv) ⟨rfl, .inr ⟨Y4.drew.heap.size, 1, _, rfl, Nat.zero_le _, heap_alloc_new _ _, Nat.le_refl _, by decide, rfl, rfl⟩⟩)
  have HSZ : Hid (base ≤ (Y4.drew.alloc (.cells #[.int .i64 c] 3)).heap.size) := Nat.le_trans vp.le (below_new Y4.drew (.cells #[.int .i64 c] 3)).size
  have HV := Lib.hid vp
  have HGF : Hid (∀ y1, Y4.drew.grownBy y1 (Value.slice kap n5 kcp).ownBlock → y1.cell? ⟨g, p * 3 + 1, none⟩ = some (.slice kap n5 kcp) ∧ y1.frozen? ⟨g, p * 3 + 1, none⟩ = false) := fun y1 hy => by
    have hne : some g ≠ (Value.slice kap n5 kcp).ownBlock := fun e => vp.gk g ((ownBlk _ _ _ _ _).trans e.symm) rfl
    exact ⟨(hy.cell_far ⟨g, p * 3 + 1, none⟩ vp.gb hne).trans c1, (hy.frozen_far ⟨g, p * 3 + 1, none⟩ vp.gb hne).trans (vp.fz _)⟩
  obtain ⟨i0, hi0, hz0, hz1, hz2⟩ := info_parts Try.infoInt
  have i4n : n5 ≤ 1000 := by omega
  obtain ⟨S5, hS5⟩ : ∃ S5 : World → Prop, S5 = fun w' => w'.cell? ⟨g, p * 3 + 1, none⟩ = some (.slice kap n5 kcp) ∧ w'.cell? ⟨g, q * 3 + 1, none⟩ = some (.slice (some ⟨qb, 0, none⟩) n4 kcq) ∧ w'.cell? ⟨qb, 0, none⟩ = some (.int .i64 c) := ⟨_, rfl⟩
  have HS1 : Hid (S5 Y4.drew) := by show S5 _; rw [hS5]; exact ⟨c1, c2, q1⟩
  have HS2 : Hid (S5 (Y4.drew.alloc (.cells #[.int .i64 c] 3))) := by show S5 _; rw [hS5]; exact ⟨cell_alloc c1, cell_alloc c2, cell_alloc q1⟩
  clear vp vq c1 c2 q1 hn5 hcc
  refine wp_plain_T S5 12 mx HS1.out (fun _ _ h => h) (fun hHeld => ?_)
  subst hS5
  generalize Y4.drew = Z at *
  refine wpAnyT_pure (i := 0) (v := ?_) (by kernel_rfl) rfl (by kernel_rfl) (by kernel_rfl) (by kernel_rfl) (fun _ _ _ h => h) (Or.inl ⟨by rfl, ?_⟩) (by assumption) ?_
  rotate_left
  · intro w0; go_simp; all_goals (with_reducible rfl)
  try simp only [Act.put, List.setIfInBounds_toArray, List.set_cons_zero, List.set_cons_succ]
  refine wpAnyT_pure (i := 1) (v := ?_) (by kernel_rfl) rfl (by kernel_rfl) (by kernel_rfl) (by kernel_rfl) (fun _ _ _ h => h) (Or.inl ⟨by rfl, ?_⟩) (by assumption) ?_
  rotate_left
  · intro w0; go_simp; all_goals (with_reducible rfl)
  try simp only [Act.put, List.setIfInBounds_toArray, List.set_cons_zero, List.set_cons_succ]
  refine wpAnyT_pure (i := 2) (v := ?_) (by kernel_rfl) rfl (by kernel_rfl) (by kernel_rfl) (by kernel_rfl) (fun _ _ _ h => h) (Or.inl ⟨by rfl, ?_⟩) (by assumption) ?_
  rotate_left
  · intro w0; go_simp; all_goals (with_reducible rfl)
  try simp only [Act.put, List.setIfInBounds_toArray, List.set_cons_zero, List.set_cons_succ]
  refine wpAnyT_pure (i := 3) (v := ?_) (by kernel_rfl) rfl (by kernel_rfl) (by kernel_rfl) (by kernel_rfl) (fun _ _ _ h => h) (Or.inl ⟨by rfl, ?_⟩) (by assumption) ?_
  rotate_left
  · intro w0; go_simp; all_goals (with_reducible rfl)
  try simp only [Act.put, List.setIfInBounds_toArray, List.set_cons_zero, List.set_cons_succ]
  refine wpAnyT_take (i := 4) (v := ?_) [12, 13, 14, 15] (by kernel_rfl) (by kernel_rfl) (by kernel_rfl) rfl (by kernel_rfl) (by kernel_rfl) (by kernel_rfl) (fun _ _ _ h => h) (Or.inl ⟨by rfl, ?_⟩) (by assumption) ?_
  rotate_left
  · intro w0 hSw; (try dsimp only at hSw); go_simp; all_goals (with_reducible rfl)
  try simp only [Act.put, List.setIfInBounds_toArray, List.set_cons_zero, List.set_cons_succ]
  refine wpAnyT_pure (i := 5) (v := ?_) (by kernel_rfl) rfl (by kernel_rfl) (by kernel_rfl) (by kernel_rfl) (fun _ _ _ h => h) (Or.inl ⟨by rfl, ?_⟩) (by assumption) ?_
  rotate_left
  · intro w0; go_simp; all_goals (with_reducible rfl)
  try simp only [Act.put, List.setIfInBounds_toArray, List.set_cons_zero, List.set_cons_succ]
  refine wpAnyT_pure (i := 6) (v := ?_) (by kernel_rfl) rfl (by kernel_rfl) (by kernel_rfl) (by kernel_rfl) (fun _ _ _ h => h) (Or.inl ⟨by rfl, ?_⟩) (by assumption) ?_
  rotate_left
  · intro w0; go_simp; all_goals (with_reducible rfl)
  try simp only [Act.put, List.setIfInBounds_toArray, List.set_cons_zero, List.set_cons_succ]
  refine wpAnyT_pure (i := 7) (v := ?_) (by kernel_rfl) rfl (by kernel_rfl) (by kernel_rfl) (by kernel_rfl) (fun _ _ _ h => h) (Or.inl ⟨by rfl, ?_⟩) (by assumption) ?_
  rotate_left
  · intro w0; go_simp; all_goals (with_reducible rfl)
  try simp only [Act.put, List.setIfInBounds_toArray, List.set_cons_zero, List.set_cons_succ]
  refine wpAnyT_take (i := 8) (v := ?_) [9, 10, 11, 12, 13, 14, 15] (by kernel_rfl) (by kernel_rfl) (by kernel_rfl) rfl (by kernel_rfl) (by kernel_rfl) (by kernel_rfl) (fun _ _ _ h => h) (Or.inl ⟨by rfl, ?_⟩) (by assumption) ?_
  rotate_left
  · intro w0 hSw; (try dsimp only at hSw); go_simp; all_goals (with_reducible rfl)
  try simp only [Act.put, List.setIfInBounds_toArray, List.set_cons_zero, List.set_cons_succ]
  refine wpAnyT_pure (i := 9) (v := ?_) (by kernel_rfl) rfl (by kernel_rfl) (by kernel_rfl) (by kernel_rfl) (fun _ _ _ h => h) (Or.inl ⟨by rfl, ?_⟩) (by assumption) ?_
  rotate_left
  · intro w0; go_simp; all_goals (with_reducible rfl)
  try simp only [Act.put, List.setIfInBounds_toArray, List.set_cons_zero, List.set_cons_succ]
  refine wpAnyT_take (i := 10) (v := ?_) [11, 12, 13, 14, 15] (by kernel_rfl) (by kernel_rfl) (by kernel_rfl) rfl (by kernel_rfl) (by kernel_rfl) (by kernel_rfl) (fun _ _ _ h => h) (Or.inl ⟨by rfl, ?_⟩) (by assumption) ?_
  rotate_left
  · intro w0 hSw; (try dsimp only at hSw); go_simp; all_goals (with_reducible rfl)
  try simp only [Act.put, List.setIfInBounds_toArray, List.set_cons_zero, List.set_cons_succ]
  refine wpAnyT_one (i := 11) (by kernel_rfl) (by kernel_rfl) rfl (fun K0 hK0 => ?_)
  go_simp
  refine hK0.out _ _ ⟨?_, ?_⟩
  · exact HS2.out
  clear hK0 K0
  try simp only [Act.put, List.setIfInBounds_toArray, List.set_cons_zero, List.set_cons_succ]
  refine wpAnyT_stop (by kernel_rfl) rfl (fun K0 hK0 => ?_)
  refine Bs.step_append_row (P := Try.prog) _ rfl (.tmp 79) (.tmp 86) 78 rfl base 3 i0 _ 1 8 Try.underlying78 hi0 hz0 hz1 hz2 rfl (by omega) _ n5 (np.kids.map nv) (by rfl) HOA.out (some ⟨Z.heap.size, 0, none⟩) 1 1 ([c].map nv) (by rfl) rfl HLS.out (fun u hu => by obtain ⟨x, _, rfl⟩ := List.mem_map.1 hu; rfl) (by simp only [maxLen]; omega) (by omega) HSZ.out ?_
  intro a1 c1 y1 ho1 hg1 hat1
  obtain ⟨y5, y6⟩ := HGF.out y1 (grown_of_alloc hg1)
  have HO1 := Lib.hid ho1
  have HG1 := Lib.hid (grown_of_alloc hg1)
  have HAT1 := Lib.hid hat1
  clear ho1 hg1 hat1
  try dsimp only
  refine hK0.out _ _ ?_
  clear hK0 K0
  try simp only [Act.put, List.setIfInBounds_toArray, List.set_cons_zero, List.set_cons_succ]
  refine wpAny_take (i := 13) (v := ?_) rfl (by kernel_rfl) (by kernel_rfl) (by kernel_rfl) (fun _ _ _ h => h) (Or.inl ⟨by rfl, ?_⟩) ?_
  rotate_left
  · intro w0; go_simp; all_goals (with_reducible rfl)
  try simp only [Act.put, List.setIfInBounds_toArray, List.set_cons_zero, List.set_cons_succ]
  refine wpAny_take (i := 14) (v := ?_) rfl (by kernel_rfl) (by kernel_rfl) (by kernel_rfl) (fun _ _ _ h => h) (Or.inl ⟨by rfl, ?_⟩) ?_
  rotate_left
  · intro w0; go_simp; all_goals (with_reducible rfl)
  try simp only [Act.put, List.setIfInBounds_toArray, List.set_cons_zero, List.set_cons_succ]
  refine wpAny_one (i := 15) (by kernel_rfl) rfl (fun K0 hK0 => ?_)
  go_simp
  refine hK0.out _ _ ?_
  clear hK0 K0
  try simp only [Act.put, List.setIfInBounds_toArray, List.set_cons_zero, List.set_cons_succ]
  refine wpAny_end (by kernel_rfl) ?_ _
  simp only [onlyN]
  have hset := HV.out.setK y1 a1 c1 (np.kids ++ [c]) (by
    have e : (Value.slice kap (⟨np.segs ++ [x], np.kids⟩ : Kn).kids.length kcp).ownBlock = (Value.slice kap n5 kcp).ownBlock := ownBlk _ _ _ _ _
    rw [e]; exact HG1.out) (by rw [List.length_append, ← HN5L.out, List.map_append]; exact HO1.out) (fun b hb => by
    have hb' : (Value.slice a1 (n5 + 1) c1).ownBlock = some b := by rw [← hb]; exact ownBlk _ _ _ _ _
    rcases HAT1.out with q | q
    · exact .inl ((ownBlk _ _ _ _ _).trans (q.symm.trans hb'))
    · refine .inr ⟨?_, (HO1.out.lt b hb').2, id⟩
      rw [hb'] at q; injection q with q; rw [q]; exact (below_new Z (.cells #[.int .i64 c] 3)).size)
  rw [List.length_append, List.length_cons, List.length_nil, ← HN5L.out] at hset
  obtain ⟨h7, h8, _⟩ := hset
  have H5 := Lib.hid h7
  have HG5 := Lib.hid h8
  clear h7 h8 hHeld HS1 HS2 HGF HOA HLS HSZ HO1 HG1 HAT1 HV HD HGD y5 y6 H4 HG4 hi0 hz0 hz1 hz2 t0 t1
  generalize y1.setCell ⟨g, p * 3 + 1, none⟩ (.slice a1 (n5 + 1) c1) = Y5 at *
  -- it leaves the child behind
  obtain ⟨saq, kaq, scq, kcq, vq⟩ := H5.out.node HG5.out q ⟨qs, nq.kids⟩ ((updK_nat _ _ _ _ HN3.out.symm).trans (updK_self _ _ _))
  have HDL : Hid (Calls Try.prog 114 #[.slice kaq nq.kids.length kcq, .int .i64 0, .int .i64 1] Y5 (OPost Y5 base 3 1 (.slice kaq nq.kids.length kcq) (nq.kids.length - 1) ((nq.kids.take 0 ++ nq.kids.drop (0 + 1)).map nv))) := sdelI_any (i := 0) vq.ok rfl HN2K.out (show nq.kids.length ≤ 100000 by omega) vq.le
  rw [show nq.kids.length - 1 = qk.length by rw [HKK.out]; rfl, show nq.kids.take 0 ++ nq.kids.drop (0 + 1) = qk by rw [HKK.out]; rfl, ← HN4.out] at HDL
  have HV := Lib.hid vq
  have c1 := vq.ck
  dsimp only at c1
  rw [← HN4.out] at c1
  have HGF : Hid (∀ y1, Y5.grownBy y1 (Value.slice kaq n4 kcq).ownBlock → y1.cell? ⟨g, q * 3 + 1, none⟩ = some (.slice kaq n4 kcq) ∧ y1.frozen? ⟨g, q * 3 + 1, none⟩ = false) := fun y1 hy => by
    have hne : some g ≠ (Value.slice kaq n4 kcq).ownBlock := fun e => vq.gk g ((ownBlk _ _ _ _ _).trans e.symm) rfl
    exact ⟨(hy.cell_far ⟨g, q * 3 + 1, none⟩ vq.gb hne).trans c1, (hy.frozen_far ⟨g, q * 3 + 1, none⟩ vq.gb hne).trans (vq.fz _)⟩
  clear vq
  go_wp2_with fail
  refine HDL.out.mono ?_
  rintro e y2 ⟨a2, c2', ⟨rfl, ho1⟩, hg1, hn1'⟩
  obtain ⟨y5, y6⟩ := HGF.out y2 hg1
  have HO1 := Lib.hid ho1
  have HG1 := Lib.hid hg1
  have HN1' := Lib.hid hn1'
  clear ho1 hg1 hn1' c1
  have hset := HV.out.setK y2 a2 c2' qk (by
    have e : (Value.slice kaq (⟨qs, nq.kids⟩ : Kn).kids.length kcq).ownBlock = (Value.slice kaq n4 kcq).ownBlock := ownBlk _ _ _ _ _
    rw [e]; exact HG1.out) HO1.out (fun b hb => by
    rcases HN1'.out b hb with q | q
    · exact .inl (by rw [← q]; exact ownBlk _ _ _ _ _)
    · exact .inr ⟨q, (HO1.out.lt b hb).2, id⟩)
  obtain ⟨h7, h8, _⟩ := hset
  have H6 := Lib.hid h7
  clear h7 h8 H5 HG5 HDL HV HGF HO1 HG1 HN1'
  go_wp2_with fail
  go_end0
  have r := HRB.out _ _ H6.out
  refine ⟨rfl, _, r.1, ?_, ?_, updK_self _ _ _, fun j j1 j2 j3 => ?_, r.2.2⟩
  · exact (updK_nat _ _ _ _ HN2.out).trans ((updK_nat _ _ _ _ HN1.out).trans ((updK_nat _ _ _ _ HN2.out).trans (updK_self _ _ _)))
  · exact (updK_nat _ _ _ _ HN3.out).trans (updK_self _ _ _)
  · exact (updK_ne _ _ _ _ j3).trans ((updK_ne _ _ _ _ j2).trans ((updK_ne _ _ _ _ j3).trans ((updK_ne _ _ _ _ j1).trans (updK_ne _ _ _ _ j2))))
end Go.Proofs.Ytjgcdmeojjnjlaa
