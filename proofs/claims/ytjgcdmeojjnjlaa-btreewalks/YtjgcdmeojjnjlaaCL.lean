/- A part of the proof: contracts of the functions that the statements reach. -/
import Derived.RangeFuncNested
import Derived.RangeFuncBound
import Derived.RangeFuncCalls
import Derived.RangeFuncLeaves
import Derived.Shelf.Abstract
import Derived.Shelf.RegionOpen
import Derived.WalkKit
import Derived.OwnWalkIn
import Derived.TacticsInMore
import Derived.LoopNIn
import Derived.LoopIn
import Derived.Shelf.SlSortCmp.WholeK
import Derived.WalkSpells
import Derived.WalkLawsBesides
import Derived.Lib.Hide
import Derived.Laws.StructEq
import Derived.Shelf.SlSortCmp.QuietGrown
import Derived.Laws.EntriesVeiled
import Derived.Deep.CutRange
import Derived.RegionTactic
import Derived.Lib.QuietBelow
import Derived.BigQuiet
import Derived.OpenShut
import Derived.Deep.RegionHeld3
import Derived.Deep.QuietTactic
import Derived.Maps.AppendAt
import Derived.Laws.IdiomCopy
import Derived.Deep.AppendLies
import Derived.Deep.LoopGhost
import Derived.Deep.Upon
import Derived.StillTailTactics
import Derived.Lib.SmallJoins
import Derived.Deep.SlicePairs
import Derived.Deep.Strs
import Derived.ChangeOld
import Derived.SizedLaws
import Derived.Lib.SliceRun
import Derived.Laws.CopyRow
import Derived.Below
import Derived.Laws.CopyOwn
import Derived.Deep.RegionLaw
import Derived.IntWalk
import Derived.Lib.MinMax
import Derived.Test.YtjgcdmeojjnjlaaCK

/- takeOut: the walks. -/
namespace Go.Proofs.Ytjgcdmeojjnjlaa
open Go.RowKit Go.Sort Go.Proofs.Ytjgcdmeojjnjlaa.Bo Go.Proofs.Ytjgcdmeojjnjlaa.Bb Go.Proofs.Ytjgcdmeojjnjlaa.Rf
set_option linter.unusedVariables false
set_option linter.unusedSimpArgs false
set_option maxRecDepth 100000
set_option maxHeartbeats 8000000 in
theorem btake_a {w0 W : World} {S B : Nat → Prop} {base T A : Nat} {t : Bx} (h : BtH w0 S B base T A t W) (wb N wc p al : Nat) (n : Kn) (hp : t.f (p : Int) = some n) (hlen : n.segs.length ≤ 1000) (hN : 1 ≤ N ∧ N ≤ 100000) (cw : W.cell? ⟨wb, (N - 1) * 2, none⟩ = some (.int .i64 (p : Int))) (cv : W.cell? ⟨wb, (N - 1) * 2 + 1, none⟩ = some (.int .i64 (al : Int)))
    (hal : al < n.segs.length) (thr : Addr) (PF : World → Prop)
    (HM : Hid (∀ V, BtH w0 S B base T A { t with f := updK t.f (p : Int) (some ⟨n.segs.take al ++ n.segs.drop (al + 1), n.kids⟩) } V → (∀ b, B b → V.heap[b]? = W.heap[b]?) → Calls Try.prog 96 #[aP T, .slice (some ⟨wb, 0, none⟩) N wc] V fun e w' => e = .returned (.tuple #[]) ∧ PF w')) :
    Calls Try.prog 74 #[aP T, .slice (some ⟨wb, 0, none⟩) N wc, .pointer (some thr)] W fun e w' => e = .returned (.tuple #[]) ∧ PF w' := by
  have mx := mixed
  obtain ⟨k, rfl⟩ : ∃ k, N = k + 1 := ⟨N - 1, by omega⟩
  simp only [Nat.add_sub_cancel] at cw cv
  have i1 : IntKind.i64.wrap (((k + 1 : Nat) : Int) - 1) = (k : Int) := by rw [show ((k + 1 : Nat) : Int) - 1 = (k : Int) by omega]; exact IntWalk.i64_in _ (by omega)
  have i2 : (0 : Int) ≤ (k : Int) := by omega
  have i3 : (k : Int) < ((k + 1 : Nat) : Int) := by omega
  have HP := Lib.hid hp
  have HL := Lib.hid hlen
  have HAL := Lib.hid hal
  have HWS : Hid (∀ b, B b → b < W.heap.size) := fun b hb => (h.size b hb).2
  obtain ⟨g, hg⟩ := h.gOf p (by rw [hp]; simp)
  have hB0 := below_new W (stO ((p : Int), (al : Int)))
  have hK0 : (W.alloc (stO ((p : Int), (al : Int)))).heap[W.heap.size]? = some (stO ((p : Int), (al : Int))) := heap_alloc_new W _
  obtain ⟨b0, hb0⟩ : ∃ b0, b0 = W.heap.size := ⟨_, rfl⟩
  have h1 := h.keep (C := fun b => B b ∨ b = b0) hB0 (fun b hb => hb.imp id (fun e => by rw [e, hb0]; exact ⟨Nat.le_refl _, by simp⟩))
  have hg1 := hg.below hB0
  clear hp hlen hal
  go_enter Try.func74, Try.ntmps74
  go_upto_region 1 with fail
  clear cw cv i2 i3
  rw [← hb0] at hK0 ⊢
  have HB0 := Lib.hid hB0
  have Hb0 := Lib.hid hb0
  clear h hg hB0 hb0
  generalize W.alloc (stO ((p : Int), (al : Int))) = X at *
  obtain ⟨sa0, ka0, sc0, kc0, v0⟩ := h1.node hg1 p n HP.out
  have HAT := Lib.hid v0.at_
  have p1 := cell_regrown ((cell_of_row _ _ 1 _ _ _ h1.top).trans rfl : X.cell? ⟨T, 1, none⟩ = some (aP A))
  have p2 := cell_regrown ((cell_of_row _ _ 0 _ _ _ hK0).trans rfl : X.cell? ⟨b0, 0, none⟩ = some (.int .i64 (p : Int)))
  have HH1 := Lib.hid h1
  have HG1 := Lib.hid hg1
  have HK0 := Lib.hid hK0
  clear v0 h1 hg1 hK0
  refine wp_region_quiet_below (by assumption) (by kernel_rfl) ?_
  repeat (go_big_quiet_step (first
    | (go_at_call 50; exact Calls.regrown_of ((HAT.out _ (below_regrown _ _ _)).mono fun e w' h => ⟨h.1, h.2 ▸ Go.RowKit.Below.refl _ _⟩))))
  refine wpQuiet_nil ?_
  intro _ hw'
  obtain ⟨⟨nq, osq⟩, hw''⟩ := hw'
  subst hw''
  have hb := below_regrown X nq osq
  clear p1 p2
  generalize grow (redrawn X nq) osq = Y at *
  have HH2 := Lib.hid (HH1.out.below hb)
  have HG2 := Lib.hid (HG1.out.below hb)
  have HK2 := Lib.hid (box_on HK0.out hb)
  have HB2 := Lib.hid (bt HB0.out hb)
  clear hb HH1 HG1 HK0 HB0 HAT
  obtain ⟨n1, hn1⟩ : ∃ n1, n1 = n.segs.length := ⟨_, rfl⟩
  obtain ⟨sa, ka, sc, kc, v⟩ := HH2.out.node HG2.out p n HP.out
  have c1 := v.cs
  rw [← hn1] at c1
  have HN1 := Lib.hid hn1
  have q1 := cell_regrown ((cell_of_row _ _ 1 _ _ _ HK2.out).trans rfl : Y.cell? ⟨b0, 1, none⟩ = some (.int .i64 (al : Int)))
  have q2 := cell_regrown c1
  have b1 : ¬ (al : Int) = (n1 : Int) := by have := HAL.out; omega
  have b1' : ¬ al = n1 := by have := HAL.out; omega
  have b2 : ((al : Int) == (n1 : Int)) = false := by simpa using b1
  clear v c1 hn1
  go_upto_region 2 with fail
  refine wp_region_quiet_below (by assumption) (by kernel_rfl) ?_
  repeat (go_big_quiet_step (first | fail))
  refine wpQuiet_nil ?_
  intro _ hw'
  obtain ⟨⟨nq3, osq3⟩, hw''⟩ := hw'
  subst hw''
  have hb := below_regrown Y nq3 osq3
  clear q1 q2
  generalize grow (redrawn Y nq3) osq3 = Y3 at *
  have HH3 := Lib.hid (HH2.out.below hb)
  have HG3 := Lib.hid (HG2.out.below hb)
  have HK3 := Lib.hid (box_on HK2.out hb)
  have HB3 := Lib.hid (bt HB2.out hb)
  clear hb HH2 HG2 HK2 HB2
  have HBK3 : Hid (∀ b, B b → Y3.heap[b]? = W.heap[b]?) := fun b hb => HB3.out.block b (HWS.out b hb)
  clear b1 b1'
  go_upto_region 5 with fail
  have HD := Lib.hid (HH3.out.below (Go.RowKit.Below.refl _ _).drew)
  have HGD := Lib.hid (HG3.out.below (Go.RowKit.Below.refl _ _).drew)
  have HBKD : Hid (∀ b, B b → Y3.drew.heap[b]? = W.heap[b]?) := HBK3.out
  have cb1 : Y3.drew.cell? ⟨b0, 1, none⟩ = some (.int .i64 (al : Nat)) := (cell_of_row _ _ 1 _ _ _ (box_on HK3.out (Go.RowKit.Below.refl _ _).drew)).trans rfl
  obtain ⟨say, kay, scy1, kcy, v⟩ := HD.out.node HGD.out p n HP.out
  have hal1 : al < n.segs.length := by have := HAL.out;  omega
  have HDL : Hid (Calls Try.prog 95 #[.slice say n.segs.length scy1, .int .i64 (al : Nat), .int .i64 (((al : Nat) : Int) + 1)] Y3.drew (OPost Y3.drew base 38 5 (.slice say n.segs.length scy1) (n.segs.length - 1) (flatG (n.segs.take al ++ n.segs.drop (al + 1))))) := sdelG_any (i := al) v.os rfl hal1 (by have := HL.out; omega) v.le
  have hlen1 : (n.segs.take al ++ n.segs.drop (al + 1)).length = n.segs.length - 1 := by
    simp only [List.length_append, List.length_take, List.length_drop]; omega
  have c1 := v.cs
  have i9 : IntKind.i64.wrap (((al : Nat) : Int) + 1) = ((al : Nat) : Int) + 1 := IntWalk.i64_in _ (by have := HL.out; omega)
  rw [← HN1.out] at c1 HDL hlen1
  have HLN := Lib.hid hlen1
  have HV := Lib.hid v
  have HGF : Hid (∀ y1, Y3.drew.grownBy y1 (Value.slice say n1 scy1).ownBlock → y1.cell? ⟨g, p * 3, none⟩ = some (.slice say n1 scy1) ∧ y1.frozen? ⟨g, p * 3, none⟩ = false) := fun y1 hy => by
    have hne : some g ≠ (Value.slice say n1 scy1).ownBlock := fun e => v.gs g ((ownBlk _ _ _ _ _).trans e.symm) rfl
    exact ⟨(hy.cell_far ⟨g, p * 3, none⟩ v.gb hne).trans c1, (hy.frozen_far ⟨g, p * 3, none⟩ v.gb hne).trans (v.fz _)⟩
  obtain ⟨S5, hS5⟩ : ∃ S5 : World → Prop, S5 = fun w' => w'.cell? ⟨b0, 1, none⟩ = some (.int .i64 (al : Nat)) ∧ w'.cell? ⟨g, p * 3, none⟩ = some (.slice say n1 scy1) := ⟨_, rfl⟩
  have HS1 : Hid (S5 Y3.drew) := by show S5 _; rw [hS5]; exact ⟨cb1, c1⟩
  clear v cb1 c1 hal1 hlen1 HH3 HG3 HK3 HBK3 HB3
  refine wp_plain_T S5 10 mx HS1.out (fun _ _ h => h) (fun hHeld => ?_)
  subst hS5
  generalize Y3.drew = Z3 at *
  refine wpAnyT_pure (i := 0) (v := ?_) (by kernel_rfl) rfl (by kernel_rfl) (by kernel_rfl) (by kernel_rfl) (fun _ _ _ h => h) (Or.inl ⟨by rfl, ?_⟩) (by assumption) ?_
  rotate_left
  · intro w0; go_simp; all_goals (with_reducible rfl)
  try simp only [Act.put, List.setIfInBounds_toArray, List.set_cons_zero, List.set_cons_succ]
  refine wpAnyT_pure (i := 1) (v := ?_) (by kernel_rfl) rfl (by kernel_rfl) (by kernel_rfl) (by kernel_rfl) (fun _ _ _ h => h) (Or.inl ⟨by rfl, ?_⟩) (by assumption) ?_
  rotate_left
  · intro w0; go_simp; all_goals (with_reducible rfl)
  try simp only [Act.put, List.setIfInBounds_toArray, List.set_cons_zero, List.set_cons_succ]
  refine wpAnyT_pure (i := 2) (v := ?_) (by kernel_rfl) rfl (by kernel_rfl) (by kernel_rfl) (by kernel_rfl) (fun _ _ _ h => h) (Or.inl ⟨by rfl, ?_⟩) (by assumption) ?_
  rotate_left
  · intro w0; go_simp; all_goals (with_reducible rfl)
  try simp only [Act.put, List.setIfInBounds_toArray, List.set_cons_zero, List.set_cons_succ]
  refine wpAnyT_pure (i := 3) (v := ?_) (by kernel_rfl) rfl (by kernel_rfl) (by kernel_rfl) (by kernel_rfl) (fun _ _ _ h => h) (Or.inl ⟨by rfl, ?_⟩) (by assumption) ?_
  rotate_left
  · intro w0; go_simp; all_goals (with_reducible rfl)
  try simp only [Act.put, List.setIfInBounds_toArray, List.set_cons_zero, List.set_cons_succ]
  refine wpAnyT_take (i := 4) (v := ?_) [10, 11, 12, 13] (by kernel_rfl) (by kernel_rfl) (by kernel_rfl) rfl (by kernel_rfl) (by kernel_rfl) (by kernel_rfl) (fun _ _ _ h => h) (Or.inl ⟨by rfl, ?_⟩) (by assumption) ?_
  rotate_left
  · intro w0 hSw; (try dsimp only at hSw); go_simp; all_goals (with_reducible rfl)
  try simp only [Act.put, List.setIfInBounds_toArray, List.set_cons_zero, List.set_cons_succ]
  refine wpAnyT_pure (i := 5) (v := ?_) (by kernel_rfl) rfl (by kernel_rfl) (by kernel_rfl) (by kernel_rfl) (fun _ _ _ h => h) (Or.inl ⟨by rfl, ?_⟩) (by assumption) ?_
  rotate_left
  · intro w0; go_simp; all_goals (with_reducible rfl)
  try simp only [Act.put, List.setIfInBounds_toArray, List.set_cons_zero, List.set_cons_succ]
  refine wpAnyT_take (i := 6) (v := ?_) [10, 11, 12, 13] (by kernel_rfl) (by kernel_rfl) (by kernel_rfl) rfl (by kernel_rfl) (by kernel_rfl) (by kernel_rfl) (fun _ _ _ h => h) (Or.inl ⟨by rfl, ?_⟩) (by assumption) ?_
  rotate_left
  · intro w0 hSw; (try dsimp only at hSw); go_simp; all_goals (with_reducible rfl)
  try simp only [Act.put, List.setIfInBounds_toArray, List.set_cons_zero, List.set_cons_succ]
  refine wpAnyT_pure (i := 7) (v := ?_) (by kernel_rfl) rfl (by kernel_rfl) (by kernel_rfl) (by kernel_rfl) (fun _ _ _ h => h) (Or.inl ⟨by rfl, ?_⟩) (by assumption) ?_
  rotate_left
  · intro w0; go_simp; all_goals (with_reducible rfl)
  try simp only [Act.put, List.setIfInBounds_toArray, List.set_cons_zero, List.set_cons_succ]
  refine wpAnyT_take (i := 8) (v := ?_) [9, 10, 11, 12, 13] (by kernel_rfl) (by kernel_rfl) (by kernel_rfl) rfl (by kernel_rfl) (by kernel_rfl) (by kernel_rfl) (fun _ _ _ h => h) (Or.inl ⟨by rfl, ?_⟩) (by assumption) ?_
  rotate_left
  · intro w0 hSw; (try dsimp only at hSw); go_simp; all_goals (with_reducible rfl)
  try simp only [Act.put, List.setIfInBounds_toArray, List.set_cons_zero, List.set_cons_succ]
  refine wpAnyT_pure (i := 9) (v := ?_) (by kernel_rfl) rfl (by kernel_rfl) (by kernel_rfl) (by kernel_rfl) (fun _ _ _ h => h) (Or.inl ⟨by rfl, ?_⟩) (by assumption) ?_
  rotate_left
  · intro w0; go_simp; all_goals (with_reducible rfl)
  try simp only [Act.put, List.setIfInBounds_toArray, List.set_cons_zero, List.set_cons_succ]
  refine wpAnyT_stop (by kernel_rfl) rfl (fun K0 hK0 => ?_)
  go_simp
  refine HDL.out.mono ?_
  rintro e y1 ⟨a1, c1', ⟨rfl, ho1⟩, hg1, hn1'⟩
  obtain ⟨y5, y6⟩ := HGF.out y1 hg1
  have HO1 := Lib.hid ho1
  have HG1 := Lib.hid hg1
  have HN1' := Lib.hid hn1'
  clear ho1 hg1 hn1'
  try dsimp only
  refine hK0.out _ _ ?_
  clear hK0 K0
  try simp only [Act.put, List.setIfInBounds_toArray, List.set_cons_zero, List.set_cons_succ]
  refine wpAny_take (i := 11) (v := ?_) rfl (by kernel_rfl) (by kernel_rfl) (by kernel_rfl) (fun _ _ _ h => h) (Or.inl ⟨by rfl, ?_⟩) ?_
  rotate_left
  · intro w0; go_simp; all_goals (with_reducible rfl)
  try simp only [Act.put, List.setIfInBounds_toArray, List.set_cons_zero, List.set_cons_succ]
  refine wpAny_take (i := 12) (v := ?_) rfl (by kernel_rfl) (by kernel_rfl) (by kernel_rfl) (fun _ _ _ h => h) (Or.inl ⟨by rfl, ?_⟩) ?_
  rotate_left
  · intro w0; go_simp; all_goals (with_reducible rfl)
  try simp only [Act.put, List.setIfInBounds_toArray, List.set_cons_zero, List.set_cons_succ]
  refine wpAny_one (i := 13) (by kernel_rfl) rfl (fun K0 hK0 => ?_)
  go_simp
  refine hK0.out _ _ ?_
  clear hK0 K0
  try simp only [Act.put, List.setIfInBounds_toArray, List.set_cons_zero, List.set_cons_succ]
  refine wpAny_end (by kernel_rfl) ?_ _
  simp only [onlyN]
  have hset := HV.out.setS y1 a1 c1' (n.segs.take al ++ n.segs.drop (al + 1)) (by
    have e : (Value.slice say n.segs.length scy1).ownBlock = (Value.slice say n1 scy1).ownBlock := ownBlk _ _ _ _ _
    rw [e]; exact HG1.out) (by rw [HLN.out]; exact HO1.out) (fun b hb => by
    have hb' : (Value.slice a1 (n1 - 1) c1').ownBlock = some b := by rw [← hb]; exact ownBlk _ _ _ _ _
    rcases HN1'.out b hb' with q | q
    · exact .inl (by rw [← q]; exact ownBlk _ _ _ _ _)
    · refine .inr ⟨q, (HO1.out.lt b hb').2, fun hB => ?_⟩
      have hlt := (HD.out.size b hB).2
      omega)
  rw [HLN.out] at hset
  obtain ⟨h7, h8, h9⟩ := hset
  have HHF := Lib.hid (h7.less (C := B) (fun b hb => .inl hb))
  have HBF : Hid (∀ b, B b → (y1.setCell ⟨g, p * 3, none⟩ (.slice a1 (n1 - 1) c1')).heap[b]? = W.heap[b]?) := fun b hb => (h9 b (.inl hb)).trans (HBKD.out b hb)
  clear h7 h8 h9 y5 y6 HDL HV HGF HO1 HG1 HN1' HLN HN1 hHeld HS1 HD HGD HBKD i9
  generalize y1.setCell ⟨g, p * 3, none⟩ (.slice a1 (n1 - 1) c1') = Y9 at *
  go_wp2_with fail
  refine (HM.out _ HHF.out HBF.out).mono ?_
  rintro e w' ⟨rfl, hpf⟩
  have HPF := Lib.hid hpf
  clear hpf
  go_wp2_with fail
  go_end0
  exact ⟨rfl, HPF.out⟩
set_option maxHeartbeats 8000000 in
theorem btake_b {w0 W : World} {S B : Nat → Prop} {base T A : Nat} {t : Bx} (h : BtH w0 S B base T A t W) (wb N wc p al : Nat) (n : Kn) (hp : t.f (p : Int) = some n) (hlen : n.segs.length ≤ 1000) (hN : 1 ≤ N ∧ N ≤ 100000) (cw : W.cell? ⟨wb, (N - 1) * 2, none⟩ = some (.int .i64 (p : Int))) (cv : W.cell? ⟨wb, (N - 1) * 2 + 1, none⟩ = some (.int .i64 (al : Int)))
    (hal : n.segs.length = al) (hpos : 1 ≤ al) (m : G5) (hm : n.segs[al - 1]? = some m) (y i sb : Nat) (ny : Kn) (hy : t.f (y : Int) = some ny) (hyp : y ≠ p) (hi : i < ny.segs.length) (hly : ny.segs.length ≤ 1000) (g : Nat) (hg : PlG W A g) (scy : Nat) (csb : W.cell? ⟨g, y * 3, none⟩ = some (.slice (some ⟨sb, 0, none⟩) ny.segs.length scy)) (PF : World → Prop)
    (HM : Hid (∀ V, BtH w0 S B base T A { t with f := updK (updK t.f (y : Int) (some ⟨ny.segs.set i m, ny.kids⟩)) (p : Int) (some ⟨n.segs.take (al - 1) ++ n.segs.drop ((al - 1) + 1), n.kids⟩) } V → (∀ b, B b → V.heap[b]? = W.heap[b]?) → Calls Try.prog 96 #[aP T, .slice (some ⟨wb, 0, none⟩) N wc] V fun e w' => e = .returned (.tuple #[]) ∧ PF w')) :
    Calls Try.prog 74 #[aP T, .slice (some ⟨wb, 0, none⟩) N wc, .pointer (some ⟨sb, i * 5, none⟩)] W fun e w' => e = .returned (.tuple #[]) ∧ PF w' := by
  have mx := mixed
  obtain ⟨k, rfl⟩ : ∃ k, N = k + 1 := ⟨N - 1, by omega⟩
  simp only [Nat.add_sub_cancel] at cw cv
  have i1 : IntKind.i64.wrap (((k + 1 : Nat) : Int) - 1) = (k : Int) := by rw [show ((k + 1 : Nat) : Int) - 1 = (k : Int) by omega]; exact IntWalk.i64_in _ (by omega)
  have i2 : (0 : Int) ≤ (k : Int) := by omega
  have i3 : (k : Int) < ((k + 1 : Nat) : Int) := by omega
  have HP := Lib.hid hp
  have HL := Lib.hid hlen
  have HAL := Lib.hid hal
  have HWS : Hid (∀ b, B b → b < W.heap.size) := fun b hb => (h.size b hb).2
  have HMM := Lib.hid hm
  have HFY := Lib.hid hy
  have HI := Lib.hid hi
  have HLY := Lib.hid hly
  have HYP := Lib.hid hyp
  have HPOS := Lib.hid hpos
  have hB0 := below_new W (stO ((p : Int), (al : Int)))
  have hK0 : (W.alloc (stO ((p : Int), (al : Int)))).heap[W.heap.size]? = some (stO ((p : Int), (al : Int))) := heap_alloc_new W _
  obtain ⟨b0, hb0⟩ : ∃ b0, b0 = W.heap.size := ⟨_, rfl⟩
  have h1 := h.keep (C := fun b => B b ∨ b = b0) hB0 (fun b hb => hb.imp id (fun e => by rw [e, hb0]; exact ⟨Nat.le_refl _, by simp⟩))
  have hg1 := hg.below hB0
  have csb1 := (hB0.cell (p := ⟨g, y * 3, none⟩) (World.block_lt_of_cell? W _ csb)).trans csb
  clear csb
  clear hm hy hi hly hyp hpos hp hlen hal
  go_enter Try.func74, Try.ntmps74
  go_upto_region 1 with fail
  clear cw cv i2 i3
  rw [← hb0] at hK0 ⊢
  have HB0 := Lib.hid hB0
  have Hb0 := Lib.hid hb0
  clear h hg hB0 hb0
  generalize W.alloc (stO ((p : Int), (al : Int))) = X at *
  obtain ⟨sa0, ka0, sc0, kc0, v0⟩ := h1.node hg1 p n HP.out
  have HAT := Lib.hid v0.at_
  have p1 := cell_regrown ((cell_of_row _ _ 1 _ _ _ h1.top).trans rfl : X.cell? ⟨T, 1, none⟩ = some (aP A))
  have p2 := cell_regrown ((cell_of_row _ _ 0 _ _ _ hK0).trans rfl : X.cell? ⟨b0, 0, none⟩ = some (.int .i64 (p : Int)))
  have HH1 := Lib.hid h1
  have HG1 := Lib.hid hg1
  have HK0 := Lib.hid hK0
  have HCSB := Lib.hid csb1
  clear v0 h1 hg1 hK0 csb1
  refine wp_region_quiet_below (by assumption) (by kernel_rfl) ?_
  repeat (go_big_quiet_step (first
    | (go_at_call 50; exact Calls.regrown_of ((HAT.out _ (below_regrown _ _ _)).mono fun e w' h => ⟨h.1, h.2 ▸ Go.RowKit.Below.refl _ _⟩))))
  refine wpQuiet_nil ?_
  intro _ hw'
  obtain ⟨⟨nq, osq⟩, hw''⟩ := hw'
  subst hw''
  have hb := below_regrown X nq osq
  clear p1 p2
  generalize grow (redrawn X nq) osq = Y at *
  have HH2 := Lib.hid (HH1.out.below hb)
  have HG2 := Lib.hid (HG1.out.below hb)
  have HK2 := Lib.hid (box_on HK0.out hb)
  have HB2 := Lib.hid (bt HB0.out hb)
  have HCS2 : Hid (Y.cell? ⟨g, y * 3, none⟩ = some (.slice (some ⟨sb, 0, none⟩) ny.segs.length scy)) := (hb.cell (p := ⟨g, y * 3, none⟩) (World.block_lt_of_cell? X _ HCSB.out)).trans HCSB.out
  clear HCSB
  clear hb HH1 HG1 HK0 HB0 HAT
  have hn1 : al = n.segs.length := HAL.out.symm
  obtain ⟨sa, ka, sc, kc, v⟩ := HH2.out.node HG2.out p n HP.out
  have c1 := v.cs
  rw [← hn1] at c1
  have HN1 := Lib.hid hn1
  have q1 := cell_regrown ((cell_of_row _ _ 1 _ _ _ HK2.out).trans rfl : Y.cell? ⟨b0, 1, none⟩ = some (.int .i64 (al : Int)))
  have q2 := cell_regrown c1
  clear v c1 hn1
  go_upto_region 2 with fail
  refine wp_region_quiet_below (by assumption) (by kernel_rfl) ?_
  repeat (go_big_quiet_step (first | fail))
  refine wpQuiet_nil ?_
  intro _ hw'
  obtain ⟨⟨nq3, osq3⟩, hw''⟩ := hw'
  subst hw''
  have hb := below_regrown Y nq3 osq3
  clear q1 q2
  generalize grow (redrawn Y nq3) osq3 = Y3 at *
  have HH3 := Lib.hid (HH2.out.below hb)
  have HG3 := Lib.hid (HG2.out.below hb)
  have HK3 := Lib.hid (box_on HK2.out hb)
  have HB3 := Lib.hid (bt HB2.out hb)
  have HCS3 : Hid (Y3.cell? ⟨g, y * 3, none⟩ = some (.slice (some ⟨sb, 0, none⟩) ny.segs.length scy)) := (hb.cell (p := ⟨g, y * 3, none⟩) (World.block_lt_of_cell? Y _ HCS2.out)).trans HCS2.out
  clear HCS2
  clear hb HH2 HG2 HK2 HB2
  have i4 : IntKind.i64.wrap ((al : Int) - 1) = ((al - 1 : Nat) : Int) := by rw [show (al : Int) - 1 = ((al - 1 : Nat) : Int) by have := HPOS.out; omega]; exact IntWalk.i64_in _ (by have := HAL.out; have := HL.out; omega)
  have e1 : Y3.cell? ⟨b0, 1, none⟩ = some (.int .i64 (al : Int)) := (cell_of_row _ _ 1 _ _ _ HK3.out).trans rfl
  have e2 := frozen_of_row _ _ 1 _ _ HK3.out
  go_upto_region 4 with fail
  clear e1 e2 i4
  have hb4 := HH3.out.box b0 (.inr rfl) 1 (.int .i64 ((al - 1 : Nat) : Int))
  have hg4 := HH3.out.boxG HG3.out b0 (.inr rfl) 1 (.int .i64 ((al - 1 : Nat) : Int)) (p : Int) (by rw [HP.out]; simp)
  have hk4 := heap_setCell_same Y3 b0 1 _ _ (.int .i64 ((al - 1 : Nat) : Int)) HK3.out
  obtain ⟨sa0, ka0, sc0, kc0, v0⟩ := HH3.out.node HG3.out p n HP.out
  have hgb := v0.gB b0 (.inr rfl)
  have hcs4 : (Y3.setCell ⟨b0, 1, none⟩ (.int .i64 ((al - 1 : Nat) : Int))).cell? ⟨g, y * 3, none⟩ = some (.slice (some ⟨sb, 0, none⟩) ny.segs.length scy) := (World.cell?_setCell_far _ _ _ _ (fun e => hgb e.symm)).trans HCS3.out
  have hBk4 : ∀ b, B b → (Y3.setCell ⟨b0, 1, none⟩ (.int .i64 ((al - 1 : Nat) : Int))).heap[b]? = W.heap[b]? := fun b hb => by
    have hne : b ≠ b0 := fun e => by have := HWS.out b hb; rw [e, Hb0.out] at this; omega
    exact (heap_setCell_other _ _ _ _ (by simpa using hne)).trans (HB3.out.block b (HWS.out b hb))
  have hx4 : (Y3.setCell ⟨b0, 1, none⟩ (.int .i64 ((al - 1 : Nat) : Int))).heap.size = Y3.heap.size := World.size_setCell _ _ _
  have HH4 := Lib.hid hb4
  have HG4 := Lib.hid hg4
  have HK4 : Hid ((Y3.setCell ⟨b0, 1, none⟩ (.int .i64 ((al - 1 : Nat) : Int))).heap[b0]? = some (stO ((p : Int), ((al - 1 : Nat) : Int)))) := hk4
  have HCS4 := Lib.hid hcs4
  have HBK4 := Lib.hid hBk4
  clear hb4 hg4 hk4 v0 hgb hcs4 hBk4 hx4 HH3 HG3 HK3 HB3 HCS3
  generalize Y3.setCell ⟨b0, 1, none⟩ (.int .i64 ((al - 1 : Nat) : Int)) = Y4 at *
  have HD := Lib.hid (HH4.out.below (Go.RowKit.Below.refl _ _).drew)
  have HGD := Lib.hid (HG4.out.below (Go.RowKit.Below.refl _ _).drew)
  have HKD := Lib.hid (box_on HK4.out (Go.RowKit.Below.refl _ _).drew)
  have HBKD : Hid (∀ b, B b → Y4.drew.heap[b]? = W.heap[b]?) := HBK4.out
  have hcsD : Y4.drew.cell? ⟨g, y * 3, none⟩ = some (.slice (some ⟨sb, 0, none⟩) ny.segs.length scy) := HCS4.out
  obtain ⟨say, kay, scy', kcy, vy⟩ := HD.out.node HGD.out y ny HFY.out
  have csy := vy.cs
  rw [hcsD] at csy
  obtain ⟨rfl, rfl⟩ : say = some ⟨sb, 0, none⟩ ∧ scy = scy' := by injection csy with e; injection e with e1 _ e2; exact ⟨e1.symm, e2⟩
  obtain ⟨yb, e9, _, hy5, hyf⟩ := own_atG vy.os rfl i HI.out
  obtain rfl : yb = sb := by injection e9 with e9; injection e9 with e9; exact e9.symm
  obtain ⟨sap, kap, scp, kcp, vp⟩ := HD.out.node HGD.out p n HP.out
  have hal1 : al - 1 < n.segs.length := by have := HAL.out; have := HPOS.out; omega
  obtain ⟨pb, rfl, _, hp5, _⟩ := own_atG vp.os rfl (al - 1) hal1
  rw [show n.segs[al - 1]'hal1 = m from (List.getElem?_eq_some_iff.1 HMM.out).2] at hp5
  obtain ⟨d1, d2, d3, d4, d5⟩ := hp5
  obtain ⟨f1, f2, f3, f4, f5⟩ := hy5
  have z1 := hyf (i * 5)
  have z2 := hyf (i * 5 + 1)
  have z3 := hyf (i * 5 + 2)
  have z4 := hyf (i * 5 + 3)
  have z5 := hyf (i * 5 + 4)
  have HOV := Lib.hid (HD.out.over HGD.out y ny HFY.out i HI.out yb scy vy.cs m)
  have HBO : Hid (∀ b, B b ∨ b = b0 → b ≠ yb) := fun b hb e => vy.sB yb rfl (e ▸ hb)
  have c3 := vp.cs
  rw [← HN1.out] at c3
  have i7 : (0 : Int) ≤ ((al - 1 : Nat) : Int) := by omega
  have i8 : ((al - 1 : Nat) : Int) < (al : Int) := by have := HN1.out; have := HPOS.out; omega
  have cb1 : Y4.drew.cell? ⟨b0, 1, none⟩ = some (.int .i64 ((al - 1 : Nat) : Int)) := (cell_of_row _ _ 1 _ _ _ HKD.out).trans rfl
  obtain ⟨S5, hS5⟩ : ∃ S5 : World → Prop, S5 = fun w' => w'.cell? ⟨b0, 1, none⟩ = some (.int .i64 ((al - 1 : Nat) : Int)) ∧ w'.cell? ⟨g, p * 3, none⟩ = some (.slice (some ⟨pb, 0, none⟩) al scp) ∧ w'.cell? ⟨pb, (al - 1) * 5, none⟩ = some (.int .i64 m.ls) ∧ w'.cell? ⟨pb, (al - 1) * 5 + 1, none⟩ = some (.int .i64 m.la) ∧ w'.cell? ⟨pb, (al - 1) * 5 + 2, none⟩ = some (.int .i64 m.hs) ∧ w'.cell? ⟨pb, (al - 1) * 5 + 3, none⟩ = some (.int .i64 m.ha) ∧ w'.cell? ⟨pb, (al - 1) * 5 + 4, none⟩ = some (.int .i64 m.v) := ⟨_, rfl⟩
  have HS1 : Hid (S5 Y4.drew) := by show S5 _; rw [hS5]; exact ⟨cb1, c3, d1, d2, d3, d4, d5⟩
  clear vy vp c3 d1 d2 d3 d4 d5 hyf csy hcsD cb1 e9 hal1 HH4 HG4 HK4 HCS4 HBK4
  refine wp_plain_T S5 10 mx HS1.out (fun _ _ h => h) (fun hHeld => ?_)
  subst hS5
  generalize Y4.drew = Z at *
  refine wpAnyT_pure (i := 0) (v := ?_) (by kernel_rfl) rfl (by kernel_rfl) (by kernel_rfl) (by kernel_rfl) (fun _ _ _ h => h) (Or.inl ⟨by rfl, ?_⟩) (by assumption) ?_
  rotate_left
  · intro w0; go_simp; all_goals (with_reducible rfl)
  try simp only [Act.put, List.setIfInBounds_toArray, List.set_cons_zero, List.set_cons_succ]
  refine wpAnyT_pure (i := 1) (v := ?_) (by kernel_rfl) rfl (by kernel_rfl) (by kernel_rfl) (by kernel_rfl) (fun _ _ _ h => h) (Or.inl ⟨by rfl, ?_⟩) (by assumption) ?_
  rotate_left
  · intro w0; go_simp; all_goals (with_reducible rfl)
  try simp only [Act.put, List.setIfInBounds_toArray, List.set_cons_zero, List.set_cons_succ]
  refine wpAnyT_pure (i := 2) (v := ?_) (by kernel_rfl) rfl (by kernel_rfl) (by kernel_rfl) (by kernel_rfl) (fun _ _ _ h => h) (Or.inl ⟨by rfl, ?_⟩) (by assumption) ?_
  rotate_left
  · intro w0; go_simp; all_goals (with_reducible rfl)
  try simp only [Act.put, List.setIfInBounds_toArray, List.set_cons_zero, List.set_cons_succ]
  refine wpAnyT_pure (i := 3) (v := ?_) (by kernel_rfl) rfl (by kernel_rfl) (by kernel_rfl) (by kernel_rfl) (fun _ _ _ h => h) (Or.inl ⟨by rfl, ?_⟩) (by assumption) ?_
  rotate_left
  · intro w0; go_simp; all_goals (with_reducible rfl)
  try simp only [Act.put, List.setIfInBounds_toArray, List.set_cons_zero, List.set_cons_succ]
  refine wpAnyT_take (i := 4) (v := ?_) [7, 8, 9, 10] (by kernel_rfl) (by kernel_rfl) (by kernel_rfl) rfl (by kernel_rfl) (by kernel_rfl) (by kernel_rfl) (fun _ _ _ h => h) (Or.inl ⟨by rfl, ?_⟩) (by assumption) ?_
  rotate_left
  · intro w0 hSw; (try dsimp only at hSw); go_simp; all_goals (with_reducible rfl)
  try simp only [Act.put, List.setIfInBounds_toArray, List.set_cons_zero, List.set_cons_succ]
  refine wpAnyT_pure (i := 5) (v := ?_) (by kernel_rfl) rfl (by kernel_rfl) (by kernel_rfl) (by kernel_rfl) (fun _ _ _ h => h) (Or.inl ⟨by rfl, ?_⟩) (by assumption) ?_
  rotate_left
  · intro w0; go_simp; all_goals (with_reducible rfl)
  try simp only [Act.put, List.setIfInBounds_toArray, List.set_cons_zero, List.set_cons_succ]
  refine wpAnyT_take (i := 6) (v := ?_) [7, 8, 9, 10] (by kernel_rfl) (by kernel_rfl) (by kernel_rfl) rfl (by kernel_rfl) (by kernel_rfl) (by kernel_rfl) (fun _ _ _ h => h) (Or.inl ⟨by rfl, ?_⟩) (by assumption) ?_
  rotate_left
  · intro w0 hSw; (try dsimp only at hSw); go_simp; all_goals (with_reducible rfl)
  try simp only [Act.put, List.setIfInBounds_toArray, List.set_cons_zero, List.set_cons_succ]
  refine wpAnyT_pure (i := 7) (v := ?_) (by kernel_rfl) rfl (by kernel_rfl) (by kernel_rfl) (by kernel_rfl) (fun _ _ _ h => h) (Or.inl ⟨by rfl, ?_⟩) (by assumption) ?_
  rotate_left
  · intro w0; go_simp; all_goals (with_reducible rfl)
  try simp only [Act.put, List.setIfInBounds_toArray, List.set_cons_zero, List.set_cons_succ]
  refine wpAnyT_take (i := 8) (v := ?_) [9, 10] (by kernel_rfl) (by kernel_rfl) (by kernel_rfl) rfl (by kernel_rfl) (by kernel_rfl) (by kernel_rfl) (fun _ _ _ h => h) (Or.inl ⟨by rfl, ?_⟩) (by assumption) ?_
  rotate_left
  · intro w0 hSw; (try dsimp only at hSw); go_simp; all_goals (with_reducible rfl)
  try simp only [Act.put, List.setIfInBounds_toArray, List.set_cons_zero, List.set_cons_succ]
  refine wpAnyT_pure (i := 9) (v := ?_) (by kernel_rfl) rfl (by kernel_rfl) (by kernel_rfl) (by kernel_rfl) (fun _ _ _ h => h) (Or.inl ⟨by rfl, ?_⟩) (by assumption) ?_
  rotate_left
  · intro w0; go_simp; all_goals (with_reducible rfl)
  try simp only [Act.put, List.setIfInBounds_toArray, List.set_cons_zero, List.set_cons_succ]
  refine wpAnyT_stop (by kernel_rfl) rfl (fun K0 hK0 => ?_)
  go_simp
  skip
  refine hK0.out _ _ ?_
  clear hK0 K0
  try simp only [Act.put, List.setIfInBounds_toArray, List.set_cons_zero, List.set_cons_succ]
  refine wpAny_end (by kernel_rfl) ?_ _
  simp only [onlyN]
  obtain ⟨h7, h8⟩ := HOV.out
  have hst : ∀ b, b ≠ yb → (set5 Z yb (i * 5) m).heap[b]? = Z.heap[b]? := fun b e => by
    have f : ∀ (X : World) (c i : Nat) (v : Value), b ≠ c → (X.setCell ⟨c, i, none⟩ v).heap[b]? = X.heap[b]? := fun X c i v hne => heap_setCell_other _ _ _ _ (by simpa using hne)
    unfold set5
    rw [f _ _ _ _ e, f _ _ _ _ e, f _ _ _ _ e, f _ _ _ _ e, f _ _ _ _ e]
  have HH3 := Lib.hid h7
  have HG3 := Lib.hid h8
  have HK3 : Hid ((set5 Z yb (i * 5) m).heap[b0]? = some (stO ((p : Int), ((al - 1 : Nat) : Int)))) := (hst b0 (HBO.out b0 (.inr rfl))).trans HKD.out
  have HBK3 : Hid (∀ b, B b → (set5 Z yb (i * 5) m).heap[b]? = W.heap[b]?) := fun b hb => (hst b (HBO.out b (.inl hb))).trans (HBKD.out b hb)
  clear h7 h8 hst hHeld HS1 HOV HD HGD HKD HBKD HBO i7 i8 f1 f2 f3 f4 f5 z1 z2 z3 z4 z5
  change Exit.then _ _ Exit.normal _ (set5 Z yb (i * 5) m)
  generalize set5 Z yb (i * 5) m = Y3 at *
  go_upto_region 5 with fail
  have HD := Lib.hid (HH3.out.below (Go.RowKit.Below.refl _ _).drew)
  have HGD := Lib.hid (HG3.out.below (Go.RowKit.Below.refl _ _).drew)
  have HBKD : Hid (∀ b, B b → Y3.drew.heap[b]? = W.heap[b]?) := HBK3.out
  have cb1 : Y3.drew.cell? ⟨b0, 1, none⟩ = some (.int .i64 ((al - 1) : Nat)) := (cell_of_row _ _ 1 _ _ _ (box_on HK3.out (Go.RowKit.Below.refl _ _).drew)).trans rfl
  obtain ⟨say, kay, scy1, kcy, v⟩ := HD.out.node HGD.out p n ((updK_nat _ _ _ _ HYP.out.symm).trans HP.out)
  have hal1 : (al - 1) < n.segs.length := by have := HAL.out; have := HPOS.out; omega
  have HDL : Hid (Calls Try.prog 95 #[.slice say n.segs.length scy1, .int .i64 ((al - 1) : Nat), .int .i64 ((((al - 1) : Nat) : Int) + 1)] Y3.drew (OPost Y3.drew base 38 5 (.slice say n.segs.length scy1) (n.segs.length - 1) (flatG (n.segs.take (al - 1) ++ n.segs.drop ((al - 1) + 1))))) := sdelG_any (i := (al - 1)) v.os rfl hal1 (by have := HL.out; omega) v.le
  have hlen1 : (n.segs.take (al - 1) ++ n.segs.drop ((al - 1) + 1)).length = n.segs.length - 1 := by
    simp only [List.length_append, List.length_take, List.length_drop]; omega
  have c1 := v.cs
  have i9 : IntKind.i64.wrap ((((al - 1) : Nat) : Int) + 1) = (((al - 1) : Nat) : Int) + 1 := IntWalk.i64_in _ (by have := HL.out; omega)
  rw [← HN1.out] at c1 HDL hlen1
  have HLN := Lib.hid hlen1
  have HV := Lib.hid v
  have HGF : Hid (∀ y1, Y3.drew.grownBy y1 (Value.slice say al scy1).ownBlock → y1.cell? ⟨g, p * 3, none⟩ = some (.slice say al scy1) ∧ y1.frozen? ⟨g, p * 3, none⟩ = false) := fun y1 hy => by
    have hne : some g ≠ (Value.slice say al scy1).ownBlock := fun e => v.gs g ((ownBlk _ _ _ _ _).trans e.symm) rfl
    exact ⟨(hy.cell_far ⟨g, p * 3, none⟩ v.gb hne).trans c1, (hy.frozen_far ⟨g, p * 3, none⟩ v.gb hne).trans (v.fz _)⟩
  obtain ⟨S5, hS5⟩ : ∃ S5 : World → Prop, S5 = fun w' => w'.cell? ⟨b0, 1, none⟩ = some (.int .i64 ((al - 1) : Nat)) ∧ w'.cell? ⟨g, p * 3, none⟩ = some (.slice say al scy1) := ⟨_, rfl⟩
  have HS1 : Hid (S5 Y3.drew) := by show S5 _; rw [hS5]; exact ⟨cb1, c1⟩
  clear v cb1 c1 hal1 hlen1 HH3 HG3 HK3 HBK3 
  refine wp_plain_T S5 10 mx HS1.out (fun _ _ h => h) (fun hHeld => ?_)
  subst hS5
  generalize Y3.drew = Z3 at *
  refine wpAnyT_pure (i := 0) (v := ?_) (by kernel_rfl) rfl (by kernel_rfl) (by kernel_rfl) (by kernel_rfl) (fun _ _ _ h => h) (Or.inl ⟨by rfl, ?_⟩) (by assumption) ?_
  rotate_left
  · intro w0; go_simp; all_goals (with_reducible rfl)
  try simp only [Act.put, List.setIfInBounds_toArray, List.set_cons_zero, List.set_cons_succ]
  refine wpAnyT_pure (i := 1) (v := ?_) (by kernel_rfl) rfl (by kernel_rfl) (by kernel_rfl) (by kernel_rfl) (fun _ _ _ h => h) (Or.inl ⟨by rfl, ?_⟩) (by assumption) ?_
  rotate_left
  · intro w0; go_simp; all_goals (with_reducible rfl)
  try simp only [Act.put, List.setIfInBounds_toArray, List.set_cons_zero, List.set_cons_succ]
  refine wpAnyT_pure (i := 2) (v := ?_) (by kernel_rfl) rfl (by kernel_rfl) (by kernel_rfl) (by kernel_rfl) (fun _ _ _ h => h) (Or.inl ⟨by rfl, ?_⟩) (by assumption) ?_
  rotate_left
  · intro w0; go_simp; all_goals (with_reducible rfl)
  try simp only [Act.put, List.setIfInBounds_toArray, List.set_cons_zero, List.set_cons_succ]
  refine wpAnyT_pure (i := 3) (v := ?_) (by kernel_rfl) rfl (by kernel_rfl) (by kernel_rfl) (by kernel_rfl) (fun _ _ _ h => h) (Or.inl ⟨by rfl, ?_⟩) (by assumption) ?_
  rotate_left
  · intro w0; go_simp; all_goals (with_reducible rfl)
  try simp only [Act.put, List.setIfInBounds_toArray, List.set_cons_zero, List.set_cons_succ]
  refine wpAnyT_take (i := 4) (v := ?_) [10, 11, 12, 13] (by kernel_rfl) (by kernel_rfl) (by kernel_rfl) rfl (by kernel_rfl) (by kernel_rfl) (by kernel_rfl) (fun _ _ _ h => h) (Or.inl ⟨by rfl, ?_⟩) (by assumption) ?_
  rotate_left
  · intro w0 hSw; (try dsimp only at hSw); go_simp; all_goals (with_reducible rfl)
  try simp only [Act.put, List.setIfInBounds_toArray, List.set_cons_zero, List.set_cons_succ]
  refine wpAnyT_pure (i := 5) (v := ?_) (by kernel_rfl) rfl (by kernel_rfl) (by kernel_rfl) (by kernel_rfl) (fun _ _ _ h => h) (Or.inl ⟨by rfl, ?_⟩) (by assumption) ?_
  rotate_left
  · intro w0; go_simp; all_goals (with_reducible rfl)
  try simp only [Act.put, List.setIfInBounds_toArray, List.set_cons_zero, List.set_cons_succ]
  refine wpAnyT_take (i := 6) (v := ?_) [10, 11, 12, 13] (by kernel_rfl) (by kernel_rfl) (by kernel_rfl) rfl (by kernel_rfl) (by kernel_rfl) (by kernel_rfl) (fun _ _ _ h => h) (Or.inl ⟨by rfl, ?_⟩) (by assumption) ?_
  rotate_left
  · intro w0 hSw; (try dsimp only at hSw); go_simp; all_goals (with_reducible rfl)
  try simp only [Act.put, List.setIfInBounds_toArray, List.set_cons_zero, List.set_cons_succ]
  refine wpAnyT_pure (i := 7) (v := ?_) (by kernel_rfl) rfl (by kernel_rfl) (by kernel_rfl) (by kernel_rfl) (fun _ _ _ h => h) (Or.inl ⟨by rfl, ?_⟩) (by assumption) ?_
  rotate_left
  · intro w0; go_simp; all_goals (with_reducible rfl)
  try simp only [Act.put, List.setIfInBounds_toArray, List.set_cons_zero, List.set_cons_succ]
  refine wpAnyT_take (i := 8) (v := ?_) [9, 10, 11, 12, 13] (by kernel_rfl) (by kernel_rfl) (by kernel_rfl) rfl (by kernel_rfl) (by kernel_rfl) (by kernel_rfl) (fun _ _ _ h => h) (Or.inl ⟨by rfl, ?_⟩) (by assumption) ?_
  rotate_left
  · intro w0 hSw; (try dsimp only at hSw); go_simp; all_goals (with_reducible rfl)
  try simp only [Act.put, List.setIfInBounds_toArray, List.set_cons_zero, List.set_cons_succ]
  refine wpAnyT_pure (i := 9) (v := ?_) (by kernel_rfl) rfl (by kernel_rfl) (by kernel_rfl) (by kernel_rfl) (fun _ _ _ h => h) (Or.inl ⟨by rfl, ?_⟩) (by assumption) ?_
  rotate_left
  · intro w0; go_simp; all_goals (with_reducible rfl)
  try simp only [Act.put, List.setIfInBounds_toArray, List.set_cons_zero, List.set_cons_succ]
  refine wpAnyT_stop (by kernel_rfl) rfl (fun K0 hK0 => ?_)
  go_simp
  refine HDL.out.mono ?_
  rintro e y1 ⟨a1, c1', ⟨rfl, ho1⟩, hg1, hn1'⟩
  obtain ⟨y5, y6⟩ := HGF.out y1 hg1
  have HO1 := Lib.hid ho1
  have HG1 := Lib.hid hg1
  have HN1' := Lib.hid hn1'
  clear ho1 hg1 hn1'
  try dsimp only
  refine hK0.out _ _ ?_
  clear hK0 K0
  try simp only [Act.put, List.setIfInBounds_toArray, List.set_cons_zero, List.set_cons_succ]
  refine wpAny_take (i := 11) (v := ?_) rfl (by kernel_rfl) (by kernel_rfl) (by kernel_rfl) (fun _ _ _ h => h) (Or.inl ⟨by rfl, ?_⟩) ?_
  rotate_left
  · intro w0; go_simp; all_goals (with_reducible rfl)
  try simp only [Act.put, List.setIfInBounds_toArray, List.set_cons_zero, List.set_cons_succ]
  refine wpAny_take (i := 12) (v := ?_) rfl (by kernel_rfl) (by kernel_rfl) (by kernel_rfl) (fun _ _ _ h => h) (Or.inl ⟨by rfl, ?_⟩) ?_
  rotate_left
  · intro w0; go_simp; all_goals (with_reducible rfl)
  try simp only [Act.put, List.setIfInBounds_toArray, List.set_cons_zero, List.set_cons_succ]
  refine wpAny_one (i := 13) (by kernel_rfl) rfl (fun K0 hK0 => ?_)
  go_simp
  refine hK0.out _ _ ?_
  clear hK0 K0
  try simp only [Act.put, List.setIfInBounds_toArray, List.set_cons_zero, List.set_cons_succ]
  refine wpAny_end (by kernel_rfl) ?_ _
  simp only [onlyN]
  have hset := HV.out.setS y1 a1 c1' (n.segs.take (al - 1) ++ n.segs.drop ((al - 1) + 1)) (by
    have e : (Value.slice say n.segs.length scy1).ownBlock = (Value.slice say al scy1).ownBlock := ownBlk _ _ _ _ _
    rw [e]; exact HG1.out) (by rw [HLN.out]; exact HO1.out) (fun b hb => by
    have hb' : (Value.slice a1 (al - 1) c1').ownBlock = some b := by rw [← hb]; exact ownBlk _ _ _ _ _
    rcases HN1'.out b hb' with q | q
    · exact .inl (by rw [← q]; exact ownBlk _ _ _ _ _)
    · refine .inr ⟨q, (HO1.out.lt b hb').2, fun hB => ?_⟩
      have hlt := (HD.out.size b hB).2
      omega)
  rw [HLN.out] at hset
  obtain ⟨h7, h8, h9⟩ := hset
  have HHF := Lib.hid (h7.less (C := B) (fun b hb => .inl hb))
  have HBF : Hid (∀ b, B b → (y1.setCell ⟨g, p * 3, none⟩ (.slice a1 (al - 1) c1')).heap[b]? = W.heap[b]?) := fun b hb => (h9 b (.inl hb)).trans (HBKD.out b hb)
  clear h7 h8 h9 y5 y6 HDL HV HGF HO1 HG1 HN1' HLN HN1 hHeld HS1 HD HGD HBKD i9
  generalize y1.setCell ⟨g, p * 3, none⟩ (.slice a1 (al - 1) c1') = Y9 at *
  go_wp2_with fail
  refine (HM.out _ HHF.out HBF.out).mono ?_
  rintro e w' ⟨rfl, hpf⟩
  have HPF := Lib.hid hpf
  clear hpf
  go_wp2_with fail
  go_end0
  exact ⟨rfl, HPF.out⟩
end Go.Proofs.Ytjgcdmeojjnjlaa
/- New: the walks. -/
namespace Go.Proofs.Ytjgcdmeojjnjlaa
open Go.RowKit Go.Sort Go.Proofs.Ytjgcdmeojjnjlaa.Bo Go.Proofs.Ytjgcdmeojjnjlaa.Bb
set_option linter.unusedVariables false
set_option maxRecDepth 100000
abbrev bx0 (d room : Int) : Bx := ⟨d, -1, 0, room, 0, fun _ => none⟩
set_option maxHeartbeats 2000000 in
theorem btnew_ok (d room : Int) (w : World) (h1 : 2 ≤ d ∧ d ≤ 64) (h2 : 0 ≤ room ∧ room ≤ 4096) :
    Calls Try.prog 10 #[.int .i64 d, .int .i64 room] w fun e w' => e = .returned (.tuple #[.pointer (some ⟨w.heap.size + 1, 0, none⟩), .int .i64 0]) ∧ (w.alloc (bnO room (.slice none 0 0) (.slice none 0 0))).alloc (bO w.heap.size (bx0 d room)) = w' := by
  have t1 : ¬ d < 2 := by omega
  have t2 : ¬ 64 < d := by omega
  have t3 : ¬ room < 0 := by omega
  have t4 : ¬ 4096 < room := by omega
  have u1 : decide (d < 2) = false := decide_eq_false t1
  have u2 : decide (64 < d) = false := decide_eq_false t2
  have u3 : decide (room < 0) = false := decide_eq_false t3
  have u4 : decide (4096 < room) = false := decide_eq_false t4
  have HC := Lib.hid (fun W => bnnew_ok room W ⟨h2.1, by omega⟩)
  have b82 : ∀ (W : World) (v : Int) (x : Option Addr), (Instr.build 82 #[(0, .int .i64 v), (1, .pointer x), (2, .int .i64 (-1))]).run Try.prog W = .ok (.agg #[.int .i64 v, .pointer x, .int .i64 (-1), .int .i64 0]) W := fun W v x => run_build W _ _ _ (by kernel_rfl)
  clear h1 h2 t1 t2 t3 t4
  go_enter Try.func10, Try.ntmps10
  go_wp2_with fail
  refine (HC.out _).mono ?_
  rintro e w' ⟨rfl, rfl⟩
  go_wp2_with fail
  go_ret2
  exact ⟨by simp, rfl⟩
theorem btnew_tree (d : Nat) (room : Int) (w : World) (h1 : 2 ≤ d ∧ d ≤ 64) (h2 : 0 ≤ room ∧ room ≤ 4096) :
    Calls Try.prog 10 #[.int .i64 (d : Int), .int .i64 room] w fun e w' => e = .returned (.tuple #[aP (w.heap.size + 1), .int .i64 0]) ∧ BtT w (fun _ => False) (fun _ => False) w.heap.size (w.heap.size + 1) w.heap.size d room [] w' := by
  refine (btnew_ok (d : Int) room w (by omega) h2).mono ?_
  rintro e w' ⟨rfl, rfl⟩
  have hb : Go.RowKit.Below w.heap.size w ((w.alloc (bnO room (.slice none 0 0) (.slice none 0 0))).alloc (bO w.heap.size (bx0 (d : Int) room))) := bt (below_new _ _) (below_new _ _)
  refine ⟨rfl, bx0 (d : Int) room, ⟨Ag.new room, FP w.heap.size (.slice none 0 0) (.slice none 0 0), { top := new_at' _ (by simp), le := by omega, ar := ⟨_, _, rfl, ⟨box_on (heap_alloc_new _ _) (below_new _ _), World.ownsRow_nil _ _ _ _, World.ownsRow_nil _ _ _ _, Nat.le_refl _, by decide⟩⟩, ok := Ag.new_ok _ ⟨h2.1, by omega⟩, room := rfl, len := rfl, is := ?_, node := ?_, apart := ?_, far := ?_ }, Kp.of_below _ hb, ?_, fun b hb => hb.elim⟩, ⟨rfl, h1.1, h1.2, .inl ⟨rfl, rfl, rfl, fun _ => rfl⟩, rfl, h2, h2.1, rowOk_nil, fun g hg => by simp at hg⟩, rfl⟩
  · intro i
    rw [Ag.is_iff]
    simp only [Ag.new]
    constructor
    · rintro ⟨_, k1, k2⟩; omega
    · intro k; exact absurd rfl k
  · intro p n hp; cases hp
  · intro p q hp; exact absurd rfl hp
  · intro p hp; exact absurd rfl hp
  · rintro b (hb | hb | ⟨p, hp, _⟩)
    · exact .inr (by omega)
    · rcases hb with hb | hb | hb
      · exact .inr (by omega)
      · cases hb
      · cases hb
    · exact absurd rfl hp
set_option maxHeartbeats 1000000 in
theorem btnew_a (d room : Int) (w : World) (h : d < 2) : Calls Try.prog 10 #[.int .i64 d, .int .i64 room] w fun e w' => e = .returned (.tuple #[.pointer none, .int .i64 1]) ∧ w = w' := by
  have u1 : decide (d < 2) = true := decide_eq_true h
  clear h
  go_enter Try.func10, Try.ntmps10
  go_wp2_with fail
  go_ret2
  exact ⟨rfl, rfl⟩
set_option maxHeartbeats 1000000 in
theorem btnew_b (d room : Int) (w : World) (h : 64 < d) : Calls Try.prog 10 #[.int .i64 d, .int .i64 room] w fun e w' => e = .returned (.tuple #[.pointer none, .int .i64 1]) ∧ w = w' := by
  have u1 : decide (d < 2) = false := decide_eq_false (by omega)
  have u2 : decide (64 < d) = true := decide_eq_true h
  clear h
  go_enter Try.func10, Try.ntmps10
  go_wp2_with fail
  go_ret2
  exact ⟨rfl, rfl⟩
set_option maxHeartbeats 1000000 in
theorem btnew_c (d room : Int) (w : World) (h : 2 ≤ d ∧ d ≤ 64) (h2 : room < 0) : Calls Try.prog 10 #[.int .i64 d, .int .i64 room] w fun e w' => e = .returned (.tuple #[.pointer none, .int .i64 1]) ∧ w = w' := by
  have u1 : decide (d < 2) = false := decide_eq_false (by omega)
  have u2 : decide (64 < d) = false := decide_eq_false (by omega)
  have u3 : decide (room < 0) = true := decide_eq_true h2
  clear h h2
  go_enter Try.func10, Try.ntmps10
  go_wp2_with fail
  go_ret2
  exact ⟨rfl, rfl⟩
set_option maxHeartbeats 1000000 in
theorem btnew_d (d room : Int) (w : World) (h : 2 ≤ d ∧ d ≤ 64) (h2 : 4096 < room) : Calls Try.prog 10 #[.int .i64 d, .int .i64 room] w fun e w' => e = .returned (.tuple #[.pointer none, .int .i64 1]) ∧ w = w' := by
  have u1 : decide (d < 2) = false := decide_eq_false (by omega)
  have u2 : decide (64 < d) = false := decide_eq_false (by omega)
  have u3 : decide (room < 0) = false := decide_eq_false (by omega)
  have u4 : decide (4096 < room) = true := decide_eq_true h2
  clear h h2
  go_enter Try.func10, Try.ntmps10
  go_wp2_with fail
  go_ret2
  exact ⟨rfl, rfl⟩
theorem btnew_no (d room : Int) (w : World) (h : ¬ ((2 ≤ d ∧ d ≤ 64) ∧ 0 ≤ room ∧ room ≤ 4096)) : Calls Try.prog 10 #[.int .i64 d, .int .i64 room] w fun e w' => e = .returned (.tuple #[.pointer none, .int .i64 1]) ∧ w = w' := by
  by_cases h1 : d < 2
  · exact btnew_a d room w h1
  · by_cases h2 : 64 < d
    · exact btnew_b d room w h2
    · by_cases h3 : room < 0
      · exact btnew_c d room w (by omega) h3
      · exact btnew_d d room w (by omega) (by omega)
end Go.Proofs.Ytjgcdmeojjnjlaa
/- mendShort: from the leaf on, step by step. No Go in sight. -/
namespace Go.Proofs.Ytjgcdmeojjnjlaa.Bb
open Go.Proofs.Ytjgcdmeojjnjlaa.Bo
set_option linter.unusedVariables false
section
variable {d : Nat} {root : Int} {L : List G5} {cx : List BF} {j : Nat} {f : Int → Option Kn} {n : Nat} {u : Bt}
theorem Short.at_ {h : Nat} (o : Short d f n root L h cx u) : f (u.i : Int) = some ⟨u.s, u.ks.map Bt.idx⟩ := o.z.tree.node
/-- A step is left. -/
theorem Short.step (o : Short d f n root L j (cx.drop j) u) (hj : j < cx.length) : Short d f n root L j (cx[j] :: cx.drop (j + 1)) u := by rw [← List.drop_eq_getElem_cons hj]; exact o
/-- No step is left, or the node has what it must: the tree is right. -/
theorem Short.stop (o : Short d f n root L j (cx.drop j) u) (hj : j < cx.length) (hl : d ≤ u.s.length + 1) : TreeAt d f n root L := by
  refine o.done ?_
  have hne : cx.drop j ≠ [] := by rw [List.drop_eq_getElem_cons hj]; exact List.cons_ne_nil _ _
  rw [if_neg hne]
  exact hl
theorem Short.top (o : Short d f n root L cx.length (cx.drop cx.length) u) (hl : 1 ≤ u.s.length) : TreeAt d f n root L := by
  refine o.done ?_
  rw [List.drop_length, if_pos rfl]
  exact hl
/-- A right tree's root has a segment. -/
theorem TreeAt.rootN (t : TreeAt d f n root L) (hr : root ≠ -1) : ∃ (p : Nat) (m : Kn), root = (p : Int) ∧ f (p : Int) = some m ∧ 1 ≤ m.segs.length := by
  rcases t with ⟨_, _, e, _⟩ | ⟨H, x, z, hd, _⟩
  · exact absurd e hr
  · have h1 := ((degR_eq d H x).1 hd).1.1
    exact ⟨x.i, ⟨x.s, x.ks.map Bt.idx⟩, z.root, z.tree.node, h1⟩
end
end Go.Proofs.Ytjgcdmeojjnjlaa.Bb
/- join: a segment and the children on its sides become one node. -/
namespace Go.Proofs.Ytjgcdmeojjnjlaa
open Go.RowKit Go.Sort Go.Proofs.Ytjgcdmeojjnjlaa.Bo Go.Proofs.Ytjgcdmeojjnjlaa.Bb Go.Proofs.Ytjgcdmeojjnjlaa.Rf
set_option linter.unusedVariables false
set_option linter.unusedSimpArgs false
set_option maxRecDepth 100000
set_option maxHeartbeats 1000000 in
set_option maxHeartbeats 2000000 in
theorem BtH.join {w0 W : World} {S B : Nat → Prop} {base T A g : Nat} {t : Bx} (h : BtH w0 S B base T A t W) (hg : PlG W A g) (y p q : Nat) (ny np nq : Kn) (fy : t.f (y : Int) = some ny) (fp : t.f (p : Int) = some np) (fq : t.f (q : Int) = some nq) (hyp : y ≠ p) (hyq : y ≠ q) (hpq : p ≠ q)
    (k : Nat) (x : G5) (m : Nat) (hm : t.n = m + 1) (k1 : ny.kids[k]? = some (p : Int)) (k2 : ny.kids[k + 1]? = some (q : Int)) (hx : ny.segs[k]? = some x) (l1 : ny.segs.length ≤ 1000 ∧ ny.kids.length ≤ 1000) (l2 : np.segs.length ≤ 1000 ∧ np.kids.length ≤ 1000) (l3 : nq.segs.length ≤ 1000 ∧ nq.kids.length ≤ 1000) :
    Calls Try.prog 112 #[aP T, .pointer (some ⟨g, y * 3, none⟩), .int .i64 (k : Int)] W fun e w' => e = .returned (.tuple #[]) ∧ ∃ F, BtH w0 S B base T A { t with n := m, f := F } w' ∧ F (y : Int) = some ⟨ny.segs.take k ++ ny.segs.drop (k + 1), ny.kids.take (k + 1) ++ ny.kids.drop (k + 1 + 1)⟩ ∧ F (p : Int) = some ⟨np.segs ++ x :: nq.segs, np.kids ++ nq.kids⟩ ∧ F (q : Int) = none ∧ (∀ j : Int, j ≠ (y : Int) → j ≠ (p : Int) → j ≠ (q : Int) → F j = t.f j) ∧ ∀ b, B b → w'.heap[b]? = W.heap[b]? := by
  have mx := mixed
  obtain ⟨hk1, e1⟩ := List.getElem?_eq_some_iff.1 k1
  obtain ⟨hk2, e2⟩ := List.getElem?_eq_some_iff.1 k2
  obtain ⟨hxl, ex⟩ := List.getElem?_eq_some_iff.1 hx
  obtain ⟨S1, h5, h6⟩ := h.rebase
  have HRB := Lib.hid h6
  have HH := Lib.hid h5
  have HG := Lib.hid hg
  clear h6
  obtain ⟨say, kay, scy, kcy, vy⟩ := h5.node hg y ny fy
  obtain ⟨sap, kap, scp, kcp, vp⟩ := h5.node hg p np fp
  obtain ⟨saq, kaq, scq, kcq, vq⟩ := h5.node hg q nq fq
  have HAP := Lib.hid vp.at_
  have HAQ := Lib.hid vq.at_
  have cky := vy.ck
  obtain ⟨kb, rfl, _, q1, _⟩ := own_at vy.ok rfl k hk1
  obtain ⟨kb2, e3, _, q2, _⟩ := own_at vy.ok rfl (k + 1) hk2
  obtain rfl : kb = kb2 := by injection e3 with e3; injection e3
  rw [e1] at q1
  rw [e2] at q2
  have p1 := cell_regrown ((cell_of_row _ _ 1 _ _ _ h.top).trans rfl : W.cell? ⟨T, 1, none⟩ = some (aP A))
  have p2 := cell_regrown cky
  have p3 := cell_regrown q1
  have p4 := cell_regrown q2
  have i1 : IntKind.i64.wrap ((k : Int) + 1) = (k : Int) + 1 := IntWalk.i64_in _ (by omega)
  have i2 : (0 : Int) ≤ (k : Int) := by omega
  have i3 : (k : Int) < (ny.kids.length : Int) := by omega
  have i4 : (0 : Int) ≤ (k : Int) + 1 := by omega
  have i5 : (k : Int) + 1 < (ny.kids.length : Int) := by omega
  have HX := Lib.hid hx
  have HM := Lib.hid hm
  have HXL := Lib.hid hxl
  have HKL2 := Lib.hid hk2
  have HFY := Lib.hid fy
  have HFP := Lib.hid fp
  have HFQ := Lib.hid fq
  have HN1 := Lib.hid hyp
  have HN2 := Lib.hid hyq
  have HN3 := Lib.hid hpq
  clear vy vp vq q1 e1 e2 e3 k1 k2 hx hk1 hk2 hxl ex fy fp fq hyp hyq hpq hm h h5 hg 
  go_enter Try.func112, Try.ntmps112
  go_upto_region 1 with fail
  clear cky q2
  refine wp_region_quiet_below (by assumption) (by kernel_rfl) ?_
  repeat (go_big_quiet_step (first
    | (go_at_call 50; with_reducible exact Calls.regrown_of ((HAP.out _ (below_regrown _ _ _)).mono fun e w' h => ⟨h.1, h.2 ▸ Go.RowKit.Below.refl _ _⟩))
    | (go_at_call 50; with_reducible exact Calls.regrown_of ((HAQ.out _ (below_regrown _ _ _)).mono fun e w' h => ⟨h.1, h.2 ▸ Go.RowKit.Below.refl _ _⟩))))
  refine wpQuiet_nil ?_
  intro _ hw'
  obtain ⟨⟨nq0, osq⟩, hw''⟩ := hw'
  subst hw''
  have hb0 := below_regrown W nq0 osq
  generalize grow (redrawn W nq0) osq = Y at *
  clear p1 p2 p3 p4 i3 i4 i5
  have HY := Lib.hid (HH.out.below hb0)
  have HGY := Lib.hid (HG.out.below hb0)
  clear hb0 HAP HAQ HH HG
  go_upto_region 2 with fail
  -- the one between goes down
  have HD := Lib.hid (HY.out.below (Go.RowKit.Below.refl _ _).drew)
  have HGD := Lib.hid (HGY.out.below (Go.RowKit.Below.refl _ _).drew)
  obtain ⟨say, kay, scy, kcy, vy⟩ := HD.out.node HGD.out y ny HFY.out
  obtain ⟨sap, kap, scp, kcp, vp⟩ := HD.out.node HGD.out p np HFP.out
  obtain ⟨n1, hn1⟩ : ∃ n1, n1 = np.segs.length := ⟨_, rfl⟩
  obtain ⟨n3, hn3⟩ : ∃ n3, n3 = ny.segs.length := ⟨_, rfl⟩
  have HN1L := Lib.hid hn1
  have HN3L := Lib.hid hn3
  have c1 := vp.cs
  have c2 := vy.cs
  have HOA := Lib.hid (vp.os.alloc (oG x))
  rw [← hn1] at c1 HOA
  rw [← hn3] at c2
  obtain ⟨yb, rfl, _, hc5, _⟩ := own_atG vy.os rfl k HXL.out
  rw [show ny.segs[k]'HXL.out = x from (List.getElem?_eq_some_iff.1 HX.out).2] at hc5
  obtain ⟨d1, d2, d3, d4, d5⟩ := hc5
  have HLS := Lib.hid (Bs.Lies.of_own (own_one5 Y.drew x 0 (Nat.zero_le _)))
  have HSZ : Hid (base ≤ (Y.drew.alloc (oG x)).heap.size) := Nat.le_trans vp.le (below_new Y.drew (oG x)).size
  have HV := Lib.hid vp
  have HGF : Hid (∀ y1, Y.drew.grownBy y1 (Value.slice sap n1 scp).ownBlock → y1.cell? ⟨g, p * 3, none⟩ = some (.slice sap n1 scp) ∧ y1.frozen? ⟨g, p * 3, none⟩ = false) := fun y1 hy => by
    have hne : some g ≠ (Value.slice sap n1 scp).ownBlock := fun e => vp.gs g ((ownBlk _ _ _ _ _).trans e.symm) rfl
    exact ⟨(hy.cell_far ⟨g, p * 3, none⟩ vp.gb hne).trans c1, (hy.frozen_far ⟨g, p * 3, none⟩ vp.gb hne).trans (vp.fz _)⟩
  have i3 : (k : Int) < (n3 : Int) := by have := HXL.out; omega
  have i4n : n1 ≤ 1000 := by omega
  obtain ⟨i0, hi0, hz0, hz1, hz2⟩ := info_parts Try.infoSeg
  obtain ⟨S5, hS5⟩ : ∃ S5 : World → Prop, S5 = fun w' => w'.cell? ⟨g, p * 3, none⟩ = some (.slice sap n1 scp) ∧ w'.cell? ⟨g, y * 3, none⟩ = some (.slice (some ⟨yb, 0, none⟩) n3 scy) ∧ w'.cell? ⟨yb, k * 5, none⟩ = some (.int .i64 x.ls) ∧ w'.cell? ⟨yb, k * 5 + 1, none⟩ = some (.int .i64 x.la) ∧ w'.cell? ⟨yb, k * 5 + 2, none⟩ = some (.int .i64 x.hs) ∧ w'.cell? ⟨yb, k * 5 + 3, none⟩ = some (.int .i64 x.ha) ∧ w'.cell? ⟨yb, k * 5 + 4, none⟩ = some (.int .i64 x.v) := ⟨_, rfl⟩
  have HS1 : Hid (S5 Y.drew) := by show S5 _; rw [hS5]; exact ⟨c1, c2, d1, d2, d3, d4, d5⟩
  have HS2 : Hid (S5 (Y.drew.alloc (oG x))) := by show S5 _; rw [hS5]; exact ⟨cell_alloc c1, cell_alloc c2, cell_alloc d1, cell_alloc d2, cell_alloc d3, cell_alloc d4, cell_alloc d5⟩
  clear vy vp c1 c2 d1 d2 d3 d4 d5 hn1 hn3
  refine wp_plain_T S5 13 mx HS1.out (fun _ _ h => h) (fun hHeld => ?_)
  subst hS5
  generalize Y.drew = Z at *
  refine wpAnyT_pure (i := 0) (v := ?_) (by kernel_rfl) rfl (by kernel_rfl) (by kernel_rfl) (by kernel_rfl) (fun _ _ _ h => h) (Or.inl ⟨by rfl, ?_⟩) (by assumption) ?_
  rotate_left
  · intro w0; go_simp; all_goals (with_reducible rfl)
  try simp only [Act.put, List.setIfInBounds_toArray, List.set_cons_zero, List.set_cons_succ]
  refine wpAnyT_pure (i := 1) (v := ?_) (by kernel_rfl) rfl (by kernel_rfl) (by kernel_rfl) (by kernel_rfl) (fun _ _ _ h => h) (Or.inl ⟨by rfl, ?_⟩) (by assumption) ?_
  rotate_left
  · intro w0; go_simp; all_goals (with_reducible rfl)
  try simp only [Act.put, List.setIfInBounds_toArray, List.set_cons_zero, List.set_cons_succ]
  refine wpAnyT_pure (i := 2) (v := ?_) (by kernel_rfl) rfl (by kernel_rfl) (by kernel_rfl) (by kernel_rfl) (fun _ _ _ h => h) (Or.inl ⟨by rfl, ?_⟩) (by assumption) ?_
  rotate_left
  · intro w0; go_simp; all_goals (with_reducible rfl)
  try simp only [Act.put, List.setIfInBounds_toArray, List.set_cons_zero, List.set_cons_succ]
  refine wpAnyT_pure (i := 3) (v := ?_) (by kernel_rfl) rfl (by kernel_rfl) (by kernel_rfl) (by kernel_rfl) (fun _ _ _ h => h) (Or.inl ⟨by rfl, ?_⟩) (by assumption) ?_
  rotate_left
  · intro w0; go_simp; all_goals (with_reducible rfl)
  try simp only [Act.put, List.setIfInBounds_toArray, List.set_cons_zero, List.set_cons_succ]
  refine wpAnyT_take (i := 4) (v := ?_) [13, 14, 15, 16] (by kernel_rfl) (by kernel_rfl) (by kernel_rfl) rfl (by kernel_rfl) (by kernel_rfl) (by kernel_rfl) (fun _ _ _ h => h) (Or.inl ⟨by rfl, ?_⟩) (by assumption) ?_
  rotate_left
  · intro w0 hSw; (try dsimp only at hSw); go_simp; all_goals (with_reducible rfl)
  try simp only [Act.put, List.setIfInBounds_toArray, List.set_cons_zero, List.set_cons_succ]
  refine wpAnyT_pure (i := 5) (v := ?_) (by kernel_rfl) rfl (by kernel_rfl) (by kernel_rfl) (by kernel_rfl) (fun _ _ _ h => h) (Or.inl ⟨by rfl, ?_⟩) (by assumption) ?_
  rotate_left
  · intro w0; go_simp; all_goals (with_reducible rfl)
  try simp only [Act.put, List.setIfInBounds_toArray, List.set_cons_zero, List.set_cons_succ]
  refine wpAnyT_pure (i := 6) (v := ?_) (by kernel_rfl) rfl (by kernel_rfl) (by kernel_rfl) (by kernel_rfl) (fun _ _ _ h => h) (Or.inl ⟨by rfl, ?_⟩) (by assumption) ?_
  rotate_left
  · intro w0; go_simp; all_goals (with_reducible rfl)
  try simp only [Act.put, List.setIfInBounds_toArray, List.set_cons_zero, List.set_cons_succ]
  refine wpAnyT_pure (i := 7) (v := ?_) (by kernel_rfl) rfl (by kernel_rfl) (by kernel_rfl) (by kernel_rfl) (fun _ _ _ h => h) (Or.inl ⟨by rfl, ?_⟩) (by assumption) ?_
  rotate_left
  · intro w0; go_simp; all_goals (with_reducible rfl)
  try simp only [Act.put, List.setIfInBounds_toArray, List.set_cons_zero, List.set_cons_succ]
  refine wpAnyT_take (i := 8) (v := ?_) [10, 11, 12, 13, 14, 15, 16] (by kernel_rfl) (by kernel_rfl) (by kernel_rfl) rfl (by kernel_rfl) (by kernel_rfl) (by kernel_rfl) (fun _ _ _ h => h) (Or.inl ⟨by rfl, ?_⟩) (by assumption) ?_
  rotate_left
  · intro w0 hSw; (try dsimp only at hSw); go_simp; all_goals (with_reducible rfl)
  try simp only [Act.put, List.setIfInBounds_toArray, List.set_cons_zero, List.set_cons_succ]
  refine wpAnyT_pure (i := 9) (v := ?_) (by kernel_rfl) rfl (by kernel_rfl) (by kernel_rfl) (by kernel_rfl) (fun _ _ _ h => h) (Or.inl ⟨by rfl, ?_⟩) (by assumption) ?_
  rotate_left
  · intro w0; go_simp; all_goals (with_reducible rfl)
  try simp only [Act.put, List.setIfInBounds_toArray, List.set_cons_zero, List.set_cons_succ]
  refine wpAnyT_pure (i := 10) (v := ?_) (by kernel_rfl) rfl (by kernel_rfl) (by kernel_rfl) (by kernel_rfl) (fun _ _ _ h => h) (Or.inl ⟨by rfl, ?_⟩) (by assumption) ?_
  rotate_left
  · intro w0; go_simp; all_goals (with_reducible rfl)
  try simp only [Act.put, List.setIfInBounds_toArray, List.set_cons_zero, List.set_cons_succ]
  refine wpAnyT_take (i := 11) (v := ?_) [12, 13, 14, 15, 16] (by kernel_rfl) (by kernel_rfl) (by kernel_rfl) rfl (by kernel_rfl) (by kernel_rfl) (by kernel_rfl) (fun _ _ _ h => h) (Or.inl ⟨by rfl, ?_⟩) (by assumption) ?_
  rotate_left
  · intro w0 hSw; (try dsimp only at hSw); go_simp; all_goals (with_reducible rfl)
  try simp only [Act.put, List.setIfInBounds_toArray, List.set_cons_zero, List.set_cons_succ]
  refine wpAnyT_one (i := 12) (by kernel_rfl) (by kernel_rfl) rfl (fun K0 hK0 => ?_)
  go_simp
  refine hK0.out _ _ ⟨?_, ?_⟩
  · exact HS2.out
  clear hK0 K0
  try simp only [Act.put, List.setIfInBounds_toArray, List.set_cons_zero, List.set_cons_succ]
  refine wpAnyT_stop (by kernel_rfl) rfl (fun K0 hK0 => ?_)
  refine Bs.step_append_row (P := Try.prog) _ rfl (.tmp 39) (.tmp 47) 32 rfl base 38 i0 _ 5 40 Try.underlying32 hi0 hz0 hz1 hz2 rfl (by omega) _ n1 (flatG np.segs) (by rfl) HOA.out (some ⟨Z.heap.size, 0, none⟩) 1 1 (flatG [x]) (by rfl) rfl HLS.out (flatG_one [x]) (by simp only [maxLen]; omega) (by omega) HSZ.out ?_
  intro a1 c1 y1 ho1 hg1 hat1
  obtain ⟨y5, y6⟩ := HGF.out y1 (grown_of_alloc hg1)
  have HO1 := Lib.hid ho1
  have HG1 := Lib.hid (grown_of_alloc hg1)
  have HAT1 := Lib.hid hat1
  clear ho1 hg1 hat1
  try dsimp only
  refine hK0.out _ _ ?_
  clear hK0 K0
  try simp only [Act.put, List.setIfInBounds_toArray, List.set_cons_zero, List.set_cons_succ]
  refine wpAny_take (i := 14) (v := ?_) rfl (by kernel_rfl) (by kernel_rfl) (by kernel_rfl) (fun _ _ _ h => h) (Or.inl ⟨by rfl, ?_⟩) ?_
  rotate_left
  · intro w0; go_simp; all_goals (with_reducible rfl)
  try simp only [Act.put, List.setIfInBounds_toArray, List.set_cons_zero, List.set_cons_succ]
  refine wpAny_take (i := 15) (v := ?_) rfl (by kernel_rfl) (by kernel_rfl) (by kernel_rfl) (fun _ _ _ h => h) (Or.inl ⟨by rfl, ?_⟩) ?_
  rotate_left
  · intro w0; go_simp; all_goals (with_reducible rfl)
  try simp only [Act.put, List.setIfInBounds_toArray, List.set_cons_zero, List.set_cons_succ]
  refine wpAny_one (i := 16) (by kernel_rfl) rfl (fun K0 hK0 => ?_)
  go_simp
  refine hK0.out _ _ ?_
  clear hK0 K0
  try simp only [Act.put, List.setIfInBounds_toArray, List.set_cons_zero, List.set_cons_succ]
  refine wpAny_end (by kernel_rfl) ?_ _
  simp only [onlyN]
  have hset := HV.out.setS y1 a1 c1 (np.segs ++ [x]) (by rw [show (Value.slice sap np.segs.length scp).ownBlock = (Value.slice sap n1 scp).ownBlock from ownBlk _ _ _ _ _]; exact HG1.out) (by rw [List.length_append, ← HN1L.out, flatG_append]; exact HO1.out) (fun b hb => by
    have hb' : (Value.slice a1 (n1 + 1) c1).ownBlock = some b := by rw [← hb]; exact ownBlk _ _ _ _ _
    rcases HAT1.out with q | q
    · exact .inl ((ownBlk _ _ _ _ _).trans (q.symm.trans hb'))
    · refine .inr ⟨?_, (HO1.out.lt b hb').2, id⟩
      rw [hb'] at q; injection q with q; rw [q]; exact (below_new Z (oG x)).size)
  rw [List.length_append, List.length_cons, List.length_nil, ← HN1L.out] at hset
  obtain ⟨h7, h8, _⟩ := hset
  have H2 := Lib.hid h7
  have HG2 := Lib.hid h8
  clear h7 h8 hHeld HS1 HS2 HGF HOA HLS HSZ HO1 HG1 HAT1 HV HD HGD y5 y6 HY HGY i3 hi0 hz0 hz1 hz2
  generalize y1.setCell ⟨g, p * 3, none⟩ (.slice a1 (n1 + 1) c1) = Y2 at *
  go_upto_region 3 with fail
  have HD := Lib.hid (H2.out.below (Go.RowKit.Below.refl _ _).drew)
  have HGD := Lib.hid (HG2.out.below (Go.RowKit.Below.refl _ _).drew)
  obtain ⟨sap, kap, scp, kcp, vp⟩ := HD.out.node HGD.out p ⟨np.segs ++ [x], np.kids⟩ (updK_self _ _ _)
  obtain ⟨saq, kaq, scq, kcq, vq⟩ := HD.out.node HGD.out q nq ((updK_nat _ _ _ _ HN3.out.symm).trans HFQ.out)
  obtain ⟨n6, hn6⟩ : ∃ n6, n6 = (np.segs ++ [x]).length := ⟨_, rfl⟩
  obtain ⟨n7, hn7⟩ : ∃ n7, n7 = (nq.segs).length := ⟨_, rfl⟩
  have HN6 := Lib.hid hn6
  have HN7 := Lib.hid hn7
  have c1 : Y2.drew.cell? ⟨g, p * 3, none⟩ = some (.slice sap (np.segs ++ [x]).length scp) := vp.cs
  have c2 : Y2.drew.cell? ⟨g, q * 3, none⟩ = some (.slice saq (nq.segs).length scq) := vq.cs
  have HOA : Hid (Y2.drew.ownsRow base 38 5 (.slice sap (np.segs ++ [x]).length scp) (np.segs ++ [x]).length (flatG (np.segs ++ [x]))) := vp.os
  have HOQ : Hid (Y2.drew.ownsRow base 38 5 (.slice saq (nq.segs).length scq) (nq.segs).length (flatG (nq.segs))) := vq.os
  rw [← hn6] at c1 HOA
  rw [← hn7] at c2 HOQ
  have HLS := Lib.hid (Bs.Lies.of_own HOQ.out)
  have HLQ : Hid ((flatG (nq.segs)).length = n7 * 5) := by show _ = _; rw [flatG_len, hn7]
  have HSZ : Hid (base ≤ Y2.drew.heap.size) := vp.le
  have HV := Lib.hid vp
  have HGF : Hid (∀ y1, Y2.drew.grownBy y1 (Value.slice sap n6 scp).ownBlock → y1.cell? ⟨g, p * 3, none⟩ = some (.slice sap n6 scp) ∧ y1.frozen? ⟨g, p * 3, none⟩ = false) := fun y1 hy => by
    have hne : some g ≠ (Value.slice sap n6 scp).ownBlock := fun e => vp.gs g ((ownBlk _ _ _ _ _).trans e.symm) rfl
    exact ⟨(hy.cell_far ⟨g, p * 3, none⟩ vp.gb hne).trans c1, (hy.frozen_far ⟨g, p * 3, none⟩ vp.gb hne).trans (vp.fz _)⟩
  have i6n : n6 ≤ 1001 := by rw [hn6]; simp; omega
  have i7n : n7 ≤ 1000 := by omega
  obtain ⟨i0, hi0, hz0, hz1, hz2⟩ := info_parts Try.infoSeg
  obtain ⟨S5, hS5⟩ : ∃ S5 : World → Prop, S5 = fun w' => w'.cell? ⟨g, p * 3, none⟩ = some (.slice sap n6 scp) ∧ w'.cell? ⟨g, q * 3, none⟩ = some (.slice saq n7 scq) := ⟨_, rfl⟩
  have HS1 : Hid (S5 Y2.drew) := by show S5 _; rw [hS5]; exact ⟨c1, c2⟩
  clear vp vq c1 c2 hn6 hn7
  refine wp_plain_T S5 9 mx HS1.out (fun _ _ h => h) (fun hHeld => ?_)
  subst hS5
  generalize Y2.drew = Z at *
  refine wpAnyT_pure (i := 0) (v := ?_) (by kernel_rfl) rfl (by kernel_rfl) (by kernel_rfl) (by kernel_rfl) (fun _ _ _ h => h) (Or.inl ⟨by rfl, ?_⟩) (by assumption) ?_
  rotate_left
  · intro w0; go_simp; all_goals (with_reducible rfl)
  try simp only [Act.put, List.setIfInBounds_toArray, List.set_cons_zero, List.set_cons_succ]
  refine wpAnyT_pure (i := 1) (v := ?_) (by kernel_rfl) rfl (by kernel_rfl) (by kernel_rfl) (by kernel_rfl) (fun _ _ _ h => h) (Or.inl ⟨by rfl, ?_⟩) (by assumption) ?_
  rotate_left
  · intro w0; go_simp; all_goals (with_reducible rfl)
  try simp only [Act.put, List.setIfInBounds_toArray, List.set_cons_zero, List.set_cons_succ]
  refine wpAnyT_pure (i := 2) (v := ?_) (by kernel_rfl) rfl (by kernel_rfl) (by kernel_rfl) (by kernel_rfl) (fun _ _ _ h => h) (Or.inl ⟨by rfl, ?_⟩) (by assumption) ?_
  rotate_left
  · intro w0; go_simp; all_goals (with_reducible rfl)
  try simp only [Act.put, List.setIfInBounds_toArray, List.set_cons_zero, List.set_cons_succ]
  refine wpAnyT_pure (i := 3) (v := ?_) (by kernel_rfl) rfl (by kernel_rfl) (by kernel_rfl) (by kernel_rfl) (fun _ _ _ h => h) (Or.inl ⟨by rfl, ?_⟩) (by assumption) ?_
  rotate_left
  · intro w0; go_simp; all_goals (with_reducible rfl)
  try simp only [Act.put, List.setIfInBounds_toArray, List.set_cons_zero, List.set_cons_succ]
  refine wpAnyT_take (i := 4) (v := ?_) [9, 10, 11, 12] (by kernel_rfl) (by kernel_rfl) (by kernel_rfl) rfl (by kernel_rfl) (by kernel_rfl) (by kernel_rfl) (fun _ _ _ h => h) (Or.inl ⟨by rfl, ?_⟩) (by assumption) ?_
  rotate_left
  · intro w0 hSw; (try dsimp only at hSw); go_simp; all_goals (with_reducible rfl)
  try simp only [Act.put, List.setIfInBounds_toArray, List.set_cons_zero, List.set_cons_succ]
  refine wpAnyT_pure (i := 5) (v := ?_) (by kernel_rfl) rfl (by kernel_rfl) (by kernel_rfl) (by kernel_rfl) (fun _ _ _ h => h) (Or.inl ⟨by rfl, ?_⟩) (by assumption) ?_
  rotate_left
  · intro w0; go_simp; all_goals (with_reducible rfl)
  try simp only [Act.put, List.setIfInBounds_toArray, List.set_cons_zero, List.set_cons_succ]
  refine wpAnyT_pure (i := 6) (v := ?_) (by kernel_rfl) rfl (by kernel_rfl) (by kernel_rfl) (by kernel_rfl) (fun _ _ _ h => h) (Or.inl ⟨by rfl, ?_⟩) (by assumption) ?_
  rotate_left
  · intro w0; go_simp; all_goals (with_reducible rfl)
  try simp only [Act.put, List.setIfInBounds_toArray, List.set_cons_zero, List.set_cons_succ]
  refine wpAnyT_pure (i := 7) (v := ?_) (by kernel_rfl) rfl (by kernel_rfl) (by kernel_rfl) (by kernel_rfl) (fun _ _ _ h => h) (Or.inl ⟨by rfl, ?_⟩) (by assumption) ?_
  rotate_left
  · intro w0; go_simp; all_goals (with_reducible rfl)
  try simp only [Act.put, List.setIfInBounds_toArray, List.set_cons_zero, List.set_cons_succ]
  refine wpAnyT_take (i := 8) (v := ?_) [9, 10, 11, 12] (by kernel_rfl) (by kernel_rfl) (by kernel_rfl) rfl (by kernel_rfl) (by kernel_rfl) (by kernel_rfl) (fun _ _ _ h => h) (Or.inl ⟨by rfl, ?_⟩) (by assumption) ?_
  rotate_left
  · intro w0 hSw; (try dsimp only at hSw); go_simp; all_goals (with_reducible rfl)
  try simp only [Act.put, List.setIfInBounds_toArray, List.set_cons_zero, List.set_cons_succ]
  refine wpAnyT_stop (by kernel_rfl) rfl (fun K0 hK0 => ?_)
  refine Bs.step_append_row (P := Try.prog) _ rfl (.tmp 55) (.tmp 59) 32 rfl base 38 i0 _ 5 40 Try.underlying32 hi0 hz0 hz1 hz2 rfl (by omega) _ n6 (flatG (np.segs ++ [x])) (by kernel_rfl) HOA.out saq n7 scq (flatG (nq.segs)) (by kernel_rfl) HLQ.out HLS.out (flatG_one _) (by simp only [maxLen]; omega) (by omega) HSZ.out ?_
  intro a1 c1 y1 ho1 hg1 hat1
  obtain ⟨y5, y6⟩ := HGF.out y1 hg1
  have HO1 := Lib.hid ho1
  have HG1 := Lib.hid hg1
  have HAT1 := Lib.hid hat1
  clear ho1 hg1 hat1
  try dsimp only
  refine hK0.out _ _ ?_
  clear hK0 K0
  try simp only [Act.put, List.setIfInBounds_toArray, List.set_cons_zero, List.set_cons_succ]
  refine wpAny_take (i := 10) (v := ?_) rfl (by kernel_rfl) (by kernel_rfl) (by kernel_rfl) (fun _ _ _ h => h) (Or.inl ⟨by rfl, ?_⟩) ?_
  rotate_left
  · intro w0; go_simp; all_goals (with_reducible rfl)
  try simp only [Act.put, List.setIfInBounds_toArray, List.set_cons_zero, List.set_cons_succ]
  refine wpAny_take (i := 11) (v := ?_) rfl (by kernel_rfl) (by kernel_rfl) (by kernel_rfl) (fun _ _ _ h => h) (Or.inl ⟨by rfl, ?_⟩) ?_
  rotate_left
  · intro w0; go_simp; all_goals (with_reducible rfl)
  try simp only [Act.put, List.setIfInBounds_toArray, List.set_cons_zero, List.set_cons_succ]
  refine wpAny_one (i := 12) (by kernel_rfl) rfl (fun K0 hK0 => ?_)
  go_simp
  refine hK0.out _ _ ?_
  clear hK0 K0
  try simp only [Act.put, List.setIfInBounds_toArray, List.set_cons_zero, List.set_cons_succ]
  refine wpAny_end (by kernel_rfl) ?_ _
  simp only [onlyN]
  have hset := HV.out.setS y1 a1 c1 (np.segs ++ [x] ++ nq.segs) (by
    have e : (Value.slice sap ((⟨np.segs ++ [x], np.kids⟩ : Kn).segs).length scp).ownBlock = (Value.slice sap n6 scp).ownBlock := ownBlk _ _ _ _ _
    rw [e]; exact HG1.out) (by rw [List.length_append, ← HN6.out, ← HN7.out, flatG_append]; exact HO1.out) (fun b hb => by
    have hb' : (Value.slice a1 (n6 + n7) c1).ownBlock = some b := by rw [← hb]; exact ownBlk _ _ _ _ _
    rcases HAT1.out with q | q
    · exact .inl ((ownBlk _ _ _ _ _).trans (q.symm.trans hb'))
    · refine .inr ⟨?_, (HO1.out.lt b hb').2, id⟩
      rw [hb'] at q; injection q with q; rw [q]; exact Nat.le_refl _)
  rw [List.length_append, ← HN6.out, ← HN7.out] at hset
  obtain ⟨h7, h8, _⟩ := hset
  dsimp only at h7
  rw [updK_same] at h7
  have H3 := Lib.hid h7
  have HG3 := Lib.hid h8
  clear h7 h8 hHeld HS1 HGF HOA HOQ HLQ HLS HSZ HO1 HG1 HAT1 HV HD HGD y5 y6 H2 HG2 hi0 hz0 hz1 hz2 i6n i7n HN6 HN7
  generalize y1.setCell ⟨g, p * 3, none⟩ (.slice a1 (n6 + n7) c1) = Y3 at *
  go_upto_region 4 with fail
  have HD := Lib.hid (H3.out.below (Go.RowKit.Below.refl _ _).drew)
  have HGD := Lib.hid (HG3.out.below (Go.RowKit.Below.refl _ _).drew)
  obtain ⟨sap, kap, scp, kcp, vp⟩ := HD.out.node HGD.out p ⟨np.segs ++ [x] ++ nq.segs, np.kids⟩ (updK_self _ _ _)
  obtain ⟨saq, kaq, scq, kcq, vq⟩ := HD.out.node HGD.out q nq ((updK_nat _ _ _ _ HN3.out.symm).trans HFQ.out)
  obtain ⟨n6, hn6⟩ : ∃ n6, n6 = (np.kids).length := ⟨_, rfl⟩
  obtain ⟨n7, hn7⟩ : ∃ n7, n7 = (nq.kids).length := ⟨_, rfl⟩
  have HN6 := Lib.hid hn6
  have HN7 := Lib.hid hn7
  have c1 : Y3.drew.cell? ⟨g, p * 3 + 1, none⟩ = some (.slice kap (np.kids).length kcp) := vp.ck
  have c2 : Y3.drew.cell? ⟨g, q * 3 + 1, none⟩ = some (.slice kaq (nq.kids).length kcq) := vq.ck
  have HOA : Hid (Y3.drew.ownsRow base 3 1 (.slice kap (np.kids).length kcp) (np.kids).length ((np.kids).map nv)) := vp.ok
  have HOQ : Hid (Y3.drew.ownsRow base 3 1 (.slice kaq (nq.kids).length kcq) (nq.kids).length ((nq.kids).map nv)) := vq.ok
  rw [← hn6] at c1 HOA
  rw [← hn7] at c2 HOQ
  have HLS := Lib.hid (Bs.Lies.of_own HOQ.out)
  have HLQ : Hid (((nq.kids).map nv).length = n7 * 1) := by show _ = _; rw [List.length_map, hn7, Nat.mul_one]
  have HSZ : Hid (base ≤ Y3.drew.heap.size) := vp.le
  have HV := Lib.hid vp
  have HGF : Hid (∀ y1, Y3.drew.grownBy y1 (Value.slice kap n6 kcp).ownBlock → y1.cell? ⟨g, p * 3 + 1, none⟩ = some (.slice kap n6 kcp) ∧ y1.frozen? ⟨g, p * 3 + 1, none⟩ = false) := fun y1 hy => by
    have hne : some g ≠ (Value.slice kap n6 kcp).ownBlock := fun e => vp.gk g ((ownBlk _ _ _ _ _).trans e.symm) rfl
    exact ⟨(hy.cell_far ⟨g, p * 3 + 1, none⟩ vp.gb hne).trans c1, (hy.frozen_far ⟨g, p * 3 + 1, none⟩ vp.gb hne).trans (vp.fz _)⟩
  have i6n : n6 ≤ 1001 := by rw [hn6]; omega
  have i7n : n7 ≤ 1000 := by omega
  obtain ⟨i0, hi0, hz0, hz1, hz2⟩ := info_parts Try.infoInt
  obtain ⟨S5, hS5⟩ : ∃ S5 : World → Prop, S5 = fun w' => w'.cell? ⟨g, p * 3 + 1, none⟩ = some (.slice kap n6 kcp) ∧ w'.cell? ⟨g, q * 3 + 1, none⟩ = some (.slice kaq n7 kcq) := ⟨_, rfl⟩
  have HS1 : Hid (S5 Y3.drew) := by show S5 _; rw [hS5]; exact ⟨c1, c2⟩
  clear vp vq c1 c2 hn6 hn7
  refine wp_plain_T S5 9 mx HS1.out (fun _ _ h => h) (fun hHeld => ?_)
  subst hS5
  generalize Y3.drew = Z at *
  refine wpAnyT_pure (i := 0) (v := ?_) (by kernel_rfl) rfl (by kernel_rfl) (by kernel_rfl) (by kernel_rfl) (fun _ _ _ h => h) (Or.inl ⟨by rfl, ?_⟩) (by assumption) ?_
  rotate_left
  · intro w0; go_simp; all_goals (with_reducible rfl)
  try simp only [Act.put, List.setIfInBounds_toArray, List.set_cons_zero, List.set_cons_succ]
  refine wpAnyT_pure (i := 1) (v := ?_) (by kernel_rfl) rfl (by kernel_rfl) (by kernel_rfl) (by kernel_rfl) (fun _ _ _ h => h) (Or.inl ⟨by rfl, ?_⟩) (by assumption) ?_
  rotate_left
  · intro w0; go_simp; all_goals (with_reducible rfl)
  try simp only [Act.put, List.setIfInBounds_toArray, List.set_cons_zero, List.set_cons_succ]
  refine wpAnyT_pure (i := 2) (v := ?_) (by kernel_rfl) rfl (by kernel_rfl) (by kernel_rfl) (by kernel_rfl) (fun _ _ _ h => h) (Or.inl ⟨by rfl, ?_⟩) (by assumption) ?_
  rotate_left
  · intro w0; go_simp; all_goals (with_reducible rfl)
  try simp only [Act.put, List.setIfInBounds_toArray, List.set_cons_zero, List.set_cons_succ]
  refine wpAnyT_pure (i := 3) (v := ?_) (by kernel_rfl) rfl (by kernel_rfl) (by kernel_rfl) (by kernel_rfl) (fun _ _ _ h => h) (Or.inl ⟨by rfl, ?_⟩) (by assumption) ?_
  rotate_left
  · intro w0; go_simp; all_goals (with_reducible rfl)
  try simp only [Act.put, List.setIfInBounds_toArray, List.set_cons_zero, List.set_cons_succ]
  refine wpAnyT_take (i := 4) (v := ?_) [9, 10, 11, 12] (by kernel_rfl) (by kernel_rfl) (by kernel_rfl) rfl (by kernel_rfl) (by kernel_rfl) (by kernel_rfl) (fun _ _ _ h => h) (Or.inl ⟨by rfl, ?_⟩) (by assumption) ?_
  rotate_left
  · intro w0 hSw; (try dsimp only at hSw); go_simp; all_goals (with_reducible rfl)
  try simp only [Act.put, List.setIfInBounds_toArray, List.set_cons_zero, List.set_cons_succ]
  refine wpAnyT_pure (i := 5) (v := ?_) (by kernel_rfl) rfl (by kernel_rfl) (by kernel_rfl) (by kernel_rfl) (fun _ _ _ h => h) (Or.inl ⟨by rfl, ?_⟩) (by assumption) ?_
  rotate_left
  · intro w0; go_simp; all_goals (with_reducible rfl)
  try simp only [Act.put, List.setIfInBounds_toArray, List.set_cons_zero, List.set_cons_succ]
  refine wpAnyT_pure (i := 6) (v := ?_) (by kernel_rfl) rfl (by kernel_rfl) (by kernel_rfl) (by kernel_rfl) (fun _ _ _ h => h) (Or.inl ⟨by rfl, ?_⟩) (by assumption) ?_
  rotate_left
  · intro w0; go_simp; all_goals (with_reducible rfl)
  try simp only [Act.put, List.setIfInBounds_toArray, List.set_cons_zero, List.set_cons_succ]
  refine wpAnyT_pure (i := 7) (v := ?_) (by kernel_rfl) rfl (by kernel_rfl) (by kernel_rfl) (by kernel_rfl) (fun _ _ _ h => h) (Or.inl ⟨by rfl, ?_⟩) (by assumption) ?_
  rotate_left
  · intro w0; go_simp; all_goals (with_reducible rfl)
  try simp only [Act.put, List.setIfInBounds_toArray, List.set_cons_zero, List.set_cons_succ]
  refine wpAnyT_take (i := 8) (v := ?_) [9, 10, 11, 12] (by kernel_rfl) (by kernel_rfl) (by kernel_rfl) rfl (by kernel_rfl) (by kernel_rfl) (by kernel_rfl) (fun _ _ _ h => h) (Or.inl ⟨by rfl, ?_⟩) (by assumption) ?_
  rotate_left
  · intro w0 hSw; (try dsimp only at hSw); go_simp; all_goals (with_reducible rfl)
  try simp only [Act.put, List.setIfInBounds_toArray, List.set_cons_zero, List.set_cons_succ]
  refine wpAnyT_stop (by kernel_rfl) rfl (fun K0 hK0 => ?_)
  refine Bs.step_append_row (P := Try.prog) _ rfl (.tmp 67) (.tmp 71) 78 rfl base 3 i0 _ 1 8 Try.underlying78 hi0 hz0 hz1 hz2 rfl (by omega) _ n6 ((np.kids).map nv) (by kernel_rfl) HOA.out kaq n7 kcq ((nq.kids).map nv) (by kernel_rfl) HLQ.out HLS.out (nv_one _) (by simp only [maxLen]; omega) (by omega) HSZ.out ?_
  intro a1 c1 y1 ho1 hg1 hat1
  obtain ⟨y5, y6⟩ := HGF.out y1 hg1
  have HO1 := Lib.hid ho1
  have HG1 := Lib.hid hg1
  have HAT1 := Lib.hid hat1
  clear ho1 hg1 hat1
  try dsimp only
  refine hK0.out _ _ ?_
  clear hK0 K0
  try simp only [Act.put, List.setIfInBounds_toArray, List.set_cons_zero, List.set_cons_succ]
  refine wpAny_take (i := 10) (v := ?_) rfl (by kernel_rfl) (by kernel_rfl) (by kernel_rfl) (fun _ _ _ h => h) (Or.inl ⟨by rfl, ?_⟩) ?_
  rotate_left
  · intro w0; go_simp; all_goals (with_reducible rfl)
  try simp only [Act.put, List.setIfInBounds_toArray, List.set_cons_zero, List.set_cons_succ]
  refine wpAny_take (i := 11) (v := ?_) rfl (by kernel_rfl) (by kernel_rfl) (by kernel_rfl) (fun _ _ _ h => h) (Or.inl ⟨by rfl, ?_⟩) ?_
  rotate_left
  · intro w0; go_simp; all_goals (with_reducible rfl)
  try simp only [Act.put, List.setIfInBounds_toArray, List.set_cons_zero, List.set_cons_succ]
  refine wpAny_one (i := 12) (by kernel_rfl) rfl (fun K0 hK0 => ?_)
  go_simp
  refine hK0.out _ _ ?_
  clear hK0 K0
  try simp only [Act.put, List.setIfInBounds_toArray, List.set_cons_zero, List.set_cons_succ]
  refine wpAny_end (by kernel_rfl) ?_ _
  simp only [onlyN]
  have hset := HV.out.setK y1 a1 c1 (np.kids ++ nq.kids) (by
    have e : (Value.slice kap ((⟨np.segs ++ [x] ++ nq.segs, np.kids⟩ : Kn).kids).length kcp).ownBlock = (Value.slice kap n6 kcp).ownBlock := ownBlk _ _ _ _ _
    rw [e]; exact HG1.out) (by rw [List.length_append, ← HN6.out, ← HN7.out, List.map_append]; exact HO1.out) (fun b hb => by
    have hb' : (Value.slice a1 (n6 + n7) c1).ownBlock = some b := by rw [← hb]; exact ownBlk _ _ _ _ _
    rcases HAT1.out with q | q
    · exact .inl ((ownBlk _ _ _ _ _).trans (q.symm.trans hb'))
    · refine .inr ⟨?_, (HO1.out.lt b hb').2, id⟩
      rw [hb'] at q; injection q with q; rw [q]; exact Nat.le_refl _)
  rw [List.length_append, ← HN6.out, ← HN7.out] at hset
  obtain ⟨h7, h8, _⟩ := hset
  dsimp only at h7
  rw [updK_same] at h7
  have H4 := Lib.hid h7
  have HG4 := Lib.hid h8
  clear h7 h8 hHeld HS1 HGF HOA HOQ HLQ HLS HSZ HO1 HG1 HAT1 HV HD HGD y5 y6 H3 HG3 hi0 hz0 hz1 hz2 i6n i7n HN6 HN7
  generalize y1.setCell ⟨g, p * 3 + 1, none⟩ (.slice a1 (n6 + n7) c1) = Y4 at *
  obtain ⟨say, kay, scy, kcy, v⟩ := H4.out.node HG4.out y ny ((updK_nat _ _ _ _ HN1.out).trans HFY.out)
  obtain ⟨n8, hn8⟩ : ∃ n8, n8 = ny.segs.length := ⟨_, rfl⟩
  have HN8 := Lib.hid hn8
  have HDL : Hid (Calls Try.prog 95 #[.slice say ny.segs.length scy, .int .i64 (k : Int), .int .i64 ((k : Int) + 1)] Y4 (OPost Y4 base 38 5 (.slice say ny.segs.length scy) (ny.segs.length - 1) (flatG (ny.segs.take k ++ ny.segs.drop (k + 1))))) := by
    skip
    exact sdelG_any (i := k) v.os rfl HXL.out (show ny.segs.length ≤ 100000 by omega) v.le
  have hlen : (ny.segs.take k ++ ny.segs.drop (k + 1)).length = ny.segs.length - 1 := by
    have := HXL.out
    simp only [List.length_append, List.length_take, List.length_drop]; omega
  rw [← hn8] at HDL hlen
  have HLN := Lib.hid hlen
  have HV := Lib.hid v
  have c1 : Y4.cell? ⟨g, y * 3, none⟩ = some (.slice say ny.segs.length scy) := v.cs
  rw [← hn8] at c1
  have HGF : Hid (∀ y1, Y4.grownBy y1 (Value.slice say n8 scy).ownBlock → y1.cell? ⟨g, y * 3, none⟩ = some (.slice say n8 scy) ∧ y1.frozen? ⟨g, y * 3, none⟩ = false) := fun y1 hy => by
    have hne : some g ≠ (Value.slice say n8 scy).ownBlock := fun e => v.gs g ((ownBlk _ _ _ _ _).trans e.symm) rfl
    exact ⟨(hy.cell_far ⟨g, y * 3, none⟩ v.gb hne).trans c1, (hy.frozen_far ⟨g, y * 3, none⟩ v.gb hne).trans (v.fz _)⟩
  clear v hn8 hlen
  go_wp2_with fail
  refine HDL.out.mono ?_
  rintro e y1 ⟨a1, c1', ⟨rfl, ho1⟩, hg1, hn1'⟩
  obtain ⟨y5, y6⟩ := HGF.out y1 hg1
  have HO1 := Lib.hid ho1
  have HG1 := Lib.hid hg1
  have HN1' := Lib.hid hn1'
  clear ho1 hg1 hn1' c1
  have hset := HV.out.setS y1 a1 c1' (ny.segs.take k ++ ny.segs.drop (k + 1)) (by
    have e : (Value.slice say ((ny : Kn).segs).length scy).ownBlock = (Value.slice say n8 scy).ownBlock := ownBlk _ _ _ _ _
    rw [e]; exact HG1.out) (by rw [HLN.out]; exact HO1.out) (fun b hb => by
    have hb' : (Value.slice a1 (n8 - 1) c1').ownBlock = some b := by rw [← hb]; exact ownBlk _ _ _ _ _
    rcases HN1'.out b hb' with q | q
    · exact .inl (by rw [← q]; exact ownBlk _ _ _ _ _)
    · exact .inr ⟨q, (HO1.out.lt b hb').2, id⟩)
  rw [HLN.out] at hset
  obtain ⟨h7, h8, _⟩ := hset
  have H5 := Lib.hid h7
  have HG5 := Lib.hid h8
  clear h7 h8
  go_upto_region 6 with fail
  clear y5 y6 H4 HG4 HDL HV HGF HO1 HG1 HN1' HLN HN8
  generalize y1.setCell ⟨g, y * 3, none⟩ (.slice a1 (n8 - 1) c1') = Y5 at *
  have i2k : IntKind.i64.wrap ((k : Int) + 2) = (k : Int) + 2 := IntWalk.i64_in _ (by have := HKL2.out; omega)
  obtain ⟨say, kay, scy, kcy, v⟩ := H5.out.node HG5.out y ⟨ny.segs.take k ++ ny.segs.drop (k + 1), ny.kids⟩ (updK_self _ _ _)
  obtain ⟨n8, hn8⟩ : ∃ n8, n8 = ny.kids.length := ⟨_, rfl⟩
  have HN8 := Lib.hid hn8
  have HDL : Hid (Calls Try.prog 114 #[.slice kay ny.kids.length kcy, .int .i64 ((k : Int) + 1), .int .i64 ((k : Int) + 2)] Y5 (OPost Y5 base 3 1 (.slice kay ny.kids.length kcy) (ny.kids.length - 1) ((ny.kids.take (k + 1) ++ ny.kids.drop ((k + 1) + 1)).map nv))) := by
    rw [show (k : Int) + 1 = ((k + 1 : Nat) : Int) by omega, show (k : Int) + 2 = ((k + 1 : Nat) : Int) + 1 by omega]
    exact sdelI_any (i := (k + 1)) v.ok rfl HKL2.out (show ny.kids.length ≤ 100000 by omega) v.le
  have hlen : (ny.kids.take (k + 1) ++ ny.kids.drop ((k + 1) + 1)).length = ny.kids.length - 1 := by
    have := HKL2.out
    simp only [List.length_append, List.length_take, List.length_drop]; omega
  rw [← hn8] at HDL hlen
  have HLN := Lib.hid hlen
  have HV := Lib.hid v
  have c1 : Y5.cell? ⟨g, y * 3 + 1, none⟩ = some (.slice kay ny.kids.length kcy) := v.ck
  rw [← hn8] at c1
  have HGF : Hid (∀ y1, Y5.grownBy y1 (Value.slice kay n8 kcy).ownBlock → y1.cell? ⟨g, y * 3 + 1, none⟩ = some (.slice kay n8 kcy) ∧ y1.frozen? ⟨g, y * 3 + 1, none⟩ = false) := fun y1 hy => by
    have hne : some g ≠ (Value.slice kay n8 kcy).ownBlock := fun e => v.gk g ((ownBlk _ _ _ _ _).trans e.symm) rfl
    exact ⟨(hy.cell_far ⟨g, y * 3 + 1, none⟩ v.gb hne).trans c1, (hy.frozen_far ⟨g, y * 3 + 1, none⟩ v.gb hne).trans (v.fz _)⟩
  clear v hn8 hlen
  go_wp2_with fail
  refine HDL.out.mono ?_
  rintro e y1 ⟨a1, c1', ⟨rfl, ho1⟩, hg1, hn1'⟩
  obtain ⟨y5, y6⟩ := HGF.out y1 hg1
  have HO1 := Lib.hid ho1
  have HG1 := Lib.hid hg1
  have HN1' := Lib.hid hn1'
  clear ho1 hg1 hn1' c1
  have hset := HV.out.setK y1 a1 c1' (ny.kids.take (k + 1) ++ ny.kids.drop ((k + 1) + 1)) (by
    have e : (Value.slice kay ((⟨ny.segs.take k ++ ny.segs.drop (k + 1), ny.kids⟩ : Kn).kids).length kcy).ownBlock = (Value.slice kay n8 kcy).ownBlock := ownBlk _ _ _ _ _
    rw [e]; exact HG1.out) (by rw [HLN.out]; exact HO1.out) (fun b hb => by
    have hb' : (Value.slice a1 (n8 - 1) c1').ownBlock = some b := by rw [← hb]; exact ownBlk _ _ _ _ _
    rcases HN1'.out b hb' with q | q
    · exact .inl (by rw [← q]; exact ownBlk _ _ _ _ _)
    · exact .inr ⟨q, (HO1.out.lt b hb').2, id⟩)
  rw [HLN.out] at hset
  obtain ⟨h7, h8, _⟩ := hset
  have H6 := Lib.hid h7
  have HG6 := Lib.hid h8
  clear h7 h8
  go_upto_region 7 with fail
  clear y5 y6 H5 HG5 HDL HV HGF HO1 HG1 HN1' HLN HN8
  generalize y1.setCell ⟨g, y * 3 + 1, none⟩ (.slice a1 (n8 - 1) c1') = Y6 at *
  have HFR := Lib.hid (H6.out.free q (by
    dsimp only
    rw [updK_nat _ _ _ _ HN2.out.symm, updK_nat _ _ _ _ HN2.out.symm, updK_nat _ _ _ _ HN3.out.symm, HFQ.out]; simp) m HM.out)
  have c1 : Y6.cell? ⟨T, 1, none⟩ = some (aP A) := (cell_of_row _ _ 1 _ _ _ H6.out.top).trans rfl
  go_wp2_with fail
  refine HFR.out.mono ?_
  rintro e y1 ⟨rfl, hh, _⟩
  have HH := Lib.hid hh
  clear hh c1 HFR H6
  go_wp2_with fail
  go_end0
  have r := HRB.out _ _ HH.out
  refine ⟨rfl, _, r.1, ?_, ?_, updK_self _ _ _, fun j j1 j2 j3 => ?_, r.2.2⟩
  · exact (updK_nat _ _ _ _ HN2.out).trans (updK_self _ _ _)
  · exact (updK_nat _ _ _ _ HN3.out).trans ((updK_nat _ _ _ _ HN1.out.symm).trans ((updK_nat _ _ _ _ HN1.out.symm).trans ((updK_self _ _ _).trans (by rw [List.append_assoc]; rfl))))
  · exact (updK_ne _ _ _ _ j3).trans ((updK_ne _ _ _ _ j1).trans ((updK_ne _ _ _ _ j1).trans (updK_ne _ _ _ _ j2)))
end Go.Proofs.Ytjgcdmeojjnjlaa
