/- A part of the proof: contracts of the functions that the statements reach. -/
import Derived.RangeFuncNested
import Derived.RangeFuncBound
import Derived.RangeFuncCalls
import Derived.RangeFuncLeaves
import Derived.Shelf.Abstract
import Derived.Shelf.RegionOpen
import Derived.WalkKit
import Derived.OwnWalkIn
import Derived.TacticsInMore
import Derived.LoopNIn
import Derived.LoopIn
import Derived.Shelf.SlSortCmp.WholeK
import Derived.WalkSpells
import Derived.WalkLawsBesides
import Derived.Lib.Hide
import Derived.Laws.StructEq
import Derived.Shelf.SlSortCmp.QuietGrown
import Derived.Laws.EntriesVeiled
import Derived.Deep.CutRange
import Derived.RegionTactic
import Derived.Lib.QuietBelow
import Derived.BigQuiet
import Derived.OpenShut
import Derived.Deep.RegionHeld3
import Derived.Deep.QuietTactic
import Derived.Maps.AppendAt
import Derived.Laws.IdiomCopy
import Derived.Deep.AppendLies
import Derived.Deep.LoopGhost
import Derived.Deep.Upon
import Derived.StillTailTactics
import Derived.Lib.SmallJoins
import Derived.Deep.SlicePairs
import Derived.Deep.Strs
import Derived.ChangeOld
import Derived.SizedLaws
import Derived.Lib.SliceRun
import Derived.Laws.CopyRow
import Derived.Below
import Derived.Laws.CopyOwn
import Derived.Deep.RegionLaw
import Derived.IntWalk
import Derived.Test.YtjgcdmeojjnjlaaCH

/- laid, walked: of segments. -/
namespace Go.Proofs.Ytjgcdmeojjnjlaa
open Go.RowKit Go.Sort Go.Proofs.Ytjgcdmeojjnjlaa.Bo
set_option linter.unusedVariables false
set_option maxRecDepth 100000 in
set_option maxHeartbeats 2000000 in
theorem laidG_any {base n cap i : Nat} {a : Option Addr} {l : List G5} {s : G5} {w : World} (ho : w.ownsRow base 38 5 (.slice a n cap) n (flatG l)) (hn : n = l.length) (hi : i ≤ n) (hl : n ≤ 100000) (hb : base ≤ w.heap.size) :
    Calls Try.prog 89 #[.slice a n cap, .int .i64 (i : Int), vG s] w (OPost w base 38 5 (.slice a n cap) (n + 1) (flatG (l.take i ++ s :: l.drop i))) := by
  obtain ⟨i0, hi0, hz0, hz1, hz2⟩ := info_parts Try.infoSeg
  have HB0 : Hid ((w.alloc (oG s)).heap[w.heap.size]? = some (oG s)) := heap_alloc_new _ _
  have hL := below_new w (oG s)
  have HO0 := Lib.hid (ho.alloc (oG s))
  have HN := Lib.hid hn
  have HOW := Lib.hid (fun k hk => ho.lt k hk)
  clear hn ho
  go_enter Try.func89, Try.ntmps89
  go_upto_region 1 with fail
  generalize w.alloc (oG s) = X at *
  obtain ⟨p1, p2, p3, p4, p5⟩ := five_cells HB0.out
  simp only [Nat.zero_add] at p1 p2 p3 p4 p5
  have HN1 : Hid ((X.alloc (oG s)).heap[X.heap.size]? = some (oG s)) := heap_alloc_new _ _
  have HG1 := Lib.hid (Bs.Lies.of_own (w := X.alloc (oG s)) (base := 0) (e := 38) (size := 5) (a := some ⟨X.heap.size, 0, none⟩) (n := 1) (cap := 1) (xs := flatG [s]) ⟨rfl, .inr ⟨X.heap.size, 1, _, rfl, Nat.zero_le _, HN1.out, Nat.le_refl _, by decide, rfl, rfl⟩⟩)
  have HO1 := Lib.hid (HO0.out.alloc (oG s))
  have HX : Hid (base ≤ (X.alloc (oG s)).heap.size) := Nat.le_trans hb (Nat.le_trans hL.size (below_new X (oG s)).size)
  go_upto_region 2 with (at_builtin; refine Bs.wpList_append_row _ rfl _ _ 32 rfl base 38 i0 _ 5 40 Try.underlying32 hi0 hz0 hz1 hz2 rfl (by omega) _ n (flatG l) (by rfl) HO1.out (some ⟨X.heap.size, 0, none⟩) 1 1 (flatG [s]) (by rfl) rfl HG1.out (flatG_one [s]) (by simp only [maxLen]; omega) (by omega) HX.out ?_; intro a1 cap1 w1 hown1 hgrow1 hat1)
  obtain ⟨g1, rfl⟩ : ∃ g1, a1 = some ⟨g1, 0, none⟩ := by
    cases a1 with
    | none => exact absurd (own_none hown1).1 (by omega)
    | some x => obtain ⟨g, rfl⟩ := own_some hown1; exact ⟨g, rfl⟩
  have hcap := own_cap hown1
  have HB1 : Hid (w1.heap[w.heap.size]? = some (oG s)) := by
    have h2 : (X.alloc (oG s)).heap[w.heap.size]? = some (oG s) := box_on HB0.out (below_new X (oG s))
    show _ = _
    rw [hgrow1.block w.heap.size (Array.getElem?_eq_some_iff.1 h2).1 (fun e => Nat.lt_irrefl _ (HOW.out _ e.symm).2)]
    exact h2
  have HG1' := Lib.hid hgrow1
  have HAT := Lib.hid hat1
  have HM := Lib.hid hown1
  have HSZ : Hid (w.heap.size ≤ w1.heap.size) := Nat.le_trans hL.size (Nat.le_trans (below_new X (oG s)).size hgrow1.size)
  have hne : w.heap.size ≠ g1 := by
    intro e
    rcases hat1 with h | h
    · exact Nat.lt_irrefl _ (HOW.out _ (h.symm.trans (by rw [e]; rfl))).2
    · have h3 : g1 = (X.alloc (oG s)).heap.size := by simpa [Value.ownBlock] using h
      have h4 := (Array.getElem?_eq_some_iff.1 (box_on HB0.out (below_new X (oG s)))).1
      omega
  clear hat1 hgrow1 hown1 p1 p2 p3 p4 p5
  have HONE : Hid (∀ u ∈ flatG l ++ flatG [s], u.oneCell' = true) := by
    intro u hu
    rcases List.mem_append.1 hu with h | h
    · exact flatG_one l u h
    · exact flatG_one [s] u h
  have i1 : (0 : Int) ≤ (i : Int) := by omega
  have i2 : (i : Int) ≤ ((n + 1 : Nat) : Int) := by omega
  have i3 : (0 : Int) ≤ (i : Int) + 1 := by omega
  have i4 : (i : Int) + 1 ≤ ((n + 1 : Nat) : Int) := by omega
  have i7 : (i : Int) ≤ (n : Int) + 1 := by omega
  have i8 : (i : Int) + 1 ≤ (n : Int) + 1 := by omega
  have i5 : ((i : Int) + 1).toNat = i + 1 := by omega
  have i6 : IntKind.i64.wrap ((i : Int) + 1) = (i : Int) + 1 := IntWalk.i64_in _ (by omega)
  go_region_law (refine Bs.step_copy_row _ rfl (.tmp 14) (.tmp 17) 32 rfl base 38 i0 5 Try.underlying32 hi0 hz1 g1 (n + 1) cap1 (flatG l ++ flatG [s]) HM.out HONE.out _ _ _ _ _ _ (by rfl) (by rfl) (i + 1) i (n - i) (by show n - i = min (n + 1 - i) (n - i); omega) (fun h => ⟨if_neg (by omega), if_neg (by omega), by omega, by omega⟩) ?_; intro w2 hown2 hgrow2)
  have HB2 : Hid (w2.heap[w.heap.size]? = some (oG s)) := by
    show _ = _
    rw [hgrow2.block w.heap.size (Array.getElem?_eq_some_iff.1 HB1.out).1 (fun e => hne (by cases e; rfl))]
    exact HB1.out
  have HG2 : Hid (w1.grownBy w2 (some g1)) := ⟨hgrow2.os, hgrow2.tape, hgrow2.output, hgrow2.size, hgrow2.block⟩
  have HS2 : Hid (w.heap.size ≤ w2.heap.size) := Nat.le_trans HSZ.out hgrow2.size
  obtain ⟨M, hM⟩ : ∃ M : List G5, M = (if n - i = 0 then l ++ [s] else (l ++ [s]).take (i + 1) ++ ((l ++ [s]).drop i).take (n - i) ++ (l ++ [s]).drop (i + 1 + (n - i))) := ⟨_, rfl⟩
  have hMl : M.length = n + 1 := by
    rw [hM, HN.out]
    split <;> simp only [List.length_append, List.length_take, List.length_drop, List.length_cons, List.length_nil] <;> omega
  have HO2 : Hid (w2.ownsRow base 38 5 (.slice (some ⟨g1, 0, none⟩) (n + 1) cap1) (n + 1) (flatG M)) := by
    have e1 : flatG M = (if n - i = 0 then flatG l ++ flatG [s] else (flatG l ++ flatG [s]).take ((i + 1) * 5) ++ ((flatG l ++ flatG [s]).drop (i * 5)).take ((n - i) * 5) ++ (flatG l ++ flatG [s]).drop ((i + 1 + (n - i)) * 5)) := by
      rw [hM]
      split
      · rw [flatG_append]
      · rw [← flatG_append, flatG_take, flatG_drop, flatG_take, flatG_drop, flatG_append, flatG_append]
    show World.ownsRow _ _ _ _ _ _ _
    rw [e1]
    exact hown2
  have HL : Hid (M.set i s = l.take i ++ s :: l.drop i) := by
    show _ = _
    rw [hM, HN.out]
    exact laid_list l s i (by rw [← HN.out]; exact hi)
  clear hown2 hgrow2 HM HB1 hM i3 i4 i5 i6 i8
  obtain ⟨p1, p2, p3, p4, p5⟩ := five_cells HB2.out
  simp only [Nat.zero_add] at p1 p2 p3 p4 p5
  obtain ⟨g', e', hbg, ⟨q1, q2, q3, q4, q5⟩, hfz⟩ := own_atG HO2.out hMl.symm i (by omega)
  cases e'
  have f1 := hfz (i * 5); have f2 := hfz (i * 5 + 1); have f3 := hfz (i * 5 + 2); have f4 := hfz (i * 5 + 3); have f5 := hfz (i * 5 + 4)
  have i9 : (i : Int) < (n : Int) + 1 := by omega
  have HMI : Hid (i < M.length) := by show _ < _; omega
  clear hfz
  generalize M[i] = gi at *
  clear hMl
  generalize (if cap1 = i + 1 then some (⟨g1, 0, none⟩ : Addr) else some ⟨g1, (i + 1) * 5, none⟩) = z1
  generalize (if cap1 = i then some (⟨g1, 0, none⟩ : Addr) else some ⟨g1, i * 5, none⟩) = z2
  go_wp2_with fail
  go_ret
  have h1 := own_setG HO2.out i HMI.out s
  rw [HL.out] at h1
  refine ⟨some ⟨g1, 0, none⟩, cap1, ⟨rfl, h1⟩, ?_, ?_⟩
  · refine Bs.grown_chain (bt hL (below_new X (oG s))) HG1'.out (g := g1) ?_ (Bs.grown_trans HG2.out ?_)
    · rcases HAT.out with h | h
      · exact .inl h.symm
      · right
        have h3 : g1 = (X.alloc (oG s)).heap.size := by simpa [Value.ownBlock] using h
        have := (bt hL (below_new X (oG s))).size
        omega
    · exact Bs.grown_trans (Bs.grown_cell _ _ _) (Bs.grown_trans (Bs.grown_cell _ _ _) (Bs.grown_trans (Bs.grown_cell _ _ _) (Bs.grown_trans (Bs.grown_cell _ _ _) (Bs.grown_cell _ _ _))))
  · intro b hb'
    cases hb'
    rcases HAT.out with h | h
    · exact .inl h.symm
    · right
      have h3 : g1 = (X.alloc (oG s)).heap.size := by simpa [Value.ownBlock] using h
      have := (bt hL (below_new X (oG s))).size
      show w.heap.size ≤ g1
      omega
end Go.Proofs.Ytjgcdmeojjnjlaa
/- laid, walked: of places. -/
namespace Go.Proofs.Ytjgcdmeojjnjlaa
open Go.RowKit Go.Sort Go.Proofs.Ytjgcdmeojjnjlaa.Bo
set_option linter.unusedVariables false
set_option maxRecDepth 100000 in
set_option maxHeartbeats 2000000 in
theorem laidI_any {base n cap i : Nat} {a : Option Addr} {l : List Int} {s : Int} {w : World} (ho : w.ownsRow base 3 1 (.slice a n cap) n (l.map nv)) (hn : n = l.length) (hi : i ≤ n) (hl : n ≤ 100000) (hb : base ≤ w.heap.size) :
    Calls Try.prog 90 #[.slice a n cap, .int .i64 (i : Int), .int .i64 s] w (OPost w base 3 1 (.slice a n cap) (n + 1) ((l.take i ++ s :: l.drop i).map nv)) := by
  obtain ⟨i0, hi0, hz0, hz1, hz2⟩ := info_parts Try.infoInt
  have hL := below_new w (.cells #[.int .i64 s] 3)
  have HN := Lib.hid hn
  have HOW := Lib.hid (fun k hk => ho.lt k hk)
  have HN1 : Hid ((w.alloc (.cells #[.int .i64 s] 3)).heap[w.heap.size]? = some (.cells #[.int .i64 s] 3)) := heap_alloc_new _ _
  have HG1 := Lib.hid (Bs.Lies.of_own (w := w.alloc (.cells #[.int .i64 s] 3)) (base := 0) (e := 3) (size := 1) (a := some ⟨w.heap.size, 0, none⟩) (n := 1) (cap := 1) (xs := [s].map nv) ⟨rfl, .inr ⟨w.heap.size, 1, _, rfl, Nat.zero_le _, HN1.out, Nat.le_refl _, by decide, rfl, rfl⟩⟩)
  have HO1 := Lib.hid (ho.alloc (.cells #[.int .i64 s] 3))
  have HX : Hid (base ≤ (w.alloc (.cells #[.int .i64 s] 3)).heap.size) := Nat.le_trans hb hL.size
  clear hn ho
  go_enter Try.func90, Try.ntmps90
  go_upto_region 2 with (at_builtin; refine Bs.wpList_append_row _ rfl _ _ 78 rfl base 3 i0 _ 1 8 Try.underlying78 hi0 hz0 hz1 hz2 rfl (by omega) _ n (l.map nv) (by rfl) HO1.out (some ⟨w.heap.size, 0, none⟩) 1 1 ([s].map nv) (by rfl) rfl HG1.out (nv_one [s]) (by simp only [maxLen]; omega) (by omega) HX.out ?_; intro a1 cap1 w1 hown1 hgrow1 hat1)
  obtain ⟨g1, rfl⟩ : ∃ g1, a1 = some ⟨g1, 0, none⟩ := by
    cases a1 with
    | none => exact absurd (own_none hown1).1 (by omega)
    | some x => obtain ⟨g, rfl⟩ := own_some hown1; exact ⟨g, rfl⟩
  have hcap := own_cap hown1
  have HG1' := Lib.hid hgrow1
  have HAT := Lib.hid hat1
  have HM := Lib.hid hown1
  clear hat1 hgrow1 hown1
  have HONE : Hid (∀ u ∈ l.map nv ++ [s].map nv, u.oneCell' = true) := by
    intro u hu
    rcases List.mem_append.1 hu with h | h
    · exact nv_one l u h
    · exact nv_one [s] u h
  have i1 : (0 : Int) ≤ (i : Int) := by omega
  have i2 : (i : Int) ≤ ((n + 1 : Nat) : Int) := by omega
  have i3 : (0 : Int) ≤ (i : Int) + 1 := by omega
  have i4 : (i : Int) + 1 ≤ ((n + 1 : Nat) : Int) := by omega
  have i7 : (i : Int) ≤ (n : Int) + 1 := by omega
  have i8 : (i : Int) + 1 ≤ (n : Int) + 1 := by omega
  have i5 : ((i : Int) + 1).toNat = i + 1 := by omega
  have i6 : IntKind.i64.wrap ((i : Int) + 1) = (i : Int) + 1 := IntWalk.i64_in _ (by omega)
  go_region_law (refine Bs.step_copy_row _ rfl (.tmp 14) (.tmp 17) 78 rfl base 3 i0 1 Try.underlying78 hi0 hz1 g1 (n + 1) cap1 (l.map nv ++ [s].map nv) HM.out HONE.out _ _ _ _ _ _ (by rfl) (by rfl) (i + 1) i (n - i) (by show n - i = min (n + 1 - i) (n - i); omega) (fun h => ⟨(if_neg (by omega)).trans (by rw [Nat.mul_one]), (if_neg (by omega)).trans (by rw [Nat.mul_one]), by omega, by omega⟩) ?_; intro w2 hown2 hgrow2)
  have HG2 : Hid (w1.grownBy w2 (some g1)) := ⟨hgrow2.os, hgrow2.tape, hgrow2.output, hgrow2.size, hgrow2.block⟩
  obtain ⟨M, hM⟩ : ∃ M : List Int, M = (if n - i = 0 then l ++ [s] else (l ++ [s]).take (i + 1) ++ ((l ++ [s]).drop i).take (n - i) ++ (l ++ [s]).drop (i + 1 + (n - i))) := ⟨_, rfl⟩
  have hMl : M.length = n + 1 := by
    rw [hM, HN.out]
    split <;> simp only [List.length_append, List.length_take, List.length_drop, List.length_cons, List.length_nil] <;> omega
  have HO2 : Hid (w2.ownsRow base 3 1 (.slice (some ⟨g1, 0, none⟩) (n + 1) cap1) (n + 1) (M.map nv)) := by
    have e1 : M.map nv = (if n - i = 0 then l.map nv ++ [s].map nv else (l.map nv ++ [s].map nv).take ((i + 1) * 1) ++ ((l.map nv ++ [s].map nv).drop (i * 1)).take ((n - i) * 1) ++ (l.map nv ++ [s].map nv).drop ((i + 1 + (n - i)) * 1)) := by
      rw [hM]
      split
      · rw [List.map_append]
      · simp only [Nat.mul_one, ← List.map_append, ← List.map_take, ← List.map_drop]
    show World.ownsRow _ _ _ _ _ _ _
    rw [e1]
    exact hown2
  have HL : Hid (M.set i s = l.take i ++ s :: l.drop i) := by
    show _ = _
    rw [hM, HN.out]
    exact laid_list l s i (by rw [← HN.out]; exact hi)
  clear hown2 hgrow2 HM hM i3 i4 i5 i6 i8
  have HMI : Hid (i < M.length) := by show _ < _; omega
  obtain ⟨g', e', hbg, q1, f1⟩ := own_at HO2.out hMl.symm i (by omega)
  cases e'
  have i9 : (i : Int) < (n : Int) + 1 := by omega
  generalize M[i] = gi at *
  clear hMl
  generalize (if cap1 = i + 1 then some (⟨g1, 0, none⟩ : Addr) else some ⟨g1, i + 1, none⟩) = z1
  generalize (if cap1 = i then some (⟨g1, 0, none⟩ : Addr) else some ⟨g1, i, none⟩) = z2
  go_wp2_with fail
  go_ret
  have h1 := own_set HO2.out i s
  rw [HL.out] at h1
  refine ⟨some ⟨g1, 0, none⟩, cap1, ⟨rfl, h1⟩, ?_, ?_⟩
  · refine Bs.grown_chain hL HG1'.out (g := g1) ?_ (Bs.grown_trans HG2.out ?_)
    · rcases HAT.out with h | h
      · exact .inl h.symm
      · right
        have h3 : g1 = (w.alloc (.cells #[.int .i64 s] 3)).heap.size := by simpa [Value.ownBlock] using h
        have := hL.size
        omega
    · exact Bs.grown_cell _ _ _
  · intro b hb'
    cases hb'
    rcases HAT.out with h | h
    · exact .inl h.symm
    · right
      have h3 : g1 = (w.alloc (.cells #[.int .i64 s] 3)).heap.size := by simpa [Value.ownBlock] using h
      have := hL.size
      show w.heap.size ≤ g1
      omega
end Go.Proofs.Ytjgcdmeojjnjlaa
/- A segment is laid in along its way: what holds between two rounds. No Go in sight. -/
namespace Go.Proofs.Ytjgcdmeojjnjlaa.Bb
open Go.Proofs.Ytjgcdmeojjnjlaa.Bo
set_option linter.unusedVariables false
/-- Behind j rounds: nothing is laid in yet, or a segment and a tree are still to be laid in. -/
def LaySt (d : Nat) (f : Int → Option Kn) (n : Nat) (root : Int) (cx : List BF) (s : G5) (L' : List G5) (j : Nat) (f' : Int → Option Kn) (n' : Nat) (s' : G5) (beh : Int) : Prop :=
  (j = 0 ∧ f' = f ∧ n' = n ∧ s' = s ∧ beh = -1) ∨ ∃ m tt u, j = m + 1 ∧ LayAt d f' n' root L' m (cx.drop m) s' tt u ∧ beh = u.idx
/-- The kids of the round's node behind it. -/
def kidsB (l : List Int) (a : Nat) (beh : Int) : List Int := if beh = -1 then l else insL l (a + 1) beh
/-- What a round leaves of the node p. -/
structure LayR (d : Nat) (f : Int → Option Kn) (n : Nat) (root : Int) (cx : List BF) (s : G5) (L' : List G5) (j : Nat) (f' : Int → Option Kn) (n' : Nat) (s' : G5) (beh : Int) (p a : Nat) (nd : Kn) : Prop where
  at_ : f' (p : Int) = some nd
  le : a ≤ nd.segs.length
  hi : nd.segs.length + 1 ≤ 2 * d
  kids : (beh = -1 ∧ nd.kids = []) ∨ (beh ≠ -1 ∧ a + 1 ≤ nd.kids.length ∧ nd.kids.length = nd.segs.length + 1)
  done : nd.segs.length + 1 < 2 * d → TreeAt d (updK f' (p : Int) (some ⟨insL nd.segs a s', kidsB nd.kids a beh⟩)) n' root L'
  over : nd.segs.length + 1 = 2 * d → n' + 2 * d ≤ L'.length + 1 ∧ ∃ mid, (insL nd.segs a s')[d]? = some mid ∧ ∀ q : Nat, updK f' (p : Int) (some ⟨insL nd.segs a s', kidsB nd.kids a beh⟩) (q : Int) = none →
    LaySt d f n root cx s L' (j + 1) (updK (updK (updK f' (p : Int) (some ⟨insL nd.segs a s', kidsB nd.kids a beh⟩)) (p : Int) (some ⟨(insL nd.segs a s').take d, (kidsB nd.kids a beh).take (d + 1)⟩)) (q : Int) (some ⟨(insL nd.segs a s').drop (d + 1), (kidsB nd.kids a beh).drop (d + 1)⟩)) (n' + 1) mid (q : Int)
section
variable {d : Nat} {f f' : Int → Option Kn} {n n' : Nat} {root : Int} {L L' : List G5} {fits : G5 → Bool} {cx : List BF} {t : Bt} {s s' : G5} {beh : Int} {j : Nat}
theorem wayRow_at (fits : G5 → Bool) (w : List BF × Bt) (j : Nat) (hj : j < (wayRow fits w).length) : (wayRow fits w).getD ((wayRow fits w).length - 1 - j) (0, 0) = (wayRev fits w).getD j (0, 0) := by
  rw [wayRev_eq, List.getD_eq_getElem?_getD, List.getD_eq_getElem?_getD, List.getElem?_reverse hj]
theorem Over.round (hd : 2 ≤ d) {tt : Bt} {h : Nat} {cx' : List BF} (o : Over d f' n' root L' h cx' tt) (hc : cx' = cx.drop h) (hlt : tt.s.length < 2 * d → TreeAt d f' n' root L') (hl : tt.s.length = 2 * d) :
    n' + 2 * d ≤ L'.length + 1 ∧ ∃ mid, tt.s[d]? = some mid ∧ ∀ q : Nat, f' (q : Int) = none →
    LaySt d f n root cx s L' (h + 1) (updK (updK f' (tt.i : Int) (some ⟨tt.s.take d, (tt.ks.map Bt.idx).take (d + 1)⟩)) (q : Int) (some ⟨tt.s.drop (d + 1), (tt.ks.map Bt.idx).drop (d + 1)⟩)) (n' + 1) mid (q : Int) := by
  have hle := o.le hd
  refine ⟨by omega, tt.s[d]'(by omega), List.getElem?_eq_getElem (by omega), fun q hq => ?_⟩
  have := o.split (by omega) hl _ (List.getElem?_eq_getElem (by omega)) q hq
  rw [List.map_take, List.map_drop] at this
  exact .inr ⟨h, _, _, rfl, by rw [← hc]; exact this, rfl⟩
theorem LaySt.round (l : Leaf d f n root L fits cx t) (hd : 2 ≤ d) (st : LaySt d f n root cx s (aheadR fits (cx, t) ++ s :: behindR fits (cx, t)) j f' n' s' beh) (hj : j < (wayRow fits (cx, t)).length) :
    ∃ (p a : Nat) (nd : Kn), (wayRow fits (cx, t)).getD ((wayRow fits (cx, t)).length - 1 - j) (0, 0) = ((p : Int), (a : Int)) ∧ LayR d f n root cx s (aheadR fits (cx, t) ++ s :: behindR fits (cx, t)) j f' n' s' beh p a nd := by
  rw [wayRow_at fits (cx, t) j hj]
  rcases st with ⟨rfl, rfl, rfl, rfl, rfl⟩ | ⟨m, tt, u, rfl, la, rfl⟩
  · have o := l.over s'
    obtain ⟨hi, _, hks⟩ := l.lens
    have hnode : f' (t.i : Int) = some ⟨t.s, []⟩ := by
      have := l.z.tree.node
      unfold nodeAt at this
      rw [this, hks]; rfl
    have hlen := insL_len t.s (fitN fits t.s) s' (fitN_le fits t.s)
    refine ⟨t.i, fitN fits t.s, ⟨t.s, []⟩, rfl, ⟨hnode, fitN_le fits t.s, hi, .inl ⟨rfl, rfl⟩, fun h => ?_, fun h => ?_⟩⟩
    · exact o.done (by show (insL t.s (fitN fits t.s) s').length < _; rw [hlen]; exact h)
    · obtain ⟨k1, mid, k2, k3⟩ := o.round (cx := cx) (f := f') (n := n') (s := s') hd rfl (fun h => o.done h) (by show (insL t.s (fitN fits t.s) s').length = _; rw [hlen]; exact h)
      exact ⟨k1, mid, k2, fun q hq => k3 q hq⟩
  · have hm : m < cx.length := by rw [wayRow_len] at hj; dsimp only at hj; omega
    have hdrop : cx.drop m = cx[m] :: cx.drop (m + 1) := List.drop_eq_getElem_cons hm
    rw [hdrop] at la
    generalize hy : cx[m] = y at *
    have o := la.over
    have hx := la.z.ctx
    obtain ⟨h1, h2, h3, h4⟩ := hx
    unfold BF.ok at h2
    obtain ⟨k1, k2, k3, k4⟩ := la.dx
    have hlen := insL_len y.s y.l.length s' (by omega)
    have hne : u.idx ≠ -1 := by show (u.i : Int) ≠ -1; omega
    have hkb : kidsB (y.l.map Bt.idx ++ tt.idx :: y.r.map Bt.idx) y.l.length u.idx = insL (y.l.map Bt.idx ++ tt.idx :: y.r.map Bt.idx) (y.l.length + 1) u.idx := by unfold kidsB; rw [if_neg hne]
    have hk : insL (y.l.map Bt.idx ++ tt.idx :: y.r.map Bt.idx) (y.l.length + 1) u.idx = (y.l ++ tt :: u :: y.r).map Bt.idx := by
      have := insL_at (y.l.map Bt.idx ++ [tt.idx]) (y.r.map Bt.idx) u.idx
      simp only [List.append_assoc, List.cons_append, List.nil_append, List.length_append, List.length_map, List.length_cons, List.length_nil, Nat.zero_add] at this
      rw [this]; simp
    refine ⟨y.i, y.l.length, ⟨y.s, y.l.map Bt.idx ++ tt.idx :: y.r.map Bt.idx⟩, ?_, ⟨h1, by show y.l.length ≤ y.s.length; omega, k2, .inr ⟨hne, by simp, by simp; omega⟩, fun h => ?_, fun h => ?_⟩⟩
    · unfold wayRev
      rw [List.getD_eq_getElem?_getD, List.getElem?_cons_succ, List.getElem?_map, List.getElem?_eq_getElem hm, hy]; rfl
    · rw [hkb]
      exact o.done (by show (insL y.s y.l.length s').length < _; rw [hlen]; exact h)
    · rw [hkb]
      obtain ⟨k1, mid, k2, k3⟩ := o.round (cx := cx) (f := f) (n := n) (s := s) hd rfl (fun h => o.done h) (by show (insL y.s y.l.length s').length = _; rw [hlen]; exact h)
      refine ⟨k1, mid, k2, fun q hq => ?_⟩
      have := k3 q hq
      rw [hk]
      rw [hk] at this
      exact this
/-- Behind the last round: a new root. -/
theorem LaySt.last (st : LaySt d f n root cx s L' (cx.length + 1) f' n' s' beh) (hd : 2 ≤ d) : root ≠ -1 ∧ n' + 1 ≤ L'.length ∧ ∀ q : Nat, f' (q : Int) = none → TreeAt d (updK f' (q : Int) (some ⟨[s'], [root, beh]⟩)) (n' + 1) (q : Int) L' := by
  rcases st with ⟨h, _⟩ | ⟨m, tt, u, h, la, rfl⟩
  · cases h
  · obtain rfl : m = cx.length := by omega
    rw [List.drop_length] at la
    have hr : root = tt.idx := la.z.root
    refine ⟨by rw [hr]; show (tt.i : Int) ≠ -1; omega, la.le hd, fun q hq => ?_⟩
    rw [hr]
    exact la.grow hd q hq
end
end Go.Proofs.Ytjgcdmeojjnjlaa.Bb
/- A region that draws its order, whose loads all feed one call: they are taken first; behind the call nothing of what they read need hold. -/
namespace Go.Proofs.Ytjgcdmeojjnjlaa.Rf
open Go.RowKit Go.Sort
set_option linter.unusedVariables false
variable {P : Program} {n l : Nat} {ops : Array Oper} {Q : Exit → Act → World → Prop} {md : Region.Mode} {S : World → Prop} {stop : Nat}
def wpAnyT (P : Program) (md : Region.Mode) (ops : Array Oper) (Q : Exit → Act → World → Prop) (S : World → Prop) (stop : Nat) : Nat → Array Bool → Act → World → Prop
  | 0, listed, a, w => Region.ready md ops listed = [] ∧ Q .normal a w
  | fuel + 1, listed, a, w => (Region.ready md ops listed = [] → Q .normal a w) ∧
    ∀ i ∈ Region.ready md ops listed, wpOp P ops Q i (fun a' w' => if i = stop then wpAny P md ops Q fuel (listed.setIfInBounds i true) a' w' else S w' ∧ wpAnyT P md ops Q S stop fuel (listed.setIfInBounds i true) a' w') a w
theorem wpAny_of_T : ∀ (fuel : Nat) (listed : Array Bool) (a : Act) (w : World), wpAnyT P md ops Q S stop fuel listed a w → wpAny P md ops Q fuel listed a w
  | 0, _, _, _, h => h
  | fuel + 1, _, _, _, h => ⟨h.1, fun i hi => wpOp_mono (fun a' w' h' => by
      by_cases e : i = stop
      · rw [if_pos e] at h'; exact h'
      · rw [if_neg e] at h'; exact wpAny_of_T fuel _ a' w' h'.2) (h.2 i hi)⟩
/-- None of U has come up, and each waits for i, or for one of U. -/
def waitsB (md : Region.Mode) (ops : Array Oper) (listed : Array Bool) (i : Nat) (U : List Nat) : Bool :=
  U.all fun u => !(listed.getD u true) && (match ops[u]? with | some o => o.after.any (fun e => Region.binds md e && (e.on == i || U.contains e.on)) | none => false)
theorem waits_ready {listed : Array Bool} {i : Nat} {U : List Nat} (h : waitsB md ops listed i U = true) (hi : listed.getD i true = false) (u : Nat) (hu : u ∈ U) : u ∉ Region.ready md ops listed := by
  have off : ∀ k : Nat, listed.getD k true = false → listed.getD k false = true → False := fun k h1 h2 => by
    by_cases hk : k < listed.size
    · simp [hk] at h1 h2; rw [h1] at h2; cases h2
    · simp [hk] at h1
  intro hr
  obtain ⟨_, o, ho, hall⟩ := mem_ready.1 hr
  have h1 := List.all_eq_true.1 h u hu
  simp only [ho, Bool.and_eq_true, Array.any_eq_true'] at h1
  obtain ⟨_, e, he, hb, hor⟩ := h1
  have h2 := hall e he hb
  rcases Bool.or_eq_true _ _ ▸ hor with q | q
  · rw [beq_iff_eq.1 q] at h2; exact off i hi h2
  · have hm : e.on ∈ U := by simpa using q
    have h3 := List.all_eq_true.1 h e.on hm
    simp only [Bool.and_eq_true, Bool.not_eq_true'] at h3
    exact off _ h3.1 h2
theorem waits_step {listed : Array Bool} {i j : Nat} {U : List Nat} (h : waitsB md ops listed i U = true) (hj : j ∉ U) : waitsB md ops (listed.setIfInBounds j true) i U = true := by
  unfold waitsB at *
  rw [List.all_eq_true] at *
  intro u hu
  have := h u hu
  rw [getD_set_ne true (fun e : j = u => hj (by rw [e]; exact hu))]
  exact this
theorem wpAnyT_first {i : Nat} {oi : Oper} {v : Value} {U : List Nat} (hs : stop ∈ U) (hi : ops[i]? = some oi) (hsel : ∀ (j : Nat) (o : Oper) cs b, ops[j]? = some o → o.op ≠ .select cs b)
    (hQ : ∀ c a w, Q (.panic c) (a.put oi.dst v) w → Q (.panic c) a w) :
    ∀ (fuel : Nat) (listed : Array Bool) (a : Act) (w : World), waitsB md ops listed i U = true → i ≠ stop →
      (∀ j oj, ops[j]? = some oj → j ≠ i → listed.getD j true = false → (∀ e ∈ oj.after, Region.binds md e = true → e.on ≠ i) → oi.apart ops oj = true) →
      i ∈ Region.ready md ops listed → YieldsIf P ops S oi v a → S w → wpAnyT P md ops Q S stop fuel (listed.setIfInBounds i true) (a.put oi.dst v) w → wpAnyT P md ops Q S stop (fuel + 1) listed a w := by
  intro fuel
  induction fuel with
  | zero =>
    intro listed a w _ his _ hr hy hS H
    refine ⟨fun h => (by rw [h] at hr; cases hr), fun j hj => ?_⟩
    by_cases hji : j = i
    · subst hji; exact hy.wpOp hi hS (by rw [if_neg his]; exact ⟨hS, H⟩)
    · have := ready_mono hj hji
      rw [H.1] at this
      cases this
  | succ fuel ih =>
    intro listed a w hU his hfree hr hy hS H
    refine ⟨fun h => (by rw [h] at hr; cases hr), fun j hj => ?_⟩
    by_cases hji : j = i
    · subst hji; exact hy.wpOp hi hS (by rw [if_neg his]; exact ⟨hS, H⟩)
    · have hiu := (mem_ready.1 hr).1
      have hjU : j ∉ U := fun hju => waits_ready hU hiu j hju hj
      have hjs : j ≠ stop := fun e => hjU (e ▸ hs)
      have h1 := H.2 j (ready_mono hj hji)
      simp only [if_neg hjs] at h1
      obtain ⟨hjun, oj, hoj, hall⟩ := mem_ready.1 hj
      have hnot : ∀ e ∈ oj.after, Region.binds md e = true → e.on ≠ i := fun e he hb heq => by
        have h1 := hall e he hb
        rw [heq] at h1
        by_cases hk : i < listed.size
        · simp [hk] at hiu h1; rw [hiu] at h1; cases h1
        · simp [hk] at h1
      have h2 := wpOp_putIf hoj (hfree j oj hoj hji hjun hnot) (fun cs b => hsel i oi cs b hi) (fun cs b => hsel j oj cs b hoj) hQ hy h1
      simp only [if_neg hjs]
      have hfree' : ∀ k ok, ops[k]? = some ok → k ≠ i → (listed.setIfInBounds j true).getD k true = false → (∀ e ∈ ok.after, Region.binds md e = true → e.on ≠ i) → oi.apart ops ok = true := fun k ok hk hki hun hno => by
        refine hfree k ok hk hki ?_ hno
        by_cases hjk : j = k
        · subst hjk; exact hjun
        · rw [getD_set_ne true hjk] at hun; exact hun
      refine wpOp_mono (fun a' w' h3 => ⟨h3.2.1, ih (listed.setIfInBounds j true) a' w' (waits_step hU hjU) his hfree' (ready_mono hr (Ne.symm hji)) h3.1 h3.2.1 ?_⟩) h2
      rw [Array.setIfInBounds_comm _ _ hji]
      exact h3.2.2
/-- i is taken first: it yields v in every world that meets S; the call waits for it by way of U. -/
theorem wpAnyT_take {i : Nat} {oi : Oper} {v : Value} {fuel : Nat} {listed : Array Bool} {a : Act} {w : World} (U : List Nat) (hs : U.contains stop = true) (hU : waitsB md ops listed i U = true) (his : (i == stop) = false) (hi : ops[i]? = some oi)
    (hn : Region.noSelect ops = true) (hf : Region.free md ops listed i = true) (hr : (Region.ready md ops listed).contains i = true)
    (hQ : ∀ c a w, Q (.panic c) (a.put oi.dst v) w → Q (.panic c) a w) (hy : YieldsIf P ops S oi v a) (hS : S w)
    (h : wpAnyT P md ops Q S stop fuel (listed.setIfInBounds i true) (a.put oi.dst v) w) : wpAnyT P md ops Q S stop (fuel + 1) listed a w :=
  wpAnyT_first (U := U) (by simpa using hs) hi (Region.noSelect_spec hn) hQ fuel listed a w hU (by simpa using his) (Region.free_spec hi hf) (by simpa using hr) hy hS h
theorem yields_of_if {o : Oper} {v : Value} {a : Act} (h : YieldsIf P ops (fun _ => True) o v a) : Yields P ops o v a := h.imp (fun ⟨hw, hv⟩ => ⟨hw, fun w => hv w trivial⟩) id
theorem wpAnyT_firstP {i : Nat} {oi : Oper} {v : Value} (hi : ops[i]? = some oi) (hsel : ∀ (j : Nat) (o : Oper) cs b, ops[j]? = some o → o.op ≠ .select cs b)
    (hQ : ∀ c a w, Q (.panic c) (a.put oi.dst v) w → Q (.panic c) a w) :
    ∀ (fuel : Nat) (listed : Array Bool) (a : Act) (w : World), i ≠ stop →
      (∀ j oj, ops[j]? = some oj → j ≠ i → listed.getD j true = false → (∀ e ∈ oj.after, Region.binds md e = true → e.on ≠ i) → oi.apart ops oj = true) →
      i ∈ Region.ready md ops listed → YieldsIf P ops (fun _ => True) oi v a → S w → wpAnyT P md ops Q S stop fuel (listed.setIfInBounds i true) (a.put oi.dst v) w → wpAnyT P md ops Q S stop (fuel + 1) listed a w := by
  intro fuel
  induction fuel with
  | zero =>
    intro listed a w his _ hr hy hS H
    refine ⟨fun h => (by rw [h] at hr; cases hr), fun j hj => ?_⟩
    by_cases hji : j = i
    · subst hji; exact hy.wpOp hi trivial (by rw [if_neg his]; exact ⟨hS, H⟩)
    · have := ready_mono hj hji
      rw [H.1] at this
      cases this
  | succ fuel ih =>
    intro listed a w his hfree hr hy hS H
    refine ⟨fun h => (by rw [h] at hr; cases hr), fun j hj => ?_⟩
    by_cases hji : j = i
    · subst hji; exact hy.wpOp hi trivial (by rw [if_neg his]; exact ⟨hS, H⟩)
    · have hiu := (mem_ready.1 hr).1
      have h1 := H.2 j (ready_mono hj hji)
      obtain ⟨hjun, oj, hoj, hall⟩ := mem_ready.1 hj
      have hnot : ∀ e ∈ oj.after, Region.binds md e = true → e.on ≠ i := fun e he hb heq => by
        have h1 := hall e he hb
        rw [heq] at h1
        by_cases hk : i < listed.size
        · simp [hk] at hiu h1; rw [hiu] at h1; cases h1
        · simp [hk] at h1
      have h2 := wpOp_putIf hoj (hfree j oj hoj hji hjun hnot) (fun cs b => hsel i oi cs b hi) (fun cs b => hsel j oj cs b hoj) hQ hy h1
      have hfree' : ∀ k ok, ops[k]? = some ok → k ≠ i → (listed.setIfInBounds j true).getD k true = false → (∀ e ∈ ok.after, Region.binds md e = true → e.on ≠ i) → oi.apart ops ok = true := fun k ok hk hki hun hno => by
        refine hfree k ok hk hki ?_ hno
        by_cases hjk : j = k
        · subst hjk; exact hjun
        · rw [getD_set_ne true hjk] at hun; exact hun
      refine wpOp_mono (fun a' w' h3 => ?_) h2
      by_cases hjs : j = stop
      · rw [if_pos hjs]
        have h4 := h3.2
        rw [if_pos hjs, Array.setIfInBounds_comm _ _ (Ne.symm hji)] at h4
        exact wpAny_first hi hsel hQ fuel _ a' w' hfree' (ready_mono hr (Ne.symm hji)) (yields_of_if h3.1) h4
      · rw [if_neg hjs]
        have h4 := h3.2
        rw [if_neg hjs, Array.setIfInBounds_comm _ _ (Ne.symm hji)] at h4
        exact ⟨h4.1, ih (listed.setIfInBounds j true) a' w' his hfree' (ready_mono hr (Ne.symm hji)) h3.1 h4.1 h4.2⟩
/-- What yields in whatever world is taken first. -/
theorem wpAnyT_pure {i : Nat} {oi : Oper} {v : Value} {fuel : Nat} {listed : Array Bool} {a : Act} {w : World} (his : (i == stop) = false) (hi : ops[i]? = some oi)
    (hn : Region.noSelect ops = true) (hf : Region.free md ops listed i = true) (hr : (Region.ready md ops listed).contains i = true)
    (hQ : ∀ c a w, Q (.panic c) (a.put oi.dst v) w → Q (.panic c) a w) (hy : Yields P ops oi v a) (hS : S w)
    (h : wpAnyT P md ops Q S stop fuel (listed.setIfInBounds i true) (a.put oi.dst v) w) : wpAnyT P md ops Q S stop (fuel + 1) listed a w :=
  wpAnyT_firstP hi (Region.noSelect_spec hn) hQ fuel listed a w (by simpa using his) (Region.free_spec hi hf) (by simpa using hr) hy.yieldsIf hS h
/-- The call comes up. -/
theorem wpAnyT_stop {o : Oper} {fuel : Nat} {listed : Array Bool} {a : Act} {w : World} (hr : Region.ready md ops listed = [stop]) (ho : ops[stop]? = some o)
    (h : ∀ K' : Act → World → Prop, Shut (∀ a w, wpAny P md ops Q fuel (listed.setIfInBounds stop true) a w → K' a w) → if Region.wanted o (yielded ops a.tmps) = true then Oper.wp P o a w K' Q else K' (a.put o.dst undef) w) :
    wpAnyT P md ops Q S stop (fuel + 1) listed a w := by
  refine ⟨fun e => (by rw [hr] at e; cases e), fun i hi => ?_⟩
  rw [hr] at hi
  obtain rfl : i = stop := by simpa using hi
  simp only [if_pos]
  exact wpOp_step ho (fun K' hK => h K' (fun a w hW => hK a w hW))
theorem wpAny_one {i : Nat} {o : Oper} {fuel : Nat} {listed : Array Bool} {a : Act} {w : World} (hr : Region.ready md ops listed = [i]) (ho : ops[i]? = some o)
    (h : ∀ K' : Act → World → Prop, Shut (∀ a w, wpAny P md ops Q fuel (listed.setIfInBounds i true) a w → K' a w) → if Region.wanted o (yielded ops a.tmps) = true then Oper.wp P o a w K' Q else K' (a.put o.dst undef) w) :
    wpAny P md ops Q (fuel + 1) listed a w := by
  refine ⟨fun e => (by rw [hr] at e; cases e), fun j hj => ?_⟩
  rw [hr] at hj
  obtain rfl : j = i := by simpa using hj
  exact wpOp_step ho (fun K' hK => h K' (fun a w hW => hK a w hW))
theorem wpAny_end {listed : Array Bool} {a : Act} {w : World} (hr : Region.ready md ops listed = []) (h : Q .normal a w) : ∀ fuel, wpAny P md ops Q fuel listed a w
  | 0 => ⟨hr, h⟩
  | _ + 1 => ⟨fun _ => h, by rw [hr]; simp⟩
theorem wpIn_round_T {id : Nat} (S : World → Prop) (stop : Nat) {K : Act → World → Prop} {Q : Exit → Act → World → Prop} {a : Act} {w : World} (hm : P.follows .mixedOrders = true) (hd : ops.toList.all noDefer = true) (hS : S w.drew)
    (hK : ∀ a' w', K a' w' → Q .normal a' w') (h : S w.drew → wpAnyT P .any ops (onlyN K) S stop ops.size (Array.replicate ops.size false) a w.drew) : (Code.region id ops true).wpIn (Fence.wide.inRound l) n P Q a w :=
  wpIn_round_any hm hd hK (wpAny_of_T _ _ _ _ (h hS))
theorem wp_plain_T {id : Nat} (S : World → Prop) (stop : Nat) {K : Act → World → Prop} {Q : Exit → Act → World → Prop} {a : Act} {w : World} (hm : P.follows .mixedOrders = true) (hS : S w.drew)
    (hK : ∀ a' w', K a' w' → Q .normal a' w') (h : S w.drew → wpAnyT P .any ops (onlyN K) S stop ops.size (Array.replicate ops.size false) a w.drew) : (Code.region id ops true).wp P Q a w := by
  refine Code.wp_mono ?_ (wp_region_any hm (wpAny_of_T _ _ _ _ (h hS)))
  intro e a' w' hq
  cases e <;> first | exact hK _ _ hq | exact hq.elim
end Go.Proofs.Ytjgcdmeojjnjlaa.Rf
/- layIn: a segment is laid in at the end of its way; a node that has too many by that is split. -/
namespace Go.Proofs.Ytjgcdmeojjnjlaa
open Go.RowKit Go.Sort Go.Shelf Go.Proofs.Ytjgcdmeojjnjlaa.Bo Go.Proofs.Ytjgcdmeojjnjlaa.Bb Go.Proofs.Ytjgcdmeojjnjlaa.Rf
set_option linter.unusedVariables false
set_option linter.unusedSimpArgs false
set_option maxRecDepth 100000
attribute [local go_sem] Oper.semAt_some
abbrev inO (i : Int) : Obj := .cells #[.int .i64 i] 3
/-- What is left in the end. -/
def LayFin (w W : World) (S B : Nat → Prop) (base T A : Nat) (t : Bx) (d : Nat) (L : List G5) (Y : World) : Prop :=
  ∃ f n r, TreeAt d f n r L ∧ BtH w S B base T A { t with f := f, n := n, root := r } Y ∧ ∀ b, B b → Y.heap[b]? = W.heap[b]?
abbrev StP := Nat → (Int → Option Kn) → Nat → G5 → Int → Prop
/-- What a round does to the node p. -/
structure LayN (d : Nat) (L : List G5) (root : Int) (St : StP) (j : Nat) (f : Int → Option Kn) (n : Nat) (s : G5) (beh : Int) (p a : Nat) (nd : Kn) : Prop where
  at_ : f (p : Int) = some nd
  le : a ≤ nd.segs.length
  hi : nd.segs.length + 1 ≤ 2 * d
  kids : (beh = -1 ∧ nd.kids = []) ∨ (beh ≠ -1 ∧ a + 1 ≤ nd.kids.length ∧ nd.kids.length = nd.segs.length + 1)
  done : nd.segs.length + 1 < 2 * d → TreeAt d (updK f (p : Int) (some ⟨insL nd.segs a s, kidsB nd.kids a beh⟩)) n root L
  over : nd.segs.length + 1 = 2 * d → n + 2 * d ≤ L.length + 1 ∧ ∃ mid, (insL nd.segs a s)[d]? = some mid ∧ ∀ q : Nat, updK f (p : Int) (some ⟨insL nd.segs a s, kidsB nd.kids a beh⟩) (q : Int) = none →
    St (j + 1) (updK (updK (updK f (p : Int) (some ⟨insL nd.segs a s, kidsB nd.kids a beh⟩)) (p : Int) (some ⟨(insL nd.segs a s).take d, (kidsB nd.kids a beh).take (d + 1)⟩)) (q : Int) (some ⟨(insL nd.segs a s).drop (d + 1), (kidsB nd.kids a beh).drop (d + 1)⟩)) (n + 1) mid (q : Int)
/-- The four boxes of a call of layIn (at b0 and on), the tree, what is still to be laid in. -/
def LayB (w W : World) (S B : Nat → Prop) (base T A : Nat) (t : Bx) (b0 : Nat) (s : G5) (beh : Int) (V : World) : Prop :=
  BtH w S B base T A t V ∧ V.heap[b0]? = some (tbO T) ∧ V.heap[b0 + 1]? = some (oG s) ∧ V.heap[b0 + 2]? = some (inO beh)
/-- Between two rounds. -/
def LayI (w W W0 : World) (S B B1 : Nat → Prop) (base T A : Nat) (t : Bx) (b0 : Nat) (St : StP) (j : Nat) (V : World) : Prop :=
  ∃ f n s beh, St j f n s beh ∧ LayB w W S B1 base T A { t with f := f, n := n } b0 s beh V ∧ (∀ b, B b → V.heap[b]? = W.heap[b]?) ∧ W0.heap.size ≤ V.heap.size
theorem layB_grown {w W X Y : World} {S B : Nat → Prop} {base T A : Nat} {t : Bx} {b0 : Nat} {s : G5} {beh : Int} {row : Option Nat} (h : LayB w W S B base T A t b0 s beh X) (hg : X.grownBy Y row) (hr : ∀ r, row = some r → w.heap.size ≤ r ∧ ∃ o : Obj, X.heap[r]? = some o ∧ o.isCells = false) : LayB w W S B base T A t b0 s beh Y :=
  ⟨h.1.grown hg hr, grown_cells hg (fun r e => (hr r e).2) rfl h.2.1, grown_cells hg (fun r e => (hr r e).2) rfl h.2.2.1, grown_cells hg (fun r e => (hr r e).2) rfl h.2.2.2⟩
theorem layI_own (w W W0 : World) (S B B1 : Nat → Prop) (base T A : Nat) (t : Bx) (b0 : Nat) (St : StP) (D : Nat) (h1 : w.heap.size ≤ D) (hB : ∀ b, B b → b < D) (hB2 : ∀ b, B b → b < W0.heap.size) : OwnFrom D (LayI w W W0 S B B1 base T A t b0 St) := by
  rintro j X Y row ⟨f, n, s, beh, k1, k2, k3, k4⟩ hg hr
  refine ⟨f, n, s, beh, k1, layB_grown k2 hg (fun r e => ⟨Nat.le_trans h1 (hr r e).1, (hr r e).2⟩), fun b hb => ?_, Nat.le_trans k4 hg.size⟩
  exact (hg.block b (Nat.lt_of_lt_of_le (hB2 b hb) k4) (fun e => by have := (hr b e.symm).1; have := hB b hb; omega)).trans (k3 b hb)
def LayX (w W : World) (S B : Nat → Prop) (base T A : Nat) (t : Bx) (d : Nat) (L : List G5) (m : Nat) (c : Code) (j : Nat) (V : World) : Prop := c = .ret ∧ LayFin w W S B base T A t d L V ∧ m ≤ V.heap.size
theorem layX_own (w W : World) (S B : Nat → Prop) (base T A : Nat) (t : Bx) (d : Nat) (L : List G5) (m : Nat) (c : Code) (D : Nat) (h1 : w.heap.size ≤ D) (hB : ∀ b, B b → b < D) (hB2 : ∀ b, B b → b < m) : OwnFrom D (LayX w W S B base T A t d L m c) := by
  rintro j X Y row ⟨rfl, ⟨f, n, r, k1, k2, k3⟩, k4⟩ hg hr
  refine ⟨rfl, ⟨f, n, r, k1, k2.grown hg (fun r e => ⟨Nat.le_trans h1 (hr r e).1, (hr r e).2⟩), fun b hb => ?_⟩, Nat.le_trans k4 hg.size⟩
  exact (hg.block b (Nat.lt_of_lt_of_le (hB2 b hb) k4) (fun e => by have := (hr b e.symm).1; have := hB b hb; omega)).trans (k3 b hb)
theorem lay_store {w W Y : World} {S C : Nat → Prop} {base T A : Nat} {t : Bx} {b0 : Nat} {s mid : G5} {beh q : Int} (h : LayB w W S C base T A t b0 s beh Y) (h1 : C (b0 + 1)) (h2 : C (b0 + 2)) :
    LayB w W S C base T A t b0 mid q ((set5 Y (b0 + 1) 0 mid).setCell ⟨b0 + 2, 0, none⟩ (.int .i64 q)) ∧ KeepsOthers Y ((set5 Y (b0 + 1) 0 mid).setCell ⟨b0 + 2, 0, none⟩ (.int .i64 q)) ∧
      ∀ b, b ≠ b0 + 1 → b ≠ b0 + 2 → ((set5 Y (b0 + 1) 0 mid).setCell ⟨b0 + 2, 0, none⟩ (.int .i64 q)).heap[b]? = Y.heap[b]? := by
  obtain ⟨k1, k2, k3, k4⟩ := h
  have far : ∀ b, b ≠ b0 + 1 → b ≠ b0 + 2 → ((set5 Y (b0 + 1) 0 mid).setCell ⟨b0 + 2, 0, none⟩ (.int .i64 q)).heap[b]? = Y.heap[b]? := fun b e1 e2 => by
    have f : ∀ (X : World) (c i : Nat) (v : Value), b ≠ c → (X.setCell ⟨c, i, none⟩ v).heap[b]? = X.heap[b]? := fun X c i v hne => heap_setCell_other _ _ _ _ (by simpa using hne)
    rw [f _ _ _ _ e2]
    unfold set5
    rw [f _ _ _ _ e1, f _ _ _ _ e1, f _ _ _ _ e1, f _ _ _ _ e1, f _ _ _ _ e1]
  refine ⟨⟨(((((k1.box _ h1 _ _).box _ h1 _ _).box _ h1 _ _).box _ h1 _ _).box _ h1 _ _).box _ h2 _ _, (far b0 (by omega) (by omega)).trans k2, ?_, ?_⟩, ?_, far⟩
  · exact set_far (heap_setCell_same _ _ _ _ _ _ (heap_setCell_same _ _ _ _ _ _ (heap_setCell_same _ _ _ _ _ _ (heap_setCell_same _ _ _ _ _ _ (heap_setCell_same _ _ _ _ _ _ k3))))) (by omega)
  · refine heap_setCell_same _ _ _ _ _ _ (?_ : _ = some (inO beh))
    unfold set5
    exact set_far (set_far (set_far (set_far (set_far k4 (by omega)) (by omega)) (by omega)) (by omega)) (by omega)
  · exact ((((((KeepsOthers.setCell Y _ _).trans (KeepsOthers.setCell _ _ _)).trans (KeepsOthers.setCell _ _ _)).trans (KeepsOthers.setCell _ _ _)).trans (KeepsOthers.setCell _ _ _)).trans (KeepsOthers.setCell _ _ _))
set_option maxHeartbeats 8000000 in
theorem blayIn_core {w W : World} {S B : Nat → Prop} {base T A : Nat} {t : Bx} (h : BtH w S B base T A t W) (d : Nat) (hd : t.d = (d : Int)) (hd1 : 1 ≤ d) (hd2 : d ≤ 64) (xs : List (Int × Int)) (ap : Option Addr) (cap bb : Nat) (s : G5) (L : List G5) (St : StP)
    (ho : W.ownsRow bb 125 2 (.slice ap xs.length cap) xs.length (flat2 xs)) (hB : ∀ b, (Value.slice ap xs.length cap).ownBlock = some b → B b) (hN : xs.length ≤ 100000) (hroom : (L.length : Int) ≤ t.room)
    (hS : St 0 t.f t.n s (-1)) (HR : Hid (∀ j f n s beh, j < xs.length → St j f n s beh → ∃ (p a : Nat) (nd : Kn), xs.getD (xs.length - 1 - j) (0, 0) = ((p : Int), (a : Int)) ∧ LayN d L t.root St j f n s beh p a nd))
    (HE : Hid (∀ f n s beh V, St xs.length f n s beh → BtH w S B base T A { t with f := f, n := n } V → (∀ b, B b → V.heap[b]? = W.heap[b]?) → Calls Try.prog 92 #[aP T, vG s, .int .i64 beh] V fun e w' => e = .returned (.tuple #[]) ∧ LayFin w W S B base T A t d L w' ∧ KeepsOthers V w')) :
    Calls Try.prog 68 #[aP T, .slice ap xs.length cap, vG s] W fun e w' => e = .returned (.tuple #[]) ∧ LayFin w W S B base T A t d L w' := by
  have mx := mixed
  obtain ⟨b0, hb0⟩ : ∃ b0, b0 = W.heap.size := ⟨_, rfl⟩
  obtain ⟨W0, hW0⟩ : ∃ X, X = ((((W.alloc (tbO T)).alloc (oG s)).alloc (inO (-1))).alloc (.cells #[.slice ap xs.length cap] 95)) := ⟨_, rfl⟩
  have z3 : W0.heap.size = b0 + 4 := by rw [hW0, hb0]; simp
  have B3 : Go.RowKit.Below W.heap.size W W0 := by rw [hW0]; exact bt (bt (bt (below_new _ _) (below_new _ _)) (below_new _ _)) (below_new _ _)
  have HM0 : Hid (W0.heap[b0]? = some (tbO T)) := by show _ = _; rw [hW0, hb0]; exact box_on (box_on (box_on (heap_alloc_new _ _) (below_new _ _)) (below_new _ _)) (below_new _ _)
  have HM1 : Hid (W0.heap[b0 + 1]? = some (oG s)) := by show _ = _; rw [hW0, hb0]; exact box_on (box_on (new_at' _ (by simp)) (below_new _ _)) (below_new _ _)
  have HM2 : Hid (W0.heap[b0 + 2]? = some (inO (-1))) := by show _ = _; rw [hW0, hb0]; exact box_on (new_at' _ (by simp)) (below_new _ _)
  have HM3 : Hid (W0.heap[b0 + 3]? = some (.cells #[.slice ap xs.length cap] 95 (0, 0))) := by show _ = _; rw [hW0, hb0]; exact new_at' _ (by simp)
  have H3 := Lib.hid (h.keep (C := fun b => B b ∨ (b0 ≤ b ∧ b < b0 + 4)) B3 (fun b hb => hb.imp id (fun q => by omega)))
  have HBL : Hid (∀ b, B b → w.heap.size ≤ b ∧ b < b0) := fun b hb => by have := h.size b hb; omega
  have HMB : Hid (∀ b, b < b0 → W0.heap[b]? = W.heap[b]?) := fun b hb => B3.block b (by omega)
  have HOW := Lib.hid (own_kpQ ho (fun b hb => HMB.out b (HBL.out b (hB b hb)).2))
  have HZ : Hid (W0.heap.size = b0 + 4) := z3
  have HB := Lib.hid hB
  have HW0 := Lib.hid hW0
  have Hb0 := Lib.hid hb0
  have hwb : w.heap.size ≤ b0 := by rw [hb0]; exact h.kp.size
  have HWB := Lib.hid hwb
  have HS := Lib.hid hS
  clear hB ho B3 z3 hW0 h hwb hS hb0
  refine (callsIn_wide (n := 6)).1 ?_
  refine callsIn_of_wp_marks Try.func68 rfl trivial ?_ rfl
  simp only [Try.ntmps68, List.size_toArray, List.length_cons, List.length_nil, Nat.reduceAdd, Nat.reduceSub, Array.replicate_succ, Array.replicate_zero, List.push_toArray, List.append_toArray, List.nil_append, List.cons_append]
  gi_wp2_with (refine ⟨trivial, ?_⟩; gi_at_call 79; refine (callsIn_wide.2 (bback_any ap xs.length cap _)).mono ?_; rintro e w' ⟨rfl, rfl⟩)
  simp only [← Hb0.out, Nat.add_assoc, Nat.reduceAdd]
  rw [← HW0.out]
  obtain ⟨Q, HQ⟩ : ∃ Q : Nat → Prop, Hid (Q = fun b => b = b0 + 3 ∨ (Value.slice ap xs.length cap).ownBlock = some b) := ⟨_, rfl⟩
  have HQ1 : Hid (∀ b, Q b → (B b ∨ (b0 ≤ b ∧ b < b0 + 4)) ∧ b ≠ b0 ∧ b ≠ b0 + 1 ∧ b ≠ b0 + 2 ∧ b < b0 + 4) := fun b hb => by
    rw [HQ.out] at hb
    rcases hb with rfl | hb
    · exact ⟨.inr ⟨by omega, by omega⟩, by omega, by omega, by omega, by omega⟩
    · have h1 := HB.out b hb
      have := (HBL.out b h1).2
      exact ⟨.inl h1, by omega, by omega, by omega, by omega⟩
  have hsz : W0.heap.size = b0 + 4 := HZ.out
  have hwb : w.heap.size ≤ b0 := HWB.out
  have hQlt : ∀ b, Q b → b < W0.heap.size := fun b hb => by have := (HQ1.out b hb).2.2.2.2; omega
  have hB1 : ∀ b, B b → b < W0.heap.size := fun b hb => by have := (HBL.out b hb).2; omega
  refine wpIn_rangeN (gf := 98) (lb := #[.pointer (some ⟨b0 + 3, 0, none⟩)]) rfl (enters_of Try.func98 (by kernel_rfl) rfl)
    (bback_seq (b0 + 3) ap cap bb xs Q W0 HM3.out HOW.out (by rw [HQ.out]; exact .inl rfl) (fun b hb => by rw [HQ.out]; exact .inr hb) (by omega)) kpQ.trans (kpQ_b hQlt) (Go.RowKit.Below.refl _ _) (fun _ => rfl)
    (LayI w W W0 S B (fun b => B b ∨ (b0 ≤ b ∧ b < b0 + 4)) base T A t b0 St) (LayX w W S B base T A t d L W0.heap.size) (layI_own w W W0 S B _ base T A t b0 St _ (by omega) hB1 hB1) (fun c => layX_own w W S B base T A t d L _ c _ (by omega) hB1 hB1)
    ⟨t.f, t.n, s, -1, HS.out, ⟨H3.out, HM0.out, HM1.out, HM2.out⟩, fun b hb => HMB.out b (HBL.out b hb).2, Nat.le_refl _⟩ ?round ?done ?stop
  case round =>
    rintro l j V0 K hj ⟨f, n, s1, beh, k1, k2, k3, k4⟩ hK
    obtain ⟨p, a, nd, ex, hr⟩ := HR.out j f n s1 beh hj k1
    rw [ex]
    have HL := Lib.hid hr
    have HK2 := Lib.hid k2
    have HK3 := Lib.hid k3
    have HK4 := Lib.hid k4
    clear k1 k2 k3 k4 ex hr
    gi_wp2
    have hb6 := below_new V0 (stO ((p : Int), (a : Int)))
    have hn6 : (V0.alloc (stO ((p : Int), (a : Int)))).heap[V0.heap.size]? = some (stO ((p : Int), (a : Int))) := heap_alloc_new _ _
    have hlt6 := lt_of_block hn6
    refine hK _ _ ((KeepsOthers.alloc _ _).from _) (fun b hb => hb6.block b (Nat.lt_of_lt_of_le (hQlt b hb) HK4.out)) ⟨fun i V => (LayB w W S (fun b => (B b ∨ (b0 ≤ b ∧ b < b0 + 4)) ∨ b = V0.heap.size) base T A { t with f := f, n := n } b0 s1 beh V ∧ V.heap[V0.heap.size]? = some (stO ((p : Int), (a : Int)))) ∧ (∀ b, B b → V.heap[b]? = W.heap[b]?) ∧ V0.heap.size < V.heap.size, ?_, ⟨⟨⟨HK2.out.1.keep hb6 (fun b hb => hb.imp id (fun e => by subst e; exact ⟨Nat.le_refl _, hlt6⟩)), box_on HK2.out.2.1 hb6, box_on HK2.out.2.2.1 hb6, box_on HK2.out.2.2.2 hb6⟩, hn6⟩, fun b hb => (hb6.block b (Nat.lt_of_lt_of_le (hB1 b hb) HK4.out)).trans (HK3.out b hb), hlt6⟩, ?_⟩
    · rintro i X Y row ⟨⟨g1, g2⟩, g3, g4⟩ hg hr
      refine ⟨⟨layB_grown g1 hg (fun r e => ⟨by have := (hr r e).1; omega, (hr r e).2⟩), grown_cells hg (fun r e => (hr r e).2) rfl g2⟩, fun b hb => ?_, Nat.lt_of_lt_of_le g4 hg.size⟩
      have := hB1 b hb
      have := HK4.out
      exact (hg.block b (by omega) (fun e => by have := (hr b e.symm).1; omega)).trans (g3 b hb)
    rintro V ⟨⟨g1, g2⟩, g3, g4⟩
    have hbx : b0 + 4 ≤ V0.heap.size := by have := HK4.out; omega
    clear hb6 hn6 hlt6 HK2 HK3 HK4
    generalize V0.heap.size = BX at *
    obtain ⟨S1, h5, h6⟩ := g1.1.rebase
    have H := Lib.hid h5
    have HRB := Lib.hid h6
    have HVB := Lib.hid g3
    have HBOX : Hid (∀ (t' : Bx) Y, BtH V S1 (fun _ => False) base T A t' Y → (Y.heap[b0]? = some (tbO T) ∧ Y.heap[b0 + 1]? = some (oG s1) ∧ Y.heap[b0 + 2]? = some (inO beh)) ∧ Y.heap[BX]? = some (stO ((p : Int), (a : Int)))) := fun t' Y hY => by
      have e := (h6 t' Y hY).2.2
      exact ⟨⟨(e _ (.inl (.inr (by omega)))).trans g1.2.1, (e _ (.inl (.inr (by omega)))).trans g1.2.2.1, (e _ (.inl (.inr (by omega)))).trans g1.2.2.2⟩, (e _ (.inr rfl)).trans g2⟩
    clear g1 g2 g3 h6
    obtain ⟨g, hg⟩ := h5.gOf p (by show f (p : Int) ≠ none; rw [HL.out.at_]; simp)
    obtain ⟨sa, ka, sc, kc, v⟩ := h5.node hg p nd HL.out.at_
    have HG := Lib.hid hg
    have HAT := Lib.hid v.at_
    have p1 := cell_regrown ((cell_of_row _ _ 0 _ _ _ (HBOX.out _ _ h5).1.1).trans rfl : V.cell? ⟨b0, 0, none⟩ = some (aP T))
    have p2 := cell_regrown ((cell_of_row _ _ 1 _ _ _ h5.top).trans rfl : V.cell? ⟨T, 1, none⟩ = some (aP A))
    have p4 := cell_regrown ((cell_of_row _ _ 0 _ _ _ (HBOX.out _ _ h5).2).trans rfl : V.cell? ⟨BX, 0, none⟩ = some (.int .i64 (p : Int)))
    clear h5 hg v
    gi_wp2
    clear mx
    have mx := mixed
    refine wpIn_round_quiet_below (by assumption) (by kernel_rfl) (by kernel_rfl) ?_
    repeat (go_big_quiet_step (first | (go_at_call 50; exact Calls.regrown_of ((HAT.out _ (below_regrown _ _ _)).mono fun e w' h => ⟨h.1, h.2 ▸ Go.RowKit.Below.refl _ _⟩))))
    refine wpQuiet_nil ?_
    intro _ hw'
    obtain ⟨⟨nq, osq⟩, hw''⟩ := hw'
    subst hw''
    have hb4 := below_regrown V nq osq
    generalize grow (redrawn V nq) osq = Y at *
    clear p1 p2 p4
    have HD := Lib.hid ((H.out.below hb4).below (Go.RowKit.Below.refl _ _).drew)
    have HGD := Lib.hid ((HG.out.below hb4).below (Go.RowKit.Below.refl _ _).drew)
    have HKO4 : Hid (KeepsOthers V Y.drew) := (HRB.out _ _ HD.out).2.1
    clear hb4 HAT HG
    obtain ⟨sa, ka, sc, kc, v⟩ := HD.out.node HGD.out p nd HL.out.at_
    obtain ⟨m1, hm1⟩ : ∃ m1, m1 = nd.segs.length + 1 := ⟨_, rfl⟩
    obtain ⟨m0, hm0⟩ : ∃ m0, m0 = nd.segs.length := ⟨_, rfl⟩
    have HM1 := Lib.hid hm1
    have HMM := Lib.hid hm0
    have hlen : (insL nd.segs a s1).length = m1 := by rw [insL_len _ _ _ HL.out.le, hm1]
    have HLEN := Lib.hid hlen
    have HLG := Lib.hid (laidG_any (i := a) (s := s1) v.os rfl HL.out.le (by have := HL.out.hi; omega) v.le)
    rw [← hm1, ← hm0] at HLG
    have HV := Lib.hid v
    have c1 := v.cs
    rw [← hm0] at c1
    have c2 : Y.drew.cell? ⟨BX, 1, none⟩ = some (.int .i64 (a : Int)) := (cell_of_row _ _ 1 _ _ _ (HBOX.out _ _ HD.out).2).trans rfl
    obtain ⟨q1, q2, q3, q4, q5⟩ := five_cells (HBOX.out _ _ HD.out).1.2.1
    simp only [Nat.zero_add] at q1 q2 q3 q4 q5
    obtain ⟨S5, hS5⟩ : ∃ S5 : World → Prop, S5 = fun w' => w'.cell? ⟨g, p * 3, none⟩ = some (.slice sa m0 sc) ∧ w'.cell? ⟨BX, 1, none⟩ = some (.int .i64 (a : Int)) ∧ w'.cell? ⟨b0 + 1, 0, none⟩ = some (.int .i64 s1.ls) ∧ w'.cell? ⟨b0 + 1, 1, none⟩ = some (.int .i64 s1.la) ∧ w'.cell? ⟨b0 + 1, 2, none⟩ = some (.int .i64 s1.hs) ∧ w'.cell? ⟨b0 + 1, 3, none⟩ = some (.int .i64 s1.ha) ∧ w'.cell? ⟨b0 + 1, 4, none⟩ = some (.int .i64 s1.v) := ⟨_, rfl⟩
    have HS1 : Hid (S5 Y.drew) := by show S5 _; rw [hS5]; exact ⟨c1, c2, q1, q2, q3, q4, q5⟩
    have HGF : Hid (∀ y, Y.drew.grownBy y (Value.slice sa m0 sc).ownBlock → y.cell? ⟨g, p * 3, none⟩ = some (.slice sa m0 sc) ∧ y.frozen? ⟨g, p * 3, none⟩ = false) := fun y hy => by
      have hne : some g ≠ (Value.slice sa m0 sc).ownBlock := fun e => v.gs g (by rw [← hm0]; exact e.symm) rfl
      exact ⟨(hy.cell_far ⟨g, p * 3, none⟩ v.gb hne).trans c1, (hy.frozen_far ⟨g, p * 3, none⟩ v.gb hne).trans (v.fz _)⟩
    clear v c1 c2 q1 q2 q3 q4 q5 hm1 hm0 hlen
    gi_wp2
    clear mx
    have mx := mixed
    refine wpIn_round_T S5 8 mx (by kernel_rfl) HS1.out (fun _ _ h => h) (fun hHeld => ?_)
    subst hS5
    refine wpAnyT_pure (i := 0) (v := ?_) (by kernel_rfl) rfl (by kernel_rfl) (by kernel_rfl) (by kernel_rfl) (fun _ _ _ h => h) (Or.inl ⟨by rfl, ?_⟩) (by assumption) ?_
    rotate_left
    · intro w0; go_simp; all_goals (with_reducible rfl)
    try simp only [Act.put, List.setIfInBounds_toArray, List.set_cons_zero, List.set_cons_succ]
    refine wpAnyT_pure (i := 1) (v := ?_) (by kernel_rfl) rfl (by kernel_rfl) (by kernel_rfl) (by kernel_rfl) (fun _ _ _ h => h) (Or.inl ⟨by rfl, ?_⟩) (by assumption) ?_
    rotate_left
    · intro w0; go_simp; all_goals (with_reducible rfl)
    try simp only [Act.put, List.setIfInBounds_toArray, List.set_cons_zero, List.set_cons_succ]
    refine wpAnyT_pure (i := 2) (v := ?_) (by kernel_rfl) rfl (by kernel_rfl) (by kernel_rfl) (by kernel_rfl) (fun _ _ _ h => h) (Or.inl ⟨by rfl, ?_⟩) (by assumption) ?_
    rotate_left
    · intro w0; go_simp; all_goals (with_reducible rfl)
    try simp only [Act.put, List.setIfInBounds_toArray, List.set_cons_zero, List.set_cons_succ]
    refine wpAnyT_pure (i := 3) (v := ?_) (by kernel_rfl) rfl (by kernel_rfl) (by kernel_rfl) (by kernel_rfl) (fun _ _ _ h => h) (Or.inl ⟨by rfl, ?_⟩) (by assumption) ?_
    rotate_left
    · intro w0; go_simp; all_goals (with_reducible rfl)
    try simp only [Act.put, List.setIfInBounds_toArray, List.set_cons_zero, List.set_cons_succ]
    refine wpAnyT_take (i := 4) (v := ?_) [8, 9, 10, 11] (by kernel_rfl) (by kernel_rfl) (by kernel_rfl) rfl (by kernel_rfl) (by kernel_rfl) (by kernel_rfl) (fun _ _ _ h => h) (Or.inl ⟨by rfl, ?_⟩) (by assumption) ?_
    rotate_left
    · intro w0 hSw; (try dsimp only at hSw); go_simp; all_goals (with_reducible rfl)
    try simp only [Act.put, List.setIfInBounds_toArray, List.set_cons_zero, List.set_cons_succ]
    refine wpAnyT_pure (i := 5) (v := ?_) (by kernel_rfl) rfl (by kernel_rfl) (by kernel_rfl) (by kernel_rfl) (fun _ _ _ h => h) (Or.inl ⟨by rfl, ?_⟩) (by assumption) ?_
    rotate_left
    · intro w0; go_simp; all_goals (with_reducible rfl)
    try simp only [Act.put, List.setIfInBounds_toArray, List.set_cons_zero, List.set_cons_succ]
    refine wpAnyT_take (i := 6) (v := ?_) [8, 9, 10, 11] (by kernel_rfl) (by kernel_rfl) (by kernel_rfl) rfl (by kernel_rfl) (by kernel_rfl) (by kernel_rfl) (fun _ _ _ h => h) (Or.inl ⟨by rfl, ?_⟩) (by assumption) ?_
    rotate_left
    · intro w0 hSw; (try dsimp only at hSw); go_simp; all_goals (with_reducible rfl)
    try simp only [Act.put, List.setIfInBounds_toArray, List.set_cons_zero, List.set_cons_succ]
    refine wpAnyT_take (i := 7) (v := ?_) [8, 9, 10, 11] (by kernel_rfl) (by kernel_rfl) (by kernel_rfl) rfl (by kernel_rfl) (by kernel_rfl) (by kernel_rfl) (fun _ _ _ h => h) (Or.inl ⟨by rfl, ?_⟩) (by assumption) ?_
    rotate_left
    · intro w0 hSw; (try dsimp only at hSw); go_simp; all_goals (with_reducible rfl)
    try simp only [Act.put, List.setIfInBounds_toArray, List.set_cons_zero, List.set_cons_succ]
    refine wpAnyT_stop (by kernel_rfl) rfl (fun K0 hK0 => ?_)
    go_simp
    refine HLG.out.mono ?_
    rintro e y1 ⟨a1, c1, ⟨rfl, ho1⟩, hg1, hn1⟩
    obtain ⟨y5, y6⟩ := HGF.out y1 hg1
    have HO1 := Lib.hid ho1
    have HG1 := Lib.hid hg1
    have HN1 := Lib.hid hn1
    clear ho1 hg1 hn1
    try dsimp only
    refine hK0.out _ _ ?_
    clear hK0 K0
    try simp only [Act.put, List.setIfInBounds_toArray, List.set_cons_zero, List.set_cons_succ]
    refine wpAny_take (i := 9) (v := ?_) rfl (by kernel_rfl) (by kernel_rfl) (by kernel_rfl) (fun _ _ _ h => h) (Or.inl ⟨by rfl, ?_⟩) ?_
    rotate_left
    · intro w0; go_simp; all_goals (with_reducible rfl)
    try simp only [Act.put, List.setIfInBounds_toArray, List.set_cons_zero, List.set_cons_succ]
    refine wpAny_take (i := 10) (v := ?_) rfl (by kernel_rfl) (by kernel_rfl) (by kernel_rfl) (fun _ _ _ h => h) (Or.inl ⟨by rfl, ?_⟩) ?_
    rotate_left
    · intro w0; go_simp; all_goals (with_reducible rfl)
    try simp only [Act.put, List.setIfInBounds_toArray, List.set_cons_zero, List.set_cons_succ]
    refine wpAny_one (i := 11) (by kernel_rfl) rfl (fun K0 hK0 => ?_)
    go_simp
    refine hK0.out _ _ ?_
    clear hK0 K0
    try simp only [Act.put, List.setIfInBounds_toArray, List.set_cons_zero, List.set_cons_succ]
    refine wpAny_end (by kernel_rfl) ?_ _
    simp only [onlyN]
    have hset := HV.out.setS y1 a1 c1 (insL nd.segs a s1) (by rw [← HMM.out]; exact HG1.out) (by rw [HLEN.out]; exact HO1.out) (fun b hb => by
      have hb' : (Value.slice a1 m1 c1).ownBlock = some b := by rw [← hb]; exact ownBlk _ _ _ _ _
      rcases HN1.out b hb' with q | q
      · exact .inl (by rw [← HMM.out]; exact q)
      · exact .inr ⟨q, (HO1.out.lt b hb').2, id⟩)
    rw [HLEN.out] at hset
    obtain ⟨h7, h8, _⟩ := hset
    have H5 := Lib.hid h7
    have HG5 := Lib.hid h8
    clear h7 h8 hHeld HS1 HGF HLG HO1 HG1 HN1 HV HD HGD y5 y6 HKO4
    generalize y1.setCell ⟨g, p * 3, none⟩ (.slice a1 m1 c1) = Y5 at *
    have c6 : Y5.cell? ⟨b0 + 2, 0, none⟩ = some (.int .i64 beh) := (cell_of_row _ _ 0 _ _ _ (HBOX.out _ _ H5.out).1.2.2).trans rfl
    have hdone := HL.out.done
    have hover := HL.out.over
    have HDN := Lib.hid hdone
    have HOV := Lib.hid hover
    have hi := HL.out.hi
    rw [← HM1.out] at hi
    clear hdone hover
    rcases HL.out.kids with ⟨rfl, e2⟩ | ⟨e1, e2, e3⟩
    · have hkb : kidsB nd.kids a (-1) = [] := (if_pos rfl).trans e2
      rw [hkb] at HDN HOV
      have h7 := H5.out
      have h8 := HG5.out
      rw [e2] at h7
      have H7 := Lib.hid h7
      have HG7 := Lib.hid h8
      clear h7 h8 H5 HG5 hkb e2
      gi_wp2
      clear c6
      obtain ⟨sa7, ka7, sc7, kc7, v7⟩ := H7.out.node HG7.out p _ (updK_self _ _ _)
      have c7 := v7.cs
      rw [show (⟨insL nd.segs a s1, []⟩ : Kn).segs.length = m1 from HLEN.out] at c7
      have p1 := cell_regrown c7
      have p2 := cell_regrown ((cell_of_row _ _ 0 _ _ _ (HBOX.out _ _ H7.out).1.1).trans rfl : Y5.cell? ⟨b0, 0, none⟩ = some (aP T))
      have p3 := cell_regrown ((cell_of_row _ _ 0 _ _ _ H7.out.top).trans (by rw [← hd]; rfl) : Y5.cell? ⟨T, 0, none⟩ = some (.int .i64 (d : Int)))
      have i2 : IntKind.i64.wrap (2 * (d : Int)) = 2 * (d : Int) := IntWalk.i64_in _ (by omega)
      clear v7 c7 HG7
      by_cases hlt : m1 < 2 * d
      · have t8 : (m1 : Int) < 2 * (d : Int) := by omega
        have HTR := Lib.hid (HDN.out (by have := HM1.out; omega))
        clear hlt
        gi_wp2
        clear mx
        have mx := mixed
        refine wpIn_round_quiet_below (by assumption) (by kernel_rfl) (by kernel_rfl) ?_
        repeat (go_big_quiet_step (fail))
        refine wpQuiet_nil ?_
        intro _ hw'
        obtain ⟨⟨nq, osq⟩, hw''⟩ := hw'
        subst hw''
        have hb8 := below_regrown Y5 nq osq
        generalize grow (redrawn Y5 nq) osq = Y8 at *
        have H8 := H7.out.below hb8
        have r := HRB.out _ _ H8
        have HRR := Lib.hid r
        clear p1 p2 p3 H8 r hb8
        gi_wp2
        refine ⟨HRR.out.2.1.from _, rfl, ⟨_, n, t.root, HTR.out, HRR.out.1.less (fun b hb => .inl (.inl hb)), fun b hb => (HRR.out.2.2 b (.inl (.inl hb))).trans (HVB.out b hb)⟩, ?_⟩
        have := HRR.out.2.1.size
        omega
      · have t8 : ¬ (m1 : Int) < 2 * (d : Int) := by omega
        have hm2 : m1 = 2 * d := by omega
        obtain ⟨hnr, mid, hmid, hst⟩ := HOV.out (by have := HM1.out; omega)
        have HST := Lib.hid hst
        have HMID := Lib.hid hmid
        have HNR : Hid ((n : Int) < t.room) := by show _ < _; omega
        have HM2 := Lib.hid hm2
        clear hlt hnr hmid hst hm2
        gi_wp2
        clear mx
        have mx := mixed
        refine wpIn_round_quiet_below (by assumption) (by kernel_rfl) (by kernel_rfl) ?_
        repeat (go_big_quiet_step (fail))
        refine wpQuiet_nil ?_
        intro _ hw'
        obtain ⟨⟨nq, osq⟩, hw''⟩ := hw'
        subst hw''
        have hb8 := below_regrown Y5 nq osq
        generalize grow (redrawn Y5 nq) osq = Y8 at *
        have h8 := H7.out.below hb8
        have HSP := Lib.hid (h8.splitL p _ (updK_self _ _ _) d hd (by omega) hd2 (HLEN.out.trans HM2.out) rfl HNR.out mid HMID.out)
        have c1 : Y8.cell? ⟨b0, 0, none⟩ = some (aP T) := (cell_of_row _ _ 0 _ _ _ (HBOX.out _ _ h8).1.1).trans rfl
        have c2 : Y8.cell? ⟨BX, 0, none⟩ = some (.int .i64 (p : Int)) := (cell_of_row _ _ 0 _ _ _ (HBOX.out _ _ h8).2).trans rfl
        clear p1 p2 p3 h8 hb8
        gi_wp2_with ((first | (refine ⟨trivial, ?_⟩) | (refine ⟨fun h => (by cases h), ?_⟩)); gi_at_call 91; refine ((callsIn_wide.2 HSP.out).inRound l).mono ?_; rintro e w' ⟨q, rfl, hno, hqp, hh, _⟩; have HNO := Lib.hid hno; have HH := Lib.hid hh; have x1 := (HBOX.out _ _ hh).1.2.1; have x2 := (HBOX.out _ _ hh).1.2.2; obtain ⟨d1, d2, d3, d4, d5⟩ := five_cells x1; simp only [Nat.zero_add] at d1 d2 d3 d4 d5; have d6 := (cell_of_row _ _ 0 _ _ _ x2).trans rfl; have f1 := frozen_of_row _ _ 0 _ _ x1; have f2 := frozen_of_row _ _ 1 _ _ x1; have f3 := frozen_of_row _ _ 2 _ _ x1; have f4 := frozen_of_row _ _ 3 _ _ x1; have f5 := frozen_of_row _ _ 4 _ _ x1; have f6 := frozen_of_row _ _ 0 _ _ x2; clear hno hh hqp x1 x2)
        have r := HRB.out _ _ HH.out
        have ls := lay_store (W := W) (mid := mid) (q := (q : Int)) (⟨r.1, (HBOX.out _ _ HH.out).1⟩ : LayB w W S _ base T A _ b0 s1 (-1) w') (.inl (.inr ⟨by omega, by omega⟩)) (.inl (.inr ⟨by omega, by omega⟩))
        have hko := r.2.1.trans ls.2.1
        refine ⟨hko.from _, fun b hb => ?_, _, n + 1, mid, (q : Int), HST.out q HNO.out, ⟨ls.1.1.less (fun b hb => .inl hb), ls.1.2⟩, fun b hb => ?_, ?_⟩
        · obtain ⟨x1, x2, x3, x4, x5⟩ := HQ1.out b hb
          exact (ls.2.2 b x3 x4).trans (r.2.2 b (.inl x1))
        · have := (HBL.out b hb).2
          exact (ls.2.2 b (by omega) (by omega)).trans ((r.2.2 b (.inl (.inl hb))).trans (HVB.out b hb))
        · exact Nat.le_trans (by omega : W0.heap.size ≤ V.heap.size) hko.size
    · have t6 : (beh != -1) = true := by simpa using e1
      have t6' : ¬ beh = -1 := e1
      have hkb : kidsB nd.kids a beh = nd.kids.take (a + 1) ++ beh :: nd.kids.drop (a + 1) := if_neg e1
      have HKB := Lib.hid hkb
      have HE2 := Lib.hid e2
      have HE3 := Lib.hid e3
      clear hkb e1 e2 e3
      have HD := Lib.hid (H5.out.below (Go.RowKit.Below.refl _ _).drew)
      have HGD := Lib.hid (HG5.out.below (Go.RowKit.Below.refl _ _).drew)
      obtain ⟨sa, ka, sc, kc, v⟩ := HD.out.node HGD.out p _ (updK_self _ _ _)
      obtain ⟨k0, hk0⟩ : ∃ k0, k0 = nd.kids.length := ⟨_, rfl⟩
      obtain ⟨k1, hk1⟩ : ∃ k1, k1 = nd.kids.length + 1 := ⟨_, rfl⟩
      have HK0 := Lib.hid hk0
      have HK1 := Lib.hid hk1
      have HKL : Hid ((kidsB nd.kids a beh).length = k1) := by
        show _ = _
        rw [HKB.out, List.length_append, List.length_cons, List.length_take, List.length_drop, hk1]
        have := HE2.out
        omega
      have HLG := Lib.hid (laidI_any (i := a + 1) (s := beh) v.ok rfl HE2.out (show nd.kids.length ≤ 100000 by have := HE3.out; have := HM1.out; omega) v.le)
      rw [← HKB.out] at HLG
      dsimp only at HLG
      rw [← hk1, ← hk0, show ((a + 1 : Nat) : Int) = (a : Int) + 1 by omega] at HLG
      have HV := Lib.hid v
      have c1 : Y5.drew.cell? ⟨g, p * 3 + 1, none⟩ = some (.slice ka nd.kids.length kc) := v.ck
      rw [← hk0] at c1
      have c2 : Y5.drew.cell? ⟨BX, 1, none⟩ = some (.int .i64 (a : Int)) := (cell_of_row _ _ 1 _ _ _ (HBOX.out _ _ HD.out).2).trans rfl
      have c3 : Y5.drew.cell? ⟨b0 + 2, 0, none⟩ = some (.int .i64 beh) := c6
      have i7 : IntKind.i64.wrap ((a : Int) + 1) = (a : Int) + 1 := IntWalk.i64_in _ (by have := HL.out.le; have := HM1.out; omega)
      obtain ⟨S5, hS5⟩ : ∃ S5 : World → Prop, S5 = fun w' => w'.cell? ⟨g, p * 3 + 1, none⟩ = some (.slice ka k0 kc) ∧ w'.cell? ⟨BX, 1, none⟩ = some (.int .i64 (a : Int)) ∧ w'.cell? ⟨b0 + 2, 0, none⟩ = some (.int .i64 beh) := ⟨_, rfl⟩
      have HS1 : Hid (S5 Y5.drew) := by show S5 _; rw [hS5]; exact ⟨c1, c2, c3⟩
      have HGF : Hid (∀ y, Y5.drew.grownBy y (Value.slice ka k0 kc).ownBlock → y.cell? ⟨g, p * 3 + 1, none⟩ = some (.slice ka k0 kc) ∧ y.frozen? ⟨g, p * 3 + 1, none⟩ = false) := fun y hy => by
        have hne : some g ≠ (Value.slice ka k0 kc).ownBlock := fun e => v.gk g ((ownBlk _ _ _ _ _).trans e.symm) rfl
        exact ⟨(hy.cell_far ⟨g, p * 3 + 1, none⟩ v.gb hne).trans c1, (hy.frozen_far ⟨g, p * 3 + 1, none⟩ v.gb hne).trans (v.fz _)⟩
      clear v c1 c2 c3 hk0 hk1
      gi_wp2
      clear mx c6
      have mx := mixed
      refine wpIn_round_T S5 9 mx (by kernel_rfl) HS1.out (fun _ _ h => h) (fun hHeld => ?_)
      subst hS5
      refine wpAnyT_pure (i := 0) (v := ?_) (by kernel_rfl) rfl (by kernel_rfl) (by kernel_rfl) (by kernel_rfl) (fun _ _ _ h => h) (Or.inl ⟨by rfl, ?_⟩) (by assumption) ?_
      rotate_left
      · intro w0; go_simp; all_goals (with_reducible rfl)
      try simp only [Act.put, List.setIfInBounds_toArray, List.set_cons_zero, List.set_cons_succ]
      refine wpAnyT_pure (i := 1) (v := ?_) (by kernel_rfl) rfl (by kernel_rfl) (by kernel_rfl) (by kernel_rfl) (fun _ _ _ h => h) (Or.inl ⟨by rfl, ?_⟩) (by assumption) ?_
      rotate_left
      · intro w0; go_simp; all_goals (with_reducible rfl)
      try simp only [Act.put, List.setIfInBounds_toArray, List.set_cons_zero, List.set_cons_succ]
      refine wpAnyT_pure (i := 2) (v := ?_) (by kernel_rfl) rfl (by kernel_rfl) (by kernel_rfl) (by kernel_rfl) (fun _ _ _ h => h) (Or.inl ⟨by rfl, ?_⟩) (by assumption) ?_
      rotate_left
      · intro w0; go_simp; all_goals (with_reducible rfl)
      try simp only [Act.put, List.setIfInBounds_toArray, List.set_cons_zero, List.set_cons_succ]
      refine wpAnyT_pure (i := 3) (v := ?_) (by kernel_rfl) rfl (by kernel_rfl) (by kernel_rfl) (by kernel_rfl) (fun _ _ _ h => h) (Or.inl ⟨by rfl, ?_⟩) (by assumption) ?_
      rotate_left
      · intro w0; go_simp; all_goals (with_reducible rfl)
      try simp only [Act.put, List.setIfInBounds_toArray, List.set_cons_zero, List.set_cons_succ]
      refine wpAnyT_take (i := 4) (v := ?_) [9, 10, 11, 12] (by kernel_rfl) (by kernel_rfl) (by kernel_rfl) rfl (by kernel_rfl) (by kernel_rfl) (by kernel_rfl) (fun _ _ _ h => h) (Or.inl ⟨by rfl, ?_⟩) (by assumption) ?_
      rotate_left
      · intro w0 hSw; (try dsimp only at hSw); go_simp; all_goals (with_reducible rfl)
      try simp only [Act.put, List.setIfInBounds_toArray, List.set_cons_zero, List.set_cons_succ]
      refine wpAnyT_pure (i := 5) (v := ?_) (by kernel_rfl) rfl (by kernel_rfl) (by kernel_rfl) (by kernel_rfl) (fun _ _ _ h => h) (Or.inl ⟨by rfl, ?_⟩) (by assumption) ?_
      rotate_left
      · intro w0; go_simp; all_goals (with_reducible rfl)
      try simp only [Act.put, List.setIfInBounds_toArray, List.set_cons_zero, List.set_cons_succ]
      refine wpAnyT_take (i := 6) (v := ?_) [7, 9, 10, 11, 12] (by kernel_rfl) (by kernel_rfl) (by kernel_rfl) rfl (by kernel_rfl) (by kernel_rfl) (by kernel_rfl) (fun _ _ _ h => h) (Or.inl ⟨by rfl, ?_⟩) (by assumption) ?_
      rotate_left
      · intro w0 hSw; (try dsimp only at hSw); go_simp; all_goals (with_reducible rfl)
      try simp only [Act.put, List.setIfInBounds_toArray, List.set_cons_zero, List.set_cons_succ]
      refine wpAnyT_pure (i := 7) (v := ?_) (by kernel_rfl) rfl (by kernel_rfl) (by kernel_rfl) (by kernel_rfl) (fun _ _ _ h => h) (Or.inl ⟨by rfl, ?_⟩) (by assumption) ?_
      rotate_left
      · intro w0; go_simp; all_goals (with_reducible rfl)
      try simp only [Act.put, List.setIfInBounds_toArray, List.set_cons_zero, List.set_cons_succ]
      refine wpAnyT_take (i := 8) (v := ?_) [9, 10, 11, 12] (by kernel_rfl) (by kernel_rfl) (by kernel_rfl) rfl (by kernel_rfl) (by kernel_rfl) (by kernel_rfl) (fun _ _ _ h => h) (Or.inl ⟨by rfl, ?_⟩) (by assumption) ?_
      rotate_left
      · intro w0 hSw; (try dsimp only at hSw); go_simp; all_goals (with_reducible rfl)
      try simp only [Act.put, List.setIfInBounds_toArray, List.set_cons_zero, List.set_cons_succ]
      refine wpAnyT_stop (by kernel_rfl) rfl (fun K0 hK0 => ?_)
      go_simp
      refine HLG.out.mono ?_
      rintro e y1 ⟨a1, c1, ⟨rfl, ho1⟩, hg1, hn1⟩
      obtain ⟨y5, y6⟩ := HGF.out y1 hg1
      have HO1 := Lib.hid ho1
      have HG1 := Lib.hid hg1
      have HN1 := Lib.hid hn1
      clear ho1 hg1 hn1
      try dsimp only
      refine hK0.out _ _ ?_
      clear hK0 K0
      try simp only [Act.put, List.setIfInBounds_toArray, List.set_cons_zero, List.set_cons_succ]
      refine wpAny_take (i := 10) (v := ?_) rfl (by kernel_rfl) (by kernel_rfl) (by kernel_rfl) (fun _ _ _ h => h) (Or.inl ⟨by rfl, ?_⟩) ?_
      rotate_left
      · intro w0; go_simp; all_goals (with_reducible rfl)
      try simp only [Act.put, List.setIfInBounds_toArray, List.set_cons_zero, List.set_cons_succ]
      refine wpAny_take (i := 11) (v := ?_) rfl (by kernel_rfl) (by kernel_rfl) (by kernel_rfl) (fun _ _ _ h => h) (Or.inl ⟨by rfl, ?_⟩) ?_
      rotate_left
      · intro w0; go_simp; all_goals (with_reducible rfl)
      try simp only [Act.put, List.setIfInBounds_toArray, List.set_cons_zero, List.set_cons_succ]
      refine wpAny_one (i := 12) (by kernel_rfl) rfl (fun K0 hK0 => ?_)
      go_simp
      refine hK0.out _ _ ?_
      clear hK0 K0
      try simp only [Act.put, List.setIfInBounds_toArray, List.set_cons_zero, List.set_cons_succ]
      refine wpAny_end (by kernel_rfl) ?_ _
      simp only [onlyN]
      have hset := HV.out.setK y1 a1 c1 (kidsB nd.kids a beh) (by
        have e : (Value.slice ka (⟨insL nd.segs a s1, nd.kids⟩ : Kn).kids.length kc).ownBlock = (Value.slice ka k0 kc).ownBlock := ownBlk _ _ _ _ _
        rw [e]; exact HG1.out) (by rw [HKL.out]; exact HO1.out) (fun b hb => by
        have hb' : (Value.slice a1 k1 c1).ownBlock = some b := by rw [← hb]; exact ownBlk _ _ _ _ _
        rcases HN1.out b hb' with q | q
        · exact .inl (by rw [← q]; exact ownBlk _ _ _ _ _)
        · exact .inr ⟨q, (HO1.out.lt b hb').2, id⟩)
      rw [HKL.out] at hset
      obtain ⟨h7, h8, _⟩ := hset
      dsimp only at h7
      rw [updK_same] at h7
      have H7 := Lib.hid h7
      have HG7 := Lib.hid h8
      clear h7 h8 hHeld HS1 HGF HLG HO1 HG1 HN1 HV HD HGD y5 y6 H5 HG5 i7 t6 t6'
      generalize y1.setCell ⟨g, p * 3 + 1, none⟩ (.slice a1 k1 c1) = Y7 at *
      obtain ⟨sa7, ka7, sc7, kc7, v7⟩ := H7.out.node HG7.out p _ (updK_self _ _ _)
      have c7 := v7.cs
      rw [show (⟨insL nd.segs a s1, kidsB nd.kids a beh⟩ : Kn).segs.length = m1 from HLEN.out] at c7
      have p1 := cell_regrown c7
      have p2 := cell_regrown ((cell_of_row _ _ 0 _ _ _ (HBOX.out _ _ H7.out).1.1).trans rfl : Y7.cell? ⟨b0, 0, none⟩ = some (aP T))
      have p3 := cell_regrown ((cell_of_row _ _ 0 _ _ _ H7.out.top).trans (by rw [← hd]; rfl) : Y7.cell? ⟨T, 0, none⟩ = some (.int .i64 (d : Int)))
      have i2 : IntKind.i64.wrap (2 * (d : Int)) = 2 * (d : Int) := IntWalk.i64_in _ (by omega)
      clear v7 c7 HG7
      by_cases hlt : m1 < 2 * d
      · have t8 : (m1 : Int) < 2 * (d : Int) := by omega
        have HTR := Lib.hid (HDN.out (by have := HM1.out; omega))
        clear hlt
        gi_wp2
        clear mx
        have mx := mixed
        refine wpIn_round_quiet_below (by assumption) (by kernel_rfl) (by kernel_rfl) ?_
        repeat (go_big_quiet_step (fail))
        refine wpQuiet_nil ?_
        intro _ hw'
        obtain ⟨⟨nq, osq⟩, hw''⟩ := hw'
        subst hw''
        have hb8 := below_regrown Y7 nq osq
        generalize grow (redrawn Y7 nq) osq = Y8 at *
        have H8 := H7.out.below hb8
        have r := HRB.out _ _ H8
        have HRR := Lib.hid r
        clear p1 p2 p3 H8 r hb8
        gi_wp2
        refine ⟨HRR.out.2.1.from _, rfl, ⟨_, n, t.root, HTR.out, HRR.out.1.less (fun b hb => .inl (.inl hb)), fun b hb => (HRR.out.2.2 b (.inl (.inl hb))).trans (HVB.out b hb)⟩, ?_⟩
        have := HRR.out.2.1.size
        omega
      · have t8 : ¬ (m1 : Int) < 2 * (d : Int) := by omega
        have hm2 : m1 = 2 * d := by omega
        obtain ⟨hnr, mid, hmid, hst⟩ := HOV.out (by have := HM1.out; omega)
        have HST := Lib.hid hst
        have HMID := Lib.hid hmid
        have HNR : Hid ((n : Int) < t.room) := by show _ < _; omega
        have HM2 := Lib.hid hm2
        clear hlt hnr hmid hst hm2
        gi_wp2
        clear mx
        have mx := mixed
        refine wpIn_round_quiet_below (by assumption) (by kernel_rfl) (by kernel_rfl) ?_
        repeat (go_big_quiet_step (fail))
        refine wpQuiet_nil ?_
        intro _ hw'
        obtain ⟨⟨nq, osq⟩, hw''⟩ := hw'
        subst hw''
        have hb8 := below_regrown Y7 nq osq
        generalize grow (redrawn Y7 nq) osq = Y8 at *
        have h8 := H7.out.below hb8
        have HSP := Lib.hid (h8.splitK p _ (updK_self _ _ _) d hd (by omega) hd2 (HLEN.out.trans HM2.out) (show (kidsB nd.kids a beh).length = 2 * d + 1 by rw [HKL.out, HK1.out, HE3.out]; have := HM1.out; omega) HNR.out mid HMID.out)
        have c1 : Y8.cell? ⟨b0, 0, none⟩ = some (aP T) := (cell_of_row _ _ 0 _ _ _ (HBOX.out _ _ h8).1.1).trans rfl
        have c2 : Y8.cell? ⟨BX, 0, none⟩ = some (.int .i64 (p : Int)) := (cell_of_row _ _ 0 _ _ _ (HBOX.out _ _ h8).2).trans rfl
        clear p1 p2 p3 h8 hb8
        gi_wp2_with ((first | (refine ⟨trivial, ?_⟩) | (refine ⟨fun h => (by cases h), ?_⟩)); gi_at_call 91; refine ((callsIn_wide.2 HSP.out).inRound l).mono ?_; rintro e w' ⟨q, rfl, hno, hqp, hh, _⟩; have HNO := Lib.hid hno; have HH := Lib.hid hh; have x1 := (HBOX.out _ _ hh).1.2.1; have x2 := (HBOX.out _ _ hh).1.2.2; obtain ⟨d1, d2, d3, d4, d5⟩ := five_cells x1; simp only [Nat.zero_add] at d1 d2 d3 d4 d5; have d6 := (cell_of_row _ _ 0 _ _ _ x2).trans rfl; have f1 := frozen_of_row _ _ 0 _ _ x1; have f2 := frozen_of_row _ _ 1 _ _ x1; have f3 := frozen_of_row _ _ 2 _ _ x1; have f4 := frozen_of_row _ _ 3 _ _ x1; have f5 := frozen_of_row _ _ 4 _ _ x1; have f6 := frozen_of_row _ _ 0 _ _ x2; clear hno hh hqp x1 x2)
        have r := HRB.out _ _ HH.out
        have ls := lay_store (W := W) (mid := mid) (q := (q : Int)) (⟨r.1, (HBOX.out _ _ HH.out).1⟩ : LayB w W S _ base T A _ b0 s1 beh w') (.inl (.inr ⟨by omega, by omega⟩)) (.inl (.inr ⟨by omega, by omega⟩))
        have hko := r.2.1.trans ls.2.1
        refine ⟨hko.from _, fun b hb => ?_, _, n + 1, mid, (q : Int), HST.out q HNO.out, ⟨ls.1.1.less (fun b hb => .inl hb), ls.1.2⟩, fun b hb => ?_, ?_⟩
        · obtain ⟨x1, x2, x3, x4, x5⟩ := HQ1.out b hb
          exact (ls.2.2 b x3 x4).trans (r.2.2 b (.inl x1))
        · have := (HBL.out b hb).2
          exact (ls.2.2 b (by omega) (by omega)).trans ((r.2.2 b (.inl (.inl hb))).trans (HVB.out b hb))
        · exact Nat.le_trans (by omega : W0.heap.size ≤ V.heap.size) hko.size
  case done =>
    rintro D W1 hD ⟨f, n, s1, beh, k1, ⟨k2, m0, m1, m2⟩, k3, k4⟩ hK
    have HG := Lib.hid (HE.out f n s1 beh W1 k1 (k2.less (fun b hb => .inl hb)) k3)
    have HK := Lib.hid hK
    have HK4 := Lib.hid k4
    have c0 : W1.cell? ⟨b0, 0, none⟩ = some (aP T) := (cell_of_row _ _ 0 _ _ _ m0).trans rfl
    obtain ⟨q1, q2, q3, q4, q5⟩ := five_cells m1
    simp only [Nat.zero_add] at q1 q2 q3 q4 q5
    have c2 : W1.cell? ⟨b0 + 2, 0, none⟩ = some (.int .i64 beh) := (cell_of_row _ _ 0 _ _ _ m2).trans rfl
    clear k1 k2 m0 m1 m2 k3 k4 hK
    gi_wp2_with (refine ⟨trivial, ?_⟩; gi_at_call 92; refine (callsIn_wide.2 HG.out).mono ?_; rintro e w' ⟨rfl, hfin, hko⟩; have HFN := Lib.hid hfin; have HKO := Lib.hid hko; clear hfin hko)
    have hK2 := HKO.out.same D _ HK.out rfl
    refine ⟨by simp, .inl ⟨_, _, rfl, run_takeDeferred hK2, ?_⟩⟩
    refine ⟨.tuple #[], by simp [results, Try.results68, go_sem], rfl, ?_⟩
    exact ((layX_own w W S B base T A t d L W0.heap.size .ret W0.heap.size (by omega) hB1 hB1).putObj (s := 0) _ (⟨rfl, HFN.out, Nat.le_trans HK4.out HKO.out.size⟩ : LayX w W S B base T A t d L W0.heap.size .ret 0 w') hD hK2 rfl).2.1
  case stop =>
    rintro D j c W1 hD hj ⟨rfl, hfin, hsz2⟩ hK
    have HK := Lib.hid hK
    have HF := Lib.hid hfin
    have HZ2 := Lib.hid hsz2
    clear hK hfin hsz2
    gi_wp2
    refine ⟨by simp, .inl ⟨_, _, rfl, run_takeDeferred HK.out, ?_⟩⟩
    refine ⟨.tuple #[], by simp [results, Try.results68, go_sem], rfl, ?_⟩
    exact ((layX_own w W S B base T A t d L W0.heap.size .ret W0.heap.size (by omega) hB1 hB1).putObj (s := 0) _ (⟨rfl, HF.out, HZ2.out⟩ : LayX w W S B base T A t d L W0.heap.size .ret 0 W1) hD HK.out rfl).2.1
/-- A segment that the tree has not is laid in along its way. -/
theorem BtH.layIn {w W : World} {S B : Nat → Prop} {base T A : Nat} {t : Bx} (h : BtH w S B base T A t W) (d : Nat) (hd : t.d = (d : Int)) (hd1 : 2 ≤ d) (hd2 : d ≤ 64) (xs : List (Int × Int)) (ap : Option Addr) (cap bb : Nat) (s : G5) (L L' : List G5) (fits : G5 → Bool)
    (hw : WayOf d t L fits xs) (hL : (L = [] ∧ t.n = 0 ∧ t.root = -1 ∧ xs = [] ∧ L' = [s]) ∨ ∃ cx tl, Leaf d t.f t.n t.root L fits cx tl ∧ xs = wayRow fits (cx, tl) ∧ L' = aheadR fits (cx, tl) ++ s :: behindR fits (cx, tl))
    (ho : W.ownsRow bb 125 2 (.slice ap xs.length cap) xs.length (flat2 xs)) (hB : ∀ b, (Value.slice ap xs.length cap).ownBlock = some b → B b) (hN : xs.length ≤ 100000) (hroom : (L'.length : Int) ≤ t.room) :
    Calls Try.prog 68 #[aP T, .slice ap xs.length cap, vG s] W fun e w' => e = .returned (.tuple #[]) ∧ LayFin w W S B base T A t d L' w' := by
  rcases hL with ⟨e1, e2, e3, e4, e5⟩ | ⟨cx, tl, l, e4, e5⟩
  · have hf : ∀ p, t.f p = none := by
      rcases hw with ⟨_, _, k⟩ | ⟨cx, tl, l, k⟩
      · exact k
      · rw [e4] at k
        have := congrArg List.length k
        rw [wayRow_len] at this
        simp at this
    refine blayIn_core h d hd (by omega) hd2 xs ap cap bb s L' (fun j f n s' beh => f = t.f ∧ n = t.n ∧ s' = s) ho hB hN hroom ⟨rfl, rfl, rfl⟩ (Lib.hid fun j f n s' beh hj => by rw [e4] at hj; exact absurd hj (Nat.not_lt_zero _)) (Lib.hid fun f n s' beh V hS hV hVB => ?_)
    obtain ⟨rfl, rfl, rfl⟩ := hS
    obtain ⟨S1, h5, h6⟩ := hV.rebase
    refine (h5.growL s' beh e3 (by rw [e5] at hroom; simp only [List.length_cons, List.length_nil] at hroom; show (t.n : Int) < t.room; omega)).mono ?_
    rintro e w' ⟨rfl, q, hno, hq, _⟩
    obtain ⟨r1, r2, r3⟩ := h6 _ _ hq
    exact ⟨rfl, ⟨_, _, _, by
      have := treeAt_first hd1 hf s' q
      rw [e5, e2]
      exact this, r1, fun b hb => (r3 b hb).trans (hVB b hb)⟩, r2⟩
  · have hxs : xs.length = cx.length + 1 := by rw [e4, wayRow_len]
    refine blayIn_core h d hd (by omega) hd2 xs ap cap bb s L' (LaySt d t.f t.n t.root cx s L') ho hB hN hroom (.inl ⟨rfl, rfl, rfl, rfl, rfl⟩) (Lib.hid fun j f n s' beh hj hS => ?_) (Lib.hid fun f n s' beh V hS hV hVB => ?_)
    · rw [e5] at hS
      rw [e4] at hj
      obtain ⟨p, a, nd, k1, k2⟩ := hS.round l hd1 hj
      rw [e4, e5]
      exact ⟨p, a, nd, k1, k2.at_, k2.le, k2.hi, k2.kids, k2.done, k2.over⟩
    · rw [hxs] at hS
      obtain ⟨k1, k2, k3⟩ := hS.last hd1
      obtain ⟨S1, h5, h6⟩ := hV.rebase
      refine (h5.growK s' beh k1 (show (n : Int) < t.room by omega)).mono ?_
      rintro e w' ⟨rfl, q, hno, hq, _⟩
      obtain ⟨r1, r2, r3⟩ := h6 _ _ hq
      exact ⟨rfl, ⟨_, _, _, k3 q hno, r1, fun b hb => (r3 b hb).trans (hVB b hb)⟩, r2⟩
end Go.Proofs.Ytjgcdmeojjnjlaa
/- What is told of a cut of a row: the nearest ones on both sides, counted. No Go in sight. -/
namespace Go.Proofs.Ytjgcdmeojjnjlaa.Bo
theorem putG_len (l : List G5) (R : Int) (s : G5) : (putG l R s).1.length ≤ l.length + 1 := by
  unfold putG
  split
  · simp
  · split
    · simp
    · split
      · simp
      · rw [insG_len]; exact Nat.le_refl _
theorem delG_len (l : List G5) (k : Int) : (delG l k).1.length ≤ l.length := by
  unfold delG
  split
  · simp only [List.length_append, List.length_take, List.length_drop]; omega
  · exact Nat.le_refl _
theorem doG_len (l : List G5) (R k : Int) (s : G5) : (doG l R k s).1.length ≤ l.length + 1 := by
  unfold doG
  split
  · exact putG_len l R s
  · split
    · have := delG_len l s.key; show (delG l s.key).1.length ≤ _; omega
    · split
      · show ([] : List G5).length ≤ _; simp
      · show l.length ≤ _; omega
end Go.Proofs.Ytjgcdmeojjnjlaa.Bo
/- Put: the segment of the key, where it stands, and the tree behind it. No Go in sight. -/
namespace Go.Proofs.Ytjgcdmeojjnjlaa.Bb
open Go.Proofs.Ytjgcdmeojjnjlaa.Bo
set_option linter.unusedVariables false
section
variable {d : Nat} {f : Int → Option Kn} {n : Nat} {root : Int} {L : List G5} {cx : List BF} {t : Bt}
/-- Where the first one behind a way stands, and what is written over it. -/
theorem Leaf.oldAt {fits : G5 → Bool} (l : Leaf d f n root L fits cx t) (g : G5) (B : List G5) (hB : behindR fits (cx, t) = g :: B) :
    ∃ (p i : Nat) (m : Kn), behI f (wayRev fits (cx, t)) = some ((p : Int), i) ∧ f (p : Int) = some m ∧ m.segs[i]? = some g ∧ ∀ s, TreeAt d (updK f (p : Int) (some ⟨m.segs.set i s, m.kids⟩)) n root (aheadR fits (cx, t) ++ s :: B) := by
  have hb := l.behind
  rw [hB] at hb
  rcases l.beh with ⟨_, k2⟩ | ⟨k1, k2, k3⟩ | ⟨k0, c1, y, c2, k1, k2, k3, k4, k5⟩
  · rw [k2] at hb; cases hb
  · rw [k3] at hb
    have hks := l.lens.2.2
    have hn := l.z.tree.node
    unfold nodeAt at hn
    rw [hks] at hn
    exact ⟨t.i, fitN fits t.s, ⟨t.s, []⟩, k2, hn, hb, fun s => l.setLeaf g s B hB k1⟩
  · rw [k5] at hb
    have hfr := fun s => l.frame g s B hB k0 c1 c2 y k1 k2 k3
    have hx : ∃ ks, f (y.i : Int) = some ⟨y.s, ks⟩ := repX_at cx 0 _ l.z.ctx y (by rw [k1]; simp)
    refine ⟨y.i, y.l.length, ⟨y.s, (y.l ++ bplug c1 t :: y.r).map Bt.idx⟩, k4, (hfr g).1, hb, fun s => l.setFrame g s B hB k0 c1 c2 y k1 k2 k3⟩
theorem may_is (s : G5) (h : s.may = true) : (s.ls == sd (key s.ls s.la) && s.la == pa (key s.ls s.la)) = true ∧ (s.ls == 1 && s.la == 0) = false := by
  unfold G5.may G5.is G5.key at h
  simp at h ⊢
  refine ⟨h.1, fun e => ?_⟩
  omega
theorem may_not (s : G5) (h : s.may = false) : (s.ls == sd (key s.ls s.la) && s.la == pa (key s.ls s.la)) = false ∨ ((s.ls == sd (key s.ls s.la) && s.la == pa (key s.ls s.la)) = true ∧ (s.ls == 1 && s.la == 0) = true) := by
  cases e : (s.ls == sd (key s.ls s.la) && s.la == pa (key s.ls s.la)) with
  | false => exact .inl rfl
  | true =>
    refine .inr ⟨rfl, ?_⟩
    unfold G5.may G5.is G5.key at h
    rw [e] at h
    simp at h e
    have hk := key_pos s.ls s.la h
    rw [hk, sd_hi, pa_hi] at e
    simp [e.1, e.2]
theorem putG_all (l : List G5) (R : Int) (s : G5) (hs : s.ok) (h : ∀ g ∈ l, g.ok) : ∀ g ∈ (putG l R s).1, g.ok := by
  have hi : ∀ l : List G5, (∀ g ∈ l, g.ok) → ∀ g ∈ insG s l, g.ok := by
    intro l
    induction l with
    | nil => intro _ g hg; simp [insG] at hg; exact hg ▸ hs
    | cons x l ih =>
      intro hl g hg
      unfold insG at hg
      by_cases e : s.key < x.key
      · rw [if_pos e] at hg
        rcases List.mem_cons.1 hg with rfl | hg
        · exact hs
        · exact hl g hg
      · rw [if_neg e] at hg
        rcases List.mem_cons.1 hg with rfl | hg
        · exact hl _ (List.mem_cons_self ..)
        · exact ih (fun q hq => hl q (List.mem_cons_of_mem _ hq)) g hg
  unfold putG
  split
  · exact h
  · split
    · intro g hg
      rcases List.mem_or_eq_of_mem_set hg with hg | rfl
      · exact h g hg
      · exact hs
    · split
      · exact h
      · exact hi l h
end
end Go.Proofs.Ytjgcdmeojjnjlaa.Bb
