/- A part of the proof: contracts of the functions that the statements reach. -/
import Derived.RangeFuncNested
import Derived.RangeFuncBound
import Derived.RangeFuncCalls
import Derived.RangeFuncLeaves
import Derived.Shelf.Abstract
import Derived.Shelf.RegionOpen
import Derived.WalkKit
import Derived.OwnWalkIn
import Derived.TacticsInMore
import Derived.LoopNIn
import Derived.LoopIn
import Derived.Shelf.SlSortCmp.WholeK
import Derived.WalkSpells
import Derived.WalkLawsBesides
import Derived.Lib.Hide
import Derived.Laws.StructEq
import Derived.Shelf.SlSortCmp.QuietGrown
import Derived.Laws.EntriesVeiled
import Derived.Deep.CutRange
import Derived.RegionTactic
import Derived.Lib.QuietBelow
import Derived.BigQuiet
import Derived.OpenShut
import Derived.Deep.RegionHeld3
import Derived.Deep.QuietTactic
import Derived.Maps.AppendAt
import Derived.Laws.IdiomCopy
import Derived.Deep.AppendLies
import Derived.Deep.LoopGhost
import Derived.Deep.Upon
import Derived.StillTailTactics
import Derived.Lib.SmallJoins
import Derived.Deep.SlicePairs
import Derived.Deep.Strs
import Derived.ChangeOld
import Derived.SizedLaws
import Derived.Lib.SliceRun
import Derived.Laws.CopyRow
import Derived.Below
import Derived.Laws.CopyOwn
import Derived.Deep.RegionLaw
import Derived.IntWalk
import Derived.Test.YtjgcdmeojjnjlaaCE

/- One step of the way down, as the code walks it. -/
namespace Go.Proofs.Ytjgcdmeojjnjlaa.Bb
open Go.Proofs.Ytjgcdmeojjnjlaa.Bo
set_option linter.unusedVariables false
theorem wr_sub : ∀ (xs : List G5) (rs : List (List G5)), xs.length ≤ rs.length → xs.Sublist (wr xs rs)
  | [], rs, _ => List.nil_sublist _
  | x :: xs, [], h => by simp at h
  | x :: xs, r :: rs, h => by
    show (x :: xs).Sublist (x :: (r ++ wr xs rs))
    exact (wr_sub xs rs (by simpa using h)).trans (List.sublist_append_right r _) |>.cons_cons x
theorem ino_sub {f : Int → Option Kn} : ∀ (h : Nat) (t : Bt), RepB f h t → t.s.Sublist (Bt.ino h t)
  | 0, t, _ => List.Sublist.refl _
  | h + 1, t, hr => by
    obtain ⟨_, h2, _⟩ := hr
    unfold Bt.ino
    split
    · exact List.Sublist.refl _
    · next k rest e =>
      refine (wr_sub t.s (rest.map (Bt.ino h)) ?_).trans (List.sublist_append_right _ _)
      rw [e] at h2
      simp only [List.length_cons] at h2
      rw [List.length_map]; omega
theorem Mono.node {f : Int → Option Kn} {fits : G5 → Bool} {h : Nat} {t : Bt} (hm : Mono fits (Bt.ino h t)) (hr : RepB f h t) : Mono fits t.s := List.Pairwise.sublist (ino_sub h t hr) hm
theorem way_step {f : Int → Option Kn} (fits : G5 → Bool) (h : Nat) (t : Bt) (cx : List BF) (hr : RepB f (h + 1) t) (hm : Mono fits (Bt.ino (h + 1) t)) :
    ∃ c r, RepB f h c ∧ Mono fits (Bt.ino h c) ∧ dnB fits (h + 1) t cx = dnB fits h c (⟨t.i, t.s, t.ks.take (fitN fits t.s), r⟩ :: cx) ∧ (t.ks.map Bt.idx).getD (fitN fits t.s) 0 = c.idx ∧ (t.ks.take (fitN fits t.s)).length = fitN fits t.s ∧
      fitN fits t.s < (t.ks.map Bt.idx).length ∧ c ∈ t.ks := by
  obtain ⟨k1, k2, k3⟩ := hr
  have hle := fitN_le fits t.s
  have hlt : fitN fits t.s < t.ks.length := by omega
  have hd : t.ks.drop (fitN fits t.s) = t.ks[fitN fits t.s] :: t.ks.drop (fitN fits t.s + 1) := List.drop_eq_getElem_cons hlt
  have hks : t.ks = t.ks.take (fitN fits t.s) ++ t.ks[fitN fits t.s] :: t.ks.drop (fitN fits t.s + 1) := by rw [← hd, List.take_append_drop]
  have hlen : (t.ks.take (fitN fits t.s)).length = fitN fits t.s := by rw [List.length_take]; omega
  have hyok : (⟨t.i, t.s, t.ks.take (fitN fits t.s), t.ks.drop (fitN fits t.s + 1)⟩ : BF).ok := by
    show t.s.length = (t.ks.take (fitN fits t.s)).length + (t.ks.drop (fitN fits t.s + 1)).length
    rw [hlen, List.length_drop]; omega
  have hino : Bt.ino (h + 1) t = wl ((t.ks.take (fitN fits t.s)).map (Bt.ino h)) (t.s.take (t.ks.take (fitN fits t.s)).length) ++ (Bt.ino h t.ks[fitN fits t.s] ++ wr (t.s.drop (t.ks.take (fitN fits t.s)).length) ((t.ks.drop (fitN fits t.s + 1)).map (Bt.ino h))) := by
    have := Bt.ino_split h t.i (t.ks.take (fitN fits t.s)) t.ks[fitN fits t.s] (t.ks.drop (fitN fits t.s + 1)) t.s hyok
    rw [← hks, Bt.eta] at this
    exact this
  rw [hino] at hm
  refine ⟨t.ks[fitN fits t.s], t.ks.drop (fitN fits t.s + 1), k3 _ (List.getElem_mem _), hm.right.left, ?_, ?_, hlen, by rw [List.length_map]; exact hlt, List.getElem_mem _⟩
  · conv => lhs; unfold dnB
    rw [hd]
  · rw [List.getD_eq_getElem?_getD, List.getElem?_map, List.getElem?_eq_getElem hlt]; rfl
/-- The steps of a way, from the root down: place, and how many segments stand ahead. -/
def rowSt (cx : List BF) : List (Int × Int) := cx.reverse.map fun y => ((y.i : Int), (y.l.length : Int))
def wayRow (fits : G5 → Bool) (w : List BF × Bt) : List (Int × Int) := rowSt w.1 ++ [((w.2.i : Int), (fitN fits w.2.s : Int))]
theorem rowSt_cons (y : BF) (cx : List BF) : rowSt (y :: cx) = rowSt cx ++ [((y.i : Int), (y.l.length : Int))] := by simp [rowSt]
theorem rowSt_len (cx : List BF) : (rowSt cx).length = cx.length := by simp [rowSt]
end Go.Proofs.Ytjgcdmeojjnjlaa.Bb
/- The way down: the walk. -/
namespace Go.Proofs.Ytjgcdmeojjnjlaa
open Go.RowKit Go.Sort Go.Proofs.Ytjgcdmeojjnjlaa.Bo Go.Proofs.Ytjgcdmeojjnjlaa.Bb
set_option linter.unusedVariables false
def flat2 (l : List (Int × Int)) : List Value := l.flatMap fun p => [.int .i64 p.1, .int .i64 p.2]
theorem flat2_append (l m : List (Int × Int)) : flat2 (l ++ m) = flat2 l ++ flat2 m := by unfold flat2; rw [List.flatMap_append]
theorem flat2_one (l : List (Int × Int)) : ∀ u ∈ flat2 l, u.oneCell' = true := by
  intro u hu
  obtain ⟨p, _, hp⟩ := List.mem_flatMap.1 hu
  simp only [List.mem_cons, List.not_mem_nil, or_false] at hp
  rcases hp with rfl | rfl <;> rfl
theorem Try.infoStep : (Try.prog.info? 125).map (fun i => (i.zero, i.size, i.bytes)) = some (some (.agg #[.int .i64 0, .int .i64 0]), 2, 16) := by kernel_rfl
abbrev wfO (fid : Nat) (fc : Value) : Obj := .cells #[.func (.func fid) #[] #[fc]] 72
abbrev nbO (nv : Value) : Obj := .cells #[nv] 89 (0, 0)
/-- Where a walk down is: the row of its steps, the place, the box of the node; k rounds are left at most. -/
def WayInv (w : World) (base : Nat) (f : Int → Option Kn) (fits : G5 → Bool) (fid : Nat) (fc : Value) (H : Nat) (x : Bt) (k : Nat) (wv iv bx : Value) (W : World) : Prop :=
  ∃ (st : List (Int × Int)) (ap : Option Addr) (cap Bn : Nat) (i : Int) (np : Option Addr), wv = .slice ap st.length cap ∧ iv = .int .i64 i ∧ bx = .pointer (some ⟨Bn, 0, none⟩) ∧ W.ownsRow w.heap.size 125 2 (.slice ap st.length cap) st.length (flat2 st) ∧
    W.heap[Bn]? = some (nbO (.pointer np)) ∧ w.heap.size ≤ Bn ∧ Go.RowKit.Below w.heap.size w W ∧ W.heap[w.heap.size]? = some (wfO fid fc) ∧ st.length + k ≤ H + 2 ∧
    ((k = 0 ∧ np = none ∧ st = wayRow fits (dnB fits H x [])) ∨
      ∃ h t' cx, k = h + 1 ∧ RepB f h t' ∧ Mono fits (Bt.ino h t') ∧ dnB fits h t' cx = dnB fits H x [] ∧ i = t'.idx ∧ NdPt w base (.pointer np) ⟨t'.s, t'.ks.map Bt.idx⟩ ∧ st = rowSt cx)
end Go.Proofs.Ytjgcdmeojjnjlaa
/- slices.Backward: a row gone through from its end. -/
namespace Go.Proofs.Ytjgcdmeojjnjlaa
open Go.RowKit Go.Sort Go.Shelf Go.Proofs.Ytjgcdmeojjnjlaa.Bo Go.Proofs.Ytjgcdmeojjnjlaa.Bb Go.Proofs.Ytjgcdmeojjnjlaa.Rf
set_option linter.unusedVariables false
set_option maxRecDepth 100000
attribute [local go_sem] Oper.semAt_some
/-- The blocks Q lie as they lay. -/
def kpQ (Q : Nat → Prop) (W W' : World) : Prop := ∀ b, Q b → W'.heap[b]? = W.heap[b]?
theorem kpQ.trans {Q : Nat → Prop} {X Y Z : World} (h : kpQ Q X Y) (k : kpQ Q Y Z) : kpQ Q X Z := fun b hb => (k b hb).trans (h b hb)
theorem kpQ_b {Q : Nat → Prop} {w : World} (hQ : ∀ b, Q b → b < w.heap.size) (W : World) (k : Nat) (o o' : Obj) (hk : w.heap.size ≤ k) (_ : W.heap[k]? = some o) (_ : o.isCells = false) (_ : o.isWalk = false) : kpQ Q W (W.putObj k o') :=
  fun b hb => World.putObj_heap_other (by have := hQ b hb; omega)
theorem own_kpQ {W W' : World} {base : Nat} {e : TypeId} {size : Nat} {v : Value} {n : Nat} {xs : List Value} (h : W.ownsRow base e size v n xs) (hk : ∀ b, v.ownBlock = some b → W'.heap[b]? = W.heap[b]?) : W'.ownsRow base e size v n xs := by
  rcases h with ⟨h1, h2 | ⟨g, cap, cur, hv, h3, h4, h5⟩⟩
  · exact ⟨h1, .inl h2⟩
  · exact ⟨h1, .inr ⟨g, cap, cur, hv, h3, (hk g (by rw [hv]; rfl)).trans h4, h5⟩⟩
theorem flat2_get : ∀ (l : List (Int × Int)) (k : Nat) (hk : k < l.length), (flat2 l)[k * 2]? = some (.int .i64 l[k].1) ∧ (flat2 l)[k * 2 + 1]? = some (.int .i64 l[k].2)
  | [], k, h => by simp at h
  | p :: t, 0, _ => ⟨rfl, rfl⟩
  | p :: t, k + 1, h => by
    have e1 : (k + 1) * 2 = k * 2 + 1 + 1 := by omega
    rw [e1]
    show ((.int .i64 p.1 :: .int .i64 p.2 :: flat2 t : List Value)[k * 2 + 1 + 1]? = _) ∧ ((.int .i64 p.1 :: .int .i64 p.2 :: flat2 t : List Value)[k * 2 + 1 + 1 + 1]? = _)
    simp only [List.getElem?_cons_succ, List.getElem_cons_succ]
    exact flat2_get t k (by simpa using h)
theorem own_at2 {W : World} {base : Nat} {a : Option Addr} {cap n : Nat} {l : List (Int × Int)} (h : W.ownsRow base 125 2 (.slice a n cap) n (flat2 l)) (hn : n = l.length) (k : Nat) (hk : k < n) :
    ∃ g, a = some ⟨g, 0, none⟩ ∧ W.cell? ⟨g, k * 2, none⟩ = some (.int .i64 (l[k]'(by omega)).1) ∧ W.cell? ⟨g, k * 2 + 1, none⟩ = some (.int .i64 (l[k]'(by omega)).2) := by
  rcases h.2 with ⟨h1, h2⟩ | ⟨g, cap', cur, h1, hb, hh, hnc, hcm, hcs, htake⟩
  · omega
  · injection h1 with e1 e2 e3
    subst e1
    obtain ⟨q1, q2⟩ := flat2_get l k (by omega)
    refine ⟨g, rfl, ?_, ?_⟩
    · rw [cell_of_row _ _ (k * 2) cur _ _ hh]
      rw [← htake, List.getElem?_take] at q1
      rw [if_pos (by omega)] at q1
      simpa using q1
    · rw [cell_of_row _ _ (k * 2 + 1) cur _ _ hh]
      rw [← htake, List.getElem?_take] at q2
      rw [if_pos (by omega)] at q2
      simpa using q2
theorem bback_any (ap : Option Addr) (n cap : Nat) (w : World) : Calls Try.prog 79 #[.slice ap n cap] w fun e w' => e = .returned (.func (.func 98) #[] #[.pointer (some ⟨w.heap.size, 0, none⟩)]) ∧ w.alloc (.cells #[.slice ap n cap] 95) = w' := by
  go_enter Try.func79, Try.ntmps79
  go_wp2_with fail
  go_ret
  exact ⟨rfl, rfl⟩
set_option maxHeartbeats 2000000 in
theorem bback_seq (Bn : Nat) (ap : Option Addr) (cap base : Nat) (xs : List (Int × Int)) (Q : Nat → Prop) (w : World) (hB : w.heap[Bn]? = some (.cells #[.slice ap xs.length cap] 95 (0, 0)))
    (ho : w.ownsRow base 125 2 (.slice ap xs.length cap) xs.length (flat2 xs)) (hQB : Q Bn) (hQ : ∀ b, (Value.slice ap xs.length cap).ownBlock = some b → Q b) (hN : xs.length ≤ 1000000) :
    SeqN Try.prog 98 #[.pointer (some ⟨Bn, 0, none⟩)] (fun j => #[.int .i64 ((xs.length - 1 - j : Nat) : Int), .agg #[.int .i64 (xs.getD (xs.length - 1 - j) (0, 0)).1, .int .i64 (xs.getD (xs.length - 1 - j) (0, 0)).2]]) (kpQ Q) xs.length w := by
  intro n l J Jx W hW hJ hY h0
  have HB := Lib.hid (box_on hB hW)
  have HO := Lib.hid (own_on ho hW)
  have HQB := Lib.hid hQB
  have HQ := Lib.hid hQ
  have HY := Lib.hid hY
  have HJ := Lib.hid hJ
  clear hB ho hQB hQ hY hW hJ
  obtain ⟨N, HNx⟩ : ∃ N, Hid (N = xs.length) := ⟨_, rfl⟩
  rw [← HNx.out] at HB HO HQ HY ⊢
  rw [← HNx.out] at hN
  have c0 : W.cell? ⟨Bn, 0, none⟩ = some (.slice ap N cap) := (cell_of_row _ _ 0 _ _ _ HB.out).trans rfl
  refine callsIn_of_wp Try.func98 rfl trivial ?_ rfl
  simp only [Try.ntmps98, List.size_toArray, List.length_cons, List.length_nil, Nat.reduceAdd, Nat.reduceSub, Array.replicate_succ, Array.replicate_zero, List.push_toArray, List.append_toArray, List.nil_append, List.cons_append]
  have i0 : IntKind.i64.wrap ((N : Int) - 1) = (N : Int) - 1 := IntWalk.i64_in _ (by omega)
  gi_wp2
  clear c0 i0
  gi_loopw [3] (fun i wr => ∃ j : Nat, j ≤ N ∧ i = .int .i64 ((N : Int) - 1 - j) ∧ J j wr ∧ kpQ Q W wr) (fun i _ => (intOf i + 1).toNat)
  case atStart => exact ⟨0, Nat.zero_le _, by simp, h0, fun _ _ => rfl⟩
  case round =>
    obtain ⟨j, hj, rfl, hJs, hkp⟩ := hrel
    have HJS := Lib.hid hJs
    have HK := Lib.hid hkp
    have c0 : wr.cell? ⟨Bn, 0, none⟩ = some (.slice ap N cap) := (cell_of_row _ _ 0 _ _ _ ((hkp Bn HQB.out).trans HB.out)).trans rfl
    clear hJs hkp
    by_cases hlt : j < N
    · obtain ⟨k, HKJ⟩ : ∃ k : Nat, Hid (k = N - 1 - j) := ⟨_, rfl⟩
      have hkN : k < N := by have := HKJ.out; omega
      have e1 : (N : Int) - 1 - j = (k : Int) := by have := HKJ.out; omega
      have HOW : Hid (wr.ownsRow base 125 2 (.slice ap N cap) N (flat2 xs)) := own_kpQ HO.out (fun b hb => HK.out b (HQ.out b hb))
      obtain ⟨gb, rfl, hx1, hx2⟩ := own_at2 HOW.out HNx.out k hkN
      have e2 : xs.length = N := HNx.out.symm
      have e3 : xs.getD k (0, 0) = xs[k]'(by rw [← HNx.out]; exact hkN) := by rw [List.getD_eq_getElem?_getD, List.getElem?_eq_getElem (by rw [← HNx.out]; exact hkN)]; rfl
      generalize xs[k]'(by rw [← HNx.out]; exact hkN) = x at *
      obtain ⟨fn, tmps, assign, body, hy, hR⟩ := HY.out (n - 1) j wr hlt HJS.out
      rw [← HKJ.out, e3] at hy
      rw [e1]
      have i1 : IntKind.i64.wrap ((k : Int) - 1) = (k : Int) - 1 := IntWalk.i64_in _ (by omega)
      have t1 : (0 : Int) ≤ (k : Int) := by omega
      have t2 : (k : Int) < (N : Int) := by omega
      clear e1 e3
      gi_wp2
      refine ⟨fun h => (by cases h), ?_⟩
      refine hR.mono ?_
      rintro e W3 (⟨rfl, hJ3, hk3⟩ | ⟨rfl, hJx3⟩)
      · clear c0 hx1 hx2
        gi_wp2
        go_roundw
        case rel => exact ⟨j + 1, by omega, by have := HKJ.out; congr 1 <;> omega, hJ3, HK.out.trans hk3⟩
        case measure => have := HKJ.out; simp [intOf] <;> omega
      · gi_wp2
        refine bodyPost_ret (results_none rfl _ _ _) rfl ?_
        exact ⟨⟨_, rfl⟩, .inr ⟨j + 1, by omega, hJx3⟩⟩
    · obtain rfl : j = N := by omega
      have e1 : (j : Int) - 1 - j = -1 := by omega
      rw [e1]
      have t1 : ¬ (0 : Int) ≤ -1 := by omega
      gi_wp2
      go_end0
      exact ⟨⟨_, rfl⟩, .inl HJS.out⟩
theorem sback_any (ap : Option Addr) (n cap : Nat) (w : World) : Calls Try.prog 87 #[.slice ap n cap] w fun e w' => e = .returned (.func (.func 101) #[] #[.pointer (some ⟨w.heap.size, 0, none⟩)]) ∧ w.alloc (.cells #[.slice ap n cap] 32) = w' := by
  go_enter Try.func87, Try.ntmps87
  go_wp2_with fail
  go_ret
  exact ⟨rfl, rfl⟩
set_option maxHeartbeats 2000000 in
theorem sback_seq (Bn : Nat) (ap : Option Addr) (cap base : Nat) (xs : List G5) (Q : Nat → Prop) (w : World) (hB : w.heap[Bn]? = some (.cells #[.slice ap xs.length cap] 32 (0, 0)))
    (ho : w.ownsRow base 38 5 (.slice ap xs.length cap) xs.length (flatG xs)) (hQB : Q Bn) (hQ : ∀ b, (Value.slice ap xs.length cap).ownBlock = some b → Q b) (hN : xs.length ≤ 1000000) :
    SeqN Try.prog 101 #[.pointer (some ⟨Bn, 0, none⟩)] (fun j => #[.int .i64 ((xs.length - 1 - j : Nat) : Int), vG (xs.getD (xs.length - 1 - j) Bo.g0)]) (kpQ Q) xs.length w := by
  intro n l J Jx W hW hJ hY h0
  have HB := Lib.hid (box_on hB hW)
  have HO := Lib.hid (own_on ho hW)
  have HQB := Lib.hid hQB
  have HQ := Lib.hid hQ
  have HY := Lib.hid hY
  have HJ := Lib.hid hJ
  clear hB ho hQB hQ hY hW hJ
  obtain ⟨N, HNx⟩ : ∃ N, Hid (N = xs.length) := ⟨_, rfl⟩
  rw [← HNx.out] at HB HO HQ HY ⊢
  rw [← HNx.out] at hN
  have c0 : W.cell? ⟨Bn, 0, none⟩ = some (.slice ap N cap) := (cell_of_row _ _ 0 _ _ _ HB.out).trans rfl
  refine callsIn_of_wp Try.func101 rfl trivial ?_ rfl
  simp only [Try.ntmps101, List.size_toArray, List.length_cons, List.length_nil, Nat.reduceAdd, Nat.reduceSub, Array.replicate_succ, Array.replicate_zero, List.push_toArray, List.append_toArray, List.nil_append, List.cons_append]
  have i0 : IntKind.i64.wrap ((N : Int) - 1) = (N : Int) - 1 := IntWalk.i64_in _ (by omega)
  gi_wp2
  clear c0 i0
  gi_loopw [3] (fun i wr => ∃ j : Nat, j ≤ N ∧ i = .int .i64 ((N : Int) - 1 - j) ∧ J j wr ∧ kpQ Q W wr) (fun i _ => (intOf i + 1).toNat)
  case atStart => exact ⟨0, Nat.zero_le _, by simp, h0, fun _ _ => rfl⟩
  case round =>
    obtain ⟨j, hj, rfl, hJs, hkp⟩ := hrel
    have HJS := Lib.hid hJs
    have HK := Lib.hid hkp
    have c0 : wr.cell? ⟨Bn, 0, none⟩ = some (.slice ap N cap) := (cell_of_row _ _ 0 _ _ _ ((hkp Bn HQB.out).trans HB.out)).trans rfl
    clear hJs hkp
    by_cases hlt : j < N
    · obtain ⟨k, HKJ⟩ : ∃ k : Nat, Hid (k = N - 1 - j) := ⟨_, rfl⟩
      have hkN : k < N := by have := HKJ.out; omega
      have e1 : (N : Int) - 1 - j = (k : Int) := by have := HKJ.out; omega
      have HOW : Hid (wr.ownsRow base 38 5 (.slice ap N cap) N (flatG xs)) := own_kpQ HO.out (fun b hb => HK.out b (HQ.out b hb))
      obtain ⟨gb, rfl, _, ⟨hx1, hx2, hx3, hx4, hx5⟩, _⟩ := own_atG HOW.out HNx.out k hkN
      have e2 : xs.length = N := HNx.out.symm
      have e3 : xs.getD k Bo.g0 = xs[k]'(by rw [← HNx.out]; exact hkN) := by rw [List.getD_eq_getElem?_getD, List.getElem?_eq_getElem (by rw [← HNx.out]; exact hkN)]; rfl
      generalize xs[k]'(by rw [← HNx.out]; exact hkN) = x at *
      obtain ⟨fn, tmps, assign, body, hy, hR⟩ := HY.out (n - 1) j wr hlt HJS.out
      rw [← HKJ.out, e3] at hy
      rw [e1]
      have i1 : IntKind.i64.wrap ((k : Int) - 1) = (k : Int) - 1 := IntWalk.i64_in _ (by omega)
      have t1 : (0 : Int) ≤ (k : Int) := by omega
      have t2 : (k : Int) < (N : Int) := by omega
      clear e1 e3
      gi_wp2
      refine ⟨fun h => (by cases h), ?_⟩
      refine hR.mono ?_
      rintro e W3 (⟨rfl, hJ3, hk3⟩ | ⟨rfl, hJx3⟩)
      · clear c0 hx1 hx2 hx3 hx4 hx5
        gi_wp2
        go_roundw
        case rel => exact ⟨j + 1, by omega, by have := HKJ.out; congr 1 <;> omega, hJ3, HK.out.trans hk3⟩
        case measure => have := HKJ.out; simp [intOf] <;> omega
      · gi_wp2
        refine bodyPost_ret (results_none rfl _ _ _) rfl ?_
        exact ⟨⟨_, rfl⟩, .inr ⟨j + 1, by omega, hJx3⟩⟩
    · obtain rfl : j = N := by omega
      have e1 : (j : Int) - 1 - j = -1 := by omega
      rw [e1]
      have t1 : ¬ (0 : Int) ≤ -1 := by omega
      gi_wp2
      go_end0
      exact ⟨⟨_, rfl⟩, .inl HJS.out⟩
end Go.Proofs.Ytjgcdmeojjnjlaa
/- The way down: the walk. -/
namespace Go.Proofs.Ytjgcdmeojjnjlaa
open Go.RowKit Go.Sort Go.Proofs.Ytjgcdmeojjnjlaa.Bo Go.Proofs.Ytjgcdmeojjnjlaa.Bb
set_option linter.unusedVariables false
set_option maxRecDepth 100000 in
set_option maxHeartbeats 4000000 in
theorem bway_core {w : World} {base T A : Nat} {t : Bx} {a : Ag Rn} {S0 : Nat → Prop} (h : BtW w base T A t a S0) (fits : G5 → Bool) (fid : Nat) (eg : ∀ args w, (callFunc fid args).run Try.prog w = .ok (.enter fid args) w) (fc : Value) (H : Nat) (x : Bt)
    (hH : H ≤ 1000000) (hx : RepB t.f H x) (hroot : t.root = x.idx) (hm : Mono fits (Bt.ino H x)) (hlen : ∀ p n, t.f p = some n → n.segs.length ≤ 100000) (hnone : t.f (-1) = none)
    (HF : ∀ p n, t.f p = some n → ∀ y ∈ n.segs, ∀ W, Go.RowKit.Below w.heap.size w W → Calls Try.prog fid #[.agg #[.int .i64 y.ls, .int .i64 y.la], fc] W fun e w' => e = .returned (.bool (fits y)) ∧ Go.RowKit.Below W.heap.size W w') :
    Calls Try.prog 54 #[aP T, .func (.func fid) #[] #[fc]] w fun e w' => ∃ ap cap, (e = .returned (.slice ap (wayRow fits (dnB fits H x [])).length cap) ∧ w'.ownsRow w.heap.size 125 2 (.slice ap (wayRow fits (dnB fits H x [])).length cap) (wayRow fits (dnB fits H x [])).length (flat2 (wayRow fits (dnB fits H x [])))) ∧ Go.RowKit.Below w.heap.size w w' := by
  have mx := mixed
  obtain ⟨i0, hi0, hz0, hz1, hz2⟩ := info_parts Try.infoStep
  have HH := Lib.hid h
  have HX0 : Hid ((w.alloc (wfO fid fc)).heap[w.heap.size]? = some (wfO fid fc)) := heap_alloc_new _ _
  have hB0 := below_new w (wfO fid fc)
  have hT0 : (w.alloc (wfO fid fc)).heap[T]? = some (bO A t) := box_on h.top hB0
  have c1 : (w.alloc (wfO fid fc)).cell? ⟨T, 1, none⟩ = some (aP A) := (cell_of_row _ _ 1 _ _ _ hT0).trans rfl
  have c2 : (w.alloc (wfO fid fc)).cell? ⟨T, 2, none⟩ = some (.int .i64 t.root) := (cell_of_row _ _ 2 _ _ _ hT0).trans rfl
  go_enter Try.func54, Try.ntmps54
  go_upto_region 2 with fail
  generalize w.alloc (wfO fid fc) = X at *
  go_wp2_with fail
  have hxf := hx.node
  obtain ⟨np, hnv, hat⟩ := bat_node HH.out x.i _ hxf
  have hAt : Calls Try.prog 50 #[aP A, .int .i64 x.idx] X fun e w' => e = .returned (.pointer np) ∧ X = w' := hat X hB0
  refine hAt.mono ?_
  rintro e w' ⟨rfl, rfl⟩
  clear hat hAt c1 c2 hT0 hxf hroot
  have HB0 := Lib.hid hB0
  have HNV := Lib.hid hnv
  have HNB : Hid ((X.alloc (nbO (.pointer np))).heap[X.heap.size]? = some (nbO (.pointer np))) := heap_alloc_new _ _
  clear hnv
  go_wp2_with fail
  go_loopg [5, 6, 7] (H + 1) (fun k wv iv bx wr => WayInv w base t.f fits fid fc H x k wv iv bx wr)
  case atStart => exact ⟨[], none, 0, X.heap.size, x.idx, np, rfl, rfl, rfl, World.ownsRow_nil _ _ _ _, HNB.out, HB0.out.size, bt HB0.out (below_new _ _), box_on HX0.out (below_new _ _), by simp, .inr ⟨H, x, [], rfl, hx, hm, rfl, rfl, HNV.out, rfl⟩⟩
  case round =>
    obtain ⟨st, ap, cap, Bn, i, mp, rfl, rfl, rfl, ho, hbn, hle, hbel, hfb, hst, hcase⟩ := hrel
    have c7 : wr.cell? ⟨Bn, 0, none⟩ = some (.pointer mp) := (cell_of_row _ _ 0 _ _ _ hbn).trans rfl
    have HO := Lib.hid ho
    have HBN := Lib.hid hbn
    have HBEL := Lib.hid hbel
    have HFB := Lib.hid hfb
    clear ho hbn hbel hfb
    rcases hcase with ⟨hk0, rfl, hst2⟩ | ⟨h', t', cx, hk0, hr', hm', hdn, hi', hnp, hst2⟩
    · have HST := Lib.hid hst2
      clear hst2 hk0
      go_wp2_with fail
      go_ret
      rw [← HST.out]
      exact ⟨ap, cap, ⟨rfl, HO.out⟩, HBEL.out⟩
    · have HR' := Lib.hid hr'
      have HM' := Lib.hid hm'
      have HDN := Lib.hid hdn
      have HNP := Lib.hid hnp
      have HST := Lib.hid hst2
      have HI := Lib.hid hi'
      have HK := Lib.hid hk0
      have hnpw := hnp.below HBEL.out
      have hnode := hr'.node
      have c3 : wr.cell? ⟨w.heap.size, 0, none⟩ = some (.func (.func fid) #[] #[fc]) := (cell_of_row _ _ 0 _ _ _ HFB.out).trans rfl
      have HFI := Lib.hid (bfit_any fid eg fc (.pointer mp) w.heap.size Bn base ⟨t'.s, t'.ks.map Bt.idx⟩ fits wr c3 c7 hnpw (by have := hlen _ _ hnode; omega) (hm'.node hr') (fun y hy W hW => HF _ _ hnode y hy W (bt HBEL.out hW)))
      obtain ⟨np2, HAT2, HCASE⟩ : ∃ np2, (∀ W, Go.RowKit.Below w.heap.size w W → Calls Try.prog 50 #[aP A, .int .i64 (kidV ⟨t'.s, t'.ks.map Bt.idx⟩ (fitN fits t'.s))] W fun e w' => e = .returned (.pointer np2) ∧ W = w') ∧
          ((np2 = none ∧ h' = 0 ∧ st ++ [(i, (fitN fits t'.s : Int))] = wayRow fits (dnB fits H x [])) ∨ ∃ h2 c cx2, h' = h2 + 1 ∧ RepB t.f h2 c ∧ Mono fits (Bt.ino h2 c) ∧ dnB fits h2 c cx2 = dnB fits H x [] ∧ kidV ⟨t'.s, t'.ks.map Bt.idx⟩ (fitN fits t'.s) = c.idx ∧ NdPt w base (.pointer np2) ⟨c.s, c.ks.map Bt.idx⟩ ∧ st ++ [(i, (fitN fits t'.s : Int))] = rowSt cx2) := by
        cases h' with
        | zero =>
          have hk0 : t'.ks = [] := hr'.2
          have e1 : kidV ⟨t'.s, t'.ks.map Bt.idx⟩ (fitN fits t'.s) = -1 := by rw [hk0]; rfl
          refine ⟨none, fun W hW => ?_, .inl ⟨rfl, rfl, ?_⟩⟩
          · rw [e1]; exact bat_none (HH.out.kp (U := fun b => ¬ b < w.heap.size) ⟨hW.os, hW.tape, hW.output, hW.size, fun k hk _ => hW.block k hk⟩ (fun b hb hn => hn ((BtIs.lt ⟨_, _, rfl, HH.out⟩ b hb).2))) (-1) hnone
          · rw [← hdn, hst2, hi']; rfl
        | succ h2 =>
          obtain ⟨c, r, k1, k2, k3, k4, k5, k6, k7⟩ := way_step fits h2 t' cx hr' hm'
          obtain ⟨np2, m1, m2⟩ := bat_node HH.out c.i _ k1.node
          have e1 : kidV ⟨t'.s, t'.ks.map Bt.idx⟩ (fitN fits t'.s) = c.idx := by
            unfold kidV
            rw [if_neg (by show ¬ (t'.ks.map Bt.idx).length = 0; omega)]
            exact k4
          refine ⟨np2, fun W hW => ?_, .inr ⟨h2, c, _, rfl, k1, k2, k3.symm.trans hdn, e1, m1, ?_⟩⟩
          · rw [e1]; exact m2 W hW
          · rw [rowSt_cons, k5, hst2, hi']; rfl
      have HAT2 := Lib.hid HAT2
      have HCASE := Lib.hid HCASE
      have HKL : Hid ((⟨t'.s, t'.ks.map Bt.idx⟩ : Kn).kids.length ≠ 0 → fitN fits t'.s < (⟨t'.s, t'.ks.map Bt.idx⟩ : Kn).kids.length) := by
        intro hne
        cases h' with
        | zero => exact absurd (by rw [hr'.2]; rfl) hne
        | succ h2 => obtain ⟨c, r, k1, k2, k3, k4, k5, k6, k7⟩ := way_step fits h2 t' cx hr' hm'; exact k6
      obtain ⟨g, p, r, e, q1, q2, q3⟩ := hnpw
      obtain rfl : mp = some ⟨g, p, none⟩ := by injection e
      have hnum := q3.nums.1
      have hsm : st.length ≤ 1000002 := by omega
      rw [show r.s.v = .slice r.s.a t'.s.length r.s.c by rw [← hnum]] at q1
      clear hr' hm' hdn hst2 hi' hk0 q3 hnum e hnode hlen hnone HF c3 hnp
      go_wp2_with fail
      refine HFI.out.mono ?_
      rintro e y1 ⟨rfl, hb1⟩
      have HY1 := Lib.hid (bt HBEL.out hb1)
      have HOY := Lib.hid (own_on HO.out hb1)
      have HBY := Lib.hid (box_on HBN.out hb1)
      have HFY := Lib.hid (box_on HFB.out hb1)
      clear hb1 q1 q2 c7
      generalize fitN fits t'.s = J at *
      have HS1 : Hid ((y1.alloc (.cells #[.int .i64 i, .int .i64 (J : Int)] 125)).heap[y1.heap.size]? = some (.cells #[.int .i64 i, .int .i64 (J : Int)] 125)) := heap_alloc_new _ _
      have HLS := Lib.hid (Bs.Lies.of_own (w := y1.alloc (.cells #[.int .i64 i, .int .i64 (J : Int)] 125)) (base := 0) (e := 125) (size := 2) (a := some ⟨y1.heap.size, 0, none⟩) (n := 1) (cap := 1) (xs := flat2 [(i, (J : Int))]) ⟨rfl, .inr ⟨y1.heap.size, 1, _, rfl, Nat.zero_le _, HS1.out, Nat.le_refl _, by decide, rfl, rfl⟩⟩)
      have HO1 := Lib.hid (HOY.out.alloc (.cells #[.int .i64 i, .int .i64 (J : Int)] 125))
      have HB1 : Hid (Go.RowKit.Below w.heap.size w (y1.alloc (.cells #[.int .i64 i, .int .i64 (J : Int)] 125))) := bt HY1.out (below_new _ _)
      have HSZ : Hid (w.heap.size ≤ (y1.alloc (.cells #[.int .i64 i, .int .i64 (J : Int)] 125)).heap.size) := HB1.out.size
      have HBY1 := Lib.hid (box_on HBY.out (below_new y1 (.cells #[.int .i64 i, .int .i64 (J : Int)] 125)))
      have HFY1 := Lib.hid (box_on HFY.out (below_new y1 (.cells #[.int .i64 i, .int .i64 (J : Int)] 125)))
      go_upto_region 8 with (at_builtin; refine Bs.wpList_append_row _ rfl _ _ 95 rfl w.heap.size 125 i0 _ 2 16 Try.underlying95 hi0 hz0 hz1 hz2 rfl (by omega) _ st.length (flat2 st) (by rfl) HO1.out (some ⟨y1.heap.size, 0, none⟩) 1 1 (flat2 [(i, (J : Int))]) (by rfl) rfl HLS.out (flat2_one _) (by simp only [maxLen]; omega) (by omega) HSZ.out ?_; intro a2 cap2 w2 hown2 hgrow2 hat2)
      have HB2 : Hid (Go.RowKit.Below w.heap.size w w2) := HB1.out.grown hgrow2 HSZ.out (fun k hk => (HO1.out.lt k hk).1)
      have HBX : Hid (w2.heap[Bn]? = some (nbO (.pointer (some ⟨g, p, none⟩)))) := by
        show _ = _
        rw [hgrow2.block Bn (lt_of_block HBY1.out) (fun e => by
          obtain ⟨cur, hc⟩ := own_type HO1.out e.symm
          rw [HBY1.out] at hc
          revert hc
          simp)]
        exact HBY1.out
      have HFX : Hid (w2.heap[w.heap.size]? = some (wfO fid fc)) := by
        show _ = _
        rw [hgrow2.block w.heap.size (lt_of_block HFY1.out) (fun e => by
          obtain ⟨cur, hc⟩ := own_type HO1.out e.symm
          rw [HFY1.out] at hc
          revert hc
          simp)]
        exact HFY1.out
      have HO2 : Hid (w2.ownsRow w.heap.size 125 2 (.slice a2 (st.length + 1) cap2) (st.length + 1) (flat2 (st ++ [(i, (J : Int))]))) := by
        show World.ownsRow _ _ _ _ _ _ _
        rw [flat2_append]; exact hown2
      have c7 : w2.cell? ⟨Bn, 0, none⟩ = some (.pointer (some ⟨g, p, none⟩)) := (cell_of_row _ _ 0 _ _ _ HBX.out).trans rfl
      have HKID := Lib.hid (bkid_any (HNP.out.below HB2.out) J HKL.out)
      clear hown2 hgrow2 hat2
      generalize kidV ⟨t'.s, t'.ks.map Bt.idx⟩ J = kv at *
      go_wp2_with fail
      refine HKID.out.mono ?_
      rintro e y ⟨rfl, rfl⟩
      have HB3 : Hid (Go.RowKit.Below w.heap.size w (w2.alloc (nbO (.pointer (some ⟨g, p, none⟩))))) := bt HB2.out (below_new _ _)
      have HT3 : Hid ((w2.alloc (nbO (.pointer (some ⟨g, p, none⟩)))).heap[T]? = some (bO A t)) := box_on HH.out.top HB3.out
      have d1 : (w2.alloc (nbO (.pointer (some ⟨g, p, none⟩)))).cell? ⟨T, 1, none⟩ = some (aP A) := (cell_of_row _ _ 1 _ _ _ HT3.out).trans rfl
      have HN3 : Hid ((w2.alloc (nbO (.pointer (some ⟨g, p, none⟩)))).heap[w2.heap.size]? = some (nbO (.pointer (some ⟨g, p, none⟩)))) := heap_alloc_new _ _
      have d2 : (w2.alloc (nbO (.pointer (some ⟨g, p, none⟩)))).cell? ⟨w2.heap.size, 0, none⟩ = some (.pointer (some ⟨g, p, none⟩)) := (cell_of_row _ _ 0 _ _ _ HN3.out).trans rfl
      have d3 : (w2.alloc (nbO (.pointer (some ⟨g, p, none⟩)))).frozen? ⟨w2.heap.size, 0, none⟩ = false := frozen_of_row _ _ _ _ _ HN3.out
      go_wp2_with fail
      refine (HAT2.out _ HB3.out).mono ?_
      rintro e y ⟨rfl, rfl⟩
      go_wp2_with fail
      have el : (st ++ [(i, (J : Int))]).length = st.length + 1 := by simp
      go_roundg h'
      case measure => have := HK.out; omega
      case rel =>
        refine ⟨st ++ [(i, (J : Int))], a2, cap2, w2.heap.size, kv, np2, by rw [el], rfl, rfl, ?_, heap_alloc_new _ _, HB2.out.size, bt HB2.out (below_new _ _), box_on HFX.out (below_new _ _), ?_, ?_⟩
        · rw [el]; exact HO2.out.alloc _
        · rw [el]; have := HK.out; omega
        · rcases HCASE.out with ⟨e1, e2, e3⟩ | ⟨h2, c, cx2, e1, e2, e3, e4, e5, e6, e7⟩
          · exact .inl ⟨e2, e1, e3⟩
          · exact .inr ⟨h2, c, cx2, e1, e2, e3, e4, e5, e6, e7⟩
end Go.Proofs.Ytjgcdmeojjnjlaa
/- The ways of the two questions. -/
namespace Go.Proofs.Ytjgcdmeojjnjlaa
open Go.RowKit Go.Sort Go.Proofs.Ytjgcdmeojjnjlaa.Bo Go.Proofs.Ytjgcdmeojjnjlaa.Bb
set_option linter.unusedVariables false
theorem BtW.noneg {w : World} {base T A : Nat} {t : Bx} {a : Ag Rn} {S0 : Nat → Prop} (h : BtW w base T A t a S0) : t.f (-1) = none := by
  cases e : t.f (-1) with
  | none => rfl
  | some n =>
    have := (h.is (-1)).2 (by rw [e]; simp)
    have := (a.is_in (-1) h.ok this).1
    omega
theorem bbelow_any (s a : Int) (w : World) : Calls Try.prog 56 #[.agg #[.int .i64 s, .int .i64 a]] w fun e w' => e = .returned (.func (.func 84) #[] #[.pointer (some ⟨w.heap.size, 0, none⟩)]) ∧ w.alloc (.cells #[.int .i64 s, .int .i64 a] 34) = w' := by
  go_enter Try.func56, Try.ntmps56
  go_wp2_with fail
  go_ret
  exact ⟨rfl, rfl⟩
theorem bnotAbove_any (s a : Int) (w : World) : Calls Try.prog 55 #[.agg #[.int .i64 s, .int .i64 a]] w fun e w' => e = .returned (.func (.func 82) #[] #[.pointer (some ⟨w.heap.size, 0, none⟩)]) ∧ w.alloc (.cells #[.int .i64 s, .int .i64 a] 34) = w' := by
  go_enter Try.func55, Try.ntmps55
  go_wp2_with fail
  go_ret
  exact ⟨rfl, rfl⟩
set_option maxRecDepth 100000 in
/-- The way of a question: below. c: the box of its cut. -/
theorem bway_lt {w : World} {base T A : Nat} {t : Bx} {a : Ag Rn} {S0 : Nat → Prop} (h : BtW w base T A t a S0) (c : Nat) (s x : Int) (hx64 : I64 x) (hc : w.heap[c]? = some (.cells #[.int .i64 s, .int .i64 x] 34)) (H : Nat) (r : Bt)
    (hH : H ≤ 1000000) (hx : RepB t.f H r) (hroot : t.root = r.idx) (hm : Mono (fun y : G5 => decide (key y.ls y.la < key s x)) (Bt.ino H r)) (hlen : ∀ p n, t.f p = some n → n.segs.length ≤ 100000) (hok : ∀ p n, t.f p = some n → ∀ y ∈ n.segs, I64 y.la) :
    Calls Try.prog 54 #[aP T, .func (.func 84) #[] #[.pointer (some ⟨c, 0, none⟩)]] w fun e w' => ∃ ap cap, (e = .returned (.slice ap (wayRow (fun y : G5 => decide (key y.ls y.la < key s x)) (dnB (fun y : G5 => decide (key y.ls y.la < key s x)) H r [])).length cap) ∧
      w'.ownsRow w.heap.size 125 2 (.slice ap (wayRow (fun y : G5 => decide (key y.ls y.la < key s x)) (dnB (fun y : G5 => decide (key y.ls y.la < key s x)) H r [])).length cap) (wayRow (fun y : G5 => decide (key y.ls y.la < key s x)) (dnB (fun y : G5 => decide (key y.ls y.la < key s x)) H r [])).length (flat2 (wayRow (fun y : G5 => decide (key y.ls y.la < key s x)) (dnB (fun y : G5 => decide (key y.ls y.la < key s x)) H r [])))) ∧ Go.RowKit.Below w.heap.size w w' :=
  bway_core h _ 84 (fun _ _ => rfl) _ H r hH hx hroot hm hlen h.noneg (fun p n hp y hy W hW => bfit_lt c s x y.ls y.la W hx64 (hok p n hp y hy) (box_on hc hW))
set_option maxRecDepth 100000 in
/-- The way of a question: notAbove. c: the box of its cut. -/
theorem bway_le {w : World} {base T A : Nat} {t : Bx} {a : Ag Rn} {S0 : Nat → Prop} (h : BtW w base T A t a S0) (c : Nat) (s x : Int) (hx64 : I64 x) (hc : w.heap[c]? = some (.cells #[.int .i64 s, .int .i64 x] 34)) (H : Nat) (r : Bt)
    (hH : H ≤ 1000000) (hx : RepB t.f H r) (hroot : t.root = r.idx) (hm : Mono (fun y : G5 => decide (key y.ls y.la ≤ key s x)) (Bt.ino H r)) (hlen : ∀ p n, t.f p = some n → n.segs.length ≤ 100000) (hok : ∀ p n, t.f p = some n → ∀ y ∈ n.segs, I64 y.la) :
    Calls Try.prog 54 #[aP T, .func (.func 82) #[] #[.pointer (some ⟨c, 0, none⟩)]] w fun e w' => ∃ ap cap, (e = .returned (.slice ap (wayRow (fun y : G5 => decide (key y.ls y.la ≤ key s x)) (dnB (fun y : G5 => decide (key y.ls y.la ≤ key s x)) H r [])).length cap) ∧
      w'.ownsRow w.heap.size 125 2 (.slice ap (wayRow (fun y : G5 => decide (key y.ls y.la ≤ key s x)) (dnB (fun y : G5 => decide (key y.ls y.la ≤ key s x)) H r [])).length cap) (wayRow (fun y : G5 => decide (key y.ls y.la ≤ key s x)) (dnB (fun y : G5 => decide (key y.ls y.la ≤ key s x)) H r [])).length (flat2 (wayRow (fun y : G5 => decide (key y.ls y.la ≤ key s x)) (dnB (fun y : G5 => decide (key y.ls y.la ≤ key s x)) H r [])))) ∧ Go.RowKit.Below w.heap.size w w' :=
  bway_core h _ 82 (fun _ _ => rfl) _ H r hH hx hroot hm hlen h.noneg (fun p n hp y hy W hW => bfit_le c s x y.ls y.la W hx64 (hok p n hp y hy) (box_on hc hW))
end Go.Proofs.Ytjgcdmeojjnjlaa
/- How high a B-tree is; how many nodes there are; a segment put, and taken away, by the row. No Go in sight. -/
namespace Go.Proofs.Ytjgcdmeojjnjlaa.Bb
open Go.Proofs.Ytjgcdmeojjnjlaa.Bo
set_option linter.unusedVariables false
theorem wr_len : ∀ (xs : List G5) (rs : List (List G5)), xs.length = rs.length → (wr xs rs).length = xs.length + (rs.map List.length).sum := by
  intro xs
  induction xs with
  | nil => intro rs h; cases rs; rfl; simp at h
  | cons x xs ih => intro rs h; cases rs with
    | nil => simp at h
    | cons r rs => simp only [wr, List.length_cons, List.length_append, List.map_cons, List.sum_cons, ih rs (by simpa using h)]; omega
theorem wl_len : ∀ (xs : List G5) (rs : List (List G5)), xs.length = rs.length → (wl rs xs).length = xs.length + (rs.map List.length).sum := by
  intro xs
  induction xs with
  | nil => intro rs h; cases rs; rfl; simp at h
  | cons x xs ih => intro rs h; cases rs with
    | nil => simp at h
    | cons r rs => simp only [wl, List.length_cons, List.length_append, List.map_cons, List.sum_cons, ih rs (by simpa using h)]; omega
theorem sum_ge (c : Nat) : ∀ (l : List Nat), (∀ x ∈ l, c ≤ x + 1) → l.length * c ≤ l.sum + l.length := by
  intro l
  induction l with
  | nil => intro _; simp
  | cons a l ih =>
    intro h
    have h1 := h a (List.mem_cons_self ..)
    have h2 := ih (fun x hx => h x (List.mem_cons_of_mem _ hx))
    rw [List.length_cons, List.sum_cons, Nat.add_mul, Nat.one_mul]
    omega
/-- The row of a node with children: as many as the segments of the children, and its own. -/
theorem ino_len_succ {f : Int → Option Kn} (h : Nat) (t : Bt) (hr : RepB f (h + 1) t) : (Bt.ino (h + 1) t).length = t.s.length + ((t.ks.map (Bt.ino h)).map List.length).sum := by
  obtain ⟨_, r2, _⟩ := hr
  unfold Bt.ino
  cases hk : t.ks with
  | nil => rw [hk] at r2; simp at r2
  | cons k ks =>
    rw [hk] at r2
    simp only [List.length_append, List.map_cons, List.sum_cons]
    rw [wr_len _ _ (by simp at r2 ⊢; omega)]
    omega
theorem deg_pow {f : Int → Option Kn} (d : Nat) : ∀ (h : Nat) (t : Bt), Deg d h t → RepB f h t → d ^ (h + 1) ≤ (Bt.ino h t).length + 1 := by
  intro h
  induction h with
  | zero => intro t ht _; have := ht.1; simp [Bt.ino]; omega
  | succ h ih =>
    intro t ⟨⟨h1, _⟩, h2⟩ hr
    have hl := ino_len_succ h t hr
    obtain ⟨_, r2, r3⟩ := hr
    have hs := sum_ge (d ^ (h + 1)) ((t.ks.map (Bt.ino h)).map List.length) (fun x hx => by
      simp only [List.mem_map] at hx
      obtain ⟨y, ⟨k, hk, rfl⟩, rfl⟩ := hx
      exact ih k (h2 k hk) (r3 k hk))
    simp only [List.length_map] at hs hl
    rw [r2] at hs
    have hm : d ^ (h + 1) * d ≤ d ^ (h + 1) * (t.s.length + 1) := Nat.mul_le_mul_left _ h1
    rw [Nat.mul_comm (t.s.length + 1)] at hs
    rw [Nat.pow_succ]
    simp only [List.map_map] at hs hl
    omega
/-- How high: of so many segments. -/
theorem degR_pow {f : Int → Option Kn} (d : Nat) (hd : 1 ≤ d) (H : Nat) (x : Bt) (hr : DegR d H x) (hrep : RepB f H x) : 2 * d ^ H ≤ (Bt.ino H x).length + 1 := by
  cases H with
  | zero => have := hr.1; simp [Bt.ino]; omega
  | succ h =>
    obtain ⟨⟨h1, _⟩, h2⟩ := hr
    have hl := ino_len_succ h x hrep
    obtain ⟨_, r2, r3⟩ := hrep
    have hs := sum_ge (d ^ (h + 1)) ((x.ks.map (Bt.ino h)).map List.length) (fun q hq => by
      simp only [List.mem_map] at hq
      obtain ⟨y, ⟨k, hk, rfl⟩, rfl⟩ := hq
      exact deg_pow d h k (h2 k hk) (r3 k hk))
    simp only [List.length_map] at hs hl
    rw [r2] at hs
    have hm : d ^ (h + 1) * 2 ≤ d ^ (h + 1) * (x.s.length + 1) := Nat.mul_le_mul_left _ (by omega)
    rw [Nat.mul_comm (x.s.length + 1)] at hs
    simp only [List.map_map] at hs hl
    omega
theorem pow_gt (d : Nat) (hd : 2 ≤ d) : ∀ H, H < d ^ H := by
  intro H
  induction H with
  | zero => simp
  | succ H ih =>
    rw [Nat.pow_succ]
    have : d ^ H * 2 ≤ d ^ H * d := Nat.mul_le_mul_left _ hd
    omega
theorem degR_high {f : Int → Option Kn} (d : Nat) (hd : 2 ≤ d) (H : Nat) (x : Bt) (hr : DegR d H x) (hrep : RepB f H x) : H < (Bt.ino H x).length + 1 := by
  have h1 := degR_pow d (by omega) H x hr hrep
  have h2 := pow_gt d hd H
  omega
/-- Nodes below a node that may have any number of segments. -/
theorem idsK_len {f : Int → Option Kn} (d : Nat) (hd : 2 ≤ d) (h : Nat) (t : Bt) (hk : DegK d h t.ks) (hr : RepB f h t) : (idsK h t.ks).length + t.s.length ≤ (Bt.ino h t).length := by
  cases h with
  | zero => simp [idsK, Bt.ino]
  | succ h =>
    have hl := ino_len_succ h t hr
    obtain ⟨_, _, r3⟩ := hr
    have : (t.ks.flatMap (Bt.ids h)).length ≤ ((t.ks.map (Bt.ino h)).map List.length).sum := by
      have key : ∀ l : List Bt, (∀ k ∈ l, k ∈ t.ks) → (l.flatMap (Bt.ids h)).length ≤ ((l.map (Bt.ino h)).map List.length).sum := by
        intro l
        induction l with
        | nil => intro _; simp
        | cons k l ih =>
          intro hl
          simp only [List.flatMap_cons, List.length_append, List.map_cons, List.sum_cons]
          have h1 := ih (fun q hq => hl q (List.mem_cons_of_mem _ hq))
          have h2 := deg_ge d hd h k (hk k (hl k (List.mem_cons_self ..))) f (r3 k (hl k (List.mem_cons_self ..)))
          omega
      exact key _ (fun k hk => hk)
    show (t.ks.flatMap (Bt.ids h)).length + t.s.length ≤ _
    omega
theorem flat_len {f : Int → Option Kn} (d : Nat) (hd : 2 ≤ d) (h : Nat) : ∀ l : List Bt, (∀ k ∈ l, Deg d h k) → (∀ k ∈ l, RepB f h k) → (l.flatMap (Bt.ids h)).length ≤ ((l.map (Bt.ino h)).map List.length).sum := by
  intro l
  induction l with
  | nil => intro _ _; simp
  | cons k l ih =>
    intro h1 h2
    simp only [List.flatMap_cons, List.length_append, List.map_cons, List.sum_cons]
    have := ih (fun q hq => h1 q (List.mem_cons_of_mem _ hq)) (fun q hq => h2 q (List.mem_cons_of_mem _ hq))
    have := deg_ge d hd h k (h1 k (List.mem_cons_self ..)) f (h2 k (List.mem_cons_self ..))
    omega
theorem bcids_len {f : Int → Option Kn} (d : Nat) (hd : 2 ≤ d) (cx : List BF) : ∀ (h : Nat) (c : Int), DegX d h cx → RepX f h cx c → (bcids h cx).length ≤ (bpre h cx).length + (bpost h cx).length := by
  induction cx with
  | nil => intro h c _ _; simp [bcids]
  | cons y cx ih =>
    rintro h c ⟨k1, k2, k3, k4⟩ ⟨_, r2, r3, r4⟩
    have h1 := ih (h + 1) _ k4 r4
    have hy : 1 ≤ y.s.length := by
      by_cases e : cx = []
      · rw [if_pos e] at k3; exact k3
      · rw [if_neg e] at k3; omega
    unfold BF.ok at r2
    have f1 := flat_len d hd h y.l (fun k hk => k1 k (by simp [hk])) (fun k hk => r3 k (by simp [hk]))
    have f2 := flat_len d hd h y.r (fun k hk => k1 k (by simp [hk])) (fun k hk => r3 k (by simp [hk]))
    have w1 := wl_len (y.s.take y.l.length) (y.l.map (Bt.ino h)) (by rw [List.length_take, List.length_map]; omega)
    have w2 := wr_len (y.s.drop y.l.length) (y.r.map (Bt.ino h)) (by rw [List.length_drop, List.length_map]; omega)
    simp only [bcids, bpre, bpost, List.length_cons, List.length_append]
    rw [w1, w2, List.length_take, List.length_drop]
    omega
/-- How many nodes there are ahead of a split. -/
theorem Over.le {d : Nat} {f : Int → Option Kn} {n : Nat} {root : Int} {L : List G5} {h : Nat} {cx : List BF} {t : Bt} (o : Over d f n root L h cx t) (hd : 2 ≤ d) : n + t.s.length ≤ L.length + 1 := by
  have h1 := bcids_len d hd cx h _ o.dx o.z.ctx
  have h2 := idsK_len d hd h t o.dk o.z.tree
  have h3 := o.z.cnt
  have h4 := congrArg List.length o.row
  simp only [List.flatMap_nil, List.append_nil, List.length_append, ids_eq, List.length_cons] at h3 h4
  omega
theorem LayAt.le {d : Nat} {f : Int → Option Kn} {n : Nat} {root : Int} {L : List G5} {h : Nat} {cx : List BF} {s : G5} {t u : Bt} (o : LayAt d f n root L h cx s t u) (hd : 2 ≤ d) : n + 1 ≤ L.length := by
  have h1 := bcids_len d hd cx h _ o.dx o.z.ctx
  have h2 := deg_ge d hd h t o.dt f o.z.tree
  have h3 := deg_ge d hd h u o.du f (o.z.loose u (by simp))
  have h4 := o.z.cnt
  have h5 := congrArg List.length o.row
  simp only [List.flatMap_nil, List.append_nil, List.length_append, List.flatMap_cons, List.length_cons] at h4 h5
  omega
section
variable {d : Nat} {f : Int → Option Kn} {n : Nat} {root : Int} {L : List G5} {cx : List BF} {t : Bt}
/-- The way below a key, and what is put. -/
theorem Leaf.put_old {s : G5} (l : Leaf d f n root L (fun g => decide (g.key < s.key)) cx t) (hR : RowOk L) (room : Int) (hm : s.may = true) (hk : Ky s.key) (g : G5) (hg : foundS s.key (stepsB (fun g => decide (g.key < s.key)) (cx, t)) = some g) :
    ∃ B, behindR (fun g => decide (g.key < s.key)) (cx, t) = g :: B ∧ g.key = s.key ∧ putG L room s = (aheadR (fun g => decide (g.key < s.key)) (cx, t) ++ s :: B, 0) := by
  obtain ⟨B, hB, hgk⟩ := (l.got hR).1 g hg
  refine ⟨B, hB, hgk, ?_⟩
  have hrow := l.row
  rw [hB] at hrow
  have hf := find_at _ _ _ _ (hrow ▸ hR) hk hgk
  unfold putG
  rw [if_neg (by rw [hm]; simp), hrow, hf, if_pos (by simp)]
  congr 1
  rw [List.set_append_right _ _ (Nat.le_refl _)]
  simp
theorem Leaf.put_new {s : G5} (l : Leaf d f n root L (fun g => decide (g.key < s.key)) cx t) (hR : RowOk L) (room : Int) (hm : s.may = true) (hk : Ky s.key) (hg : foundS s.key (stepsB (fun g => decide (g.key < s.key)) (cx, t)) = none) :
    putG L room s = if room ≤ (L.length : Int) then (L, 50) else (aheadR (fun g => decide (g.key < s.key)) (cx, t) ++ s :: behindR (fun g => decide (g.key < s.key)) (cx, t), 0) := by
  have hn := (l.got hR).2 hg
  have hf := find_none _ _ hk hn
  unfold putG
  rw [if_neg (by rw [hm]; simp), if_neg hf]
  by_cases e : room ≤ (L.length : Int)
  · rw [if_pos e, if_pos e]
  · rw [if_neg e, if_neg e]
    congr 1
    have e2 := insG_cut s (aheadR (fun g => decide (g.key < s.key)) (cx, t)) (behindR (fun g => decide (g.key < s.key)) (cx, t)) (fun g hg => by have := l.fa g hg; simpa using this) (fun g hg => by
      have h1 := l.fb g hg
      have h2 := hn g (by rw [l.row]; exact List.mem_append.2 (.inr hg))
      simp at h1
      omega)
    rw [← l.row] at e2
    exact e2
theorem Leaf.del_old {k : Int} (l : Leaf d f n root L (fun g => decide (g.key < k)) cx t) (hR : RowOk L) (hk : Ky k) (g : G5) (hg : foundS k (stepsB (fun g => decide (g.key < k)) (cx, t)) = some g) :
    ∃ B, behindR (fun g => decide (g.key < k)) (cx, t) = g :: B ∧ g.key = k ∧ delG L k = (aheadR (fun g => decide (g.key < k)) (cx, t) ++ B, true) := by
  obtain ⟨B, hB, hgk⟩ := (l.got hR).1 g hg
  refine ⟨B, hB, hgk, ?_⟩
  have hrow := l.row
  rw [hB] at hrow
  rw [hrow]
  exact del_at _ _ _ _ (hrow ▸ hR) hk hgk
theorem Leaf.del_new {k : Int} (l : Leaf d f n root L (fun g => decide (g.key < k)) cx t) (hR : RowOk L) (hk : Ky k) (hg : foundS k (stepsB (fun g => decide (g.key < k)) (cx, t)) = none) : delG L k = (L, false) :=
  del_none _ _ hk ((l.got hR).2 hg)
end
end Go.Proofs.Ytjgcdmeojjnjlaa.Bb
/- Between which keys all that hangs at a child stands; how a tree is gone through. No Go in sight. -/
namespace Go.Proofs.Ytjgcdmeojjnjlaa.Bb
open Go.Proofs.Ytjgcdmeojjnjlaa.Bo
set_option linter.unusedVariables false
/-- Between which keys stands what hangs at the child k. -/
def loK (s : List G5) (lo : Int) (k : Nat) : Int := if h : 0 < k ∧ k - 1 < s.length then (s[k - 1]'h.2).key + 1 else lo
def hiK (s : List G5) (hi : Int) (k : Nat) : Int := if h : k < s.length then s[k].key else hi
/-- A row that rises, between two keys. -/
def InR (lo hi : Int) (l : List G5) : Prop := l.Pairwise (fun a b => a.key < b.key) ∧ ∀ g ∈ l, lo ≤ g.key ∧ g.key < hi
theorem InR.right {lo hi : Int} {l r : List G5} (h : InR lo hi (l ++ r)) : InR lo hi r := ⟨(List.pairwise_append.1 h.1).2.1, fun g hg => h.2 g (List.mem_append.2 (.inr hg))⟩
theorem InR.left {lo hi : Int} {l r : List G5} (h : InR lo hi (l ++ r)) : InR lo hi l := ⟨(List.pairwise_append.1 h.1).1, fun g hg => h.2 g (List.mem_append.2 (.inl hg))⟩
theorem InR.lift {lo hi lo' hi' : Int} {l : List G5} (h : InR lo hi l) (h1 : ∀ g ∈ l, lo' ≤ g.key) (h2 : ∀ g ∈ l, g.key < hi') : InR lo' hi' l := ⟨h.1, fun g hg => ⟨h1 g hg, h2 g hg⟩⟩
theorem kid_split (ks : List Bt) (k : Nat) (hk : k < ks.length) : ks = ks.take k ++ ks[k] :: ks.drop (k + 1) := by
  rw [← List.drop_eq_getElem_cons hk, List.take_append_drop]
theorem kid_row {f : Int → Option Kn} (h : Nat) (t : Bt) (hr : RepB f (h + 1) t) (k : Nat) (hk : k < t.ks.length) :
    Bt.ino (h + 1) t = wl ((t.ks.take k).map (Bt.ino h)) (t.s.take k) ++ (Bt.ino h t.ks[k] ++ wr (t.s.drop k) ((t.ks.drop (k + 1)).map (Bt.ino h))) := by
  obtain ⟨_, h2, _⟩ := hr
  have hlen : (t.ks.take k).length = k := by rw [List.length_take]; omega
  have := Bt.ino_split h t.i (t.ks.take k) t.ks[k] (t.ks.drop (k + 1)) t.s (by rw [hlen, List.length_drop]; omega)
  rw [← kid_split t.ks k hk, Bt.eta, hlen] at this
  exact this
theorem kid_range {f : Int → Option Kn} (h : Nat) (t : Bt) (hr : RepB f (h + 1) t) (lo hi : Int) (hi' : InR lo hi (Bt.ino (h + 1) t)) (k : Nat) (hk : k < t.ks.length) : InR (loK t.s lo k) (hiK t.s hi k) (Bt.ino h t.ks[k]) := by
  have hrow := kid_row h t hr k hk
  have h2 := hr.2.1
  rw [hrow] at hi'
  have hp := List.pairwise_append.1 hi'.1
  refine (hi'.right.left).lift (fun g hg => ?_) (fun g hg => ?_)
  · unfold loK
    split
    · rename_i hk2
      have hlast := wl_last (t.s.take k) ((t.ks.take k).map (Bt.ino h)) (by rw [List.length_take, List.length_map, List.length_take]; omega)
      rw [take_last _ _ hk2.1 (by omega), List.getElem?_eq_getElem hk2.2] at hlast
      have hm := List.mem_of_getLast? hlast
      have := hp.2.2 _ hm g (List.mem_append.2 (.inl hg))
      omega
    · exact (hi'.right.left.2 g hg).1
  · unfold hiK
    split
    · rename_i hk2
      have hp2 := List.pairwise_append.1 hp.2.1
      have hm : t.s[k] ∈ wr (t.s.drop k) ((t.ks.drop (k + 1)).map (Bt.ino h)) := by
        rw [List.drop_eq_getElem_cons hk2, List.drop_eq_getElem_cons (show k + 1 < t.ks.length by omega)]
        simp only [List.map_cons, wr, List.mem_cons, true_or]
      exact hp2.2.2 g hg _ hm
    · exact (hi'.right.left.2 g hg).2
theorem own_range {f : Int → Option Kn} (h : Nat) (t : Bt) (hr : RepB f h t) (lo hi : Int) (hi' : InR lo hi (Bt.ino h t)) : InR lo hi t.s :=
  ⟨List.Pairwise.sublist (ino_sub h t hr) hi'.1, fun g hg => hi'.2 g ((ino_sub h t hr).subset hg)⟩
theorem own_step (s : List G5) (lo hi : Int) (h : InR lo hi s) (k : Nat) (hk : k < s.length) : loK s lo k ≤ s[k].key ∧ s[k].key < hi := by
  refine ⟨?_, (h.2 _ (List.getElem_mem _)).2⟩
  unfold loK
  split
  · rename_i h2
    have := (List.pairwise_iff_getElem.1 h.1) (k - 1) k h2.2 hk (by omega)
    omega
  · exact (h.2 _ (List.getElem_mem _)).1
/-- What is counted of the first k children. -/
def cntN (h : Nat) (ks : List Bt) (k : Nat) : Nat := ((ks.take k).flatMap (Bt.ids h)).length
def cntS (h : Nat) (ks : List Bt) (k : Nat) : Nat := ((ks.take k).map fun q => (Bt.ino h q).length).sum
theorem cntN_succ (h : Nat) (ks : List Bt) (k : Nat) (hk : k < ks.length) : cntN h ks (k + 1) = cntN h ks k + (Bt.ids h ks[k]).length := by
  unfold cntN; rw [List.take_succ_eq_append_getElem hk, List.flatMap_append, List.length_append]; simp only [List.flatMap_cons, List.flatMap_nil, List.append_nil]
theorem cntS_succ (h : Nat) (ks : List Bt) (k : Nat) (hk : k < ks.length) : cntS h ks (k + 1) = cntS h ks k + (Bt.ino h ks[k]).length := by
  unfold cntS; rw [List.take_succ_eq_append_getElem hk, List.map_append, List.sum_append]; simp only [List.map_cons, List.map_nil, List.sum_cons, List.sum_nil, Nat.add_zero]
theorem cntN_all {f : Int → Option Kn} (h : Nat) (t : Bt) : 1 + cntN h t.ks t.ks.length = (Bt.ids (h + 1) t).length := by
  unfold cntN; rw [List.take_length]; simp [Bt.ids]; omega
theorem cntS_all {f : Int → Option Kn} (h : Nat) (t : Bt) (hr : RepB f (h + 1) t) : t.s.length + cntS h t.ks t.ks.length = (Bt.ino (h + 1) t).length := by
  rw [ino_len_succ h t hr]; unfold cntS; rw [List.take_length, List.map_map]; rfl
/-- What comes of the first k children of a node, and the segments between them: by rising keys. -/
def upR (h : Nat) (t : Bt) (k : Nat) : List G5 := wl ((t.ks.take k).map (Bt.ino h)) (t.s.take k)
theorem upR_zero (h : Nat) (t : Bt) : upR h t 0 = [] := by unfold upR; simp [wl]
theorem upR_succ {f : Int → Option Kn} (h : Nat) (t : Bt) (hr : RepB f (h + 1) t) (k : Nat) (hk : k < t.s.length) (hk2 : k < t.ks.length) : upR h t (k + 1) = upR h t k ++ (Bt.ino h t.ks[k] ++ [t.s[k]]) := by
  unfold upR
  rw [List.take_succ_eq_append_getElem hk, List.take_succ_eq_append_getElem hk2, List.map_append, wl_append _ _ _ _ (by simp; omega)]
  simp [wl]
theorem upR_all {f : Int → Option Kn} (h : Nat) (t : Bt) (hr : RepB f (h + 1) t) (hk : t.s.length < t.ks.length) : Bt.ino (h + 1) t = upR h t t.s.length ++ Bt.ino h t.ks[t.s.length] := by
  rw [kid_row h t hr t.s.length hk, List.drop_length]
  simp [wr, upR]
theorem upR_pre {f : Int → Option Kn} (h : Nat) (t : Bt) (hr : RepB f (h + 1) t) (k : Nat) (hk : k < t.ks.length) : upR h t k ++ Bt.ino h t.ks[k] <+: Bt.ino (h + 1) t := by
  rw [kid_row h t hr k hk]
  unfold upR
  rw [← List.append_assoc]
  exact List.prefix_append _ _
/-- By falling keys: what comes of the children behind the segment k, and of the segments from k on. -/
def downR (h : Nat) (t : Bt) (k : Nat) : List G5 := (wr (t.s.drop k) ((t.ks.drop (k + 1)).map (Bt.ino h))).reverse
theorem downR_end (h : Nat) (t : Bt) : downR h t t.s.length = [] := by unfold downR; simp [wr]
theorem downR_step {f : Int → Option Kn} (h : Nat) (t : Bt) (hr : RepB f (h + 1) t) (k : Nat) (hk : k < t.s.length) (hk2 : k + 1 < t.ks.length) : downR h t k = downR h t (k + 1) ++ ((Bt.ino h t.ks[k + 1]).reverse ++ [t.s[k]]) := by
  unfold downR
  rw [List.drop_eq_getElem_cons hk, List.drop_eq_getElem_cons hk2]
  simp only [List.map_cons, wr, List.reverse_cons, List.reverse_append, List.append_assoc]
theorem downR_all {f : Int → Option Kn} (h : Nat) (t : Bt) (hr : RepB f (h + 1) t) (hk : 0 < t.ks.length) : (Bt.ino (h + 1) t).reverse = downR h t 0 ++ (Bt.ino h t.ks[0]).reverse := by
  rw [kid_row h t hr 0 hk]
  simp [wl, downR]
theorem downR_pre {f : Int → Option Kn} (h : Nat) (t : Bt) (hr : RepB f (h + 1) t) (k : Nat) (hk : k < t.ks.length) : downR h t k ++ (Bt.ino h t.ks[k]).reverse <+: (Bt.ino (h + 1) t).reverse := by
  rw [kid_row h t hr k hk]
  unfold downR
  simp only [List.reverse_append]
  exact List.prefix_append _ _
end Go.Proofs.Ytjgcdmeojjnjlaa.Bb
/- The steps of a way, gone through from the innermost on: where the first one behind it stands, and the last one ahead. No Go in sight. -/
namespace Go.Proofs.Ytjgcdmeojjnjlaa.Bb
open Go.Proofs.Ytjgcdmeojjnjlaa.Bo
set_option linter.unusedVariables false
def segsAt (f : Int → Option Kn) (p : Int) : List G5 := match f p with | some n => n.segs | none => []
def behI (f : Int → Option Kn) : List (Int × Int) → Option (Int × Nat)
  | [] => none
  | x :: r => if x.2.toNat < (segsAt f x.1).length then some (x.1, x.2.toNat) else behI f r
def aheI : List (Int × Int) → Option (Int × Nat)
  | [] => none
  | x :: r => if 0 < x.2 then some (x.1, x.2.toNat - 1) else aheI r
/-- The steps, the innermost first. -/
def wayRev (fits : G5 → Bool) (w : List BF × Bt) : List (Int × Int) := ((w.2.i : Int), (fitN fits w.2.s : Int)) :: w.1.map fun y => ((y.i : Int), (y.l.length : Int))
theorem wayRev_eq (fits : G5 → Bool) (w : List BF × Bt) : wayRev fits w = (wayRow fits w).reverse := by
  unfold wayRev wayRow rowSt
  rw [List.reverse_append, List.map_reverse, List.reverse_reverse]
  rfl
theorem wayRow_len (fits : G5 → Bool) (w : List BF × Bt) : (wayRow fits w).length = w.1.length + 1 := by unfold wayRow rowSt; simp
section
variable {d : Nat} {f : Int → Option Kn} {n : Nat} {root : Int} {L : List G5} {fits : G5 → Bool} {cx : List BF} {t : Bt}
theorem segsAt_node (t : Bt) (h : nodeAt f t) : segsAt f (t.i : Int) = t.s := by unfold segsAt; rw [h]
theorem repX_at (cx : List BF) : ∀ (h : Nat) (c : Int), RepX f h cx c → ∀ y ∈ cx, ∃ ks, f (y.i : Int) = some ⟨y.s, ks⟩ := by
  induction cx with
  | nil => intro h c _ y hy; simp at hy
  | cons z cx ih =>
    rintro h c ⟨h1, _, _, h4⟩ y hy
    rcases List.mem_cons.1 hy with rfl | hy
    · exact ⟨_, h1⟩
    · exact ih _ _ h4 y hy
theorem segsAt_frame {h : Nat} {c : Int} (hx : RepX f h cx c) (y : BF) (hy : y ∈ cx) : segsAt f (y.i : Int) = y.s := by
  obtain ⟨ks, e⟩ := repX_at cx h c hx y hy
  unfold segsAt; rw [e]
theorem behI_ctx (cx : List BF) : ∀ (h : Nat) (c : Int), RepX f h cx c →
    (behI f (cx.map fun y => ((y.i : Int), (y.l.length : Int))) = none ∧ behindS (cx.map fun y => (y.s, y.l.length)) = none ∧ ∀ z ∈ cx, z.l.length = z.s.length) ∨
    ∃ c1 y c2, cx = c1 ++ y :: c2 ∧ (∀ z ∈ c1, z.l.length = z.s.length) ∧ y.l.length < y.s.length ∧ behI f (cx.map fun y => ((y.i : Int), (y.l.length : Int))) = some ((y.i : Int), y.l.length) ∧ behindS (cx.map fun y => (y.s, y.l.length)) = y.s[y.l.length]? := by
  induction cx with
  | nil => intro h c _; exact .inl ⟨rfl, rfl, fun z hz => by simp at hz⟩
  | cons y cx ih =>
    rintro h c hx
    have hs := segsAt_frame hx y (List.mem_cons_self ..)
    obtain ⟨h1, h2, h3, h4⟩ := hx
    unfold BF.ok at h2
    have e1 : behI f ((y :: cx).map fun y => ((y.i : Int), (y.l.length : Int))) = if y.l.length < y.s.length then some ((y.i : Int), y.l.length) else behI f (cx.map fun y => ((y.i : Int), (y.l.length : Int))) := by
      show (if ((y.l.length : Int)).toNat < (segsAt f (y.i : Int)).length then some ((y.i : Int), ((y.l.length : Int)).toNat) else _) = _
      rw [hs, Int.toNat_natCast]
    have e2 : behindS ((y :: cx).map fun y => (y.s, y.l.length)) = if y.l.length < y.s.length then y.s[y.l.length]? else behindS (cx.map fun y => (y.s, y.l.length)) := rfl
    by_cases e : y.l.length < y.s.length
    · exact .inr ⟨[], y, cx, rfl, fun z hz => by simp at hz, e, by rw [e1, if_pos e], by rw [e2, if_pos e]⟩
    · rw [e1, e2, if_neg e, if_neg e]
      rcases ih _ _ h4 with ⟨k1, k2, k3⟩ | ⟨c1, z, c2, rfl, k2, k3, k4, k5⟩
      · refine .inl ⟨k1, k2, fun z hz => ?_⟩
        rcases List.mem_cons.1 hz with rfl | hz
        · omega
        · exact k3 z hz
      · refine .inr ⟨y :: c1, z, c2, rfl, fun w hw => ?_, k3, k4, k5⟩
        rcases List.mem_cons.1 hw with rfl | hw
        · omega
        · exact k2 w hw
/-- The first one behind a way: in the leaf, or in a frame; or there is none. -/
theorem Leaf.beh (l : Leaf d f n root L fits cx t) :
    (behI f (wayRev fits (cx, t)) = none ∧ behindS (stepsB fits (cx, t)) = none) ∨
    (fitN fits t.s < t.s.length ∧ behI f (wayRev fits (cx, t)) = some ((t.i : Int), fitN fits t.s) ∧ behindS (stepsB fits (cx, t)) = t.s[fitN fits t.s]?) ∨
    (fitN fits t.s = t.s.length ∧ ∃ c1 y c2, cx = c1 ++ y :: c2 ∧ (∀ z ∈ c1, z.l.length = z.s.length) ∧ y.l.length < y.s.length ∧ behI f (wayRev fits (cx, t)) = some ((y.i : Int), y.l.length) ∧ behindS (stepsB fits (cx, t)) = y.s[y.l.length]?) := by
  have hs := segsAt_node t l.z.tree.node
  have hle := fitN_le fits t.s
  have e1 : behI f (wayRev fits (cx, t)) = if fitN fits t.s < t.s.length then some ((t.i : Int), fitN fits t.s) else behI f (cx.map fun y => ((y.i : Int), (y.l.length : Int))) := by
    show (if ((fitN fits t.s : Int)).toNat < (segsAt f (t.i : Int)).length then some ((t.i : Int), ((fitN fits t.s : Int)).toNat) else _) = _
    rw [hs, Int.toNat_natCast]
  have e2 : behindS (stepsB fits (cx, t)) = if fitN fits t.s < t.s.length then t.s[fitN fits t.s]? else behindS (cx.map fun y => (y.s, y.l.length)) := rfl
  by_cases e : fitN fits t.s < t.s.length
  · exact .inr (.inl ⟨e, by rw [e1, if_pos e], by rw [e2, if_pos e]⟩)
  · rw [e1, e2, if_neg e, if_neg e]
    rcases behI_ctx cx 0 _ l.z.ctx with ⟨k1, k2, _⟩ | ⟨c1, y, c2, k1, k2, k3, k4, k5⟩
    · exact .inl ⟨k1, k2⟩
    · exact .inr (.inr ⟨by omega, c1, y, c2, k1, k2, k3, k4, k5⟩)
theorem aheI_ctx (cx : List BF) : ∀ (h : Nat) (c : Int), RepX f h cx c →
    (aheI (cx.map fun y => ((y.i : Int), (y.l.length : Int))) = none ∧ aheadS (cx.map fun y => (y.s, y.l.length)) = none) ∨
    ∃ y ∈ cx, 0 < y.l.length ∧ y.l.length ≤ y.s.length ∧ aheI (cx.map fun y => ((y.i : Int), (y.l.length : Int))) = some ((y.i : Int), y.l.length - 1) ∧ aheadS (cx.map fun y => (y.s, y.l.length)) = y.s[y.l.length - 1]? := by
  induction cx with
  | nil => intro h c _; exact .inl ⟨rfl, rfl⟩
  | cons y cx ih =>
    rintro h c ⟨h1, h2, h3, h4⟩
    unfold BF.ok at h2
    have e1 : aheI ((y :: cx).map fun y => ((y.i : Int), (y.l.length : Int))) = if 0 < y.l.length then some ((y.i : Int), y.l.length - 1) else aheI (cx.map fun y => ((y.i : Int), (y.l.length : Int))) := by
      show (if (0 : Int) < (y.l.length : Int) then some ((y.i : Int), ((y.l.length : Int)).toNat - 1) else _) = _
      rw [Int.toNat_natCast]
      by_cases e : 0 < y.l.length
      · rw [if_pos (by omega), if_pos e]
      · rw [if_neg (by omega), if_neg e]
    have e2 : aheadS ((y :: cx).map fun y => (y.s, y.l.length)) = if 0 < y.l.length then y.s[y.l.length - 1]? else aheadS (cx.map fun y => (y.s, y.l.length)) := rfl
    by_cases e : 0 < y.l.length
    · exact .inr ⟨y, List.mem_cons_self .., e, by omega, by rw [e1, if_pos e], by rw [e2, if_pos e]⟩
    · rw [e1, e2, if_neg e, if_neg e]
      rcases ih _ _ h4 with k | ⟨z, k1, k2⟩
      · exact .inl k
      · exact .inr ⟨z, List.mem_cons_of_mem _ k1, k2⟩
theorem Leaf.ahe (l : Leaf d f n root L fits cx t) :
    (aheI (wayRev fits (cx, t)) = none ∧ aheadS (stepsB fits (cx, t)) = none) ∨
    ∃ p k m g, aheI (wayRev fits (cx, t)) = some (((p : Nat) : Int), k) ∧ f (p : Int) = some m ∧ m.segs[k]? = some g ∧ aheadS (stepsB fits (cx, t)) = some g := by
  have hle := fitN_le fits t.s
  have e1 : aheI (wayRev fits (cx, t)) = if 0 < fitN fits t.s then some ((t.i : Int), fitN fits t.s - 1) else aheI (cx.map fun y => ((y.i : Int), (y.l.length : Int))) := by
    show (if (0 : Int) < (fitN fits t.s : Int) then some ((t.i : Int), ((fitN fits t.s : Int)).toNat - 1) else _) = _
    rw [Int.toNat_natCast]
    by_cases e : 0 < fitN fits t.s
    · rw [if_pos (by omega), if_pos e]
    · rw [if_neg (by omega), if_neg e]
  have e2 : aheadS (stepsB fits (cx, t)) = if 0 < fitN fits t.s then t.s[fitN fits t.s - 1]? else aheadS (cx.map fun y => (y.s, y.l.length)) := rfl
  by_cases e : 0 < fitN fits t.s
  · refine .inr ⟨t.i, fitN fits t.s - 1, _, t.s[fitN fits t.s - 1]'(by omega), by rw [e1, if_pos e], l.z.tree.node, List.getElem?_eq_getElem (by show fitN fits t.s - 1 < t.s.length; omega), by rw [e2, if_pos e, List.getElem?_eq_getElem (by omega)]⟩
  · rw [e1, e2, if_neg e, if_neg e]
    rcases aheI_ctx cx 0 _ l.z.ctx with k | ⟨y, k1, k2, k3, k4, k5⟩
    · exact .inl k
    · obtain ⟨ks, hk⟩ := repX_at cx 0 _ l.z.ctx y k1
      exact .inr ⟨y.i, y.l.length - 1, _, y.s[y.l.length - 1]'(by omega), k4, hk, List.getElem?_eq_getElem (by show y.l.length - 1 < y.s.length; omega), by rw [k5, List.getElem?_eq_getElem (by omega)]⟩
/-- The same of the one behind, as it is told. -/
theorem Leaf.behT (l : Leaf d f n root L fits cx t) :
    (behI f (wayRev fits (cx, t)) = none ∧ behindS (stepsB fits (cx, t)) = none) ∨
    ∃ p k m g, behI f (wayRev fits (cx, t)) = some (((p : Nat) : Int), k) ∧ f (p : Int) = some m ∧ m.segs[k]? = some g ∧ behindS (stepsB fits (cx, t)) = some g := by
  rcases l.beh with k | ⟨k1, k2, k3⟩ | ⟨k0, c1, y, c2, k1, k2, k3, k4, k5⟩
  · exact .inl k
  · exact .inr ⟨t.i, _, _, t.s[fitN fits t.s], k2, l.z.tree.node, List.getElem?_eq_getElem k1, by rw [k3, List.getElem?_eq_getElem k1]⟩
  · obtain ⟨ks, hk⟩ := repX_at cx 0 _ l.z.ctx y (by rw [k1]; simp)
    exact .inr ⟨y.i, _, _, y.s[y.l.length], k4, hk, List.getElem?_eq_getElem k3, by rw [k5, List.getElem?_eq_getElem k3]⟩
/-- Each step is a node, and its number is in order. -/
theorem Leaf.steps (l : Leaf d f n root L fits cx t) : ∀ x ∈ wayRev fits (cx, t), ∃ (p a : Nat) (m : Kn), x = ((p : Int), (a : Int)) ∧ f (p : Int) = some m ∧ a ≤ m.segs.length := by
  intro x hx
  rcases List.mem_cons.1 hx with rfl | hx
  · exact ⟨t.i, fitN fits t.s, _, rfl, l.z.tree.node, fitN_le fits t.s⟩
  · obtain ⟨y, hy, rfl⟩ := List.mem_map.1 hx
    obtain ⟨ks, hk⟩ := repX_at cx 0 _ l.z.ctx y hy
    have := repX_ok _ _ _ l.z.ctx y hy
    unfold BF.ok at this
    exact ⟨y.i, y.l.length, _, rfl, hk, by show y.l.length ≤ y.s.length; omega⟩
end
end Go.Proofs.Ytjgcdmeojjnjlaa.Bb
/- A region that draws its order, in a round of a range over a function: what is shown of it outside a round serves there, too. -/
namespace Go.Proofs.Ytjgcdmeojjnjlaa.Rf
open Go.RowKit Go.Sort
set_option linter.unusedVariables false
/-- Behind a region that is left by its end. -/
def onlyN (K : Act → World → Prop) : Exit → Act → World → Prop
  | .normal, a, w => K a w
  | _, _, _ => False
theorem onlyN_out (K : Act → World → Prop) : ¬ LetsOut (onlyN K) := by
  rintro ⟨a, w, h⟩
  exact h
def noDefer (o : Oper) : Bool := match o.op with | .defer _ => false | _ => true
theorem noDefer_ne {o : Oper} (h : noDefer o = true) : ∀ c, o.op ≠ .defer c := by
  intro c e
  unfold noDefer at h
  rw [e] at h
  cases h
variable {P : Program} {n l : Nat} {ops : Array Oper}
theorem wpOpIn_round {i : Nat} {K : Act → World → Prop} {Q : Exit → Act → World → Prop} {a : Act} {w : World} (hd : ∀ o, ops[i]? = some o → noDefer o = true) (hq : ¬ LetsOut Q) (h : wpOp P ops Q i K a w) : wpOpIn (Fence.wide.inRound l) n P ops Q i K a w := by
  unfold wpOp at h
  unfold wpOpIn
  split
  · rename_i e; simpa only [e] using h
  · rename_i o e
    simp only [e] at h
    split
    · rename_i hw
      simp only [hw, if_true] at h
      rcases h with h | h
      · refine ⟨fun _ _ => trivial, ?_⟩
        show o.uponIn (Fence.wide.inRound l) n P a K Q ((o.semAt (some l) a.eval).run P w)
        rw [Oper.semAt_some l a.eval o (noDefer_ne (hd o e))]
        unfold Oper.wp at h
        generalize (execOp a.eval o).run P w = r at *
        cases r with
        | ok x w' =>
          cases x <;> simp only [Oper.upon] at h <;> simp only [Oper.uponIn] <;>
            first
              | exact h
              | exact ⟨fun h => (by cases h), (callsIn_wide.2 (h.mono fun e w'' he => by cases e <;> exact he)).inRound l⟩
              | exact ⟨fun h => (by cases h), fun c cs _ => by
                  obtain ⟨v, w'', h1, h2⟩ := h c cs
                  exact ⟨v, w'', h1, stepsIn_wide.2 h2⟩⟩
              | exact h.elim
        | halt x w' => cases x <;> simp only [Oper.upon] at h <;> simp only [Oper.uponIn] <;> first | exact h | exact h.elim
      · exact absurd h.2 hq
    · rename_i hw
      simp only [hw] at h
      exact ⟨fun _ _ => trivial, h⟩
theorem wpAnyIn_round {Q : Exit → Act → World → Prop} (hd : ∀ (i : Nat) o, ops[i]? = some o → noDefer o = true) (hq : ¬ LetsOut Q) {md : Region.Mode} : ∀ (fuel : Nat) (listed : Array Bool) (a : Act) (w : World), wpAny P md ops Q fuel listed a w → wpAnyIn (Fence.wide.inRound l) n P md ops Q fuel listed a w
  | 0, _, _, _, h => h
  | fuel + 1, listed, a, w, h => ⟨h.1, fun i hi => wpOpIn_mono (fun a' w' h' => wpAnyIn_round hd hq fuel _ a' w' h') (wpOpIn_round (hd i) hq (h.2 i hi))⟩
theorem noDefer_all (h : ops.toList.all noDefer = true) (i : Nat) (o : Oper) (e : ops[i]? = some o) : noDefer o = true :=
  List.all_eq_true.1 h o (Array.mem_toList_iff.2 (Array.mem_of_getElem? e))
theorem wpIn_round_any {id : Nat} {K : Act → World → Prop} {Q : Exit → Act → World → Prop} {a : Act} {w : World} (hm : P.follows .mixedOrders = true) (hd : ops.toList.all noDefer = true) (hK : ∀ a' w', K a' w' → Q .normal a' w')
    (h : wpAny P .any ops (onlyN K) ops.size (Array.replicate ops.size false) a { w with drawn := w.drawn + 1 }) : (Code.region id ops true).wpIn (Fence.wide.inRound l) n P Q a w := by
  refine wpIn_mono (wpIn_region_any hm (wpAnyIn_round (noDefer_all hd) (onlyN_out K) _ _ _ _ h)) ?_
  intro e a' w' hq
  cases e <;> first | exact hK _ _ hq | exact hq.elim
/-- Whose operations only read, and whose callees lay blocks at most. -/
theorem wpIn_round_quiet_below {id : Nat} {Q : Exit → Act → World → Prop} {a : Act} {w : World} {ol : List Oper} (hm : P.follows .mixedOrders = true) (hB : Region.lexB .any ol.toArray = true) (hd : ol.all noDefer = true)
    (h : wpQuiet P ol.toArray (fun w' => ∃ p : Regrown, w' = grow (redrawn w p.d) p.os) (fun a' => ∀ w', (∃ p : Regrown, w' = grow (redrawn w p.d) p.os) → Q .normal a' w') ol a) : (Code.region id ol.toArray true).wpIn (Fence.wide.inRound l) n P Q a w := by
  refine wpIn_round_any (K := fun a' w' => Q .normal a' w') hm (by simpa using hd) (fun _ _ h => h) ?_
  simp only [Region.lexB, Bool.and_eq_true] at hB
  refine wpAny_of_quiet (C := fun w' => ∃ p : Regrown, w' = grow (redrawn w p.d) p.os) (Q := fun a' => ∀ w', (∃ p : Regrown, w' = grow (redrawn w p.d) p.os) → Q .normal a' w') (Q' := onlyN fun a' w' => Q .normal a' w') (fun _ w' hw' h => h w' hw') _ _ _ { w with drawn := w.drawn + 1 } ⟨⟨w.drawn + 1, #[]⟩, by rw [grow_empty]; rfl⟩ ?_
  have := wpAnyQ_lex (P := P) (C := fun w' => ∃ p : Regrown, w' = grow (redrawn w p.d) p.os) (md := .any) hB.1 ol 0 (Array.replicate ol.toArray.size false) a (by simp) (by simpa using hB.2) h
  simpa using this
/-- With a condition S on the world that each step shows anew. -/
theorem wpIn_round_held {id : Nat} {S : World → Prop} {K : Act → World → Prop} {Q : Exit → Act → World → Prop} {a : Act} {w : World} (hm : P.follows .mixedOrders = true) (hd : ops.toList.all noDefer = true) (hS : S w.drew)
    (hK : ∀ a' w', K a' w' → Q .normal a' w') (h : S w.drew → wpAnyH P .any ops (onlyN K) S ops.size (Array.replicate ops.size false) a w.drew) : (Code.region id ops true).wpIn (Fence.wide.inRound l) n P Q a w :=
  wpIn_round_any hm hd hK (wpAny_of_held _ _ _ _ (h hS))
end Go.Proofs.Ytjgcdmeojjnjlaa.Rf
