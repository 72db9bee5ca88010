/- A part of the proof: contracts of the functions that the statements reach. -/
import Derived.RangeFuncNested
import Derived.RangeFuncBound
import Derived.RangeFuncCalls
import Derived.RangeFuncLeaves
import Derived.Shelf.Abstract
import Derived.Shelf.RegionOpen
import Derived.WalkKit
import Derived.OwnWalkIn
import Derived.TacticsInMore
import Derived.LoopNIn
import Derived.LoopIn
import Derived.Shelf.SlSortCmp.WholeK
import Derived.WalkSpells
import Derived.WalkLawsBesides
import Derived.Lib.Hide
import Derived.Laws.StructEq
import Derived.Shelf.SlSortCmp.QuietGrown
import Derived.Laws.EntriesVeiled
import Derived.Deep.CutRange
import Derived.RegionTactic
import Derived.Lib.QuietBelow
import Derived.BigQuiet
import Derived.OpenShut
import Derived.Deep.RegionHeld3
import Derived.Deep.QuietTactic
import Derived.Maps.AppendAt
import Derived.Laws.IdiomCopy
import Derived.Deep.AppendLies
import Derived.Deep.LoopGhost
import Derived.Deep.Upon
import Derived.StillTailTactics
import Derived.Lib.SmallJoins
import Derived.Deep.SlicePairs
import Derived.Deep.Strs
import Derived.ChangeOld
import Derived.SizedLaws
import Derived.Lib.SliceRun
import Derived.Laws.CopyRow
import Derived.Below
import Derived.Laws.CopyOwn
import Derived.Deep.RegionLaw
import Derived.IntWalk
import Derived.Lib.MinMax
import Derived.Test.YtjgcdmeojjnjlaaCP

/- The laws' all: the segments of a tree, gone through. -/
namespace Go.Proofs.Ytjgcdmeojjnjlaa
open Go.RowKit Go.Sort Go.Shelf Go.Proofs.Ytjgcdmeojjnjlaa.Bo Go.Proofs.Ytjgcdmeojjnjlaa.Bb
set_option linter.unusedVariables false
set_option maxRecDepth 100000
attribute [local go_sem] Oper.semAt_some
/-- An append to a row, in a fence: where the row comes to lie. -/
theorem wpListIn_append_rowB {F : Fence} {n : Nat} (w : World) {ops : Array Oper} {rest : List Oper} {o : Oper} {ac : Act} {Q : Exit → Act → World → Prop}
    (hg : o.guard = none) (s x : Operand) (t : TypeId) (hop : o.op = Op.call { callee := Callee.builtin Builtin.append, args := #[s, x], argTypes := #[t, t] })
    (base : Nat) (e : TypeId) (i : TypeInfo) (z : Value) (size bytes : Nat) (h1 : Try.prog.underlying t = some (.slice e)) (h2 : Try.prog.info? e = some i) (h3 : i.zero = some z) (h4 : i.size = size) (h5 : i.bytes = bytes) (h6 : z.cells.size = size) (h7 : 0 < size)
    (v : Value) (k : Nat) (xs : List Value) (hs : ac.eval s = v) (hown : w.ownsRow base e size v k xs) (ad : Option Addr) (m c : Nat) (news : List Value) (hx : ac.eval x = .slice ad m c) (hn : news.length = m * size)
    (hc : Bs.Lies w ad news) (h1c : ∀ u ∈ news, u.oneCell' = true) (b1 : k + m ≤ maxLen) (b2 : (k + m) * bytes ≤ 140737488355328) (b3 : base ≤ w.heap.size)
    (hK : ∀ a' cap w', w'.ownsRow base e size (.slice a' (k + m) cap) (k + m) (xs ++ news) → w.grownBy w' v.ownBlock → ((Value.slice a' (k + m) cap).ownBlock = v.ownBlock ∨ (Value.slice a' (k + m) cap).ownBlock = some w.heap.size) → wpListIn F n Try.prog ops Q rest (ac.put o.dst (.slice a' (k + m) cap)) w') :
    wpListIn F n Try.prog ops Q (o :: rest) ac w := by
  refine wpListIn_plain hg fun K hK' => ?_
  obtain ⟨a', cap, w', hrun, r1, r2, r3⟩ := Bs.run_append_row (P := Try.prog) t o.type i z bytes h1 h2 h3 h4 h5 h6 h7 v k xs hown ad m c news hn hc h1c b1 b2 b3
  unfold Oper.wpIn
  refine ⟨?_, ?_⟩
  · simp [Oper.about, hop, resolve, Target.leads, Sem.run_pure]
  · rw [Oper.semAt_plain F _ _ (by rw [hop]; intro c hc'; cases hc')]
    simp [execOp, hop, resolve, invoke, builtin, hs, hx, hrun, Result.andThen]
    exact hK' _ _ (hK a' cap w' r1 r2 r3)
/-- Between two rounds of all: the row's box at b, what has come behind it. -/
def AllB (X : World) (b : Nat) (pre : List G5) (W : World) : Prop := (∃ v, Boxed W b 32 v ∧ W.ownsRow b 38 5 v pre.length (flatG pre) ∧ ∃ a cap, v = .slice a pre.length cap) ∧ Go.RowKit.Below b X W
theorem allB_own (X : World) (b B : Nat) (hX : b ≤ X.heap.size) (hB : b ≤ B) : OwnFrom B (AllB X b) :=
  OwnFrom.and (Own.from (holdsRow_own b b 32 38 5 (fun pre : List G5 => pre.length) flatG (fun pre v => ∃ a cap, v = .slice a pre.length cap)) _) (ownFrom_below hX hB)
theorem kpS_app {W w1 : World} {B k : Nat} {v v' : Value} {xs : List Value} {tmp : Obj} (hv : Boxed W B 32 v) (hrow : W.ownsRow B 38 5 v k xs) (hgrow : (W.alloc tmp).grownBy w1 v.ownBlock) (hat : v'.ownBlock = v.ownBlock ∨ v'.ownBlock = some (W.alloc tmp).heap.size) (hB1 : w1.heap[B]? = some (.cells #[v] 32 (0, 0))) (hlt : ∀ q, v'.ownBlock = some q → q < w1.heap.size) (hb : Go.RowKit.Below B W (w1.setCell ⟨B, 0, none⟩ v')) : KpS B B W (w1.setCell ⟨B, 0, none⟩ v') := by
  refine ⟨hb, fun j cs t hj ht => ?_, fun q hq => ?_⟩
  · have hjl := lt_of_block hj
    have h1 : (W.alloc tmp).heap[j]? = some (.cells cs t (0, 0)) := box_on hj (below_new W tmp)
    have h2 : w1.heap[j]? = some (.cells cs t (0, 0)) := (hgrow.block j (by simp; omega) (fun e => by
      rcases hrow.2 with ⟨rfl, _⟩ | ⟨g, cap, cur, rfl, _, hgb, _⟩
      · simp [Value.ownBlock] at e
      · obtain rfl : j = g := by simpa [Value.ownBlock] using e
        rw [hj] at hgb
        injection hgb with hgb
        injection hgb with _ hgb _
        subst hgb
        rcases ht with e1 | e1 | ⟨_, _, e3⟩
        · revert e1; decide
        · revert e1; decide
        · exact e3 ⟨_, hv, rfl⟩)).trans h1
    refine set_far h2 (fun e => ?_)
    subst e
    have := (show W.heap[j]? = _ from hv).symm.trans hj
    injection this with this
    injection this with _ this _
    subst this
    rcases ht with e1 | e1 | ⟨e1, _, _⟩ <;> (revert e1; decide)
  · obtain ⟨u, hu, ho⟩ := hq
    have hset : (w1.setCell ⟨B, 0, none⟩ v').heap[B]? = some (.cells #[v'] 32 (0, 0)) := heap_setCell_same w1 B 0 _ _ v' hB1
    have e := hset.symm.trans hu
    injection e with e
    injection e with e _ _
    obtain rfl : v' = u := by simpa using e
    rcases hat with h | h
    · exact .inl ⟨v, hv, h ▸ ho⟩
    · rw [h] at ho
      injection ho with ho
      refine .inr ⟨by rw [← ho]; simp, ?_⟩
      rw [World.size_setCell]
      exact hlt q (by rw [h, ho])
set_option maxHeartbeats 4000000 in
theorem bdall_any {w : World} {base T A d : Nat} {t : Bx} {a : Ag Rn} {S0 : Nat → Prop} {L : List G5} (h : BtW w base T A t a S0) (ok : BtOk t d L) : Calls Try.prog 17 #[aP T] w fun e w' => ∃ a cap, (e = .returned (.slice a L.length cap) ∧ GRow w' a L ∧ L.length ≤ cap) ∧ Go.RowKit.Below w.heap.size w w' := by
  have mx := mixed
  obtain ⟨i0, hi, hz0, hz1, hz2⟩ := info_parts Try.infoSeg
  have HTR := Lib.hid h
  have hlen := ok.le
  have hroom := ok.room
  have HOK := Lib.hid ok
  have hB0 : Go.RowKit.Below w.heap.size w ((w.alloc (.cells #[.slice none 0 0] 32)).alloc (oBP T)) := bt (below_new _ _) (below_new _ _)
  have HB0 := Lib.hid hB0
  have HBX : Hid (((w.alloc (.cells #[.slice none 0 0] 32)).alloc (oBP T)).heap[w.heap.size]? = some (.cells #[.slice none 0 0] 32 (0, 0))) := box_on (heap_alloc_new _ _) (below_new _ _)
  have HBT : Hid (((w.alloc (.cells #[.slice none 0 0] 32)).alloc (oBP T)).heap[w.heap.size + 1]? = some (oBP T)) := new_at' _ (by simp)
  clear h hB0
  refine (callsIn_wide (n := 6)).1 ?_
  refine callsIn_of_wp_marks Try.func17 rfl trivial ?_ rfl
  simp only [Try.ntmps17, List.size_toArray, List.length_cons, List.length_nil, Nat.reduceAdd, Nat.reduceSub, Array.replicate_succ, Array.replicate_zero, List.push_toArray, List.append_toArray, List.nil_append, List.cons_append]
  gi_wp2_with (refine ⟨trivial, ?_⟩; gi_at_call 34; refine (callsIn_wide.2 (ball_any T _)).mono ?_; rintro e w' ⟨rfl, rfl⟩)
  generalize (w.alloc (.cells #[.slice none 0 0] 32)).alloc (oBP T) = W0 at *
  have hsz : w.heap.size + 1 < W0.heap.size := lt_of_block HBT.out
  have hrow0 : ∀ k, rowAt w.heap.size W0 k → k < W0.heap.size := fun k hk => by
    obtain ⟨v, hv, ho⟩ := hk
    rw [HBX.out] at hv
    injection hv with hv
    injection hv with hv _ _
    obtain rfl : Value.slice none 0 0 = v := by simpa using hv
    cases ho
  refine wpIn_rangeFunc_ownH rfl (by omega) (gf := 63) (lb := #[.pointer (some ⟨w.heap.size + 1, 0, none⟩)]) rfl trivial (enters_of Try.func63 (by kernel_rfl) rfl)
    (ball_stops (6 - 1) (w.heap.size + 1) w.heap.size w.heap.size base T A d W0 (HTR.out.below HB0.out) HOK.out (fun b hb => HTR.out.blt b hb) HB0.out.size HBT.out (by omega) hrow0) KpS.trans (kpS_b HB0.out.size (by omega)) (Go.RowKit.Below.refl _ _) (fun _ => rfl)
    (AllB w w.heap.size) (fun _ _ _ => False) (allB_own w _ _ (Nat.le_refl _) HB0.out.size) (fun _ _ _ _ _ hs _ _ => hs)
    ⟨⟨_, HBX.out, World.ownsRow_nil _ _ _ _, none, 0, rfl⟩, HB0.out⟩
    (fun g a' W => ∃ Bx, W.heap[Bx]? = some (oG g) ∧ a' = { tmps := #[aP T, undef, .slice none 0 0, .pointer (some ⟨w.heap.size, 0, none⟩), .pointer (some ⟨Bx, 0, none⟩), aP T, .func (.func 63) #[] #[.pointer (some ⟨w.heap.size + 1, 0, none⟩)], vG g, undef, undef, undef, undef, undef], defers := [] })
    (fun g a' _ X Y row hs hg hr => by
      obtain ⟨Bx, h1, h2⟩ := hs
      exact ⟨Bx, (hg.block Bx (lt_of_block h1) (fun e => by obtain ⟨_, o, ho, hc⟩ := hr Bx e.symm; rw [h1] at ho; injection ho with ho; subst ho; cases hc)).trans h1, h2⟩)
    ?assign ?body ?done ?stop
  case assign =>
    rintro l pre g W K hI hK
    obtain ⟨⟨v, hv, hrow, hva⟩, hB⟩ := hI
    gi_wp2
    exact hK _ _ ((KeepsOthers.alloc _ _).from _) (KpS.of_below (below_new W (oG g)) hB.size (lt_of_block hv)) ⟨⟨v, hv.alloc _, hrow.alloc _, hva⟩, hB.alloc hB.size _⟩ ⟨W.heap.size, heap_alloc_new W (oG g), rfl⟩
  case body =>
    rintro l pre g a' W hl ⟨r, hr⟩ ⟨⟨v, hv, hrow, av, cv, hva⟩, hB⟩ ⟨Bx, hbx, rfl⟩ hlt
    have HV := Lib.hid hv
    have HROW := Lib.hid hrow
    have HB := Lib.hid hB
    have hc := hv.cell
    obtain ⟨c1, c2, c3, c4, c5⟩ := five_cells hbx
    simp only [Nat.zero_add] at c2 c3 c4 c5
    have hlen2 : pre.length ≤ 65536 := by omega
    have HLS : Hid (Bs.Lies (W.alloc (oG g)) (some ⟨W.heap.size, 0, none⟩) (flatG [g])) := Lib.hid (Bs.Lies.of_own (w := W.alloc (oG g)) (base := 0) (e := 38) (size := 5) (a := some ⟨W.heap.size, 0, none⟩) (n := 1) (cap := 1) (xs := flatG [g]) ⟨rfl, .inr ⟨W.heap.size, 1, _, rfl, Nat.zero_le _, heap_alloc_new W (oG g), Nat.le_refl _, by decide, rfl, rfl⟩⟩)
    have HR2 := Lib.hid (hrow.alloc (oG g))
    have hsz2 : w.heap.size ≤ (W.alloc (oG g)).heap.size := by have := hB.size; simp; omega
    clear hv hrow hB hbx hr hva
    gi_wp2_with (gi_at_builtin; refine wpListIn_append_rowB _ rfl _ _ 32 rfl w.heap.size 38 i0 (.agg #[.int .i64 0, .int .i64 0, .int .i64 0, .int .i64 0, .int .i64 0]) 5 40 Try.underlying32 hi hz0 hz1 hz2 rfl (by decide) v pre.length _ rfl HR2.out (some ⟨W.heap.size, 0, none⟩) 1 1 (flatG [g]) rfl rfl HLS.out (flatG_one [g]) (by unfold maxLen; omega) (by omega) hsz2 ?_; intro a' cap' w1 hown' hgrow hat; obtain ⟨hv1, hv2, hr2, hk2, hb2⟩ := HV.out.appended (by decide) HROW.out HB.out.size (Nat.le_refl _) hown' hgrow; have hkp := kpS_app HV.out HROW.out hgrow hat hv1 (fun q hq => (hown'.lt q hq).2) hb2; have hc1 := hv1.cell; have hf1 := hv1.frozen)
    refine ⟨hk2.from _, hkp, ⟨⟨_, hv2, ?_, ?_⟩, HB.out.trans hb2⟩⟩
    · rw [flatG_append, List.length_append]; exact hr2
    · exact ⟨_, _, by rw [List.length_append]; rfl⟩
  case done =>
    rintro D ys W hD rfl ⟨⟨v, hv, hrow, av, cv, rfl⟩, hB⟩ hK
    have hc := hv.cell
    have HK := Lib.hid hK
    have HROW := Lib.hid hrow
    have HB := Lib.hid hB
    clear hv hK hrow hB
    gi_wp2
    refine ⟨by simp, .inl ⟨_, _, rfl, run_takeDeferred HK.out, ?_⟩⟩
    refine ⟨_, results_tmp rfl _ _ _, av, cv, ⟨rfl, own_grow (ownsRow_putObj HROW.out _ HK.out rfl) rfl, own_capG HROW.out⟩, HB.out.trans (belowK_b (w := w) (Nat.le_refl _) W D _ _ (by have := HB0.out.size; omega) HK.out rfl rfl)⟩
  case stop =>
    rintro D c pre W _ _ h _
    exact h.elim
section
variable {w W : World} {T A d : Nat} {R : Int} {L M : List G5} {B : Nat → Prop} {a : Option Addr} {cap : Nat} {K : Nat → Prop}
theorem BkK.all (h : BkK w T A d R L B W) : Calls Try.prog 17 #[aP T] W fun e w' => ∃ a2 cap2, (e = .returned (.slice a2 L.length cap2) ∧ GRow w' a2 L ∧ L.length ≤ cap2) ∧ Go.RowKit.Below W.heap.size W w' := by
  obtain ⟨⟨t, a, S0, h1, h2, _⟩, _⟩ := h
  exact bdall_any h1 h2
end
end Go.Proofs.Ytjgcdmeojjnjlaa
/- How high a tree is, by the document's bound; blocks that lay there before. -/
namespace Go.Proofs.Ytjgcdmeojjnjlaa
open Go.RowKit Go.Sort Go.Proofs.Ytjgcdmeojjnjlaa.Bo Go.Proofs.Ytjgcdmeojjnjlaa.Bb
set_option linter.unusedVariables false
set_option maxRecDepth 100000
set_option maxHeartbeats 2000000 in
theorem bhigh_zero (d : Int) (w : World) : Calls Try.prog 20 #[.int .i64 d, .int .i64 0, .int .i64 0] w fun e w' => e = .returned (.bool true) ∧ Go.RowKit.Below w.heap.size w w' := by
  have mx := mixed
  go_enter Try.func20, Try.ntmps20
  go_wp2_with fail
  go_ret
  exact ⟨rfl, Go.RowKit.Below.refl _ _⟩
set_option maxHeartbeats 2000000 in
theorem bhigh_any (d n h : Nat) (hd : 2 ≤ d) (hd64 : d ≤ 64) (hn : 1 ≤ n) (hn2 : n ≤ 100000) (hh : 1 ≤ h) (hp : 2 * d ^ (h - 1) ≤ n + 1) (w : World) : Calls Try.prog 20 #[.int .i64 (d : Int), .int .i64 (n : Int), .int .i64 (h : Int)] w fun e w' => e = .returned (.bool true) ∧ Go.RowKit.Below w.heap.size w w' := by
  have mx := mixed
  have t0 : ((n : Int) == 0) = false := by have : ¬ (n : Int) = 0 := by omega
                                           simpa using this
  have t0' : ¬ n = 0 := by omega
  have i1 : IntKind.i64.wrap ((n : Int) + 1) = (n : Int) + 1 := IntWalk.i64_in _ (by omega)
  have HP := Lib.hid hp
  have HN := Lib.hid hn2
  clear hp
  go_enter Try.func20, Try.ntmps20
  go_wp2_with fail
  go_loopg [7, 8] h (fun k nv kv wr => ∃ (j q : Nat), k = h - j ∧ j + 1 ≤ h ∧ nv = .int .i64 (q : Int) ∧ Hid (q = d ^ j) ∧ kv = .int .i64 ((j : Int) + 1) ∧ wr = w)
  case atStart => exact ⟨0, 1, by omega, by omega, rfl, Lib.hid (Nat.pow_zero d).symm, rfl, rfl⟩
  case round =>
    obtain ⟨j, q, hkj, hle, rfl, hq, rfl, rfl⟩ := hrel
    have HK := Lib.hid hkj
    clear hkj
    have hql : q ≤ n + 1 := by
      rw [hq.out]
      rcases Nat.eq_zero_or_pos j with h0 | h0
      · subst h0; simp
      · exact high_round d n h j hd (by omega) HP.out
    by_cases hlt : j + 1 < h
    · have hq2 : q * d ≤ n + 1 := by
        rw [hq.out, ← Nat.pow_succ]
        exact high_round d n h (j + 1) hd hlt HP.out
      have HQ2 : Hid (q * d = d ^ (j + 1)) := by show _ = _; rw [hq.out, Nat.pow_succ]
      obtain ⟨r, hr⟩ : ∃ r, r = q * d := ⟨_, rfl⟩
      have i2 : IntKind.i64.wrap ((q : Int) * (d : Int)) = (r : Int) := by
        rw [show (q : Int) * (d : Int) = (r : Int) by rw [hr]; push_cast; rfl]
        exact IntWalk.i64_in _ (by have := HN.out; omega)
      rw [← hr] at HQ2 hq2
      have HR := Lib.hid hr
      have t1 : (j : Int) + 1 < (h : Int) := by omega
      have t2 : ¬ (n : Int) + 1 < (r : Int) := by omega
      have i3 : IntKind.i64.wrap ((j : Int) + 1 + 1) = (j : Int) + 1 + 1 := IntWalk.i64_in _ (by
        have h1 := Nat.lt_two_pow_self (n := h - 1)
        have h2 : 2 ^ (h - 1) ≤ d ^ (h - 1) := Nat.pow_le_pow_left hd _
        have := HP.out
        have := HN.out
        omega)
      clear hr hq hq2
      go_wp2_with fail
      go_roundg (h - (j + 1))
      case measure => have := HK.out; omega
      case rel => exact ⟨j + 1, r, rfl, by omega, rfl, HQ2, by push_cast; rfl, rfl⟩
    · obtain rfl : h = j + 1 := by omega
      have hp2 : 2 * q ≤ n + 1 := by
        have := HP.out
        rw [Nat.add_sub_cancel] at this
        rw [hq.out]; exact this
      have i2 : IntKind.i64.wrap (2 * (q : Int)) = 2 * (q : Int) := IntWalk.i64_in _ (by have := HN.out; omega)
      have t1 : ¬ (j : Int) + 1 < ((j + 1 : Nat) : Int) := by omega
      have t2 : (0 : Int) < ((j + 1 : Nat) : Int) := by omega
      have t3 : 2 * (q : Int) ≤ (n : Int) + 1 := by omega
      clear hq hp2
      go_wp2_with fail
      go_ret
      exact ⟨rfl, Go.RowKit.Below.refl _ _⟩
section
variable {w W W' : World} {T A d : Nat} {R : Int} {L M : List G5} {B C : Nat → Prop} {a : Option Addr} {cap : Nat} {K K' : Nat → Prop}
/-- How high it is, and that the document bears it. -/
theorem BkK.high (h : BkK w T A d R L B W) : ∃ N : Nat, (L = [] → N = 0) ∧ (Calls Try.prog 21 #[aP T] W fun e w' => e = .returned (.int .i64 (N : Int)) ∧ Go.RowKit.Below W.heap.size W w') ∧ ∀ X, Calls Try.prog 20 #[.int .i64 (d : Int), .int .i64 (L.length : Int), .int .i64 (N : Int)] X fun e w' => e = .returned (.bool true) ∧ Go.RowKit.Below X.heap.size X w' := by
  obtain ⟨⟨t, a, S0, h1, h2, _⟩, _⟩ := h
  obtain ⟨N, h3, h4⟩ := bheight_any h1 h2
  have hle := h2.le
  have hroom := h2.room
  rcases h3 with ⟨e, rfl⟩ | ⟨H, x, z, hr, hL, rfl⟩
  · refine ⟨0, fun _ => rfl, h4, fun X => ?_⟩
    rw [e]; exact bhigh_zero _ X
  · have hp := degR_pow d (by have := h2.d2; omega) H x hr z.tree
    rw [hL] at hp
    have hpos : 1 ≤ L.length := by
      have : 1 ≤ d ^ H := Nat.one_le_pow _ _ (by have := h2.d2; omega)
      omega
    refine ⟨H + 1, fun e => by rw [e] at hpos; simp at hpos, h4, fun X => ?_⟩
    exact bhigh_any d L.length (H + 1) h2.d2 h2.d64 hpos (by omega) (by omega) hp X
theorem BkK.low (h : BkK w T A d R L B W) (hC : ∀ b, C b → B b ∨ b < w.heap.size) : BkK w T A d R L C W := by
  obtain ⟨⟨t, a, S0, h1, h2, h3, h7⟩, h4⟩ := h
  refine ⟨⟨t, a, S0, h1, h2, h3, fun b hb => ?_⟩, h4⟩
  rcases hC b hb with k | k
  · exact h7 b k
  · refine ⟨fun hS => ?_, Nat.lt_of_lt_of_le k h4.size⟩
    have := (BtIs.lt ⟨a, S0, rfl, h1⟩ b hS).1
    omega
theorem MdB.low (h : MdB w T A d R L M a cap K W) (hC : ∀ b, K' b → K b ∨ b < w.heap.size) : MdB w T A d R L M a cap K' W :=
  ⟨h.tk.low (fun b hb => by
    rcases hb with k | k
    · exact .inl (.inl k)
    · exact (hC b k).imp .inr id), h.row, h.cap⟩
end
end Go.Proofs.Ytjgcdmeojjnjlaa
/- The document's Right. -/
namespace Go.Proofs.Ytjgcdmeojjnjlaa
open Go.RowKit Go.Sort Go.Proofs.Ytjgcdmeojjnjlaa.Bo Go.Proofs.Ytjgcdmeojjnjlaa.Bb
set_option linter.unusedVariables false
set_option maxRecDepth 100000
set_option maxHeartbeats 1000000 in
theorem bright7_yes (d R : Int) (h : (2 ≤ d ∧ d ≤ 64) ∧ 0 ≤ R ∧ R ≤ 4096) (w : World) : Calls Try.prog 11 #[.int .i64 d, .int .i64 R] w fun e w' => e = .returned (.bool true) ∧ Go.RowKit.Below w.heap.size w w' := by
  have mx := mixed
  obtain ⟨⟨h1, h2⟩, h3, h4⟩ := h
  go_enter Try.func11, Try.ntmps11
  go_wp2_with fail
  go_ret
  exact ⟨rfl, Go.RowKit.Below.refl _ _⟩
set_option maxHeartbeats 1000000 in
theorem bright7_no (d R : Int) (h : ¬ ((2 ≤ d ∧ d ≤ 64) ∧ 0 ≤ R ∧ R ≤ 4096)) (w : World) : Calls Try.prog 11 #[.int .i64 d, .int .i64 R] w fun e w' => e = .returned (.bool false) ∧ Go.RowKit.Below w.heap.size w w' := by
  have mx := mixed
  by_cases h1 : 2 ≤ d
  · by_cases h2 : d ≤ 64
    · by_cases h3 : 0 ≤ R
      · have h4 : ¬ R ≤ 4096 := by omega
        clear h
        go_enter Try.func11, Try.ntmps11
        go_wp2_with fail
        go_ret
        exact ⟨rfl, Go.RowKit.Below.refl _ _⟩
      · clear h
        go_enter Try.func11, Try.ntmps11
        go_wp2_with fail
        go_ret
        exact ⟨rfl, Go.RowKit.Below.refl _ _⟩
    · clear h
      go_enter Try.func11, Try.ntmps11
      go_wp2_with fail
      go_ret
      exact ⟨rfl, Go.RowKit.Below.refl _ _⟩
  · clear h
    go_enter Try.func11, Try.ntmps11
    go_wp2_with fail
    go_ret
    exact ⟨rfl, Go.RowKit.Below.refl _ _⟩
end Go.Proofs.Ytjgcdmeojjnjlaa
/- Load: rise, and what the document says of a row. -/
namespace Go.Proofs.Ytjgcdmeojjnjlaa
open Go.RowKit Go.Sort Go.Proofs.Ytjgcdmeojjnjlaa.Bo Go.Proofs.Ytjgcdmeojjnjlaa.Bb
set_option linter.unusedVariables false
set_option maxRecDepth 100000
/-- May the segment i stand in a row that is loaded? -/
def okAtB (l : List G5) (i : Nat) : Bool := (l.getD i Bo.g0).may && (i == 0 || decide ((l.getD (i - 1) Bo.g0).key < (l.getD i Bo.g0).key))
def riseB (l : List G5) : Bool := (List.range l.length).all (okAtB l)
theorem riseB_no (l : List G5) (j : Nat) (hj : j < l.length) (h : okAtB l j = false) : riseB l = false := by
  unfold riseB
  rw [List.all_eq_false]
  exact ⟨j, List.mem_range.2 hj, by rw [h]; simp⟩
theorem riseB_yes (l : List G5) (h : ∀ j, j < l.length → okAtB l j = true) : riseB l = true := by
  unfold riseB
  rw [List.all_eq_true]
  exact fun j hj => h j (List.mem_range.1 hj)
theorem riseB_all (l : List G5) (h : riseB l = true) (j : Nat) (hj : j < l.length) : okAtB l j = true := by
  unfold riseB at h
  rw [List.all_eq_true] at h
  exact h j (List.mem_range.2 hj)
theorem getD_at (l : List G5) (j : Nat) (hj : j < l.length) : l.getD j Bo.g0 = l[j] := by rw [List.getD_eq_getElem?_getD, List.getElem?_eq_getElem hj]; rfl
theorem riseB_row (l : List G5) (h : riseB l = true) : RowOk l := by
  have hm : ∀ j (hj : j < l.length), l[j].may = true ∧ (0 < j → (l[j - 1]'(by omega)).key < l[j].key) := fun j hj => by
    have := riseB_all l h j hj
    unfold okAtB at this
    rw [getD_at l j hj] at this
    simp only [Bool.and_eq_true, Bool.or_eq_true, beq_iff_eq, decide_eq_true_eq] at this
    refine ⟨this.1, fun h0 => ?_⟩
    rcases this.2 with e | e
    · omega
    · rwa [getD_at l (j - 1) (by omega)] at e
  have step : ∀ n i (hi : i < l.length) (hj : i + n + 1 < l.length), l[i].key < l[i + n + 1].key := by
    intro n
    induction n with
    | zero => intro i hi hj; have := (hm (i + 1) hj).2 (by omega); simpa using this
    | succ n ih =>
      intro i hi hj
      have h1 := ih i hi (by omega)
      have h2 := (hm (i + (n + 1) + 1) hj).2 (by omega)
      have e : i + (n + 1) + 1 - 1 = i + n + 1 := by omega
      simp only [e] at h2
      omega
  refine ⟨fun i j hi hj hij => ?_, fun g hg => ?_⟩
  · have := step (j - i - 1) i hi (by omega)
    have e : i + (j - i - 1) + 1 = j := by omega
    simp only [e] at this
    exact this
  · obtain ⟨j, hj, rfl⟩ := List.mem_iff_getElem.1 hg
    exact (hm j hj).1
theorem put_end (l : List G5) (R : Int) (h : RowOk l) (hok : ∀ g ∈ l, g.ok) (j : Nat) (hj : j < l.length) (hR : (j : Int) < R) : putG (l.take j) R l[j] = (l.take (j + 1), 0) := by
  have hm := List.getElem_mem hj
  have hky := l[j].ky (hok _ hm)
  have hlt : ∀ g ∈ l.take j, g.key < l[j].key := fun g hg => by
    obtain ⟨i, hi, rfl⟩ := List.mem_iff_getElem.1 hg
    rw [List.getElem_take]
    rw [List.length_take] at hi
    exact h.ris i j (by omega) hj (by omega)
  have hn : ¬ findG (l.take j) l[j].key < (l.take j).length := find_none _ _ hky (fun g hg e => by have := hlt g hg; omega)
  have hlen : (l.take j).length = j := by rw [List.length_take]; omega
  unfold putG
  rw [if_neg (by rw [h.may _ hm]; simp), if_neg hn, if_neg (by rw [hlen]; omega)]
  have := insG_cut l[j] (l.take j) [] hlt (fun g hg => by simp at hg)
  rw [List.append_nil] at this
  rw [this, List.take_succ_eq_append_getElem hj]
/-- What a round of rise may find. -/
structure RsR (b off j : Nat) (g p : G5) (m : Bool) (K : Int) (W : World) : Prop where
  ce : Cells5 W b (off + j * 5) g
  pc : 0 < j → Cells5 W b (off + (j - 1) * 5) p
  my : ∀ X, Calls Try.prog 67 #[.agg #[.int .i64 g.ls, .int .i64 g.la]] X fun e w' => e = .returned (.bool m) ∧ Go.RowKit.Below X.heap.size X w'
  cm : ∀ X, Calls Try.prog 83 #[.agg #[.int .i64 p.ls, .int .i64 p.la], .agg #[.int .i64 g.ls, .int .i64 g.la]] X fun e w' => e = .returned (.int .i64 K) ∧ Go.RowKit.Below X.heap.size X w'
set_option maxHeartbeats 4000000 in
theorem brise_row (a : Option Addr) (cap : Nat) (l : List G5) (w : World) (hl : l.length ≤ 1000) (hr : GRow w a l) (hok : ∀ g ∈ l, g.ok) : Calls Try.prog 61 #[.slice a l.length cap] w fun e w' => e = .returned (.bool (riseB l)) ∧ Go.RowKit.Below w.heap.size w w' := by
  have mx := mixed
  have HOK := Lib.hid hok
  have HRW := Lib.hid hr
  obtain ⟨N, hN⟩ : ∃ N, N = l.length := ⟨_, rfl⟩
  have HN := Lib.hid hN
  obtain ⟨RV, hRV⟩ : ∃ RV, RV = riseB l := ⟨_, rfl⟩
  have HRV := Lib.hid hRV
  rw [← hN] at hl ⊢
  rw [← hRV]
  clear hr hok hN hRV
  go_enter Try.func61, Try.ntmps61
  go_wp2_with fail
  go_loopg [7] N (fun k kv wr => ∃ j : Nat, k = N - j ∧ j ≤ N ∧ kv = .int .i64 (j : Int) ∧ Hid (∀ i, i < j → okAtB l i = true) ∧ Go.RowKit.Below w.heap.size w wr)
  case atStart => exact ⟨0, rfl, Nat.zero_le _, rfl, Lib.hid fun i hi => absurd hi (Nat.not_lt_zero _), Go.RowKit.Below.refl _ _⟩
  case round =>
    obtain ⟨j, hkj, hle, rfl, HI, hb⟩ := hrel
    have HK := Lib.hid hkj
    have HB := Lib.hid hb
    clear hkj hb
    by_cases hlt : j < N
    · have hlt2 : j < l.length := by rw [← HN.out]; exact hlt
      obtain ⟨b, off, rfl, hc⟩ := HRW.out (by omega)
      have hg := HOK.out _ (List.getElem_mem hlt2)
      have HX : ∃ p, Hid (RsR b off j l[j] p (l[j]).may (kcmp p.key (l[j]).key) wr) ∧ (0 < j → p = l.getD (j - 1) Bo.g0) := by
        rcases Nat.eq_zero_or_pos j with h0 | h0
        · refine ⟨l[j], Lib.hid ⟨(hc j hlt2).below HB.out, fun h => by omega, fun X => bmay_any _ hg X, fun X => (compare_any _ _ _ _ X hg.1 hg.1).mono fun _ _ h => ⟨h.1, h.2.1⟩⟩, fun h => by omega⟩
        · have hp := HOK.out _ (List.getElem_mem (show j - 1 < l.length by omega))
          exact ⟨l[j - 1]'(by omega), Lib.hid ⟨(hc j hlt2).below HB.out, fun _ => (hc (j - 1) (by omega)).below HB.out, fun X => bmay_any _ hg X, fun X => (compare_any _ _ _ _ X hp.1 hg.1).mono fun _ _ h => ⟨h.1, h.2.1⟩⟩, fun _ => (getD_at l (j - 1) (by omega)).symm⟩
      obtain ⟨p, HR, hpj⟩ := HX
      have HOKJ : Hid (okAtB l j = ((l[j]).may && (j == 0 || decide (p.key < (l[j]).key)))) := by
        show okAtB l j = _
        unfold okAtB
        rw [getD_at l j hlt2]
        rcases Nat.eq_zero_or_pos j with h0 | h0
        · have : (j == 0) = true := by simpa using h0
          rw [this]; simp
        · rw [← hpj h0]
      have hck : (kcmp p.key (l[j]).key < 0 ∧ p.key < (l[j]).key) ∨ (0 ≤ kcmp p.key (l[j]).key ∧ ¬ p.key < (l[j]).key) := by
        by_cases h : p.key < (l[j]).key
        · exact .inl ⟨kcmp_ng _ _ h, h⟩
        · exact .inr ⟨kcmp_nn _ _ (by omega), h⟩
      generalize kcmp p.key (l[j]).key = KC at *
      generalize hmg : (l[j]).may = m at *
      have HMG := Lib.hid hmg
      obtain ⟨f0, f1, f2, f3, f4⟩ := HR.out.ce
      generalize hgj : l[j] = g at *
      have i0 : (0 : Int) ≤ (j : Int) := by omega
      have i1 : (j : Int) < (N : Int) := by omega
      have i2 : IntKind.i64.wrap ((j : Int) + 1) = (j : Int) + 1 := IntWalk.i64_in _ (by omega)
      clear hgj hmg hc hg hpj hlt2
      go_upto_region 4 with fail
      clear f0 f1 f2 f3 f4
      have HB1 := Lib.hid (bt HB.out (below_new wr (oG g)))
      have hS1 := heap_alloc_new wr (oG g)
      have hPC : 0 < j → Cells5 (wr.alloc (oG g)) b (off + (j - 1) * 5) p := fun h => (HR.out.pc h).below (below_new wr (oG g))
      generalize wr.alloc (oG g) = X1 at *
      generalize wr.heap.size = s1 at *
      obtain ⟨q0, q1, _, _, _⟩ := five_cells hS1
      simp only [Nat.zero_add] at q1
      have p0 := cell_regrown q0
      have p1 := cell_regrown q1
      have HPC := Lib.hid hPC
      clear q0 q1 hS1 hPC
      cases m with
      | false =>
        refine wp_region_quiet_below (by assumption) (by kernel_rfl) ?_
        repeat (go_big_quiet_step (first
          | (go_at_call 67; with_reducible exact Calls.regrown_of (HR.out.my _))
          | (go_at_call 83; with_reducible exact Calls.regrown_of (HR.out.cm _))))
        refine wpQuiet_nil ?_
        intro _ hw'
        obtain ⟨⟨nq, osq⟩, hw''⟩ := hw'
        subst hw''
        have HB2 := Lib.hid (bt HB1.out (below_regrown X1 nq osq))
        clear p0 p1
        generalize grow (redrawn X1 nq) osq = X2 at *
        go_wp2_with fail
        go_ret
        exact ⟨by rw [HRV.out, riseB_no l j (by rw [← HN.out]; exact hlt) (by rw [HOKJ.out]; rfl)]; rfl, HB2.out⟩
      | true =>
        rcases Nat.eq_zero_or_pos j with h0 | h0
        · subst h0
          refine wp_region_quiet_below (by assumption) (by kernel_rfl) ?_
          repeat (go_big_quiet_step (first
            | (go_at_call 67; with_reducible exact Calls.regrown_of (HR.out.my _))
            | (go_at_call 83; with_reducible exact Calls.regrown_of (HR.out.cm _))))
          refine wpQuiet_nil ?_
          intro _ hw'
          obtain ⟨⟨nq, osq⟩, hw''⟩ := hw'
          subst hw''
          have HB2 := Lib.hid (bt HB1.out (below_regrown X1 nq osq))
          clear p0 p1
          generalize grow (redrawn X1 nq) osq = X2 at *
          go_wp2_with fail
          go_roundg (N - 1)
          case measure => have := HK.out; omega
          case rel => exact ⟨1, rfl, by omega, rfl, Lib.hid (fun i hi => by obtain rfl : i = 0 := by omega
                                                                            rw [HOKJ.out]; rfl), HB2.out⟩
        · obtain ⟨j', rfl⟩ : ∃ j', j = j' + 1 := ⟨j - 1, by omega⟩
          have e1 : j' + 1 - 1 = j' := by omega
          obtain ⟨r0, r1, _, _, _⟩ := HPC.out h0
          rw [e1] at r0 r1
          have u0 := cell_regrown r0
          have u1 := cell_regrown r1
          have i3 : IntKind.i64.wrap (((j' + 1 : Nat) : Int) - 1) = (j' : Int) := by rw [show ((j' + 1 : Nat) : Int) - 1 = (j' : Int) by omega]; exact IntWalk.i64_in _ (by omega)
          have i4 : (0 : Int) ≤ (j' : Int) := by omega
          have i5 : (j' : Int) < (N : Int) := by omega
          have i6 : (0 : Int) < ((j' + 1 : Nat) : Int) := by omega
          clear r0 r1
          rcases hck with ⟨c1, c2⟩ | ⟨c1, c2⟩
          · have c3 : ¬ 0 ≤ KC := by omega
            have HC2 := Lib.hid c2
            clear c2
            refine wp_region_quiet_below (by assumption) (by kernel_rfl) ?_
            repeat (go_big_quiet_step (first
              | (go_at_call 67; with_reducible exact Calls.regrown_of (HR.out.my _))
              | (go_at_call 83; with_reducible exact Calls.regrown_of (HR.out.cm _))))
            refine wpQuiet_nil ?_
            intro _ hw'
            obtain ⟨⟨nq, osq⟩, hw''⟩ := hw'
            subst hw''
            have HB2 := Lib.hid (bt HB1.out (below_regrown X1 nq osq))
            clear p0 p1
            generalize grow (redrawn X1 nq) osq = X2 at *
            clear u0 u1
            go_wp2_with fail
            go_roundg (N - (j' + 1 + 1))
            case measure => have := HK.out; omega
            case rel => exact ⟨j' + 1 + 1, rfl, by omega, by push_cast; rfl, Lib.hid (fun i hi => by
              rcases Nat.lt_or_ge i (j' + 1) with h | h
              · exact HI.out i h
              · obtain rfl : i = j' + 1 := by omega
                rw [HOKJ.out]; simp [HC2.out]), HB2.out⟩
          · have HC2 := Lib.hid c2
            clear c2
            refine wp_region_quiet_below (by assumption) (by kernel_rfl) ?_
            repeat (go_big_quiet_step (first
              | (go_at_call 67; with_reducible exact Calls.regrown_of (HR.out.my _))
              | (go_at_call 83; with_reducible exact Calls.regrown_of (HR.out.cm _))))
            refine wpQuiet_nil ?_
            intro _ hw'
            obtain ⟨⟨nq, osq⟩, hw''⟩ := hw'
            subst hw''
            have HB2 := Lib.hid (bt HB1.out (below_regrown X1 nq osq))
            clear p0 p1
            generalize grow (redrawn X1 nq) osq = X2 at *
            clear u0 u1
            go_wp2_with fail
            go_ret
            exact ⟨by rw [HRV.out, riseB_no l (j' + 1) (by rw [← HN.out]; exact hlt) (by rw [HOKJ.out]; simp [HC2.out])]; rfl, HB2.out⟩
    · obtain rfl : j = N := by omega
      go_wp2_with fail
      go_ret
      exact ⟨by rw [HRV.out, riseB_yes l (fun i hi => HI.out i (by rw [HN.out]; exact hi))]; rfl, HB.out⟩
end Go.Proofs.Ytjgcdmeojjnjlaa
/- Load, of the document and of the tree. -/
namespace Go.Proofs.Ytjgcdmeojjnjlaa
open Go.RowKit Go.Sort Go.Proofs.Ytjgcdmeojjnjlaa.Bo Go.Proofs.Ytjgcdmeojjnjlaa.Bb
set_option linter.unusedVariables false
set_option maxRecDepth 100000
set_option maxHeartbeats 1000000 in
theorem rload_bad (d R : Int) (a : Option Addr) (n cap : Nat) (w : World) (h : ¬ ((2 ≤ d ∧ d ≤ 64) ∧ 0 ≤ R ∧ R ≤ 4096)) : Calls Try.prog 33 #[.int .i64 d, .int .i64 R, .slice a n cap] w fun e w' => e = .returned (.int .i64 1) ∧ Go.RowKit.Below w.heap.size w w' := by
  have mx := mixed
  have HR := Lib.hid (fun W => bright7_no d R h W)
  clear h
  go_enter Try.func33, Try.ntmps33
  go_wp2_with fail
  refine (HR.out _).mono ?_
  rintro e y ⟨rfl, hb⟩
  have HB := Lib.hid hb
  clear hb
  go_wp2_with fail
  go_ret
  exact ⟨rfl, HB.out⟩
/-- What a round of the document's Load may find. -/
structure LdR (b off j : Nat) (g p : G5) (B L : Bool) (W : World) : Prop where
  ce : Cells5 W b (off + j * 5) g
  pc : 0 < j → Cells5 W b (off + (j - 1) * 5) p
  cn : ∀ X, Calls Try.prog 60 #[.agg #[.int .i64 g.ls, .int .i64 g.la]] X fun e w' => e = .returned (.agg #[.int .i64 (sd g.key), .int .i64 (pa g.key)]) ∧ Go.RowKit.Below X.heap.size X w'
  ne : ∀ X : World, Sem.run Try.prog (binOp .neq 34 (.agg #[.int .i64 (sd g.key), .int .i64 (pa g.key)]) (.agg #[.int .i64 g.ls, .int .i64 g.la])) X = .ok (.bool B) X
  le : ∀ X, Calls Try.prog 62 #[.agg #[.int .i64 p.ls, .int .i64 p.la], .agg #[.int .i64 g.ls, .int .i64 g.la]] X fun e w' => e = .returned (.bool L) ∧ Go.RowKit.Below X.heap.size X w'
set_option maxHeartbeats 4000000 in
theorem rload_any (d R : Int) (a : Option Addr) (cap : Nat) (l : List G5) (w : World) (hd : (2 ≤ d ∧ d ≤ 64) ∧ 0 ≤ R ∧ R ≤ 4096) (hl : l.length ≤ 1000) (hr : GRow w a l) (hok : ∀ g ∈ l, g.ok) : Calls Try.prog 33 #[.int .i64 d, .int .i64 R, .slice a l.length cap] w fun e w' => e = .returned (.int .i64 (if riseB l = false then 1 else if R < (l.length : Int) then 50 else 0)) ∧ Go.RowKit.Below w.heap.size w w' := by
  have mx := mixed
  have HRI := Lib.hid (fun W => bright7_yes d R hd W)
  have HOK := Lib.hid hok
  have HRW := Lib.hid hr
  obtain ⟨N, hN⟩ : ∃ N, N = l.length := ⟨_, rfl⟩
  have HN := Lib.hid hN
  obtain ⟨RV, hRV⟩ : ∃ RV : Int, RV = if riseB l = false then 1 else if R < (l.length : Int) then 50 else 0 := ⟨_, rfl⟩
  have HRV := Lib.hid hRV
  rw [← hRV]
  rw [← hN] at hl ⊢
  clear hr hok hN hRV hd
  have bad : ∀ j, j < N → okAtB l j = false → RV = 1 := fun j hj h => by
    rw [HRV.out, if_pos (riseB_no l j (by rw [← HN.out]; exact hj) h)]
  have HBAD := Lib.hid bad
  clear bad
  go_enter Try.func33, Try.ntmps33
  go_wp2_with fail
  refine (HRI.out _).mono ?_
  rintro e y0 ⟨rfl, hb0⟩
  have HB00 := Lib.hid hb0
  clear hb0
  go_wp2_with fail
  go_loopg [7] N (fun k kv wr => ∃ j : Nat, k = N - j ∧ j ≤ N ∧ kv = .int .i64 (j : Int) ∧ Hid (∀ i, i < j → okAtB l i = true) ∧ Go.RowKit.Below w.heap.size w wr)
  case atStart => exact ⟨0, rfl, Nat.zero_le _, rfl, Lib.hid fun i hi => absurd hi (Nat.not_lt_zero _), HB00.out⟩
  case round =>
    obtain ⟨j, hkj, hle, rfl, HI, hb⟩ := hrel
    have HK := Lib.hid hkj
    have HB := Lib.hid hb
    clear hkj hb HB00
    by_cases hlt : j < N
    · have hlt2 : j < l.length := by rw [← HN.out]; exact hlt
      obtain ⟨b, off, rfl, hc⟩ := HRW.out (by omega)
      have hg := HOK.out _ (List.getElem_mem hlt2)
      have hcn : ∀ X, Calls Try.prog 60 #[.agg #[.int .i64 (l[j]).ls, .int .i64 (l[j]).la]] X fun e w' => e = .returned (.agg #[.int .i64 (sd (l[j]).key), .int .i64 (pa (l[j]).key)]) ∧ Go.RowKit.Below X.heap.size X w' := fun X => rcanon_any _ _ X hg.1
      have HX : ∃ p, Hid (LdR b off j l[j] p (!(sd (l[j]).key == (l[j]).ls && pa (l[j]).key == (l[j]).la)) (decide (p.key < (l[j]).key)) wr) ∧ (0 < j → p = l.getD (j - 1) Bo.g0) := by
        rcases Nat.eq_zero_or_pos j with h0 | h0
        · refine ⟨l[j], Lib.hid ⟨(hc j hlt2).below HB.out, fun h => by omega, hcn, fun X => neqc_cut _ _ _ _ X, fun X => rless_any _ _ _ _ X hg.1 hg.1⟩, fun h => by omega⟩
        · have hp := HOK.out _ (List.getElem_mem (show j - 1 < l.length by omega))
          exact ⟨l[j - 1]'(by omega), Lib.hid ⟨(hc j hlt2).below HB.out, fun _ => (hc (j - 1) (by omega)).below HB.out, hcn, fun X => neqc_cut _ _ _ _ X, fun X => rless_any _ _ _ _ X hp.1 hg.1⟩, fun _ => (getD_at l (j - 1) (by omega)).symm⟩
      obtain ⟨p, HR, hpj⟩ := HX
      have hmay : (l[j]).may = (!(!(sd (l[j]).key == (l[j]).ls && pa (l[j]).key == (l[j]).la)) && !decide (0 < (l[j]).ls)) := by
        unfold G5.may G5.is
        rw [Bool.not_not, BEq.comm (a := (l[j]).ls), BEq.comm (a := (l[j]).la)]
      have HOKJ : Hid (okAtB l j = ((l[j]).may && (j == 0 || decide (p.key < (l[j]).key)))) := by
        show okAtB l j = _
        unfold okAtB
        rw [getD_at l j hlt2]
        rcases Nat.eq_zero_or_pos j with h0 | h0
        · have : (j == 0) = true := by simpa using h0
          rw [this]; simp
        · rw [← hpj h0]
      rw [hmay] at HOKJ
      have hsd : (0 < (l[j]).ls ∧ decide (0 < (l[j]).ls) = true) ∨ (¬ 0 < (l[j]).ls ∧ decide (0 < (l[j]).ls) = false) := by
        by_cases h : 0 < (l[j]).ls
        · exact .inl ⟨h, decide_eq_true h⟩
        · exact .inr ⟨h, decide_eq_false h⟩
      generalize decide (0 < (l[j]).ls) = SB at *
      generalize decide (p.key < (l[j]).key) = LB at *
      generalize (!(sd (l[j]).key == (l[j]).ls && pa (l[j]).key == (l[j]).la)) = NB at *
      obtain ⟨f0, f1, f2, f3, f4⟩ := HR.out.ce
      generalize hgj : l[j] = g at *
      generalize sd g.key = S1 at *
      generalize pa g.key = P1 at *
      have i0 : (0 : Int) ≤ (j : Int) := by omega
      have i1 : (j : Int) < (N : Int) := by omega
      have i2 : IntKind.i64.wrap ((j : Int) + 1) = (j : Int) + 1 := IntWalk.i64_in _ (by omega)
      have nq1 := HR.out.ne
      clear hgj hc hg hpj hlt2 hcn hmay
      go_upto_region 7 with fail
      clear f0 f1 f2 f3 f4
      have HB1 := Lib.hid (bt HB.out (below_new wr (.cells #[.int .i64 g.ls, .int .i64 g.la] 34)))
      have hS1 := heap_alloc_new wr (.cells #[.int .i64 g.ls, .int .i64 g.la] 34)
      have hPC : 0 < j → Cells5 (wr.alloc (.cells #[.int .i64 g.ls, .int .i64 g.la] 34)) b (off + (j - 1) * 5) p := fun h => (HR.out.pc h).below (below_new wr (.cells #[.int .i64 g.ls, .int .i64 g.la] 34))
      generalize wr.alloc (.cells #[.int .i64 g.ls, .int .i64 g.la] 34) = X1 at *
      generalize wr.heap.size = s1 at *
      obtain ⟨q0, q1, _, _⟩ := two_cells hS1
      have p0 := cell_regrown q0
      have p1 := cell_regrown q1
      have HPC := Lib.hid hPC
      clear q0 q1 hS1 hPC
      cases NB with
      | true =>
        refine wp_region_quiet_below (by assumption) (by kernel_rfl) ?_
        repeat (go_big_quiet_step (first
          | (go_at_call 60; with_reducible exact Calls.regrown_of (HR.out.cn _))
          | (go_at_call 62; with_reducible exact Calls.regrown_of (HR.out.le _))))
        refine wpQuiet_nil ?_
        intro _ hw'
        obtain ⟨⟨nq, osq⟩, hw''⟩ := hw'
        subst hw''
        have HB2 := Lib.hid (bt HB1.out (below_regrown X1 nq osq))
        clear p0 p1
        generalize grow (redrawn X1 nq) osq = X2 at *
        go_wp2_with fail
        go_ret
        exact ⟨by rw [HBAD.out j hlt (by rw [HOKJ.out]; rfl)]; rfl, HB2.out⟩
      | false =>
        rcases hsd with ⟨s1', s2'⟩ | ⟨s1', s2'⟩
        · subst s2'
          refine wp_region_quiet_below (by assumption) (by kernel_rfl) ?_
          repeat (go_big_quiet_step (first
            | (go_at_call 60; with_reducible exact Calls.regrown_of (HR.out.cn _))
            | (go_at_call 62; with_reducible exact Calls.regrown_of (HR.out.le _))))
          refine wpQuiet_nil ?_
          intro _ hw'
          obtain ⟨⟨nq, osq⟩, hw''⟩ := hw'
          subst hw''
          have HB2 := Lib.hid (bt HB1.out (below_regrown X1 nq osq))
          clear p0 p1
          generalize grow (redrawn X1 nq) osq = X2 at *
          go_wp2_with fail
          go_ret
          exact ⟨by rw [HBAD.out j hlt (by rw [HOKJ.out]; rfl)]; rfl, HB2.out⟩
        · subst s2'
          have s3' : g.ls ≤ 0 := by omega
          rcases Nat.eq_zero_or_pos j with h0 | h0
          · subst h0
            refine wp_region_quiet_below (by assumption) (by kernel_rfl) ?_
            repeat (go_big_quiet_step (first
              | (go_at_call 60; with_reducible exact Calls.regrown_of (HR.out.cn _))
              | (go_at_call 62; with_reducible exact Calls.regrown_of (HR.out.le _))))
            refine wpQuiet_nil ?_
            intro _ hw'
            obtain ⟨⟨nq, osq⟩, hw''⟩ := hw'
            subst hw''
            have HB2 := Lib.hid (bt HB1.out (below_regrown X1 nq osq))
            clear p0 p1
            generalize grow (redrawn X1 nq) osq = X2 at *
            go_wp2_with fail
            go_roundg (N - 1)
            case measure => have := HK.out; omega
            case rel => exact ⟨1, rfl, by omega, rfl, Lib.hid (fun i hi => by obtain rfl : i = 0 := by omega
                                                                              rw [HOKJ.out]; rfl), HB2.out⟩
          · obtain ⟨j', rfl⟩ : ∃ j', j = j' + 1 := ⟨j - 1, by omega⟩
            have e1 : j' + 1 - 1 = j' := by omega
            obtain ⟨r0, r1, _, _, _⟩ := HPC.out h0
            rw [e1] at r0 r1
            have u0 := cell_regrown r0
            have u1 := cell_regrown r1
            have i3 : IntKind.i64.wrap (((j' + 1 : Nat) : Int) - 1) = (j' : Int) := by rw [show ((j' + 1 : Nat) : Int) - 1 = (j' : Int) by omega]; exact IntWalk.i64_in _ (by omega)
            have i4 : (0 : Int) ≤ (j' : Int) := by omega
            have i5 : (j' : Int) < (N : Int) := by omega
            have i6 : (0 : Int) < ((j' + 1 : Nat) : Int) := by omega
            clear r0 r1
            cases LB with
            | true =>
              refine wp_region_quiet_below (by assumption) (by kernel_rfl) ?_
              repeat (go_big_quiet_step (first
                | (go_at_call 60; with_reducible exact Calls.regrown_of (HR.out.cn _))
                | (go_at_call 62; with_reducible exact Calls.regrown_of (HR.out.le _))))
              refine wpQuiet_nil ?_
              intro _ hw'
              obtain ⟨⟨nq, osq⟩, hw''⟩ := hw'
              subst hw''
              have HB2 := Lib.hid (bt HB1.out (below_regrown X1 nq osq))
              clear p0 p1
              generalize grow (redrawn X1 nq) osq = X2 at *
              clear u0 u1
              go_wp2_with fail
              go_roundg (N - (j' + 1 + 1))
              case measure => have := HK.out; omega
              case rel => exact ⟨j' + 1 + 1, rfl, by omega, by push_cast; rfl, Lib.hid (fun i hi => by
                rcases Nat.lt_or_ge i (j' + 1) with h | h
                · exact HI.out i h
                · obtain rfl : i = j' + 1 := by omega
                  rw [HOKJ.out]; simp), HB2.out⟩
            | false =>
              refine wp_region_quiet_below (by assumption) (by kernel_rfl) ?_
              repeat (go_big_quiet_step (first
                | (go_at_call 60; with_reducible exact Calls.regrown_of (HR.out.cn _))
                | (go_at_call 62; with_reducible exact Calls.regrown_of (HR.out.le _))))
              refine wpQuiet_nil ?_
              intro _ hw'
              obtain ⟨⟨nq, osq⟩, hw''⟩ := hw'
              subst hw''
              have HB2 := Lib.hid (bt HB1.out (below_regrown X1 nq osq))
              clear p0 p1
              generalize grow (redrawn X1 nq) osq = X2 at *
              clear u0 u1
              go_wp2_with fail
              go_ret
              exact ⟨by rw [HBAD.out (j' + 1) hlt (by rw [HOKJ.out]; simp)]; rfl, HB2.out⟩
    · obtain rfl : j = N := by omega
      have hyes : riseB l = true := riseB_yes l (fun i hi => HI.out i (by rw [HN.out]; exact hi))
      have HRV2 : Hid (RV = if R < (j : Int) then 50 else 0) := by
        show _ = _
        rw [HRV.out, hyes, if_neg (by simp), HN.out]
      clear hyes
      by_cases hR : R < (j : Int)
      · have HR2 := Lib.hid hR
        go_wp2_with fail
        go_ret
        exact ⟨by rw [HRV2.out, if_pos HR2.out]; rfl, HB.out⟩
      · have HR2 := Lib.hid hR
        go_wp2_with fail
        go_ret
        exact ⟨by rw [HRV2.out, if_neg (by have := HR2.out; omega)]; rfl, HB.out⟩
end Go.Proofs.Ytjgcdmeojjnjlaa
/- Load, by the tree. -/
namespace Go.Proofs.Ytjgcdmeojjnjlaa
open Go.RowKit Go.Sort Go.Proofs.Ytjgcdmeojjnjlaa.Bo Go.Proofs.Ytjgcdmeojjnjlaa.Bb
set_option linter.unusedVariables false
set_option maxRecDepth 100000
set_option maxHeartbeats 1000000 in
theorem bload_bad (d R : Int) (a : Option Addr) (n cap : Nat) (w : World) (h : ¬ ((2 ≤ d ∧ d ≤ 64) ∧ 0 ≤ R ∧ R ≤ 4096)) : Calls Try.prog 32 #[.int .i64 d, .int .i64 R, .slice a n cap] w fun e w' => e = .returned (.tuple #[.pointer none, .int .i64 1]) ∧ Go.RowKit.Below w.heap.size w w' := by
  have mx := mixed
  have HN := Lib.hid (btnew_no d R w h)
  clear h
  go_enter Try.func32, Try.ntmps32
  go_wp2_with fail
  refine HN.out.mono ?_
  rintro e y ⟨rfl, rfl⟩
  go_wp2_with fail
  go_ret2
  exact ⟨rfl, Go.RowKit.Below.refl _ _⟩
set_option maxHeartbeats 2000000 in
theorem bload_not (d : Nat) (R : Int) (a : Option Addr) (n cap : Nat) (e0 : Int) (w : World) (h1 : 2 ≤ d ∧ d ≤ 64) (h2 : 0 ≤ R ∧ R ≤ 4096) (rv : Bool) (HRI : Hid (∀ X, Go.RowKit.Below w.heap.size w X → Calls Try.prog 61 #[.slice a n cap] X fun e w' => e = .returned (.bool rv) ∧ Go.RowKit.Below X.heap.size X w')) (he : (rv = false ∧ e0 = 1) ∨ (rv = true ∧ R < (n : Int) ∧ e0 = 50)) :
    Calls Try.prog 32 #[.int .i64 (d : Int), .int .i64 R, .slice a n cap] w fun e w' => e = .returned (.tuple #[.pointer none, .int .i64 e0]) ∧ Go.RowKit.Below w.heap.size w w' := by
  have mx := mixed
  have HN := Lib.hid (bk_new (w := w) (W := w) d R h1 h2 (Go.RowKit.Below.refl _ _))
  clear h1 h2
  rcases he with ⟨rfl, rfl⟩ | ⟨rfl, hR, rfl⟩
  · go_enter Try.func32, Try.ntmps32
    go_wp2_with fail
    refine HN.out.mono ?_
    rintro e y ⟨T, A, ⟨rfl, ht⟩, hb⟩
    have HB := Lib.hid hb
    clear ht hb HN
    go_wp2_with fail
    refine (HRI.out _ HB.out).mono ?_
    rintro e y2 ⟨rfl, hb⟩
    have HB2 := Lib.hid (bt HB.out hb)
    clear hb
    go_wp2_with fail
    go_ret2
    exact ⟨rfl, HB2.out⟩
  · go_enter Try.func32, Try.ntmps32
    go_wp2_with fail
    refine HN.out.mono ?_
    rintro e y ⟨T, A, ⟨rfl, ht⟩, hb⟩
    have HB := Lib.hid hb
    clear ht hb HN
    go_wp2_with fail
    refine (HRI.out _ HB.out).mono ?_
    rintro e y2 ⟨rfl, hb⟩
    have HB2 := Lib.hid (bt HB.out hb)
    clear hb
    go_wp2_with fail
    go_ret2
    exact ⟨rfl, HB2.out⟩
set_option maxHeartbeats 4000000 in
theorem bload_yes (d : Nat) (R : Int) (a : Option Addr) (cap : Nat) (l : List G5) (w : World) (h1 : 2 ≤ d ∧ d ≤ 64) (h2 : 0 ≤ R ∧ R ≤ 4096) (hr : GRow w a l) (hok : ∀ g ∈ l, g.ok) (hrow : RowOk l) (hn : (l.length : Int) ≤ R) (HRI : Hid (∀ X, Go.RowKit.Below w.heap.size w X → Calls Try.prog 61 #[.slice a l.length cap] X fun e w' => e = .returned (.bool true) ∧ Go.RowKit.Below X.heap.size X w')) :
    Calls Try.prog 32 #[.int .i64 (d : Int), .int .i64 R, .slice a l.length cap] w fun e w' => ∃ T A, e = .returned (.tuple #[aP T, .int .i64 0]) ∧ BkK w T A d R l (fun _ => False) w' := by
  have mx := mixed
  have HN := Lib.hid (bk_new (w := w) (W := w) d R h1 h2 (Go.RowKit.Below.refl _ _))
  have HRW := Lib.hid hr
  have HP : Hid (∀ (T A j : Nat) (hj : j < l.length) W, BkK w T A d R (l.take j) (fun _ => False) W → Calls Try.prog 38 #[aP T, vG l[j]] W fun e w' => e = .returned (.int .i64 0) ∧ BkK w T A d R (l.take (j + 1)) (fun _ => False) w') := fun T A j hj W h => by
    have := h.put l[j] (hok _ (List.getElem_mem hj))
    rw [put_end l R hrow hok j hj (by omega)] at this
    exact this.mono fun e w' ⟨he, hk, _⟩ => ⟨he, hk⟩
  have t1 : ¬ R < (l.length : Int) := by omega
  obtain ⟨N, hN⟩ : ∃ N, N = l.length := ⟨_, rfl⟩
  have HNN := Lib.hid hN
  have hN1 : N ≤ 4096 := by omega
  rw [← hN] at HRI t1 ⊢
  clear h1 h2 hr hok hrow hn hN
  go_enter Try.func32, Try.ntmps32
  go_wp2_with fail
  refine HN.out.mono ?_
  rintro e y ⟨T, A, ⟨rfl, ht⟩, hb⟩
  have HB := Lib.hid hb
  have HT := Lib.hid ht
  clear ht hb HN
  go_wp2_with fail
  refine (HRI.out _ HB.out).mono ?_
  rintro e y2 ⟨rfl, hb⟩
  have HT2 := Lib.hid (HT.out.on hb)
  clear hb HT HB HRI
  go_wp2_with fail
  clear t1
  go_loopg [33] N (fun k kv wr => ∃ j : Nat, k = N - j ∧ j ≤ N ∧ kv = .int .i64 (j : Int) ∧ BkK w T A d R (l.take j) (fun _ => False) wr)
  case atStart => exact ⟨0, rfl, Nat.zero_le _, rfl, HT2.out⟩
  case round =>
    obtain ⟨j, hkj, hle, rfl, hbk⟩ := hrel
    have HK := Lib.hid hkj
    have HB := Lib.hid hbk
    clear hkj hbk HT2
    by_cases hlt : j < N
    · have hlt2 : j < l.length := by rw [← HNN.out]; exact hlt
      obtain ⟨b, off, rfl, hc⟩ := (HRW.out.below HB.out.be) (by omega)
      obtain ⟨f0, f1, f2, f3, f4⟩ := hc j hlt2
      have HPJ := Lib.hid (HP.out T A j hlt2)
      generalize l[j] = g at *
      have i0 : (0 : Int) ≤ (j : Int) := by omega
      have i1 : (j : Int) < (N : Int) := by omega
      have i2 : IntKind.i64.wrap ((j : Int) + 1) = (j : Int) + 1 := IntWalk.i64_in _ (by omega)
      clear hc hlt2
      go_upto_region 11 with fail
      clear f0 f1 f2 f3 f4
      have HB1 := Lib.hid (HB.out.on (below_new wr (oG g)))
      obtain ⟨q0, q1, q2, q3, q4⟩ := five_cells (heap_alloc_new wr (oG g))
      simp only [Nat.zero_add] at q1 q2 q3 q4
      generalize wr.alloc (oG g) = X1 at *
      generalize wr.heap.size = s1 at *
      go_wp2_with fail
      refine (HPJ.out _ HB1.out).mono ?_
      rintro e X2 ⟨rfl, hk⟩
      have HB2 := Lib.hid hk
      clear q0 q1 q2 q3 q4 hk HB1
      go_wp2_with fail
      go_roundg (N - (j + 1))
      case measure => have := HK.out; omega
      case rel => exact ⟨j + 1, rfl, by omega, by push_cast; rfl, HB2.out⟩
    · obtain rfl : j = N := by omega
      have hall : l.take j = l := by rw [HNN.out, List.take_length]
      rw [hall] at HB
      go_wp2_with fail
      go_ret2
      exact ⟨T, A, rfl, HB.out⟩
end Go.Proofs.Ytjgcdmeojjnjlaa
/- A slice of segments as an argument. -/
namespace Go.Proofs.Ytjgcdmeojjnjlaa
open Go.ChangeShapes Go.WideShapes Go.ChangeAt Go.RowKit Go.Sort Go.Joins Go.Proofs.Ytjgcdmeojjnjlaa.Bo
set_option linter.unusedVariables false
/-- A slice of segments. -/
def IsSegs (w : World) (a : Option Addr) (len cap : Nat) (l : List G5) : Prop := len = l.length ∧ (∀ q ∈ l, q.ok) ∧ GRow w a l ∧ len ≤ cap
theorem isSegs_nil (w : World) : IsSegs w none 0 0 [] := ⟨rfl, by simp, fun h => by simp at h, Nat.le_refl _⟩
theorem isSegs_of (w : World) (x : Addr) (len m cap : Nat) (hlc : len ≤ cap) (hlm : len ≤ m) (hi : ∀ i, i < m → ∃ o : G5, (∀ j u, [Value.int .i64 o.ls, .int .i64 o.la, .int .i64 o.hs, .int .i64 o.ha, .int .i64 o.v][j]? = some u → w.cell? (x.add (i * 5 + j)) = some u) ∧ o.ok) : ∃ l, IsSegs w (some x) len cap l := by
  have h' : ∀ i, ∃ o : G5, i < m → (∀ j u, [Value.int .i64 o.ls, .int .i64 o.la, .int .i64 o.hs, .int .i64 o.ha, .int .i64 o.v][j]? = some u → w.cell? (x.add (i * 5 + j)) = some u) ∧ o.ok := by
    intro i
    by_cases h : i < m
    · obtain ⟨o, h1⟩ := hi i h
      exact ⟨o, fun _ => h1⟩
    · exact ⟨⟨0, 0, 0, 0, 0⟩, fun h2 => absurd h2 h⟩
  obtain ⟨f, hf⟩ := Classical.axiomOfChoice h'
  refine ⟨(List.range len).map f, by simp, ?_, ?_, hlc⟩
  · intro c hc
    obtain ⟨i, hi2, rfl⟩ := List.mem_map.1 hc
    exact (hf i (by have := List.mem_range.1 hi2; omega)).2
  · intro hp
    have hp' : 0 < len := by simpa using hp
    obtain ⟨b, off, spot⟩ := x
    have hspot : spot = none := by simpa [Addr.add] using World.cell?_spot ((hf 0 (by omega)).1 0 _ rfl)
    subst hspot
    refine ⟨b, off, rfl, fun j hj => ?_⟩
    have hj' : j < len := by simpa using hj
    have h1 := (hf j (by omega)).1
    simp only [List.getElem_map, List.getElem_range]
    have g0 := h1 0 _ rfl
    have g1 := h1 1 _ rfl
    have g2 := h1 2 _ rfl
    have g3 := h1 3 _ rfl
    have g4 := h1 4 _ rfl
    rw [Addr.add_lit] at g0 g1 g2 g3 g4
    exact ⟨g0, by rw [Nat.add_assoc]; exact g1, by rw [Nat.add_assoc]; exact g2, by rw [Nat.add_assoc]; exact g3, by rw [Nat.add_assoc]; exact g4⟩
set_option maxRecDepth 100000 in
theorem open_segs {H : Type} {enc : TypeId × Value → H} {w : World} {base : Nat} {spare : Nat → Bool} {held : Bool} {a : Option Addr} {len cap : Nat} {d : DataW H} {p : List MemPlace} (h : DataW.Trod enc Try.prog w base spare held 32 (.slice a len cap) d p) : ∃ l, IsSegs w a len cap l := by
  obtain ⟨fuel, hf⟩ := h
  rcases Go.Deep.open_slice Try.underlying32 hf with ⟨hcs, _⟩ | ⟨x, l, c, m, n, D, Pl, hcs, _, hl, hm, hmm, _, hc⟩
  · simp [Value.cells] at hcs
    obtain ⟨rfl, rfl, rfl⟩ := hcs
    exact ⟨[], isSegs_nil w⟩
  · simp [Value.cells] at hcs
    obtain ⟨rfl, rfl, rfl⟩ := hcs
    have hlm : len ≤ m := by rw [hmm]; split <;> omega
    refine isSegs_of w x _ m _ hl hlm fun i hi => ?_
    obtain ⟨cs', h1, h2⟩ := hc i hi
    obtain ⟨o, e, ok⟩ := trod_seg h2
    rw [show Try.prog.cellsOf 38 = 5 by kernel_rfl] at h1
    obtain ⟨_, hlen, hcell⟩ := World.cells?_some h1
    refine ⟨o, fun j u hu => ?_, ok⟩
    rw [e] at hlen hcell
    have hj : j < 5 := by
      rcases Nat.lt_or_ge j 5 with h | h
      · exact h
      · rw [List.getElem?_eq_none (by simpa using h)] at hu; cases hu
    have e0 := hcell j hj
    rw [Go.Deep.add_add] at e0
    rw [e0, hu]
end Go.Proofs.Ytjgcdmeojjnjlaa
