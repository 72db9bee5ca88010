/- A part of the proof: contracts of the functions that the statements reach. -/
import Derived.RangeFuncNested
import Derived.RangeFuncBound
import Derived.RangeFuncCalls
import Derived.RangeFuncLeaves
import Derived.Shelf.Abstract
import Derived.Shelf.RegionOpen
import Derived.WalkKit
import Derived.OwnWalkIn
import Derived.TacticsInMore
import Derived.LoopNIn
import Derived.LoopIn
import Derived.Shelf.SlSortCmp.WholeK
import Derived.WalkSpells
import Derived.WalkLawsBesides
import Derived.Lib.Hide
import Derived.Laws.StructEq
import Derived.Shelf.SlSortCmp.QuietGrown
import Derived.Laws.EntriesVeiled
import Derived.Deep.CutRange
import Derived.RegionTactic
import Derived.Lib.QuietBelow
import Derived.BigQuiet
import Derived.OpenShut
import Derived.Deep.RegionHeld3
import Derived.Deep.QuietTactic
import Derived.Maps.AppendAt
import Derived.Laws.IdiomCopy
import Derived.Deep.AppendLies
import Derived.Deep.LoopGhost
import Derived.Deep.Upon
import Derived.StillTailTactics
import Derived.Lib.SmallJoins
import Derived.Deep.SlicePairs
import Derived.Deep.Strs
import Derived.ChangeOld
import Derived.SizedLaws
import Derived.Lib.SliceRun
import Derived.Laws.CopyRow
import Derived.Below
import Derived.Laws.CopyOwn
import Derived.Deep.RegionLaw
import Derived.IntWalk
import Derived.Lib.MinMax
import Derived.Test.YtjgcdmeojjnjlaaCP

/- The laws' all: the segments of a tree, gone through. -/
namespace Go.Proofs.Ytjgcdmeojjnjlaa
open Go.RowKit Go.Sort Go.Shelf Go.Proofs.Ytjgcdmeojjnjlaa.Bo Go.Proofs.Ytjgcdmeojjnjlaa.Bb
set_option linter.unusedVariables false
set_option maxRecDepth 100000
attribute [local go_sem] Oper.semAt_some
/-- An append to a row, in a fence: where the row comes to lie. -/
theorem wpListIn_append_rowB {F : Fence} {n : Nat} (w : World) {ops : Array Oper} {rest : List Oper} {o : Oper} {ac : Act} {Q : Exit → Act → World → Prop}
    (hg : o.guard = none) (s x : Operand) (t : TypeId) (hop : o.op = Op.call { callee := Callee.builtin Builtin.append, args := #[s, x], argTypes := #[t, t] })
    (base : Nat) (e : TypeId) (i : TypeInfo) (z : Value) (size bytes : Nat) (h1 : Try.prog.underlying t = some (.slice e)) (h2 : Try.prog.info? e = some i) (h3 : i.zero = some z) (h4 : i.size = size) (h5 : i.bytes = bytes) (h6 : z.cells.size = size) (h7 : 0 < size)
    (v : Value) (k : Nat) (xs : List Value) (hs : ac.eval s = v) (hown : w.ownsRow base e size v k xs) (ad : Option Addr) (m c : Nat) (news : List Value) (hx : ac.eval x = .slice ad m c) (hn : news.length = m * size)
    (hc : Bs.Lies w ad news) (h1c : ∀ u ∈ news, u.oneCell' = true) (b1 : k + m ≤ maxLen) (b2 : (k + m) * bytes ≤ 140737488355328) (b3 : base ≤ w.heap.size)
    (hK : ∀ a' cap w', w'.ownsRow base e size (.slice a' (k + m) cap) (k + m) (xs ++ news) → w.grownBy w' v.ownBlock → ((Value.slice a' (k + m) cap).ownBlock = v.ownBlock ∨ (Value.slice a' (k + m) cap).ownBlock = some w.heap.size) → wpListIn F n Try.prog ops Q rest (ac.put o.dst (.slice a' (k + m) cap)) w') :
    wpListIn F n Try.prog ops Q (o :: rest) ac w := by
  refine wpListIn_plain hg fun K hK' => ?_
  obtain ⟨a', cap, w', hrun, r1, r2, r3⟩ := Bs.run_append_row (P := Try.prog) t o.type i z bytes h1 h2 h3 h4 h5 h6 h7 v k xs hown ad m c news hn hc h1c b1 b2 b3
  unfold Oper.wpIn
  refine ⟨?_, ?_⟩
  · simp [Oper.about, hop, resolve, Target.leads, Sem.run_pure]
  · rw [Oper.semAt_plain F _ _ (by rw [hop]; intro c hc'; cases hc')]
    simp [execOp, hop, resolve, invoke, builtin, hs, hx, hrun, Result.andThen]
    exact hK' _ _ (hK a' cap w' r1 r2 r3)
/-- Between two rounds of all: the row's box at b, what has come behind it. -/
def AllB (X : World) (b : Nat) (pre : List G5) (W : World) : Prop := (∃ v, Boxed W b 32 v ∧ W.ownsRow b 38 5 v pre.length (flatG pre) ∧ ∃ a cap, v = .slice a pre.length cap) ∧ Go.RowKit.Below b X W
theorem allB_own (X : World) (b B : Nat) (hX : b ≤ X.heap.size) (hB : b ≤ B) : OwnFrom B (AllB X b) :=
  OwnFrom.and (Own.from (holdsRow_own b b 32 38 5 (fun pre : List G5 => pre.length) flatG (fun pre v => ∃ a cap, v = .slice a pre.length cap)) _) (ownFrom_below hX hB)
theorem kpS_app {W w1 : World} {B k : Nat} {v v' : Value} {xs : List Value} {tmp : Obj} (hv : Boxed W B 32 v) (hrow : W.ownsRow B 38 5 v k xs) (hgrow : (W.alloc tmp).grownBy w1 v.ownBlock) (hat : v'.ownBlock = v.ownBlock ∨ v'.ownBlock = some (W.alloc tmp).heap.size) (hB1 : w1.heap[B]? = some (.cells #[v] 32 (0, 0))) (hlt : ∀ q, v'.ownBlock = some q → q < w1.heap.size) (hb : Go.RowKit.Below B W (w1.setCell ⟨B, 0, none⟩ v')) : KpS B B W (w1.setCell ⟨B, 0, none⟩ v') := by
  refine ⟨hb, fun j cs t hj ht => ?_, fun q hq => ?_⟩
  · have hjl := lt_of_block hj
    have h1 : (W.alloc tmp).heap[j]? = some (.cells cs t (0, 0)) := box_on hj (below_new W tmp)
    have h2 : w1.heap[j]? = some (.cells cs t (0, 0)) := (hgrow.block j (by simp; omega) (fun e => by
      rcases hrow.2 with ⟨rfl, _⟩ | ⟨g, cap, cur, rfl, _, hgb, _⟩
      · simp [Value.ownBlock] at e
      · obtain rfl : j = g := by simpa [Value.ownBlock] using e
        rw [hj] at hgb
        injection hgb with hgb
        injection hgb with _ hgb _
        subst hgb
        rcases ht with e1 | e1 | ⟨_, _, e3⟩
        · revert e1; decide
        · revert e1; decide
        · exact e3 ⟨_, hv, rfl⟩)).trans h1
    refine set_far h2 (fun e => ?_)
    subst e
    have := (show W.heap[j]? = _ from hv).symm.trans hj
    injection this with this
    injection this with _ this _
    subst this
    rcases ht with e1 | e1 | ⟨e1, _, _⟩ <;> (revert e1; decide)
  · obtain ⟨u, hu, ho⟩ := hq
    have hset : (w1.setCell ⟨B, 0, none⟩ v').heap[B]? = some (.cells #[v'] 32 (0, 0)) := heap_setCell_same w1 B 0 _ _ v' hB1
    have e := hset.symm.trans hu
    injection e with e
    injection e with e _ _
    obtain rfl : v' = u := by simpa using e
    rcases hat with h | h
    · exact .inl ⟨v, hv, h ▸ ho⟩
    · rw [h] at ho
      injection ho with ho
      refine .inr ⟨by rw [← ho]; simp, ?_⟩
      rw [World.size_setCell]
      exact hlt q (by rw [h, ho])
set_option maxHeartbeats 4000000 in
theorem bdall_any {w : World} {base T A d : Nat} {t : Bx} {a : Ag Rn} {S0 : Nat → Prop} {L : List G5} (h : BtW w base T A t a S0) (ok : BtOk t d L) : Calls Try.prog 17 #[aP T] w fun e w' => ∃ a cap, (e = .returned (.slice a L.length cap) ∧ GRow w' a L ∧ L.length ≤ cap) ∧ Go.RowKit.Below w.heap.size w w' := by
  have mx := mixed
  obtain ⟨i0, hi, hz0, hz1, hz2⟩ := info_parts Try.infoSeg
  have HTR := Lib.hid h
  have hlen := ok.le
  have hroom := ok.room
  have HOK := Lib.hid ok
  have hB0 : Go.RowKit.Below w.heap.size w ((w.alloc (.cells #[.slice none 0 0] 32)).alloc (oBP T)) := bt (below_new _ _) (below_new _ _)
  have HB0 := Lib.hid hB0
  have HBX : Hid (((w.alloc (.cells #[.slice none 0 0] 32)).alloc (oBP T)).heap[w.heap.size]? = some (.cells #[.slice none 0 0] 32 (0, 0))) := box_on (heap_alloc_new _ _) (below_new _ _)
  have HBT : Hid (((w.alloc (.cells #[.slice none 0 0] 32)).alloc (oBP T)).heap[w.heap.size + 1]? = some (oBP T)) := new_at' _ (by simp)
  clear h hB0
  refine (callsIn_wide (n := 6)).1 ?_
  refine callsIn_of_wp_marks Try.func17 rfl trivial ?_ rfl
  simp only [Try.ntmps17, List.size_toArray, List.length_cons, List.length_nil, Nat.reduceAdd, Nat.reduceSub, Array.replicate_succ, Array.replicate_zero, List.push_toArray, List.append_toArray, List.nil_append, List.cons_append]
  gi_wp2_with (refine ⟨trivial, ?_⟩; gi_at_call 34; refine (callsIn_wide.2 (ball_any T _)).mono ?_; rintro e w' ⟨rfl, rfl⟩)
  generalize (w.alloc (.cells #[.slice none 0 0] 32)).alloc (oBP T) = W0 at *
  have hsz : w.heap.size + 1 < W0.heap.size := lt_of_block HBT.out
  have hrow0 : ∀ k, rowAt w.heap.size W0 k → k < W0.heap.size := fun k hk => by
    obtain ⟨v, hv, ho⟩ := hk
    rw [HBX.out] at hv
    injection hv with hv
    injection hv with hv _ _
    obtain rfl : Value.slice none 0 0 = v := by simpa using hv
    cases ho
  refine wpIn_rangeFunc_ownH rfl (by omega) (gf := 63) (lb := #[.pointer (some ⟨w.heap.size + 1, 0, none⟩)]) rfl trivial (enters_of Try.func63 (by kernel_rfl) rfl)
    (ball_stops (6 - 1) (w.heap.size + 1) w.heap.size w.heap.size base T A d W0 (HTR.out.below HB0.out) HOK.out (fun b hb => HTR.out.blt b hb) HB0.out.size HBT.out (by omega) hrow0) KpS.trans (kpS_b HB0.out.size (by omega)) (Go.RowKit.Below.refl _ _) (fun _ => rfl)
    (AllB w w.heap.size) (fun _ _ _ => False) (allB_own w _ _ (Nat.le_refl _) HB0.out.size) (fun _ _ _ _ _ hs _ _ => hs)
    ⟨⟨_, HBX.out, World.ownsRow_nil _ _ _ _, none, 0, rfl⟩, HB0.out⟩
    (fun g a' W => ∃ Bx, W.heap[Bx]? = some (oG g) ∧ a' = { tmps := #[aP T, undef, .slice none 0 0, .pointer (some ⟨w.heap.size, 0, none⟩), .pointer (some ⟨Bx, 0, none⟩), aP T, .func (.func 63) #[] #[.pointer (some ⟨w.heap.size + 1, 0, none⟩)], vG g, undef, undef, undef, undef, undef], defers := [] })
    (fun g a' _ X Y row hs hg hr => by
      obtain ⟨Bx, h1, h2⟩ := hs
      exact ⟨Bx, (hg.block Bx (lt_of_block h1) (fun e => by obtain ⟨_, o, ho, hc⟩ := hr Bx e.symm; rw [h1] at ho; injection ho with ho; subst ho; cases hc)).trans h1, h2⟩)
    ?assign ?body ?done ?stop
  case assign =>
    rintro l pre g W K hI hK
    obtain ⟨⟨v, hv, hrow, hva⟩, hB⟩ := hI
    gi_wp2
    exact hK _ _ ((KeepsOthers.alloc _ _).from _) (KpS.of_below (below_new W (oG g)) hB.size (lt_of_block hv)) ⟨⟨v, hv.alloc _, hrow.alloc _, hva⟩, hB.alloc hB.size _⟩ ⟨W.heap.size, heap_alloc_new W (oG g), rfl⟩
  case body =>
    rintro l pre g a' W hl ⟨r, hr⟩ ⟨⟨v, hv, hrow, av, cv, hva⟩, hB⟩ ⟨Bx, hbx, rfl⟩ hlt
    have HV := Lib.hid hv
    have HROW := Lib.hid hrow
    have HB := Lib.hid hB
    have hc := hv.cell
    obtain ⟨c1, c2, c3, c4, c5⟩ := five_cells hbx
    simp only [Nat.zero_add] at c2 c3 c4 c5
    have hlen2 : pre.length ≤ 65536 := by omega
    have HLS : Hid (Bs.Lies (W.alloc (oG g)) (some ⟨W.heap.size, 0, none⟩) (flatG [g])) := Lib.hid (Bs.Lies.of_own (w := W.alloc (oG g)) (base := 0) (e := 38) (size := 5) (a := some ⟨W.heap.size, 0, none⟩) (n := 1) (cap := 1) (xs := flatG [g]) ⟨rfl, .inr ⟨W.heap.size, 1, _, rfl, Nat.zero_le _, heap_alloc_new W (oG g), Nat.le_refl _, by decide, rfl, rfl⟩⟩)
    have HR2 := Lib.hid (hrow.alloc (oG g))
    have hsz2 : w.heap.size ≤ (W.alloc (oG g)).heap.size := by have := hB.size; simp; omega
    clear hv hrow hB hbx hr hva
    gi_wp2_with (gi_at_builtin; refine wpListIn_append_rowB _ rfl _ _ 32 rfl w.heap.size 38 i0 (.agg #[.int .i64 0, .int .i64 0, .int .i64 0, .int .i64 0, .int .i64 0]) 5 40 Try.underlying32 hi hz0 hz1 hz2 rfl (by decide) v pre.length _ rfl HR2.out (some ⟨W.heap.size, 0, none⟩) 1 1 (flatG [g]) rfl rfl HLS.out (flatG_one [g]) (by unfold maxLen; omega) (by omega) hsz2 ?_; intro a' cap' w1 hown' hgrow hat; obtain ⟨hv1, hv2, hr2, hk2, hb2⟩ := HV.out.appended (by decide) HROW.out HB.out.size (Nat.le_refl _) hown' hgrow; have hkp := kpS_app HV.out HROW.out hgrow hat hv1 (fun q hq => (hown'.lt q hq).2) hb2; have hc1 := hv1.cell; have hf1 := hv1.frozen)
    refine ⟨hk2.from _, hkp, ⟨⟨_, hv2, ?_, ?_⟩, HB.out.trans hb2⟩⟩
    · rw [flatG_append, List.length_append]; exact hr2
    · exact ⟨_, _, by rw [List.length_append]; rfl⟩
  case done =>
    rintro D ys W hD rfl ⟨⟨v, hv, hrow, av, cv, rfl⟩, hB⟩ hK
    have hc := hv.cell
    have HK := Lib.hid hK
    have HROW := Lib.hid hrow
    have HB := Lib.hid hB
    clear hv hK hrow hB
    gi_wp2
    refine ⟨by simp, .inl ⟨_, _, rfl, run_takeDeferred HK.out, ?_⟩⟩
    refine ⟨_, results_tmp rfl _ _ _, av, cv, ⟨rfl, own_grow (ownsRow_putObj HROW.out _ HK.out rfl) rfl, own_capG HROW.out⟩, HB.out.trans (belowK_b (w := w) (Nat.le_refl _) W D _ _ (by have := HB0.out.size; omega) HK.out rfl rfl)⟩
  case stop =>
    rintro D c pre W _ _ h _
    exact h.elim
section
variable {w W : World} {T A d : Nat} {R : Int} {L M : List G5} {B : Nat → Prop} {a : Option Addr} {cap : Nat} {K : Nat → Prop}
theorem BkK.all (h : BkK w T A d R L B W) : Calls Try.prog 17 #[aP T] W fun e w' => ∃ a2 cap2, (e = .returned (.slice a2 L.length cap2) ∧ GRow w' a2 L ∧ L.length ≤ cap2) ∧ Go.RowKit.Below W.heap.size W w' := by
  obtain ⟨⟨t, a, S0, h1, h2, _⟩, _⟩ := h
  exact bdall_any h1 h2
end
end Go.Proofs.Ytjgcdmeojjnjlaa
/- How high a tree is, by the document's bound; blocks that lay there before. -/
namespace Go.Proofs.Ytjgcdmeojjnjlaa
open Go.RowKit Go.Sort Go.Proofs.Ytjgcdmeojjnjlaa.Bo Go.Proofs.Ytjgcdmeojjnjlaa.Bb
set_option linter.unusedVariables false
set_option maxRecDepth 100000
set_option maxHeartbeats 2000000 in
theorem bhigh_zero (d : Int) (w : World) : Calls Try.prog 20 #[.int .i64 d, .int .i64 0, .int .i64 0] w fun e w' => e = .returned (.bool true) ∧ Go.RowKit.Below w.heap.size w w' := by
  have mx := mixed
  go_enter Try.func20, Try.ntmps20
  go_wp2_with fail
  go_ret
  exact ⟨rfl, Go.RowKit.Below.refl _ _⟩
set_option maxHeartbeats 2000000 in
theorem bhigh_any (d n h : Nat) (hd : 2 ≤ d) (hd64 : d ≤ 64) (hn : 1 ≤ n) (hn2 : n ≤ 100000) (hh : 1 ≤ h) (hp : 2 * d ^ (h - 1) ≤ n + 1) (w : World) : Calls Try.prog 20 #[.int .i64 (d : Int), .int .i64 (n : Int), .int .i64 (h : Int)] w fun e w' => e = .returned (.bool true) ∧ Go.RowKit.Below w.heap.size w w' := by
  have mx := mixed
  have t0 : ((n : Int) == 0) = false := by have : ¬ (n : Int) = 0 := by omega
                                           simpa using this
  have t0' : ¬ n = 0 := by omega
  have i1 : IntKind.i64.wrap ((n : Int) + 1) = (n : Int) + 1 := IntWalk.i64_in _ (by omega)
  have HP := Lib.hid hp
  have HN := Lib.hid hn2
  clear hp
  go_enter Try.func20, Try.ntmps20
  go_wp2_with fail
  go_loopg [7, 8] h (fun k nv kv wr => ∃ (j q : Nat), k = h - j ∧ j + 1 ≤ h ∧ nv = .int .i64 (q : Int) ∧ Hid (q = d ^ j) ∧ kv = .int .i64 ((j : Int) + 1) ∧ wr = w)
  case atStart => exact ⟨0, 1, by omega, by omega, rfl, Lib.hid (Nat.pow_zero d).symm, rfl, rfl⟩
  case round =>
    obtain ⟨j, q, hkj, hle, rfl, hq, rfl, rfl⟩ := hrel
    have HK := Lib.hid hkj
    clear hkj
    have hql : q ≤ n + 1 := by
      rw [hq.out]
      rcases Nat.eq_zero_or_pos j with h0 | h0
      · subst h0; simp
      · exact high_round d n h j hd (by omega) HP.out
    by_cases hlt : j + 1 < h
    · have hq2 : q * d ≤ n + 1 := by
        rw [hq.out, ← Nat.pow_succ]
        exact high_round d n h (j + 1) hd hlt HP.out
      have HQ2 : Hid (q * d = d ^ (j + 1)) := by show _ = _; rw [hq.out, Nat.pow_succ]
      obtain ⟨r, hr⟩ : ∃ r, r = q * d := ⟨_, rfl⟩
      have i2 : IntKind.i64.wrap ((q : Int) * (d : Int)) = (r : Int) := by
        rw [show (q : Int) * (d : Int) = (r : Int) by rw [hr]; push_cast; rfl]
        exact IntWalk.i64_in _ (by have := HN.out; omega)
      rw [← hr] at HQ2 hq2
      have HR := Lib.hid hr
      have t1 : (j : Int) + 1 < (h : Int) := by omega
      have t2 : ¬ (n : Int) + 1 < (r : Int) := by omega
      have i3 : IntKind.i64.wrap ((j : Int) + 1 + 1) = (j : Int) + 1 + 1 := IntWalk.i64_in _ (by
        have h1 := Nat.lt_two_pow_self (n := h - 1)
        have h2 : 2 ^ (h - 1) ≤ d ^ (h - 1) := Nat.pow_le_pow_left hd _
        have := HP.out
        have := HN.out
        omega)
      clear hr hq hq2
      go_wp2_with fail
      go_roundg (h - (j + 1))
      case measure => have := HK.out; omega
      case rel => exact ⟨j + 1, r, rfl, by omega, rfl, HQ2, by push_cast; rfl, rfl⟩
    · obtain rfl : h = j + 1 := by omega
      have hp2 : 2 * q ≤ n + 1 := by
        have := HP.out
        rw [Nat.add_sub_cancel] at this
        rw [hq.out]; exact this
      have i2 : IntKind.i64.wrap (2 * (q : Int)) = 2 * (q : Int) := IntWalk.i64_in _ (by have := HN.out; omega)
      have t1 : ¬ (j : Int) + 1 < ((j + 1 : Nat) : Int) := by omega
      have t2 : (0 : Int) < ((j + 1 : Nat) : Int) := by omega
      have t3 : 2 * (q : Int) ≤ (n : Int) + 1 := by omega
      clear hq hp2
      go_wp2_with fail
      go_ret
      exact ⟨rfl, Go.RowKit.Below.refl _ _⟩
section
variable {w W W' : World} {T A d : Nat} {R : Int} {L M : List G5} {B C : Nat → Prop} {a : Option Addr} {cap : Nat} {K K' : Nat → Prop}
/-- How high it is, and that the document bears it. -/
theorem BkK.high (h : BkK w T A d R L B W) : ∃ N : Nat, (L = [] → N = 0) ∧ (Calls Try.prog 21 #[aP T] W fun e w' => e = .returned (.int .i64 (N : Int)) ∧ Go.RowKit.Below W.heap.size W w') ∧ ∀ X, Calls Try.prog 20 #[.int .i64 (d : Int), .int .i64 (L.length : Int), .int .i64 (N : Int)] X fun e w' => e = .returned (.bool true) ∧ Go.RowKit.Below X.heap.size X w' := by
  obtain ⟨⟨t, a, S0, h1, h2, _⟩, _⟩ := h
  obtain ⟨N, h3, h4⟩ := bheight_any h1 h2
  have hle := h2.le
  have hroom := h2.room
  rcases h3 with ⟨e, rfl⟩ | ⟨H, x, z, hr, hL, rfl⟩
  · refine ⟨0, fun _ => rfl, h4, fun X => ?_⟩
    rw [e]; exact bhigh_zero _ X
  · have hp := degR_pow d (by have := h2.d2; omega) H x hr z.tree
    rw [hL] at hp
    have hpos : 1 ≤ L.length := by
      have : 1 ≤ d ^ H := Nat.one_le_pow _ _ (by have := h2.d2; omega)
      omega
    refine ⟨H + 1, fun e => by rw [e] at hpos; simp at hpos, h4, fun X => ?_⟩
    exact bhigh_any d L.length (H + 1) h2.d2 h2.d64 hpos (by omega) (by omega) hp X
theorem BkK.low (h : BkK w T A d R L B W) (hC : ∀ b, C b → B b ∨ b < w.heap.size) : BkK w T A d R L C W := by
  obtain ⟨⟨t, a, S0, h1, h2, h3, h7⟩, h4⟩ := h
  refine ⟨⟨t, a, S0, h1, h2, h3, fun b hb => ?_⟩, h4⟩
  rcases hC b hb with k | k
  · exact h7 b k
  · refine ⟨fun hS => ?_, Nat.lt_of_lt_of_le k h4.size⟩
    have := (BtIs.lt ⟨a, S0, rfl, h1⟩ b hS).1
    omega
theorem MdB.low (h : MdB w T A d R L M a cap K W) (hC : ∀ b, K' b → K b ∨ b < w.heap.size) : MdB w T A d R L M a cap K' W :=
  ⟨h.tk.low (fun b hb => by
    rcases hb with k | k
    · exact .inl (.inl k)
    · exact (hC b k).imp .inr id), h.row, h.cap⟩
end
end Go.Proofs.Ytjgcdmeojjnjlaa
/- The document's Right. -/
namespace Go.Proofs.Ytjgcdmeojjnjlaa
open Go.RowKit Go.Sort Go.Proofs.Ytjgcdmeojjnjlaa.Bo Go.Proofs.Ytjgcdmeojjnjlaa.Bb
set_option linter.unusedVariables false
set_option maxRecDepth 100000
set_option maxHeartbeats 1000000 in
theorem bright7_yes (d R : Int) (h : (2 ≤ d ∧ d ≤ 64) ∧ 0 ≤ R ∧ R ≤ 4096) (w : World) : Calls Try.prog 11 #[.int .i64 d, .int .i64 R] w fun e w' => e = .returned (.bool true) ∧ Go.RowKit.Below w.heap.size w w' := by
  have mx := mixed
  obtain ⟨⟨h1, h2⟩, h3, h4⟩ := h
  go_enter Try.func11, Try.ntmps11
  go_wp2_with fail
  go_ret
  exact ⟨rfl, Go.RowKit.Below.refl _ _⟩
set_option maxHeartbeats 1000000 in
theorem bright7_no (d R : Int) (h : ¬ ((2 ≤ d ∧ d ≤ 64) ∧ 0 ≤ R ∧ R ≤ 4096)) (w : World) : Calls Try.prog 11 #[.int .i64 d, .int .i64 R] w fun e w' => e = .returned (.bool false) ∧ Go.RowKit.Below w.heap.size w w' := by
  have mx := mixed
  by_cases h1 : 2 ≤ d
  · by_cases h2 : d ≤ 64
    · by_cases h3 : 0 ≤ R
      · have h4 : ¬ R ≤ 4096 := by omega
        clear h
        go_enter Try.func11, Try.ntmps11
        go_wp2_with fail
        go_ret
        exact ⟨rfl, Go.RowKit.Below.refl _ _⟩
      · clear h
        go_enter Try.func11, Try.ntmps11
        go_wp2_with fail
        go_ret
        exact ⟨rfl, Go.RowKit.Below.refl _ _⟩
    · clear h
      go_enter Try.func11, Try.ntmps11
      go_wp2_with fail
      go_ret
      exact ⟨rfl, Go.RowKit.Below.refl _ _⟩
  · clear h
    go_enter Try.func11, Try.ntmps11
    go_wp2_with fail
    go_ret
    exact ⟨rfl, Go.RowKit.Below.refl _ _⟩
end Go.Proofs.Ytjgcdmeojjnjlaa
