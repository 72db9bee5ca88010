/- A part of the proof: contracts of the functions that the statements reach. -/
import Derived.RangeFuncNested
import Derived.RangeFuncBound
import Derived.RangeFuncCalls
import Derived.RangeFuncLeaves
import Derived.Shelf.Abstract
import Derived.Shelf.RegionOpen
import Derived.WalkKit
import Derived.OwnWalkIn
import Derived.TacticsInMore
import Derived.LoopNIn
import Derived.LoopIn
import Derived.Shelf.SlSortCmp.WholeK
import Derived.WalkSpells
import Derived.WalkLawsBesides
import Derived.Lib.Hide
import Derived.Laws.StructEq
import Derived.Shelf.SlSortCmp.QuietGrown
import Derived.Laws.EntriesVeiled
import Derived.Deep.CutRange
import Derived.RegionTactic
import Derived.Lib.QuietBelow
import Derived.BigQuiet
import Derived.OpenShut
import Derived.Deep.RegionHeld3
import Derived.Deep.QuietTactic
import Derived.Maps.AppendAt
import Derived.Laws.IdiomCopy
import Derived.Deep.AppendLies
import Derived.Deep.LoopGhost
import Derived.Deep.Upon
import Derived.StillTailTactics
import Derived.Lib.SmallJoins
import Derived.Deep.SlicePairs
import Derived.Deep.Strs
import Derived.ChangeOld
import Derived.SizedLaws
import Derived.Lib.SliceRun
import Derived.Laws.CopyRow
import Derived.Below
import Derived.Laws.CopyOwn
import Derived.Deep.RegionLaw
import Derived.IntWalk
import Derived.Lib.MinMax
import Derived.Test.YtjgcdmeojjnjlaaCM

/- Delete: the walks. -/
namespace Go.Proofs.Ytjgcdmeojjnjlaa
open Go.RowKit Go.Sort Go.Proofs.Ytjgcdmeojjnjlaa.Bo Go.Proofs.Ytjgcdmeojjnjlaa.Bb
set_option linter.unusedVariables false
set_option maxRecDepth 100000
set_option maxHeartbeats 4000000 in
theorem bdel_none (T : Nat) (x y : Int) (PW : Option Addr → Nat → Nat → World → Prop) (w : World)
    (HPW : Hid (∀ ap n cap W W', PW ap n cap W → Go.RowKit.Below W.heap.size W W' → PW ap n cap W'))
    (HW : Hid (∀ W c, Go.RowKit.Below w.heap.size w W → W.heap[c]? = some (.cells #[.int .i64 x, .int .i64 y] 34) → Calls Try.prog 54 #[aP T, .func (.func 84) #[] #[.pointer (some ⟨c, 0, none⟩)]] W fun e w' => ∃ ap n cap, (e = .returned (.slice ap n cap) ∧ PW ap n cap w') ∧ Go.RowKit.Below W.heap.size W w'))
    (HA : Hid (∀ ap n cap W, PW ap n cap W → Go.RowKit.Below w.heap.size w W → Calls Try.prog 59 #[aP T, .slice ap n cap, .agg #[.int .i64 x, .int .i64 y]] W fun e w' => e = .returned (.pointer none) ∧ Go.RowKit.Below W.heap.size W w')) :
    Calls Try.prog 41 #[aP T, .agg #[.int .i64 x, .int .i64 y]] w fun e w' => e = .returned (.bool false) ∧ Go.RowKit.Below w.heap.size w w' := by
  have mx := mixed
  have HB0 := Lib.hid (below_new w (.cells #[.int .i64 x, .int .i64 y] 34))
  have HK0 : Hid ((w.alloc (.cells #[.int .i64 x, .int .i64 y] 34)).heap[w.heap.size]? = some (.cells #[.int .i64 x, .int .i64 y] 34)) := heap_alloc_new w _
  obtain ⟨d1, d2, _, _⟩ := two_cells HK0.out
  go_enter Try.func41, Try.ntmps41
  go_wp2_with fail
  refine (bbelow_b x y _).mono ?_
  rintro e y2 ⟨c, ⟨rfl, hc⟩, hb⟩
  have HC := Lib.hid hc
  have HY2 := Lib.hid (bt HB0.out hb)
  have HK2 := Lib.hid (box_on HK0.out hb)
  clear hb hc d1 d2
  go_wp2_with fail
  refine (HW.out _ c HY2.out HC.out).mono ?_
  rintro e y3 ⟨ap, n, cap, ⟨rfl, hp⟩, hb⟩
  have HP := Lib.hid hp
  have HY3 := Lib.hid (bt HY2.out hb)
  have HK3 := Lib.hid (box_on HK2.out hb)
  clear hb hp
  obtain ⟨k1, k2, _, _⟩ := two_cells HK3.out
  go_wp2_with fail
  refine (HA.out ap n cap _ HP.out HY3.out).mono ?_
  rintro e y4 ⟨rfl, hb⟩
  have HP4 := Lib.hid (HPW.out _ _ _ _ _ HP.out hb)
  have HY4 := Lib.hid (bt HY3.out hb)
  clear hb k1 k2
  go_wp2_with fail
  go_ret
  exact ⟨rfl, HY4.out⟩
set_option maxHeartbeats 4000000 in
theorem bdel_some (T : Nat) (sb off : Nat) (many : Int) (hm : 1 ≤ many ∧ many ≤ 1000000) (PG PF : World → Prop) (x y : Int) (PW : Option Addr → Nat → Nat → World → Prop) (w : World)
    (HPW : Hid (∀ ap n cap W W', PW ap n cap W → Go.RowKit.Below W.heap.size W W' → PW ap n cap W'))
    (HW : Hid (∀ W c, Go.RowKit.Below w.heap.size w W → W.heap[c]? = some (.cells #[.int .i64 x, .int .i64 y] 34) → Calls Try.prog 54 #[aP T, .func (.func 84) #[] #[.pointer (some ⟨c, 0, none⟩)]] W fun e w' => ∃ ap n cap, (e = .returned (.slice ap n cap) ∧ PW ap n cap w') ∧ Go.RowKit.Below W.heap.size W w'))
    (HA : Hid (∀ ap n cap W, PW ap n cap W → Go.RowKit.Below w.heap.size w W → Calls Try.prog 59 #[aP T, .slice ap n cap, .agg #[.int .i64 x, .int .i64 y]] W fun e w' => e = .returned (.pointer (some ⟨sb, off, none⟩)) ∧ Go.RowKit.Below W.heap.size W w'))
    (HT : Hid (∀ ap n cap W, PW ap n cap W → Go.RowKit.Below w.heap.size w W → Calls Try.prog 74 #[aP T, .slice ap n cap, .pointer (some ⟨sb, off, none⟩)] W fun e w' => e = .returned (.tuple #[]) ∧ PG w'))
    (HG : Hid (∀ W, PG W → W.cell? ⟨T, 3, none⟩ = some (.int .i64 many) ∧ W.frozen? ⟨T, 3, none⟩ = false ∧ PF (W.setCell ⟨T, 3, none⟩ (.int .i64 (many - 1))))) :
    Calls Try.prog 41 #[aP T, .agg #[.int .i64 x, .int .i64 y]] w fun e w' => e = .returned (.bool true) ∧ PF w' := by
  have mx := mixed
  have HB0 := Lib.hid (below_new w (.cells #[.int .i64 x, .int .i64 y] 34))
  have HK0 : Hid ((w.alloc (.cells #[.int .i64 x, .int .i64 y] 34)).heap[w.heap.size]? = some (.cells #[.int .i64 x, .int .i64 y] 34)) := heap_alloc_new w _
  obtain ⟨d1, d2, _, _⟩ := two_cells HK0.out
  go_enter Try.func41, Try.ntmps41
  go_wp2_with fail
  refine (bbelow_b x y _).mono ?_
  rintro e y2 ⟨c, ⟨rfl, hc⟩, hb⟩
  have HC := Lib.hid hc
  have HY2 := Lib.hid (bt HB0.out hb)
  have HK2 := Lib.hid (box_on HK0.out hb)
  clear hb hc d1 d2
  go_wp2_with fail
  refine (HW.out _ c HY2.out HC.out).mono ?_
  rintro e y3 ⟨ap, n, cap, ⟨rfl, hp⟩, hb⟩
  have HP := Lib.hid hp
  have HY3 := Lib.hid (bt HY2.out hb)
  have HK3 := Lib.hid (box_on HK2.out hb)
  clear hb hp
  obtain ⟨k1, k2, _, _⟩ := two_cells HK3.out
  go_wp2_with fail
  refine (HA.out ap n cap _ HP.out HY3.out).mono ?_
  rintro e y4 ⟨rfl, hb⟩
  have HP4 := Lib.hid (HPW.out _ _ _ _ _ HP.out hb)
  have HY4 := Lib.hid (bt HY3.out hb)
  clear hb k1 k2
  have i1 : IntKind.i64.wrap (many - 1) = many - 1 := IntWalk.i64_in _ (by omega)
  go_wp2_with fail
  refine (HT.out ap n cap _ HP4.out HY4.out).mono ?_
  rintro e y5 ⟨rfl, hg⟩
  obtain ⟨c3, c4, hpf⟩ := HG.out _ hg
  have HPF := Lib.hid hpf
  clear hg hpf
  go_wp2_with fail
  go_ret
  exact ⟨rfl, HPF.out⟩
section
variable {w0 W : World} {S B : Nat → Prop} {base T A d : Nat} {t : Bx} {a : Ag Rn} {S0 : Nat → Prop} {L : List G5}
theorem degX_len {d : Nat} (c1 : List BF) (y : BF) (c2 : List BF) : ∀ h, DegX d h (c1 ++ y :: c2) → y.s.length + 1 ≤ 2 * d := by
  induction c1 with
  | nil => intro h q; exact q.2.1
  | cons z c1 ih => intro h q; exact ih _ q.2.2.2
theorem delG_all (l : List G5) (k : Int) (h : ∀ g ∈ l, g.ok) : ∀ g ∈ (delG l k).1, g.ok := by
  unfold delG
  split
  · intro g hg
    have hg' := List.mem_append.1 hg
    rcases hg' with q | q
    · exact h g (List.mem_of_mem_take q)
    · exact h g (List.mem_of_mem_drop q)
  · exact h
set_option maxHeartbeats 1000000 in
theorem BtH.takeOut {fits : G5 → Bool} {cx : List BF} {tl : Bt} (h : BtH w0 S B base T A t W) (d : Nat) (hd : t.d = (d : Int)) (hd2 : 2 ≤ d) (hd64 : d ≤ 64) (l : Leaf d t.f t.n t.root L fits cx tl) (g : G5) (Bh : List G5) (hB : behindR fits (cx, tl) = g :: Bh) (p i : Nat) (hbe : behI t.f (wayRev fits (cx, tl)) = some ((p : Int), i))
    (hW : BtW W base T A t a S0) (sb : Nat) (hsb : (a.l.getD p bnZ).s.a = some ⟨sb, 0, none⟩) (ap : Option Addr) (cap bb : Nat)
    (ho : W.ownsRow bb 125 2 (.slice ap (cx.length + 1) cap) (cx.length + 1) (flat2 (wayRow fits (cx, tl)))) (hBb : ∀ b, (Value.slice ap (cx.length + 1) cap).ownBlock = some b → B b) (hN : cx.length < 100000) :
    Calls Try.prog 74 #[aP T, .slice ap (cx.length + 1) cap, .pointer (some ⟨sb, i * 5, none⟩)] W fun e w' => e = .returned (.tuple #[]) ∧ MendFin w0 W S B base T A t d (aheadR fits (cx, tl) ++ Bh) w' := by
  obtain ⟨l1, l2, l3⟩ := l.lens
  have hpos : 1 ≤ tl.s.length := by split at l2 <;> omega
  have hroot : t.root ≠ -1 := by
    have : t.root = ((bplug cx tl).i : Int) := l.z.root
    omega
  have hfl : t.f (tl.i : Int) = some ⟨tl.s, []⟩ := by
    have := l.z.tree.node
    unfold nodeAt at this
    rw [this, l3]; rfl
  have hxl : (wayRow fits (cx, tl)).length = cx.length + 1 := wayRow_len _ _
  obtain ⟨wb, rfl, q1, q2⟩ := own_at2 ho hxl.symm cx.length (by omega)
  have hlast : (wayRow fits (cx, tl))[cx.length]'(by omega) = ((tl.i : Int), (fitN fits tl.s : Int)) := by
    have e : (wayRow fits (cx, tl))[cx.length]? = some ((tl.i : Int), (fitN fits tl.s : Int)) := by
      unfold wayRow
      rw [List.getElem?_append_right (by rw [rowSt_len]; exact Nat.le_refl _), rowSt_len, Nat.sub_self]; rfl
    exact (List.getElem?_eq_some_iff.1 e).2
  rw [hlast] at q1 q2
  have fin : ∀ (V : World) (F : Int → Option Kn) (cx' : List BF) (u : Bt), cx'.length = cx.length → rowSt cx' = rowSt cx → u.i = tl.i → Short d F t.n t.root (aheadR fits (cx, tl) ++ Bh) 0 cx' u → BtH w0 S B base T A { t with f := F } V → (∀ b, B b → V.heap[b]? = W.heap[b]?) →
      Calls Try.prog 96 #[aP T, .slice (some ⟨wb, 0, none⟩) (cx.length + 1) cap] V fun e w' => e = .returned (.tuple #[]) ∧ MendFin w0 W S B base T A t d (aheadR fits (cx, tl) ++ Bh) w' := fun V F cx' u e1 e2 e3 o hV hVB => by
    have hoV := own_kpQ ho (fun b hb => hVB b (hBb b hb))
    rw [show wayRow fits (cx, tl) = rowSt cx' ++ [((u.i : Int), (fitN fits tl.s : Int))] by rw [e2, e3]; rfl, ← e1] at hoV
    have hBb' := hBb
    rw [← e1] at hBb' ⊢
    refine (hV.mend d hd hd2 hd64 o hroot _ _ cap bb (by omega) hoV hBb').mono ?_
    rintro e w' ⟨rfl, F', n', r', k1, k2, k3⟩
    exact ⟨rfl, F', n', r', k1, k2, fun b hb => (k3 b hb).trans (hVB b hb)⟩
  rcases l.beh with ⟨e1, _⟩ | ⟨k1, k2, k3⟩ | ⟨k0, c1, y, c2, k1, k2, k3, k4, k5⟩
  · rw [e1] at hbe; cases hbe
  · rw [k2] at hbe
    injection hbe with hbe
    injection hbe with e5 e6
    have o := l.delLeaf g Bh hB k1
    refine btake_a h wb (cx.length + 1) cap tl.i (fitN fits tl.s) ⟨tl.s, []⟩ hfl (by show tl.s.length ≤ 1000; omega) ⟨by omega, by omega⟩ q1 q2 k1 ⟨sb, i * 5, none⟩ _ (Lib.hid fun V hV hVB => ?_)
    rw [← List.eraseIdx_eq_take_drop_succ] at hV
    exact fin V _ cx (.mk tl.i (tl.s.eraseIdx (fitN fits tl.s)) []) rfl rfl rfl o hV hVB
  · rw [k4] at hbe
    injection hbe with hbe
    injection hbe with e5 e6
    obtain rfl : y.i = p := by omega
    subst e6
    have hm : tl.s[tl.s.length - 1]? = some (tl.s[tl.s.length - 1]'(by omega)) := List.getElem?_eq_getElem _
    obtain ⟨o1, o2, o3⟩ := l.delFrame hd2 g _ Bh hB k0 c1 c2 y k1 k2 k3 hm
    have hfy := (l.frame g g Bh hB k0 c1 c2 y k1 k2 k3).1
    obtain ⟨gg, _, _, hcs, _, _, _, hpl, _, _, _⟩ := hW.turnRow y.i _ hfy
    have hnd := (hW.node y.i _ hfy).nums.1
    have hcs2 : W.cell? ⟨gg, y.i * 3, none⟩ = some (.slice (some ⟨sb, 0, none⟩) y.s.length (a.l.getD y.i bnZ).s.c) := by
      rw [hcs, ← hsb, ← hnd]
    have hys : y.s.length ≤ 1000 := by
      have := degX_len c1 y c2 0 (k1 ▸ l.dx)
      omega
    refine btake_b h wb (cx.length + 1) cap tl.i (fitN fits tl.s) ⟨tl.s, []⟩ hfl (by show tl.s.length ≤ 1000; omega) ⟨by omega, by omega⟩ q1 q2 k0.symm (by omega) _ (by rw [k0]; exact hm) y.i y.l.length sb ⟨y.s, (y.l ++ bplug c1 tl :: y.r).map Bt.idx⟩ hfy o2 k3 hys gg hpl _ hcs2 _ (Lib.hid fun V hV hVB => ?_)
    rw [← List.eraseIdx_eq_take_drop_succ, k0] at hV
    refine fin V _ _ (.mk tl.i (tl.s.eraseIdx (tl.s.length - 1)) []) ?_ ?_ rfl o3 hV hVB
    · rw [k1]; simp
    · rw [k1]; unfold rowSt; simp
end
section
variable {w : World} {base T A d : Nat} {t : Bx} {a : Ag Rn} {S0 : Nat → Prop} {L : List G5}
/-- Delete, by the tree. -/
theorem btdel_any (h : BtW w base T A t a S0) (ok : BtOk t d L) (s x : Int) (hx : I64 x) :
    Calls Try.prog 41 #[aP T, .agg #[.int .i64 s, .int .i64 x]] w fun e w' => e = .returned (.bool (delG L (key s x)).2) ∧ BtT w (btS T t a S0) (fun _ => False) base T A d t.room (delG L (key s x)).1 w' := by
  have hB0 := btH_of h
  have hmany : t.many = (L.length : Int) := ok.many
  have hle := ok.le
  have hroom := ok.room
  obtain ⟨xs, hw, hN, HW⟩ := bway_ltR h ok s x hx
  have hKy : Ky (key s x) := key_ky s x hx
  have HPW : ∀ ap n cap W W', WayRowB w xs ap n cap W → Go.RowKit.Below W.heap.size W W' → WayRowB w xs ap n cap W' := fun ap n cap W W' q hb => ⟨q.1, own_on q.2 hb⟩
  have HW2 : ∀ W c, Go.RowKit.Below w.heap.size w W → W.heap[c]? = some (.cells #[.int .i64 s, .int .i64 x] 34) → Calls Try.prog 54 #[aP T, .func (.func 84) #[] #[.pointer (some ⟨c, 0, none⟩)]] W fun e w' => ∃ ap n cap, (e = .returned (.slice ap n cap) ∧ WayRowB w xs ap n cap w') ∧ Go.RowKit.Below W.heap.size W w' := fun W c hW hc =>
    (HW W c hW hc).mono fun e w' ⟨ap, n, cap, ⟨h1, h2, h3⟩, h4⟩ => ⟨ap, n, cap, ⟨h1, h2, own_base h3 hW.size⟩, h4⟩
  have HA : ∀ ap n cap W, WayRowB w xs ap n cap W → Go.RowKit.Below w.heap.size w W → Calls Try.prog 59 #[aP T, .slice ap n cap, .agg #[.int .i64 s, .int .i64 x]] W fun e w' => e = .returned (.pointer (ptO a (fndI t.f (key s x) xs.reverse))) ∧ Go.RowKit.Below W.heap.size W w' := by
    rintro ap n cap W ⟨rfl, ho⟩ hW
    exact bfound_any (h.below hW) ok hw hN ap cap _ ho s x hx rfl
  rcases fnd_cases hw with e | ⟨p, i, m, g, e, hp, hg, hk⟩
  · rw [e] at HA
    have hdel : delG L (key s x) = (L, false) := by
      rcases hw with ⟨e1, e2, e3⟩ | ⟨cx, tl, l, e2⟩
      · subst e1; rfl
      · refine l.del_new ok.row hKy ?_
        rw [← fnd_leaf l, wayRev_eq, ← e2, e]; rfl
    rw [hdel]
    exact (bdel_none T s x (WayRowB w xs) w (Lib.hid HPW) (Lib.hid HW2) (Lib.hid HA)).mono fun e w' ⟨he, hw⟩ => ⟨he, t, hB0.below hw, ok, rfl⟩
  · rcases hw with ⟨_, e2, _⟩ | ⟨cx, tl, l, e2⟩
    · rw [e2] at e; cases e
    · have hfs : foundS (key s x) (stepsB (fun g => decide (g.key < key s x)) (cx, tl)) = some g := by
        rw [← fnd_leaf l, wayRev_eq, ← e2, e]
        exact gAt_some hp hg
      obtain ⟨Bh, hB, hgk, hdel⟩ := l.del_old ok.row hKy g hfs
      have hbe := fnd_beh e
      rw [e2, ← wayRev_eq] at hbe
      obtain ⟨hi, hgi⟩ := List.getElem?_eq_some_iff.1 hg
      obtain ⟨_, _, _, hmem⟩ := step_mem h p m hp
      obtain ⟨sb, hsb, _, _⟩ := hmem i hi
      rw [e, show ptO a (some ((p : Int), i)) = some ⟨sb, i * 5, none⟩ from ptA_nat a p i sb hsb] at HA
      have hlen2 : (aheadR (fun g => decide (g.key < key s x)) (cx, tl) ++ Bh).length + 1 = L.length := by
        have := congrArg List.length l.row
        rw [hB] at this
        simp only [List.length_append, List.length_cons] at this ⊢
        omega
      have hrow2 : RowOk (aheadR (fun g => decide (g.key < key s x)) (cx, tl) ++ Bh) := by
        have := delG_ok L (key s x) ok.row
        rw [hdel] at this; exact this
      have hall2 : ∀ g ∈ aheadR (fun g => decide (g.key < key s x)) (cx, tl) ++ Bh, g.ok := by
        have := delG_all L (key s x) ok.ok
        rw [hdel] at this; exact this
      rw [hdel]
      refine bdel_some T sb (i * 5) t.many ⟨by omega, by omega⟩ (MendFin w w (btS T t a S0) (fun _ => False) base T A t d (aheadR (fun g => decide (g.key < key s x)) (cx, tl) ++ Bh)) (fun w' => BtT w (btS T t a S0) (fun _ => False) base T A d t.room (aheadR (fun g => decide (g.key < key s x)) (cx, tl) ++ Bh) w') s x (WayRowB w xs) w (Lib.hid HPW) (Lib.hid HW2) (Lib.hid HA) (Lib.hid ?_) (Lib.hid ?_)
      · rintro ap n cap W ⟨rfl, ho⟩ hW
        have hWb := h.below hW
        have hxl : xs.length = cx.length + 1 := by rw [e2, wayRow_len]
        rw [hxl] at ho ⊢
        have ho' := ho
        rw [e2] at ho'
        have hk := hB0.keep (C := fun b => (Value.slice ap (cx.length + 1) cap).ownBlock = some b) hW (fun b hb => .inr (ho.lt b hb))
        refine (hk.takeOut d ok.dg ok.d2 ok.d64 l g Bh hB p i hbe hWb sb hsb ap cap _ ho' (fun b hb => hb) (by omega)).mono ?_
        rintro e w' ⟨rfl, F, n, r, k1, k2, k3⟩
        exact ⟨rfl, F, n, r, k1, k2.less (fun b hb => hb.elim), fun b hb => hb.elim⟩
      · rintro W ⟨F, n, r, k1, k2, _⟩
        have htop := k2.top
        refine ⟨(cell_of_row _ _ 3 _ _ _ htop).trans rfl, frozen_of_row _ _ 3 _ _ htop, _, (k2.setMany (t.many - 1)).1, ⟨ok.dg, ok.d2, ok.d64, k1, by show t.many - 1 = _; omega, ok.room, by show (_ : Int) ≤ t.room; omega, hrow2, hall2⟩, rfl⟩
end
end Go.Proofs.Ytjgcdmeojjnjlaa
/- What Check asks of a node: its numbers, its keys. -/
namespace Go.Proofs.Ytjgcdmeojjnjlaa
open Go.RowKit Go.Sort Go.Proofs.Ytjgcdmeojjnjlaa.Bo Go.Proofs.Ytjgcdmeojjnjlaa.Bb
set_option linter.unusedVariables false
set_option maxRecDepth 100000
theorem bnx_i64 (k : Int) (h : Ky k) (h2 : k < 9223372036854775808) : I64 k := by unfold Ky at h; unfold I64; omega
abbrev kO (a b c d : Int) : Obj := .cells #[.int .i64 a, .int .i64 b, .int .i64 c, .int .i64 d] 36
theorem kO_of {W : World} {b : Nat} {p q r s : Int} (h : W.heap[b]? = some (kO p q r s)) : W.cell? ⟨b, 0, none⟩ = some (.int .i64 p) ∧ W.cell? ⟨b, 1, none⟩ = some (.int .i64 q) ∧ W.cell? ⟨b, 2, none⟩ = some (.int .i64 r) ∧ W.cell? ⟨b, 3, none⟩ = some (.int .i64 s) ∧ (∀ x, W.frozen? ⟨b, x, none⟩ = false) :=
  ⟨(cell_of_row _ _ 0 _ _ _ h).trans rfl, (cell_of_row _ _ 1 _ _ _ h).trans rfl, (cell_of_row _ _ 2 _ _ _ h).trans rfl, (cell_of_row _ _ 3 _ _ _ h).trans rfl, fun x => frozen_of_row _ _ _ _ _ h⟩
set_option maxHeartbeats 2000000 in
theorem bnext_any (ks ka : Int) (w : World) (hka : I64 ka) (hlt : key ks ka < 9223372036854775808) :
    Calls Try.prog 97 #[.agg #[.int .i64 ks, .int .i64 ka]] w fun e w' => e = .returned (.agg #[.int .i64 (sd (key ks ka + 1)), .int .i64 (pa (key ks ka + 1))]) ∧ Go.RowKit.Below w.heap.size w w' := by
  have mx := mixed
  have hky := key_ky ks ka hka
  have HN1 : Hid (∀ W, Calls Try.prog 105 #[.agg #[.int .i64 ks, .int .i64 ka]] W fun e w' => e = .returned (.tuple #[.int .i64 (key ks ka), .bool true]) ∧ Lays W w') := fun W => by
    have := next_any ks ka W hka
    rw [(nx_in _ hlt).1, (nx_in _ hlt).2] at this
    exact this
  have HB := Lib.hid (fun W => behind_any (key ks ka) W (bnx_i64 _ hky hlt))
  generalize key ks ka = k at *
  generalize sd (k + 1) = s1 at *
  generalize pa (k + 1) = p1 at *
  clear hky hlt
  have hR : ((w.alloc (.cells #[.int .i64 ks, .int .i64 ka] 34)).alloc (.cells #[.int .i64 0, .int .i64 0] 34)).heap[w.heap.size + 1]? = some (.cells #[.int .i64 0, .int .i64 0] 34) := new_at' _ (by simp)
  have HN := Lib.hid (bt (below_new w (.cells #[.int .i64 ks, .int .i64 ka] 34)) (below_new _ (.cells #[.int .i64 0, .int .i64 0] 34)))
  have HR := Lib.hid hR
  have hk : ((w.alloc (.cells #[.int .i64 ks, .int .i64 ka] 34)).alloc (.cells #[.int .i64 0, .int .i64 0] 34)).heap[w.heap.size]? = some (.cells #[.int .i64 ks, .int .i64 ka] 34) := box_on (heap_alloc_new w _) (below_new _ _)
  obtain ⟨e1, e2, _, _⟩ := two_cells hk
  clear hR hk
  go_enter Try.func97, Try.ntmps97
  go_wp2_with fail
  refine (HN1.out _).mono ?_
  rintro e y1 ⟨rfl, hl⟩
  replace HN := Lib.hid (bt HN.out hl.1)
  replace HR := Lib.hid (box_on HR.out hl.1)
  clear hl e1 e2
  go_wp2_with fail
  refine (HB.out _).mono ?_
  rintro e y2 ⟨rfl, hl⟩
  replace HN := Lib.hid (bt HN.out hl.1)
  have hR := box_on HR.out hl.1
  clear hl
  obtain ⟨d1, d2, d3, d4⟩ := two_cells hR
  obtain ⟨f1, f2, _, _⟩ := two_cells (two_put (p := .int .i64 s1) (q := .int .i64 p1) hR)
  have HE := Lib.hid ((HN.out.setCell (p := ⟨w.heap.size + 1, 0, none⟩) (by show w.heap.size ≤ w.heap.size + 1; omega) (.int .i64 s1)).setCell (p := ⟨w.heap.size + 1, 1, none⟩) (by show w.heap.size ≤ w.heap.size + 1; omega) (.int .i64 p1))
  clear hR
  go_wp2_with fail
  refine bodyPost_ret (v := .agg #[.int .i64 s1, .int .i64 p1]) (by simp [results, Try.results97, go_sem, f1, f2]) rfl ?_
  exact ⟨rfl, HE.out⟩
/-- The blocks of beside: the keys, the answer. -/
structure BsAt (w : World) (a b c d p q r s : Int) (W : World) : Prop where
  kb : W.heap[w.heap.size]? = some (kO a b c d)
  rb : W.heap[w.heap.size + 1]? = some (kO p q r s)
  be : Go.RowKit.Below w.heap.size w W
theorem BsAt.on {w W W' : World} {a b c d p q r s : Int} (h : BsAt w a b c d p q r s W) (hb : Go.RowKit.Below W.heap.size W W') : BsAt w a b c d p q r s W' := ⟨box_on h.kb hb, box_on h.rb hb, bt h.be hb⟩
theorem bs_new (w : World) (a b c d p q r s : Int) : BsAt w a b c d p q r s ((w.alloc (kO a b c d)).alloc (kO p q r s)) :=
  ⟨box_on (heap_alloc_new w _) (below_new _ _), new_at' _ (by simp), bt (below_new _ _) (below_new _ _)⟩
theorem kO_put {W : World} {b : Nat} {p q r s : Int} (h : W.heap[b]? = some (kO p q r s)) (x y : Int) :
    ((W.setCell ⟨b, 0, none⟩ (.int .i64 x)).setCell ⟨b, 1, none⟩ (.int .i64 y)).heap[b]? = some (kO x y r s) ∧ ((W.setCell ⟨b, 2, none⟩ (.int .i64 x)).setCell ⟨b, 3, none⟩ (.int .i64 y)).heap[b]? = some (kO p q x y) :=
  ⟨heap_setCell_same _ _ _ _ _ _ (heap_setCell_same _ _ _ _ _ _ h), heap_setCell_same _ _ _ _ _ _ (heap_setCell_same _ _ _ _ _ _ h)⟩
theorem BsAt.lo {w W : World} {a b c d p q r s : Int} (h : BsAt w a b c d p q r s W) (x y : Int) : BsAt w x y c d p q r s ((W.setCell ⟨w.heap.size, 0, none⟩ (.int .i64 x)).setCell ⟨w.heap.size, 1, none⟩ (.int .i64 y)) :=
  ⟨(kO_put h.kb x y).1, set_far (set_far h.rb (by omega)) (by omega), (h.be.setCell (p := ⟨w.heap.size, 0, none⟩) (Nat.le_refl _) _).setCell (p := ⟨w.heap.size, 1, none⟩) (Nat.le_refl _) _⟩
theorem BsAt.hi {w W : World} {a b c d p q r s : Int} (h : BsAt w a b c d p q r s W) (x y : Int) : BsAt w a b x y p q r s ((W.setCell ⟨w.heap.size, 2, none⟩ (.int .i64 x)).setCell ⟨w.heap.size, 3, none⟩ (.int .i64 y)) :=
  ⟨(kO_put h.kb x y).2, set_far (set_far h.rb (by omega)) (by omega), (h.be.setCell (p := ⟨w.heap.size, 2, none⟩) (Nat.le_refl _) _).setCell (p := ⟨w.heap.size, 3, none⟩) (Nat.le_refl _) _⟩
theorem BsAt.put {w W : World} {a b c d p q r s : Int} (h : BsAt w a b c d p q r s W) (x y z u : Int) : BsAt w a b c d x y z u ((((W.setCell ⟨w.heap.size + 1, 0, none⟩ (.int .i64 x)).setCell ⟨w.heap.size + 1, 1, none⟩ (.int .i64 y)).setCell ⟨w.heap.size + 1, 2, none⟩ (.int .i64 z)).setCell ⟨w.heap.size + 1, 3, none⟩ (.int .i64 u)) :=
  ⟨set_far (set_far (set_far (set_far h.kb (by omega)) (by omega)) (by omega)) (by omega), heap_setCell_same _ _ _ _ _ _ (heap_setCell_same _ _ _ _ _ _ (heap_setCell_same _ _ _ _ _ _ (heap_setCell_same _ _ _ _ _ _ h.rb))),
    (((h.be.setCell (p := ⟨w.heap.size + 1, 0, none⟩) (Nat.le_succ _) _).setCell (p := ⟨w.heap.size + 1, 1, none⟩) (Nat.le_succ _) _).setCell (p := ⟨w.heap.size + 1, 2, none⟩) (Nat.le_succ _) _).setCell (p := ⟨w.heap.size + 1, 3, none⟩) (Nat.le_succ _) _⟩
set_option maxHeartbeats 4000000 in
theorem bbeside_nn (g go n sc sb : Nat) (hn : n ≤ 1000) (a b c d : Int) (w : World) (hc : w.cell? ⟨g, go, none⟩ = some (.slice (some ⟨sb, 0, none⟩) n sc)) (hk : 0 = n) :
    Calls Try.prog 78 #[.pointer (some ⟨g, go, none⟩), .int .i64 0, .agg #[.int .i64 a, .int .i64 b, .int .i64 c, .int .i64 d]] w fun e w' => e = .returned (.agg #[.int .i64 a, .int .i64 b, .int .i64 c, .int .i64 d]) ∧ Go.RowKit.Below w.heap.size w w' := by
  have mx := mixed
  have hN := bs_new w a b c d 0 0 0 0
  have HN := Lib.hid hN
  have HC := Lib.hid hc
  have HCL : Hid (∀ W, Go.RowKit.Below w.heap.size w W → ∀ p v, w.cell? p = some v → W.cell? p = some v) := fun W hW p v hv => (hW.cell (p := p) (World.block_lt_of_cell? w _ hv)).trans hv
  have e0 := HCL.out _ HN.out.be _ _ HC.out
  clear hN hc
  have b1 : ¬ 0 < (n : Int) := by omega
  have b3 : ¬ 0 < n := by omega
  have b3' : n = 0 := by omega
  clear hk
  go_enter Try.func78, Try.ntmps78
  go_upto_region 3 with fail
  have HY2 := HN
  generalize (w.alloc (kO a b c d)).alloc (kO 0 0 0 0) = Y2 at *
  have e0 := HCL.out _ HY2.out.be _ _ HC.out
  obtain ⟨k1, k2, k3, k4, k5⟩ := kO_of HY2.out.kb
  clear k5
  go_upto_region 5 with fail
  have HY3 := HY2
  clear k1 k2 k3 k4 HY2
  generalize Y2 = Y3 at *
  obtain ⟨k1, k2, k3, k4, _⟩ := kO_of HY3.out.kb
  obtain ⟨r1, r2, r3, r4, r5⟩ := kO_of HY3.out.rb
  have f0 := r5 0
  have f1 := r5 1
  have f2 := r5 2
  have f3 := r5 3
  have HE := Lib.hid (HY3.out.put a b c d)
  obtain ⟨g1, g2, g3, g4, _⟩ := kO_of HE.out.rb
  clear r5
  go_wp2_with fail
  refine bodyPost_ret (v := .agg #[.int .i64 a, .int .i64 b, .int .i64 c, .int .i64 d]) (by simp [results, Try.results78, go_sem, g1, g2, g3, g4]) rfl ?_
  exact ⟨rfl, HE.out.be⟩
set_option maxHeartbeats 4000000 in
theorem bbeside_nh (g go n sc sb : Nat) (hn : n ≤ 1000) (hs ha : Int) (a b c d : Int) (w : World) (hc : w.cell? ⟨g, go, none⟩ = some (.slice (some ⟨sb, 0, none⟩) n sc)) (hk : 0 < n) (hh1 : w.cell? ⟨sb, 0 * 5, none⟩ = some (.int .i64 hs)) (hh2 : w.cell? ⟨sb, 0 * 5 + 1, none⟩ = some (.int .i64 ha)) :
    Calls Try.prog 78 #[.pointer (some ⟨g, go, none⟩), .int .i64 0, .agg #[.int .i64 a, .int .i64 b, .int .i64 c, .int .i64 d]] w fun e w' => e = .returned (.agg #[.int .i64 a, .int .i64 b, .int .i64 hs, .int .i64 ha]) ∧ Go.RowKit.Below w.heap.size w w' := by
  have mx := mixed
  have hN := bs_new w a b c d 0 0 0 0
  have HN := Lib.hid hN
  have HC := Lib.hid hc
  have HHI := Lib.hid (And.intro hh1 hh2)
  have HCL : Hid (∀ W, Go.RowKit.Below w.heap.size w W → ∀ p v, w.cell? p = some v → W.cell? p = some v) := fun W hW p v hv => (hW.cell (p := p) (World.block_lt_of_cell? w _ hv)).trans hv
  have e0 := HCL.out _ HN.out.be _ _ HC.out
  clear hN hc hh1 hh2
  have b1 : 0 < (n : Int) := by omega
  have b2 : 0 < n := by omega
  have b3 : 0 < n := hk
  have b4 : (0 : Int) < (n : Int) := by omega
  clear hk
  go_enter Try.func78, Try.ntmps78
  go_upto_region 3 with fail
  have HY2 := HN
  generalize (w.alloc (kO a b c d)).alloc (kO 0 0 0 0) = Y2 at *
  have e0 := HCL.out _ HY2.out.be _ _ HC.out
  obtain ⟨k1, k2, k3, k4, k5⟩ := kO_of HY2.out.kb
  have m1 := HCL.out _ HY2.out.be _ _ HHI.out.1
  have m2 := HCL.out _ HY2.out.be _ _ HHI.out.2
  have f2 := k5 2
  have f3 := k5 3
  clear k5
  go_upto_region 5 with fail
  have HY3 := Lib.hid (HY2.out.hi hs ha)
  clear k1 k2 k3 k4 f2 f3 HY2 m1 m2
  generalize (Y2.setCell ⟨w.heap.size, 2, none⟩ (.int .i64 hs)).setCell ⟨w.heap.size, 3, none⟩ (.int .i64 ha) = Y3 at *
  obtain ⟨k1, k2, k3, k4, _⟩ := kO_of HY3.out.kb
  obtain ⟨r1, r2, r3, r4, r5⟩ := kO_of HY3.out.rb
  have f0 := r5 0
  have f1 := r5 1
  have f2 := r5 2
  have f3 := r5 3
  have HE := Lib.hid (HY3.out.put a b hs ha)
  obtain ⟨g1, g2, g3, g4, _⟩ := kO_of HE.out.rb
  clear r5
  go_wp2_with fail
  refine bodyPost_ret (v := .agg #[.int .i64 a, .int .i64 b, .int .i64 hs, .int .i64 ha]) (by simp [results, Try.results78, go_sem, g1, g2, g3, g4]) rfl ?_
  exact ⟨rfl, HE.out.be⟩
set_option maxHeartbeats 4000000 in
theorem bbeside_ln (g go n sc sb : Nat) (hn : n ≤ 1000) (j : Nat) (ls la s1 p1 : Int) (a b c d : Int) (w : World) (hc : w.cell? ⟨g, go, none⟩ = some (.slice (some ⟨sb, 0, none⟩) n sc)) (hk : (j + 1) = n) (hl1 : w.cell? ⟨sb, j * 5, none⟩ = some (.int .i64 ls)) (hl2 : w.cell? ⟨sb, j * 5 + 1, none⟩ = some (.int .i64 la)) (HNX : Hid (∀ W, Calls Try.prog 97 #[.agg #[.int .i64 ls, .int .i64 la]] W fun e w' => e = .returned (.agg #[.int .i64 s1, .int .i64 p1]) ∧ Go.RowKit.Below W.heap.size W w')) :
    Calls Try.prog 78 #[.pointer (some ⟨g, go, none⟩), .int .i64 ((j : Int) + 1), .agg #[.int .i64 a, .int .i64 b, .int .i64 c, .int .i64 d]] w fun e w' => e = .returned (.agg #[.int .i64 s1, .int .i64 p1, .int .i64 c, .int .i64 d]) ∧ Go.RowKit.Below w.heap.size w w' := by
  have mx := mixed
  have hN := bs_new w a b c d 0 0 0 0
  have HN := Lib.hid hN
  have HC := Lib.hid hc
  have HL := Lib.hid (And.intro hl1 hl2)
  have HCL : Hid (∀ W, Go.RowKit.Below w.heap.size w W → ∀ p v, w.cell? p = some v → W.cell? p = some v) := fun W hW p v hv => (hW.cell (p := p) (World.block_lt_of_cell? w _ hv)).trans hv
  have e0 := HCL.out _ HN.out.be _ _ HC.out
  clear hN hc hl1 hl2
  have i1 : IntKind.i64.wrap ((j : Int) + 1 - 1) = (j : Int) := by rw [show (j : Int) + 1 - 1 = (j : Int) by omega]; exact IntWalk.i64_in _ (by omega)
  have i1' : (j : Int) + 1 - 1 = (j : Int) := by omega
  have i2 : (0 : Int) < (j : Int) + 1 := by omega
  have i3 : (0 : Int) ≤ (j : Int) := by omega
  have i4 : (j : Int) < (n : Int) := by omega
  have i4' : j < n := by omega
  have b1 : ¬ ((j : Int) + 1) < (n : Int) := by omega
  have l1 := HCL.out _ HN.out.be _ _ HL.out.1
  have l2 := HCL.out _ HN.out.be _ _ HL.out.2
  clear hk
  go_enter Try.func78, Try.ntmps78
  go_wp2_with fail
  refine (HNX.out _).mono ?_
  rintro e y1 ⟨rfl, hb⟩
  have HY := Lib.hid (HN.out.on hb)
  clear hb e0 l1 l2 HN
  obtain ⟨k1, k2, k3, k4, k5⟩ := kO_of HY.out.kb
  have f0 := k5 0
  have f1 := k5 1
  clear k5
  go_upto_region 3 with fail
  have HY2 := Lib.hid (HY.out.lo s1 p1)
  clear k1 k2 k3 k4 f0 f1 HY
  generalize (y1.setCell ⟨w.heap.size, 0, none⟩ (.int .i64 s1)).setCell ⟨w.heap.size, 1, none⟩ (.int .i64 p1) = Y2 at *
  have e0 := HCL.out _ HY2.out.be _ _ HC.out
  obtain ⟨k1, k2, k3, k4, k5⟩ := kO_of HY2.out.kb
  clear k5
  go_upto_region 5 with fail
  have HY3 := HY2
  clear k1 k2 k3 k4 HY2
  generalize Y2 = Y3 at *
  obtain ⟨k1, k2, k3, k4, _⟩ := kO_of HY3.out.kb
  obtain ⟨r1, r2, r3, r4, r5⟩ := kO_of HY3.out.rb
  have f0 := r5 0
  have f1 := r5 1
  have f2 := r5 2
  have f3 := r5 3
  have HE := Lib.hid (HY3.out.put s1 p1 c d)
  obtain ⟨g1, g2, g3, g4, _⟩ := kO_of HE.out.rb
  clear r5
  go_wp2_with fail
  refine bodyPost_ret (v := .agg #[.int .i64 s1, .int .i64 p1, .int .i64 c, .int .i64 d]) (by simp [results, Try.results78, go_sem, g1, g2, g3, g4]) rfl ?_
  exact ⟨rfl, HE.out.be⟩
set_option maxHeartbeats 4000000 in
theorem bbeside_lh (g go n sc sb : Nat) (hn : n ≤ 1000) (j : Nat) (ls la s1 p1 : Int) (hs ha : Int) (a b c d : Int) (w : World) (hc : w.cell? ⟨g, go, none⟩ = some (.slice (some ⟨sb, 0, none⟩) n sc)) (hk : (j + 1) < n) (hl1 : w.cell? ⟨sb, j * 5, none⟩ = some (.int .i64 ls)) (hl2 : w.cell? ⟨sb, j * 5 + 1, none⟩ = some (.int .i64 la)) (HNX : Hid (∀ W, Calls Try.prog 97 #[.agg #[.int .i64 ls, .int .i64 la]] W fun e w' => e = .returned (.agg #[.int .i64 s1, .int .i64 p1]) ∧ Go.RowKit.Below W.heap.size W w')) (hh1 : w.cell? ⟨sb, (j + 1) * 5, none⟩ = some (.int .i64 hs)) (hh2 : w.cell? ⟨sb, (j + 1) * 5 + 1, none⟩ = some (.int .i64 ha)) :
    Calls Try.prog 78 #[.pointer (some ⟨g, go, none⟩), .int .i64 ((j : Int) + 1), .agg #[.int .i64 a, .int .i64 b, .int .i64 c, .int .i64 d]] w fun e w' => e = .returned (.agg #[.int .i64 s1, .int .i64 p1, .int .i64 hs, .int .i64 ha]) ∧ Go.RowKit.Below w.heap.size w w' := by
  have mx := mixed
  have hN := bs_new w a b c d 0 0 0 0
  have HN := Lib.hid hN
  have HC := Lib.hid hc
  have HL := Lib.hid (And.intro hl1 hl2)
  have HHI := Lib.hid (And.intro hh1 hh2)
  have HCL : Hid (∀ W, Go.RowKit.Below w.heap.size w W → ∀ p v, w.cell? p = some v → W.cell? p = some v) := fun W hW p v hv => (hW.cell (p := p) (World.block_lt_of_cell? w _ hv)).trans hv
  have e0 := HCL.out _ HN.out.be _ _ HC.out
  clear hN hc hl1 hl2 hh1 hh2
  have i1 : IntKind.i64.wrap ((j : Int) + 1 - 1) = (j : Int) := by rw [show (j : Int) + 1 - 1 = (j : Int) by omega]; exact IntWalk.i64_in _ (by omega)
  have i1' : (j : Int) + 1 - 1 = (j : Int) := by omega
  have i2 : (0 : Int) < (j : Int) + 1 := by omega
  have i3 : (0 : Int) ≤ (j : Int) := by omega
  have i4 : (j : Int) < (n : Int) := by omega
  have i4' : j < n := by omega
  have b1 : ((j : Int) + 1) < (n : Int) := by omega
  have b2 : (j + 1) < n := by omega
  have b3 : (0 : Int) ≤ (j : Int) + 1 := by omega
  have l1 := HCL.out _ HN.out.be _ _ HL.out.1
  have l2 := HCL.out _ HN.out.be _ _ HL.out.2
  clear hk
  go_enter Try.func78, Try.ntmps78
  go_wp2_with fail
  refine (HNX.out _).mono ?_
  rintro e y1 ⟨rfl, hb⟩
  have HY := Lib.hid (HN.out.on hb)
  clear hb e0 l1 l2 HN
  obtain ⟨k1, k2, k3, k4, k5⟩ := kO_of HY.out.kb
  have f0 := k5 0
  have f1 := k5 1
  clear k5
  go_upto_region 3 with fail
  have HY2 := Lib.hid (HY.out.lo s1 p1)
  clear k1 k2 k3 k4 f0 f1 HY
  generalize (y1.setCell ⟨w.heap.size, 0, none⟩ (.int .i64 s1)).setCell ⟨w.heap.size, 1, none⟩ (.int .i64 p1) = Y2 at *
  have e0 := HCL.out _ HY2.out.be _ _ HC.out
  obtain ⟨k1, k2, k3, k4, k5⟩ := kO_of HY2.out.kb
  have m1 := HCL.out _ HY2.out.be _ _ HHI.out.1
  have m2 := HCL.out _ HY2.out.be _ _ HHI.out.2
  have f2 := k5 2
  have f3 := k5 3
  clear k5
  go_upto_region 5 with fail
  have HY3 := Lib.hid (HY2.out.hi hs ha)
  clear k1 k2 k3 k4 f2 f3 HY2 m1 m2
  generalize (Y2.setCell ⟨w.heap.size, 2, none⟩ (.int .i64 hs)).setCell ⟨w.heap.size, 3, none⟩ (.int .i64 ha) = Y3 at *
  obtain ⟨k1, k2, k3, k4, _⟩ := kO_of HY3.out.kb
  obtain ⟨r1, r2, r3, r4, r5⟩ := kO_of HY3.out.rb
  have f0 := r5 0
  have f1 := r5 1
  have f2 := r5 2
  have f3 := r5 3
  have HE := Lib.hid (HY3.out.put s1 p1 hs ha)
  obtain ⟨g1, g2, g3, g4, _⟩ := kO_of HE.out.rb
  clear r5
  go_wp2_with fail
  refine bodyPost_ret (v := .agg #[.int .i64 s1, .int .i64 p1, .int .i64 hs, .int .i64 ha]) (by simp [results, Try.results78, go_sem, g1, g2, g3, g4]) rfl ?_
  exact ⟨rfl, HE.out.be⟩
set_option maxHeartbeats 2000000 in
theorem bnum_ol (T g go d n nk sc kc : Nat) (sa ka : Option Addr) (i root : Int) (hr : ¬ i = root) (h1 : d ≤ n + 1) (h2 : n + 1 ≤ 2 * d) (hd : 2 ≤ d ∧ d ≤ 64) (hk : nk = 0) (w : World) (c0 : w.cell? ⟨T, 0, none⟩ = some (.int .i64 (d : Int))) (c1 : w.cell? ⟨T, 2, none⟩ = some (.int .i64 root)) (c2 : w.cell? ⟨g, go, none⟩ = some (.slice sa n sc)) (c3 : w.cell? ⟨g, go + 1, none⟩ = some (.slice ka nk kc)) :
    Calls Try.prog 76 #[aP T, .int .i64 i, .pointer (some ⟨g, go, none⟩)] w fun e w' => e = .returned (.bool true) ∧ Go.RowKit.Below w.heap.size w w' := by
  have mx := mixed
  have HC := Lib.hid (And.intro c1 (And.intro c2 c3))
  have p0 := cell_regrown c0
  have i1 : IntKind.i64.wrap ((d : Int) - 1) = (d : Int) - 1 := IntWalk.i64_in _ (by omega)
  have i2 : IntKind.i64.wrap (2 * (d : Int)) = 2 * (d : Int) := IntWalk.i64_in _ (by omega)
  have i3 : IntKind.i64.wrap (2 * (d : Int) - 1) = 2 * (d : Int) - 1 := IntWalk.i64_in _ (by omega)
  have i4 : IntKind.i64.wrap ((n : Int) + 1) = (n : Int) + 1 := IntWalk.i64_in _ (by omega)
  have b1 : (n : Int) ≤ 2 * (d : Int) - 1 := by omega
  have HR := Lib.hid hr
  have H1 := Lib.hid h1
  have HK := Lib.hid hk
  clear hr h1 h2 hk c0 c1 c2 c3
  go_enter Try.func76, Try.ntmps76
  go_upto_region 1 with fail
  refine wp_region_quiet_below (by assumption) (by kernel_rfl) ?_
  repeat (go_big_quiet_step (first | fail))
  refine wpQuiet_nil ?_
  intro _ hw'
  obtain ⟨⟨nq, osq⟩, hw''⟩ := hw'
  subst hw''
  have HB := Lib.hid (below_regrown w nq osq)
  clear p0
  generalize grow (redrawn w nq) osq = Y at *
  have q1 : Y.cell? ⟨T, 2, none⟩ = some (.int .i64 root) := (HB.out.cell (p := ⟨T, 2, none⟩) (World.block_lt_of_cell? w _ HC.out.1)).trans HC.out.1
  have q2 : Y.cell? ⟨g, go, none⟩ = some (.slice sa n sc) := (HB.out.cell (p := ⟨g, go, none⟩) (World.block_lt_of_cell? w _ HC.out.2.1)).trans HC.out.2.1
  have q3 : Y.cell? ⟨g, go + 1, none⟩ = some (.slice ka nk kc) := (HB.out.cell (p := ⟨g, go + 1, none⟩) (World.block_lt_of_cell? w _ HC.out.2.2)).trans HC.out.2.2
  have e1 : (i == root) = false := by have := HR.out; simpa using this
  have e2 : (d : Int) - 1 ≤ (n : Int) := by have := H1.out; omega
  have e3 : (d : Int) - 1 ≤ (n : Int) := by have := H1.out; omega
  obtain rfl := HK.out
  go_wp2_with fail
  go_ret
  exact ⟨rfl, HB.out⟩
set_option maxHeartbeats 2000000 in
theorem bnum_ok (T g go d n nk sc kc : Nat) (sa ka : Option Addr) (i root : Int) (hr : ¬ i = root) (h1 : d ≤ n + 1) (h2 : n + 1 ≤ 2 * d) (hd : 2 ≤ d ∧ d ≤ 64) (hk : nk = n + 1) (w : World) (c0 : w.cell? ⟨T, 0, none⟩ = some (.int .i64 (d : Int))) (c1 : w.cell? ⟨T, 2, none⟩ = some (.int .i64 root)) (c2 : w.cell? ⟨g, go, none⟩ = some (.slice sa n sc)) (c3 : w.cell? ⟨g, go + 1, none⟩ = some (.slice ka nk kc)) :
    Calls Try.prog 76 #[aP T, .int .i64 i, .pointer (some ⟨g, go, none⟩)] w fun e w' => e = .returned (.bool true) ∧ Go.RowKit.Below w.heap.size w w' := by
  have mx := mixed
  have HC := Lib.hid (And.intro c1 (And.intro c2 c3))
  have p0 := cell_regrown c0
  have i1 : IntKind.i64.wrap ((d : Int) - 1) = (d : Int) - 1 := IntWalk.i64_in _ (by omega)
  have i2 : IntKind.i64.wrap (2 * (d : Int)) = 2 * (d : Int) := IntWalk.i64_in _ (by omega)
  have i3 : IntKind.i64.wrap (2 * (d : Int) - 1) = 2 * (d : Int) - 1 := IntWalk.i64_in _ (by omega)
  have i4 : IntKind.i64.wrap ((n : Int) + 1) = (n : Int) + 1 := IntWalk.i64_in _ (by omega)
  have b1 : (n : Int) ≤ 2 * (d : Int) - 1 := by omega
  have HR := Lib.hid hr
  have H1 := Lib.hid h1
  have HK := Lib.hid hk
  clear hr h1 h2 hk c0 c1 c2 c3
  go_enter Try.func76, Try.ntmps76
  go_upto_region 1 with fail
  refine wp_region_quiet_below (by assumption) (by kernel_rfl) ?_
  repeat (go_big_quiet_step (first | fail))
  refine wpQuiet_nil ?_
  intro _ hw'
  obtain ⟨⟨nq, osq⟩, hw''⟩ := hw'
  subst hw''
  have HB := Lib.hid (below_regrown w nq osq)
  clear p0
  generalize grow (redrawn w nq) osq = Y at *
  have q1 : Y.cell? ⟨T, 2, none⟩ = some (.int .i64 root) := (HB.out.cell (p := ⟨T, 2, none⟩) (World.block_lt_of_cell? w _ HC.out.1)).trans HC.out.1
  have q2 : Y.cell? ⟨g, go, none⟩ = some (.slice sa n sc) := (HB.out.cell (p := ⟨g, go, none⟩) (World.block_lt_of_cell? w _ HC.out.2.1)).trans HC.out.2.1
  have q3 : Y.cell? ⟨g, go + 1, none⟩ = some (.slice ka nk kc) := (HB.out.cell (p := ⟨g, go + 1, none⟩) (World.block_lt_of_cell? w _ HC.out.2.2)).trans HC.out.2.2
  have e1 : (i == root) = false := by have := HR.out; simpa using this
  have e2 : (d : Int) - 1 ≤ (n : Int) := by have := H1.out; omega
  have e3 : (d : Int) - 1 ≤ (n : Int) := by have := H1.out; omega
  obtain rfl := HK.out
  go_wp2_with fail
  go_ret
  exact ⟨rfl, HB.out⟩
set_option maxHeartbeats 2000000 in
theorem bnum_rl (T g go d n nk sc kc : Nat) (sa ka : Option Addr) (i root : Int) (hr : i = root) (h1 : 1 ≤ n) (h2 : n + 1 ≤ 2 * d) (hd : 2 ≤ d ∧ d ≤ 64) (hk : nk = 0) (w : World) (c0 : w.cell? ⟨T, 0, none⟩ = some (.int .i64 (d : Int))) (c1 : w.cell? ⟨T, 2, none⟩ = some (.int .i64 root)) (c2 : w.cell? ⟨g, go, none⟩ = some (.slice sa n sc)) (c3 : w.cell? ⟨g, go + 1, none⟩ = some (.slice ka nk kc)) :
    Calls Try.prog 76 #[aP T, .int .i64 i, .pointer (some ⟨g, go, none⟩)] w fun e w' => e = .returned (.bool true) ∧ Go.RowKit.Below w.heap.size w w' := by
  have mx := mixed
  have HC := Lib.hid (And.intro c1 (And.intro c2 c3))
  have p0 := cell_regrown c0
  have i1 : IntKind.i64.wrap ((d : Int) - 1) = (d : Int) - 1 := IntWalk.i64_in _ (by omega)
  have i2 : IntKind.i64.wrap (2 * (d : Int)) = 2 * (d : Int) := IntWalk.i64_in _ (by omega)
  have i3 : IntKind.i64.wrap (2 * (d : Int) - 1) = 2 * (d : Int) - 1 := IntWalk.i64_in _ (by omega)
  have i4 : IntKind.i64.wrap ((n : Int) + 1) = (n : Int) + 1 := IntWalk.i64_in _ (by omega)
  have b1 : (n : Int) ≤ 2 * (d : Int) - 1 := by omega
  have HR := Lib.hid hr
  have H1 := Lib.hid h1
  have HK := Lib.hid hk
  clear hr h1 h2 hk c0 c1 c2 c3
  go_enter Try.func76, Try.ntmps76
  go_upto_region 1 with fail
  refine wp_region_quiet_below (by assumption) (by kernel_rfl) ?_
  repeat (go_big_quiet_step (first | fail))
  refine wpQuiet_nil ?_
  intro _ hw'
  obtain ⟨⟨nq, osq⟩, hw''⟩ := hw'
  subst hw''
  have HB := Lib.hid (below_regrown w nq osq)
  clear p0
  generalize grow (redrawn w nq) osq = Y at *
  have q1 : Y.cell? ⟨T, 2, none⟩ = some (.int .i64 root) := (HB.out.cell (p := ⟨T, 2, none⟩) (World.block_lt_of_cell? w _ HC.out.1)).trans HC.out.1
  have q2 : Y.cell? ⟨g, go, none⟩ = some (.slice sa n sc) := (HB.out.cell (p := ⟨g, go, none⟩) (World.block_lt_of_cell? w _ HC.out.2.1)).trans HC.out.2.1
  have q3 : Y.cell? ⟨g, go + 1, none⟩ = some (.slice ka nk kc) := (HB.out.cell (p := ⟨g, go + 1, none⟩) (World.block_lt_of_cell? w _ HC.out.2.2)).trans HC.out.2.2
  have e1 : (i == root) = true := by have := HR.out; simpa using this
  have e2 : 1 ≤ n := by have := H1.out; omega
  have e3 : (1 : Int) ≤ (n : Int) := by have := H1.out; omega
  obtain rfl := HK.out
  go_wp2_with fail
  go_ret
  exact ⟨rfl, HB.out⟩
set_option maxHeartbeats 2000000 in
theorem bnum_rk (T g go d n nk sc kc : Nat) (sa ka : Option Addr) (i root : Int) (hr : i = root) (h1 : 1 ≤ n) (h2 : n + 1 ≤ 2 * d) (hd : 2 ≤ d ∧ d ≤ 64) (hk : nk = n + 1) (w : World) (c0 : w.cell? ⟨T, 0, none⟩ = some (.int .i64 (d : Int))) (c1 : w.cell? ⟨T, 2, none⟩ = some (.int .i64 root)) (c2 : w.cell? ⟨g, go, none⟩ = some (.slice sa n sc)) (c3 : w.cell? ⟨g, go + 1, none⟩ = some (.slice ka nk kc)) :
    Calls Try.prog 76 #[aP T, .int .i64 i, .pointer (some ⟨g, go, none⟩)] w fun e w' => e = .returned (.bool true) ∧ Go.RowKit.Below w.heap.size w w' := by
  have mx := mixed
  have HC := Lib.hid (And.intro c1 (And.intro c2 c3))
  have p0 := cell_regrown c0
  have i1 : IntKind.i64.wrap ((d : Int) - 1) = (d : Int) - 1 := IntWalk.i64_in _ (by omega)
  have i2 : IntKind.i64.wrap (2 * (d : Int)) = 2 * (d : Int) := IntWalk.i64_in _ (by omega)
  have i3 : IntKind.i64.wrap (2 * (d : Int) - 1) = 2 * (d : Int) - 1 := IntWalk.i64_in _ (by omega)
  have i4 : IntKind.i64.wrap ((n : Int) + 1) = (n : Int) + 1 := IntWalk.i64_in _ (by omega)
  have b1 : (n : Int) ≤ 2 * (d : Int) - 1 := by omega
  have HR := Lib.hid hr
  have H1 := Lib.hid h1
  have HK := Lib.hid hk
  clear hr h1 h2 hk c0 c1 c2 c3
  go_enter Try.func76, Try.ntmps76
  go_upto_region 1 with fail
  refine wp_region_quiet_below (by assumption) (by kernel_rfl) ?_
  repeat (go_big_quiet_step (first | fail))
  refine wpQuiet_nil ?_
  intro _ hw'
  obtain ⟨⟨nq, osq⟩, hw''⟩ := hw'
  subst hw''
  have HB := Lib.hid (below_regrown w nq osq)
  clear p0
  generalize grow (redrawn w nq) osq = Y at *
  have q1 : Y.cell? ⟨T, 2, none⟩ = some (.int .i64 root) := (HB.out.cell (p := ⟨T, 2, none⟩) (World.block_lt_of_cell? w _ HC.out.1)).trans HC.out.1
  have q2 : Y.cell? ⟨g, go, none⟩ = some (.slice sa n sc) := (HB.out.cell (p := ⟨g, go, none⟩) (World.block_lt_of_cell? w _ HC.out.2.1)).trans HC.out.2.1
  have q3 : Y.cell? ⟨g, go + 1, none⟩ = some (.slice ka nk kc) := (HB.out.cell (p := ⟨g, go + 1, none⟩) (World.block_lt_of_cell? w _ HC.out.2.2)).trans HC.out.2.2
  have e1 : (i == root) = true := by have := HR.out; simpa using this
  have e2 : 1 ≤ n := by have := H1.out; omega
  have e3 : (1 : Int) ≤ (n : Int) := by have := H1.out; omega
  obtain rfl := HK.out
  go_wp2_with fail
  go_ret
  exact ⟨rfl, HB.out⟩
/-- What between asks of a segment. -/
structure BwAt (w : World) (g go sb n : Nat) (a b c d : Int) (k : Nat) (q : G5) (p r x y K1 K2 : Int) : Prop where
  ce : Cells5 w sb (k * 5) q
  bs : ∀ W, Go.RowKit.Below w.heap.size w W → Calls Try.prog 78 #[.pointer (some ⟨g, go, none⟩), .int .i64 (k : Int), .agg #[.int .i64 a, .int .i64 b, .int .i64 c, .int .i64 d]] W fun e w' => e = .returned (.agg #[.int .i64 p, .int .i64 r, .int .i64 x, .int .i64 y]) ∧ Go.RowKit.Below W.heap.size W w'
  ri : ∀ W, Calls Try.prog 88 #[.agg #[.int .i64 q.ls, .int .i64 q.la]] W fun e w' => e = .returned (.bool true) ∧ Go.RowKit.Below W.heap.size W w'
  c1 : ∀ W, Calls Try.prog 83 #[.agg #[.int .i64 q.ls, .int .i64 q.la], .agg #[.int .i64 p, .int .i64 r]] W fun e w' => e = .returned (.int .i64 K1) ∧ Go.RowKit.Below W.heap.size W w'
  c2 : ∀ W, Calls Try.prog 83 #[.agg #[.int .i64 q.ls, .int .i64 q.la], .agg #[.int .i64 c, .int .i64 d]] W fun e w' => e = .returned (.int .i64 K2) ∧ Go.RowKit.Below W.heap.size W w'
  k1 : 0 ≤ K1
  k2 : K2 < 0
set_option maxHeartbeats 4000000 in
theorem bbetween_core (g go n sc sb : Nat) (hn : n ≤ 1000) (a b c d : Int) (w : World) (hc : w.cell? ⟨g, go, none⟩ = some (.slice (some ⟨sb, 0, none⟩) n sc))
    (HR : Hid (∀ k, k < n → ∃ q p r x y K1 K2, BwAt w g go sb n a b c d k q p r x y K1 K2)) :
    Calls Try.prog 77 #[.pointer (some ⟨g, go, none⟩), .agg #[.int .i64 a, .int .i64 b, .int .i64 c, .int .i64 d]] w fun e w' => e = .returned (.bool true) ∧ Go.RowKit.Below w.heap.size w w' := by
  have mx := mixed
  have HN := Lib.hid (below_new w (kO a b c d))
  have HK : Hid ((w.alloc (kO a b c d)).heap[w.heap.size]? = some (kO a b c d)) := heap_alloc_new w _
  have HCL : Hid (∀ W, Go.RowKit.Below w.heap.size w W → ∀ p v, w.cell? p = some v → W.cell? p = some v) := fun W hW p v hv => (hW.cell (p := p) (World.block_lt_of_cell? w _ hv)).trans hv
  have e0 := HCL.out _ HN.out _ _ hc
  clear hc
  go_enter Try.func77, Try.ntmps77
  go_wp2_with fail
  go_loopg [14] n (fun k kv wr => ∃ j : Nat, k = n - j ∧ j ≤ n ∧ kv = .int .i64 (j : Int) ∧ Go.RowKit.Below w.heap.size w wr ∧ wr.heap[w.heap.size]? = some (kO a b c d))
  case atStart => exact ⟨0, rfl, Nat.zero_le _, rfl, HN.out, HK.out⟩
  case round =>
    obtain ⟨j, hkj, hle, rfl, hb, hkk⟩ := hrel
    have HKJ := Lib.hid hkj
    have HB := Lib.hid hb
    have HKK := Lib.hid hkk
    clear hkj hb hkk e0
    by_cases hlt : j < n
    · obtain ⟨q, p, r, x, y, K1, K2, H⟩ := HR.out j hlt
      have HW := Lib.hid H
      obtain ⟨f0, f1, f2, f3, f4⟩ := H.ce
      have d0 := HCL.out _ HB.out _ _ f0
      have d1 := HCL.out _ HB.out _ _ f1
      have d2 := HCL.out _ HB.out _ _ f2
      have d3 := HCL.out _ HB.out _ _ f3
      have d4 := HCL.out _ HB.out _ _ f4
      have i1 : IntKind.i64.wrap ((j : Int) + 1) = (j : Int) + 1 := IntWalk.i64_in _ (by omega)
      have i2 : (0 : Int) ≤ (j : Int) := by omega
      have i3 : (j : Int) < (n : Int) := by omega
      have t1 : 0 ≤ K1 := H.k1
      have t1' : ¬ K1 < 0 := by omega
      have t2 : K2 < 0 := H.k2
      have t2' : ¬ 0 ≤ K2 := by omega
      clear H f0 f1 f2 f3 f4
      go_upto_region 4 with fail
      clear d0 d1 d2 d3 d4
      have HB1 := Lib.hid (bt HB.out (below_new wr (oG q)))
      have HK1 := Lib.hid (box_on HKK.out (below_new wr (oG q)))
      have HS1 : Hid ((wr.alloc (oG q)).heap[wr.heap.size]? = some (oG q)) := heap_alloc_new wr _
      obtain ⟨m1, m2, m3, m4, _⟩ := kO_of HK1.out
      generalize wr.alloc (oG q) = X1 at *
      go_wp2_with fail
      refine (HW.out.bs _ HB1.out).mono ?_
      rintro e X2 ⟨rfl, hb2⟩
      clear m1 m2 m3 m4
      have HB2 := Lib.hid (bt HB1.out hb2)
      have HK2 := Lib.hid (box_on HK1.out hb2)
      have HS2 := Lib.hid (box_on HS1.out hb2)
      clear hb2 HB1 HK1 HS1
      have fl : ∀ W : World, (Instr.field 36 (.agg #[.int .i64 p, .int .i64 r, .int .i64 x, .int .i64 y]) 0).run Try.prog W = .ok (.agg #[.int .i64 p, .int .i64 r]) W := fun W => by kernel_rfl
      go_upto_region 5 with fail
      have HB3 := Lib.hid (bt HB2.out (below_new X2 (.cells #[.int .i64 p, .int .i64 r] 34)))
      have HK3 := Lib.hid (box_on HK2.out (below_new X2 (.cells #[.int .i64 p, .int .i64 r] 34)))
      have HS3 := Lib.hid (box_on HS2.out (below_new X2 (.cells #[.int .i64 p, .int .i64 r] 34)))
      have HL3 : Hid ((X2.alloc (.cells #[.int .i64 p, .int .i64 r] 34)).heap[X2.heap.size]? = some (.cells #[.int .i64 p, .int .i64 r] 34)) := heap_alloc_new X2 _
      obtain ⟨n0, n1, _, _, _⟩ := five_cells HS3.out
      simp only [Nat.zero_add] at n1
      clear fl HB2 HK2 HS2
      generalize X2.heap.size = L2 at *
      generalize X2.alloc (.cells #[.int .i64 p, .int .i64 r] 34) = X3 at *
      go_upto_region 6 with fail
      clear n0 n1
      have HB4 := Lib.hid (bt HB3.out (below_new X3 (.cells #[.int .i64 q.ls, .int .i64 q.la] 34)))
      have HK4 := Lib.hid (box_on HK3.out (below_new X3 (.cells #[.int .i64 q.ls, .int .i64 q.la] 34)))
      have HL4 := Lib.hid (box_on HL3.out (below_new X3 (.cells #[.int .i64 q.ls, .int .i64 q.la] 34)))
      have HC4 : Hid ((X3.alloc (.cells #[.int .i64 q.ls, .int .i64 q.la] 34)).heap[X3.heap.size]? = some (.cells #[.int .i64 q.ls, .int .i64 q.la] 34)) := heap_alloc_new X3 _
      clear HB3 HK3 HS3 HL3
      generalize X3.heap.size = L3 at *
      generalize X3.alloc (.cells #[.int .i64 q.ls, .int .i64 q.la] 34) = X4 at *
      obtain ⟨n0, n1, _, _⟩ := two_cells HC4.out
      go_wp2_with fail
      refine (HW.out.ri _).mono ?_
      rintro e X5 ⟨rfl, hb5⟩
      have HB5 := Lib.hid (bt HB4.out hb5)
      have HK5 := Lib.hid (box_on HK4.out hb5)
      have HL5 := Lib.hid (box_on HL4.out hb5)
      have HC5 := Lib.hid (box_on HC4.out hb5)
      clear hb5 n0 n1 HB4 HK4 HL4 HC4
      obtain ⟨n0, n1, _, _⟩ := two_cells HC5.out
      obtain ⟨o0, o1, _, _⟩ := two_cells HL5.out
      go_wp2_with fail
      refine (HW.out.c1 _).mono ?_
      rintro e X6 ⟨rfl, hb6⟩
      have HB6 := Lib.hid (bt HB5.out hb6)
      have HK6 := Lib.hid (box_on HK5.out hb6)
      have HC6 := Lib.hid (box_on HC5.out hb6)
      clear hb6 n0 n1 o0 o1 HB5 HK5 HL5 HC5
      obtain ⟨n0, n1, _, _⟩ := two_cells HC6.out
      obtain ⟨_, _, m3, m4, _⟩ := kO_of HK6.out
      go_wp2_with fail
      refine (HW.out.c2 _).mono ?_
      rintro e X7 ⟨rfl, hb7⟩
      have HB7 := Lib.hid (bt HB6.out hb7)
      have HK7 := Lib.hid (box_on HK6.out hb7)
      clear hb7 n0 n1 m3 m4 HB6 HK6 HC6
      go_wp2_with fail
      go_roundg (n - (j + 1))
      case measure => have := HKJ.out; omega
      case rel => exact ⟨j + 1, rfl, by omega, by push_cast; rfl, HB7.out, HK7.out⟩
    · obtain rfl : j = n := by omega
      go_wp2_with fail
      go_ret
      exact ⟨rfl, HB.out⟩
end Go.Proofs.Ytjgcdmeojjnjlaa
/- sound: the walk. -/
namespace Go.Proofs.Ytjgcdmeojjnjlaa
open Go.RowKit Go.Sort Go.Proofs.Ytjgcdmeojjnjlaa.Bo Go.Proofs.Ytjgcdmeojjnjlaa.Bb
set_option linter.unusedVariables false
set_option maxRecDepth 100000
abbrev ctV (x y z : Int) : Value := .agg #[.int .i64 x, .int .i64 y, .int .i64 z]
abbrev ctO (x y z : Int) : Obj := .cells #[.int .i64 x, .int .i64 y, .int .i64 z] 85
abbrev spV (a b c d : Int) : Value := .agg #[.int .i64 a, .int .i64 b, .int .i64 c, .int .i64 d]
theorem ctO_of {W : World} {b : Nat} {p q r : Int} (h : W.heap[b]? = some (ctO p q r)) : W.cell? ⟨b, 0, none⟩ = some (.int .i64 p) ∧ W.cell? ⟨b, 1, none⟩ = some (.int .i64 q) ∧ W.cell? ⟨b, 2, none⟩ = some (.int .i64 r) ∧ (∀ x, W.frozen? ⟨b, x, none⟩ = false) :=
  ⟨(cell_of_row _ _ 0 _ _ _ h).trans rfl, (cell_of_row _ _ 1 _ _ _ h).trans rfl, (cell_of_row _ _ 2 _ _ _ h).trans rfl, fun x => frozen_of_row _ _ _ _ _ h⟩
/-- The blocks of sound: the keys, the answer, what is counted so far. -/
structure SbAt (w : World) (a b c d : Int) (M : Nat) (x y z : Int) (W : World) : Prop where
  kb : W.heap[w.heap.size]? = some (kO a b c d)
  rb : W.heap[w.heap.size + 1]? = some (ctO 0 0 0)
  mb : W.heap[M]? = some (ctO x y z)
  gt : w.heap.size + 1 < M
  be : Go.RowKit.Below w.heap.size w W
section
variable {w W W' : World} {a b c d x y z : Int} {M : Nat}
theorem SbAt.on (h : SbAt w a b c d M x y z W) (hb : Go.RowKit.Below W.heap.size W W') : SbAt w a b c d M x y z W' := ⟨box_on h.kb hb, box_on h.rb hb, box_on h.mb hb, h.gt, bt h.be hb⟩
theorem SbAt.p0 (h : SbAt w a b c d M x y z W) (v : Int) : SbAt w a b c d M v y z (W.setCell ⟨M, 0, none⟩ (.int .i64 v)) :=
  ⟨set_far h.kb (by have := h.gt; omega), set_far h.rb (by have := h.gt; omega), heap_setCell_same _ _ _ _ _ _ h.mb, h.gt, h.be.setCell (p := ⟨M, 0, none⟩) (by show w.heap.size ≤ M; have := h.gt; omega) _⟩
theorem SbAt.p1 (h : SbAt w a b c d M x y z W) (v : Int) : SbAt w a b c d M x v z (W.setCell ⟨M, 1, none⟩ (.int .i64 v)) :=
  ⟨set_far h.kb (by have := h.gt; omega), set_far h.rb (by have := h.gt; omega), heap_setCell_same _ _ _ _ _ _ h.mb, h.gt, h.be.setCell (p := ⟨M, 1, none⟩) (by show w.heap.size ≤ M; have := h.gt; omega) _⟩
theorem SbAt.p2 (h : SbAt w a b c d M x y z W) (v : Int) : SbAt w a b c d M x y v (W.setCell ⟨M, 2, none⟩ (.int .i64 v)) :=
  ⟨set_far h.kb (by have := h.gt; omega), set_far h.rb (by have := h.gt; omega), heap_setCell_same _ _ _ _ _ _ h.mb, h.gt, h.be.setCell (p := ⟨M, 2, none⟩) (by show w.heap.size ≤ M; have := h.gt; omega) _⟩
theorem SbAt.fin (h : SbAt w a b c d M x y z W) (p q r : Int) : (((W.setCell ⟨w.heap.size + 1, 0, none⟩ (.int .i64 p)).setCell ⟨w.heap.size + 1, 1, none⟩ (.int .i64 q)).setCell ⟨w.heap.size + 1, 2, none⟩ (.int .i64 r)).heap[w.heap.size + 1]? = some (ctO p q r) ∧ Go.RowKit.Below w.heap.size w (((W.setCell ⟨w.heap.size + 1, 0, none⟩ (.int .i64 p)).setCell ⟨w.heap.size + 1, 1, none⟩ (.int .i64 q)).setCell ⟨w.heap.size + 1, 2, none⟩ (.int .i64 r)) :=
  ⟨heap_setCell_same _ _ _ _ _ _ (heap_setCell_same _ _ _ _ _ _ (heap_setCell_same _ _ _ _ _ _ h.rb)), ((h.be.setCell (p := ⟨w.heap.size + 1, 0, none⟩) (Nat.le_succ _) _).setCell (p := ⟨w.heap.size + 1, 1, none⟩) (Nat.le_succ _) _).setCell (p := ⟨w.heap.size + 1, 2, none⟩) (Nat.le_succ _) _⟩
end
/-- What sound asks of a child. -/
structure SkAt (w : World) (T g go : Nat) (ka : Option Addr) (a b c d : Int) (N S H : Int) (k : Nat) (kb : Nat) (ck p r x y : Int) : Prop where
  ka : ka = some ⟨kb, 0, none⟩
  ce : w.cell? ⟨kb, k, none⟩ = some (.int .i64 ck)
  bs : ∀ W, Go.RowKit.Below w.heap.size w W → Calls Try.prog 78 #[.pointer (some ⟨g, go, none⟩), .int .i64 (k : Int), spV a b c d] W fun e w' => e = .returned (spV p r x y) ∧ Go.RowKit.Below W.heap.size W w'
  so : ∀ W, Go.RowKit.Below w.heap.size w W → Calls Try.prog 47 #[aP T, .int .i64 ck, spV p r x y] W fun e w' => e = .returned (.tuple #[ctV N S H, .bool true]) ∧ Go.RowKit.Below W.heap.size W w'
/-- How high it is behind k children. -/
def hiB (H : Int) (k : Nat) : Int := if k = 0 then 0 else H
set_option maxHeartbeats 4000000 in
theorem bsound_core (T A g go n nk sc kc : Nat) (sa ka : Option Addr) (i a b c d H : Int) (N S cn cs : Nat → Nat) (w : World) (hn : n ≤ 1000 ∧ nk ≤ 1000) (hH : 0 ≤ H ∧ H ≤ 100000)
    (cA : w.cell? ⟨T, 1, none⟩ = some (aP A)) (c2 : w.cell? ⟨g, go, none⟩ = some (.slice sa n sc)) (c3 : w.cell? ⟨g, go + 1, none⟩ = some (.slice ka nk kc))
    (HAT : Hid (∀ W, Go.RowKit.Below w.heap.size w W → Calls Try.prog 50 #[aP A, .int .i64 i] W fun e w' => e = .returned (.pointer (some ⟨g, go, none⟩)) ∧ W = w'))
    (HNU : Hid (∀ W, Go.RowKit.Below w.heap.size w W → Calls Try.prog 76 #[aP T, .int .i64 i, .pointer (some ⟨g, go, none⟩)] W fun e w' => e = .returned (.bool true) ∧ Go.RowKit.Below W.heap.size W w'))
    (HBW : Hid (∀ W, Go.RowKit.Below w.heap.size w W → Calls Try.prog 77 #[.pointer (some ⟨g, go, none⟩), spV a b c d] W fun e w' => e = .returned (.bool true) ∧ Go.RowKit.Below W.heap.size W w'))
    (HKD : Hid (∀ k, k < nk → ∃ kb ck p r x y, SkAt w T g go ka a b c d (N k : Int) (S k : Int) H k kb ck p r x y))
    (HCN : Hid (cn 0 = 1 ∧ cs 0 = n ∧ ∀ k, k < nk → cn (k + 1) = cn k + N k ∧ cs (k + 1) = cs k + S k)) (HLE : Hid (∀ k, k ≤ nk → cn k ≤ 1000000 ∧ cs k ≤ 1000000)) :
    Calls Try.prog 47 #[aP T, .int .i64 i, spV a b c d] w fun e w' => e = .returned (.tuple #[ctV (cn nk : Int) (cs nk : Int) (hiB H nk + 1), .bool true]) ∧ Go.RowKit.Below w.heap.size w w' := by
  have mx := mixed
  have HN : Hid (Go.RowKit.Below w.heap.size w ((w.alloc (kO a b c d)).alloc (ctO 0 0 0))) := bt (below_new w (kO a b c d)) (below_new _ (ctO 0 0 0))
  have HK : Hid (((w.alloc (kO a b c d)).alloc (ctO 0 0 0)).heap[w.heap.size]? = some (kO a b c d)) := box_on (heap_alloc_new w _) (below_new _ _)
  have HR : Hid (((w.alloc (kO a b c d)).alloc (ctO 0 0 0)).heap[w.heap.size + 1]? = some (ctO 0 0 0)) := new_at' _ (by simp)
  have HCL : Hid (∀ W, Go.RowKit.Below w.heap.size w W → ∀ p v, w.cell? p = some v → W.cell? p = some v) := fun W hW p v hv => (hW.cell (p := p) (World.block_lt_of_cell? w _ hv)).trans hv
  have HCA := Lib.hid cA
  have HC2 := Lib.hid c2
  have HC3 := Lib.hid c3
  have e0 := HCL.out _ HN.out _ _ HCA.out
  clear cA c2 c3
  go_enter Try.func47, Try.ntmps47
  go_wp2_with fail
  refine (HAT.out _ HN.out).mono ?_
  rintro e X ⟨rfl, rfl⟩
  clear e0
  generalize (w.alloc (kO a b c d)).alloc (ctO 0 0 0) = X at *
  go_wp2_with fail
  refine (HNU.out _ HN.out).mono ?_
  rintro e X2 ⟨rfl, hb⟩
  have HN2 := Lib.hid (bt HN.out hb)
  have HK2 := Lib.hid (box_on HK.out hb)
  have HR2 := Lib.hid (box_on HR.out hb)
  clear hb HN HK HR
  obtain ⟨m1, m2, m3, m4, _⟩ := kO_of HK2.out
  go_wp2_with fail
  refine (HBW.out _ HN2.out).mono ?_
  rintro e X3 ⟨rfl, hb⟩
  clear m1 m2 m3 m4
  have HN3 := Lib.hid (bt HN2.out hb)
  have HK3 := Lib.hid (box_on HK2.out hb)
  have HR3 := Lib.hid (box_on HR2.out hb)
  clear hb HN2 HK2 HR2
  have e1 := HCL.out _ HN3.out _ _ HC2.out
  have bl : ∀ W : World, (Instr.build 85 #[(0, .int .i64 1), (1, .int .i64 (n : Int))]).run Try.prog W = .ok (ctV 1 (n : Int) 0) W := fun W => run_build W _ _ _ (by kernel_rfl)
  go_upto_region 5 with fail
  clear bl e1
  have hM : w.heap.size + 1 < X3.heap.size := lt_of_block HR3.out
  have HS : Hid (SbAt w a b c d X3.heap.size (cn 0 : Int) (cs 0 : Int) (hiB H 0) (X3.alloc (ctO 1 (n : Int) 0))) := by
    rw [HCN.out.1, HCN.out.2.1]
    exact ⟨box_on HK3.out (below_new _ _), box_on HR3.out (below_new _ _), heap_alloc_new _ _, hM, bt HN3.out (below_new _ _)⟩
  clear HN3 HK3 HR3 hM
  generalize X3.heap.size = M at *
  generalize X3.alloc (ctO 1 (n : Int) 0) = Y at *
  have e3 := HCL.out _ HS.out.be _ _ HC3.out
  go_wp2_with fail
  go_loopg [47] nk (fun k kv wr => ∃ j : Nat, k = nk - j ∧ j ≤ nk ∧ kv = .int .i64 (j : Int) ∧ SbAt w a b c d M (cn j : Int) (cs j : Int) (hiB H j) wr)
  case atStart => exact ⟨0, rfl, Nat.zero_le _, rfl, HS.out⟩
  case round =>
    obtain ⟨j, hkj, hle, rfl, hs⟩ := hrel
    have HKJ := Lib.hid hkj
    have HS1 := Lib.hid hs
    clear hkj hs e3 HS
    by_cases hlt : j < nk
    · obtain ⟨kb, ck, p, r, x, y, hsk⟩ := HKD.out j hlt
      obtain rfl := hsk.ka
      have HSK := Lib.hid hsk
      have HADD := Lib.hid (HCN.out.2.2 j hlt)
      have HB1 := Lib.hid (HLE.out (j + 1) hlt)
      have ce := HCL.out _ HS1.out.be _ _ hsk.ce
      have i1 : IntKind.i64.wrap ((j : Int) + 1) = (j : Int) + 1 := IntWalk.i64_in _ (by omega)
      have i2 : (0 : Int) ≤ (j : Int) := by omega
      have i3 : (j : Int) < (nk : Int) := by omega
      clear hsk
      obtain ⟨m1, m2, m3, m4, _⟩ := kO_of HS1.out.kb
      go_wp2_with fail
      refine (HSK.out.bs _ HS1.out.be).mono ?_
      rintro e X2 ⟨rfl, hb2⟩
      have HS2 := Lib.hid (HS1.out.on hb2)
      clear hb2 m1 m2 m3 m4 ce HS1
      go_wp2_with fail
      refine (HSK.out.so _ HS2.out.be).mono ?_
      rintro e X3 ⟨rfl, hb3⟩
      have HS3 := Lib.hid (HS2.out.on hb3)
      clear hb3 HS2
      go_upto_region 9 with fail
      have HS4 := Lib.hid (HS3.out.on (below_new X3 (ctO (N j : Int) (S j : Int) H)))
      have HL4 : Hid ((X3.alloc (ctO (N j : Int) (S j : Int) H)).heap[X3.heap.size]? = some (ctO (N j : Int) (S j : Int) H)) := heap_alloc_new _ _
      have hML : M < X3.heap.size := lt_of_block HS3.out.mb
      clear HS3
      generalize X3.heap.size = L at *
      generalize X3.alloc (ctO (N j : Int) (S j : Int) H) = X4 at *
      have w1 : IntKind.i64.wrap ((cn j : Int) + (N j : Int)) = (cn (j + 1) : Int) := by
        have h1 := HADD.out.1
        have h2 := HB1.out.1
        rw [show (cn j : Int) + (N j : Int) = (cn (j + 1) : Int) by omega]; exact IntWalk.i64_in _ (by omega)
      have w2 : IntKind.i64.wrap ((cs j : Int) + (S j : Int)) = (cs (j + 1) : Int) := by
        have h1 := HADD.out.2
        have h2 := HB1.out.2
        rw [show (cs j : Int) + (S j : Int) = (cs (j + 1) : Int) by omega]; exact IntWalk.i64_in _ (by omega)
      obtain ⟨l0, l1, l2, _⟩ := ctO_of HL4.out
      obtain ⟨n0, n1, n2, n3⟩ := ctO_of HS4.out.mb
      have z0 := n3 0
      have z1 := n3 1
      have z2 := n3 2
      clear n3
      have hneL : L ≠ M := by omega
      have HNE := Lib.hid hneL
      have HML := Lib.hid hML
      clear hneL hML
      rcases Nat.eq_zero_or_pos j with hj | hj
      · subst hj
        go_upto_region 12 with fail
        have HS5 := Lib.hid (HS4.out.p0 (cn (0 + 1) : Int))
        have HL5 : Hid ((X4.setCell ⟨M, 0, none⟩ (.int .i64 (cn (0 + 1) : Int))).heap[L]? = some (ctO (N 0 : Int) (S 0 : Int) H)) := set_far HL4.out HNE.out
        clear l0 l1 l2 n0 n1 n2 z0 z1 z2 w1 HS4 HL4
        generalize X4.setCell ⟨M, 0, none⟩ (.int .i64 (cn (0 + 1) : Int)) = X5 at *
        obtain ⟨l0, l1, l2, _⟩ := ctO_of HL5.out
        obtain ⟨n0, n1, n2, n3⟩ := ctO_of HS5.out.mb
        have z1 := n3 1
        clear n3
        go_upto_region 13 with fail
        have HS6 := Lib.hid (HS5.out.p1 (cs (0 + 1) : Int))
        have HL6 : Hid ((X5.setCell ⟨M, 1, none⟩ (.int .i64 (cs (0 + 1) : Int))).heap[L]? = some (ctO (N 0 : Int) (S 0 : Int) H)) := set_far HL5.out HNE.out
        clear l0 l1 l2 n0 n1 n2 z1 w2 HS5 HL5
        generalize X5.setCell ⟨M, 1, none⟩ (.int .i64 (cs (0 + 1) : Int)) = X6 at *
        obtain ⟨l0, l1, l2, _⟩ := ctO_of HL6.out
        obtain ⟨n0, n1, n2, n3⟩ := ctO_of HS6.out.mb
        have z2 := n3 2
        clear n3
        have HS7 := Lib.hid (HS6.out.p2 H)
        go_wp2_with fail
        go_roundg (nk - (0 + 1))
        case measure => have := HKJ.out; omega
        case rel => exact ⟨0 + 1, rfl, by omega, by push_cast; rfl, by rw [show hiB H (0 + 1) = H from if_neg (by omega)]; exact HS7.out⟩
      · obtain ⟨j', rfl⟩ : ∃ j', j = j' + 1 := ⟨j - 1, by omega⟩
        have b1 : (0 : Int) < ((j' + 1 : Nat) : Int) := by omega
        rw [show hiB H (j' + 1) = H from if_neg (by omega)] at n2
        go_upto_region 12 with fail
        have HS5 := Lib.hid (HS4.out.p0 (cn ((j' + 1) + 1) : Int))
        have HL5 : Hid ((X4.setCell ⟨M, 0, none⟩ (.int .i64 (cn ((j' + 1) + 1) : Int))).heap[L]? = some (ctO (N (j' + 1) : Int) (S (j' + 1) : Int) H)) := set_far HL4.out HNE.out
        clear l0 l1 l2 n0 n1 n2 z0 z1 z2 w1 HS4 HL4
        generalize X4.setCell ⟨M, 0, none⟩ (.int .i64 (cn ((j' + 1) + 1) : Int)) = X5 at *
        obtain ⟨l0, l1, l2, _⟩ := ctO_of HL5.out
        obtain ⟨n0, n1, n2, n3⟩ := ctO_of HS5.out.mb
        have z1 := n3 1
        clear n3
        go_upto_region 13 with fail
        have HS6 := Lib.hid (HS5.out.p1 (cs ((j' + 1) + 1) : Int))
        have HL6 : Hid ((X5.setCell ⟨M, 1, none⟩ (.int .i64 (cs ((j' + 1) + 1) : Int))).heap[L]? = some (ctO (N (j' + 1) : Int) (S (j' + 1) : Int) H)) := set_far HL5.out HNE.out
        clear l0 l1 l2 n0 n1 n2 z1 w2 HS5 HL5
        generalize X5.setCell ⟨M, 1, none⟩ (.int .i64 (cs ((j' + 1) + 1) : Int)) = X6 at *
        obtain ⟨l0, l1, l2, _⟩ := ctO_of HL6.out
        obtain ⟨n0, n1, n2, n3⟩ := ctO_of HS6.out.mb
        have z2 := n3 2
        clear n3
        have HS7 := Lib.hid (HS6.out.p2 H)
        go_wp2_with fail
        go_roundg (nk - ((j' + 1) + 1))
        case measure => have := HKJ.out; omega
        case rel => exact ⟨(j' + 1) + 1, rfl, by omega, by push_cast; rfl, by rw [show hiB H ((j' + 1) + 1) = H from if_neg (by omega)]; exact HS7.out⟩
    · obtain rfl : j = nk := by omega
      obtain ⟨n0, n1, n2, n3⟩ := ctO_of HS1.out.mb
      have z2 := n3 2
      clear n3
      have w3 : IntKind.i64.wrap (hiB H j + 1) = hiB H j + 1 := by
        unfold hiB
        split <;> exact IntWalk.i64_in _ (by omega)
      generalize hHH : hiB H j = HH at *
      have HHH := Lib.hid hHH
      clear hHH
      go_upto_region 16 with fail
      have HS2 := Lib.hid (HS1.out.p2 (HH + 1))
      clear n0 n1 n2 z2 w3 HS1
      generalize wr.setCell ⟨M, 2, none⟩ (.int .i64 (HH + 1)) = Y2 at *
      obtain ⟨n0, n1, n2, _⟩ := ctO_of HS2.out.mb
      obtain ⟨r0, r1, r2, r3⟩ := ctO_of HS2.out.rb
      have z0 := r3 0
      have z1 := r3 1
      have z2 := r3 2
      obtain ⟨hf, hbe⟩ := HS2.out.fin (cn j : Int) (cs j : Int) (HH + 1)
      have HBE := Lib.hid hbe
      obtain ⟨g0, g1, g2, _⟩ := ctO_of hf
      clear r3 hf hbe
      go_wp2_with fail
      refine bodyPost_ret (v := .tuple #[ctV (cn j : Int) (cs j : Int) (HH + 1), .bool true]) (by simp [results, Try.results47, go_sem, g0, g1, g2]) rfl ?_
      exact ⟨by rw [HHH.out], HBE.out⟩
end Go.Proofs.Ytjgcdmeojjnjlaa
/- sound, by the tree; Check. -/
namespace Go.Proofs.Ytjgcdmeojjnjlaa
open Go.RowKit Go.Sort Go.Proofs.Ytjgcdmeojjnjlaa.Bo Go.Proofs.Ytjgcdmeojjnjlaa.Bb
set_option linter.unusedVariables false
set_option maxRecDepth 100000
/-- The cuts that beside tells. -/
def lowP (s : List G5) (a b : Int) (k : Nat) : Int × Int := if h : 0 < k ∧ k - 1 < s.length then (sd ((s[k - 1]'h.2).key + 1), pa ((s[k - 1]'h.2).key + 1)) else (a, b)
def highP (s : List G5) (c d : Int) (k : Nat) : Int × Int := if h : k < s.length then (s[k].ls, s[k].la) else (c, d)
theorem low_key (s : List G5) (a b : Int) (k : Nat) (hs : ∀ q ∈ s, q.ok ∧ q.key < 9223372036854775808) : key (lowP s a b k).1 (lowP s a b k).2 = loK s (key a b) k := by
  unfold lowP loK
  split
  · rename_i h
    obtain ⟨h1, h2⟩ := hs _ (List.getElem_mem h.2)
    have h3 := (s[k - 1]'h.2).ky h1
    exact key_back _ (by unfold Ky at h3 ⊢; omega)
  · rfl
theorem high_key (s : List G5) (c d : Int) (k : Nat) : key (highP s c d k).1 (highP s c d k).2 = hiK s (key c d) k := by
  unfold highP hiK
  split <;> rfl
theorem low_i64 (s : List G5) (a b : Int) (k : Nat) (hb : I64 b) (hs : ∀ q ∈ s, q.ok ∧ q.key < 9223372036854775808) : I64 (lowP s a b k).2 := by
  unfold lowP
  split
  · rename_i h
    obtain ⟨h1, h2⟩ := hs _ (List.getElem_mem h.2)
    have h3 := (s[k - 1]'h.2).ky h1
    exact pa_i64 _ (by unfold Ky at h3 ⊢; omega)
  · exact hb
theorem high_i64 (s : List G5) (c d : Int) (k : Nat) (hd : I64 d) (hs : ∀ q ∈ s, q.ok ∧ q.key < 9223372036854775808) : I64 (highP s c d k).2 := by
  unfold highP
  split
  · rename_i h
    exact (hs _ (List.getElem_mem h)).1.1
  · exact hd
/-- How a node lies, in plain cells. -/
theorem NdPt.cells {W : World} {base g go : Nat} {n : Kn} (h : NdPt W base (.pointer (some ⟨g, go, none⟩)) n) :
    ∃ (sa ka : Option Addr) (sc kc : Nat), W.cell? ⟨g, go, none⟩ = some (.slice sa n.segs.length sc) ∧ W.cell? ⟨g, go + 1, none⟩ = some (.slice ka n.kids.length kc) ∧ W.ownsRow base 38 5 (.slice sa n.segs.length sc) n.segs.length (flatG n.segs) ∧ W.ownsRow base 3 1 (.slice ka n.kids.length kc) n.kids.length (n.kids.map nv) := by
  obtain ⟨g', p', r, e, q1, q2, q3⟩ := h
  obtain ⟨rfl, rfl⟩ : g = g' ∧ go = p' := by injection e with e; injection e with e; injection e with e1 e2 _; exact ⟨e1, e2⟩
  obtain ⟨en, ek⟩ := q3.nums
  have e1 : r.s.v = .slice r.s.a n.segs.length r.s.c := by rw [← en]
  have e2 : r.k.v = .slice r.k.a n.kids.length r.k.c := by rw [← ek]
  have h1 := q3.s
  have h2 := q3.k
  rw [e1] at q1 h1
  rw [e2] at q2 h2
  exact ⟨_, _, _, _, q1, q2, h1, h2⟩
theorem bbeside_any {W : World} {base g go : Nat} {n : Kn} (h : NdPt W base (.pointer (some ⟨g, go, none⟩)) n) (hn : 1 ≤ n.segs.length ∧ n.segs.length ≤ 1000) (hs : ∀ q ∈ n.segs, q.ok ∧ q.key < 9223372036854775808) (k : Nat) (hk : k ≤ n.segs.length) (a b c d : Int) :
    Calls Try.prog 78 #[.pointer (some ⟨g, go, none⟩), .int .i64 (k : Int), spV a b c d] W fun e w' => e = .returned (spV (lowP n.segs a b k).1 (lowP n.segs a b k).2 (highP n.segs c d k).1 (highP n.segs c d k).2) ∧ Go.RowKit.Below W.heap.size W w' := by
  obtain ⟨sa, ka, sc, kc, c2, c3, os, ok⟩ := h.cells
  obtain ⟨sb, rfl, _, _, _⟩ := own_atG os rfl 0 (by omega)
  have at5 : ∀ i (hi : i < n.segs.length), W.cell? ⟨sb, i * 5, none⟩ = some (.int .i64 (n.segs[i]'hi).ls) ∧ W.cell? ⟨sb, i * 5 + 1, none⟩ = some (.int .i64 (n.segs[i]'hi).la) := fun i hi => by
    obtain ⟨sb', e, _, hc, _⟩ := own_atG os rfl i hi
    obtain rfl : sb = sb' := by injection e with e; injection e
    exact ⟨hc.1, hc.2.1⟩
  rcases Nat.eq_zero_or_pos k with h0 | h0
  · subst h0
    have e1 : lowP n.segs a b 0 = (a, b) := by unfold lowP; rw [dif_neg (by omega)]
    have e2 : highP n.segs c d 0 = ((n.segs[0]'(by omega)).ls, (n.segs[0]'(by omega)).la) := by unfold highP; rw [dif_pos (by omega)]
    rw [e1, e2]
    exact bbeside_nh g go _ sc sb hn.2 _ _ a b c d W c2 (by omega) (at5 0 (by omega)).1 (at5 0 (by omega)).2
  · obtain ⟨j, rfl⟩ : ∃ j, k = j + 1 := ⟨k - 1, by omega⟩
    have hj : j < n.segs.length := by omega
    have e1 : lowP n.segs a b (j + 1) = (sd ((n.segs[j]'hj).key + 1), pa ((n.segs[j]'hj).key + 1)) := by unfold lowP; rw [dif_pos ⟨by omega, by omega⟩]; rfl
    obtain ⟨h1, h2⟩ := hs _ (List.getElem_mem hj)
    have hnx : ∀ W, Calls Try.prog 97 #[.agg #[.int .i64 (n.segs[j]'hj).ls, .int .i64 (n.segs[j]'hj).la]] W fun e w' => e = .returned (.agg #[.int .i64 (sd ((n.segs[j]'hj).key + 1)), .int .i64 (pa ((n.segs[j]'hj).key + 1))]) ∧ Go.RowKit.Below W.heap.size W w' := fun W => bnext_any _ _ W h1.1 h2
    have ek : (((j + 1 : Nat) : Int)) = (j : Int) + 1 := by omega
    rw [e1, ek]
    by_cases hl : j + 1 < n.segs.length
    · have e2 : highP n.segs c d (j + 1) = ((n.segs[j + 1]'hl).ls, (n.segs[j + 1]'hl).la) := by unfold highP; rw [dif_pos hl]
      rw [e2]
      exact bbeside_lh g go _ sc sb hn.2 j _ _ _ _ _ _ a b c d W c2 hl (at5 j hj).1 (at5 j hj).2 (Lib.hid hnx) (at5 (j + 1) hl).1 (at5 (j + 1) hl).2
    · have e2 : highP n.segs c d (j + 1) = (c, d) := by unfold highP; rw [dif_neg hl]
      rw [e2]
      exact bbeside_ln g go _ sc sb hn.2 j _ _ _ _ a b c d W c2 (by omega) (at5 j hj).1 (at5 j hj).2 (Lib.hid hnx)
theorem kcmp_nn (a b : Int) (h : b ≤ a) : 0 ≤ kcmp a b := by unfold kcmp; rw [if_neg (by omega)]; split <;> omega
theorem kcmp_ng (a b : Int) (h : a < b) : kcmp a b < 0 := by unfold kcmp; rw [if_pos h]; omega
theorem bbetween_any {W : World} {base g go : Nat} {n : Kn} (h : NdPt W base (.pointer (some ⟨g, go, none⟩)) n) (hn : 1 ≤ n.segs.length ∧ n.segs.length ≤ 1000) (hs : ∀ q ∈ n.segs, q.ok ∧ q.is q.key = true ∧ q.key < 9223372036854775808) (a b c d : Int) (hb : I64 b) (hd : I64 d) (hin : InR (key a b) (key c d) n.segs) :
    Calls Try.prog 77 #[.pointer (some ⟨g, go, none⟩), spV a b c d] W fun e w' => e = .returned (.bool true) ∧ Go.RowKit.Below W.heap.size W w' := by
  obtain ⟨sa, ka, sc, kc, c2, c3, os, ok⟩ := h.cells
  obtain ⟨sb, rfl, _, _, _⟩ := own_atG os rfl 0 (by omega)
  have hs2 : ∀ q ∈ n.segs, q.ok ∧ q.key < 9223372036854775808 := fun q hq => ⟨(hs q hq).1, (hs q hq).2.2⟩
  refine bbetween_core g go _ sc sb hn.2 a b c d W c2 (Lib.hid fun k hk => ?_)
  obtain ⟨sb', e, _, hc, _⟩ := own_atG os rfl k hk
  obtain rfl : sb = sb' := by injection e with e; injection e
  obtain ⟨q1, q2, q3⟩ := hs _ (List.getElem_mem hk)
  obtain ⟨o1, o2⟩ := own_step n.segs _ _ hin k hk
  have hlk := low_key n.segs a b k hs2
  refine ⟨n.segs[k], (lowP n.segs a b k).1, (lowP n.segs a b k).2, (highP n.segs c d k).1, (highP n.segs c d k).2, _, _, ⟨hc, fun W' hW => bbeside_any (h.below hW) hn hs2 k (by omega) a b c d, fun W' => ?_, fun W' => ?_, fun W' => ?_, kcmp_nn (key (n.segs[k]).ls (n.segs[k]).la) (key (lowP n.segs a b k).1 (lowP n.segs a b k).2) ?_, kcmp_ng _ _ o2⟩⟩
  · have := right_any (n.segs[k]).ls (n.segs[k]).la W' q1.1
    have e : ((n.segs[k]).ls == sd (key (n.segs[k]).ls (n.segs[k]).la) && (n.segs[k]).la == pa (key (n.segs[k]).ls (n.segs[k]).la)) = true := q2
    rw [e] at this
    exact this.mono fun _ _ h => ⟨h.1, h.2.1⟩
  · exact (compare_any _ _ _ _ W' q1.1 (low_i64 n.segs a b k hb hs2)).mono fun _ _ h => ⟨h.1, h.2.1⟩
  · exact (compare_any _ _ _ _ W' q1.1 hd).mono fun _ _ h => ⟨h.1, h.2.1⟩
  · rw [hlk]; exact o1
theorem cntN_le (h : Nat) (ks : List Bt) (k : Nat) : cntN h ks k ≤ cntN h ks ks.length := by
  unfold cntN
  rw [List.take_length]
  conv => rhs; rw [← List.take_append_drop k ks, List.flatMap_append, List.length_append]
  omega
theorem cntS_le (h : Nat) (ks : List Bt) (k : Nat) : cntS h ks k ≤ cntS h ks ks.length := by
  unfold cntS
  rw [List.take_length]
  conv => rhs; rw [← List.take_append_drop k ks, List.map_append, List.sum_append]
  omega
section
variable {w : World} {base T A d : Nat} {t : Bx} {a : Ag Rn} {S0 : Nat → Prop} {L : List G5}
set_option maxHeartbeats 1000000 in
theorem bsound_at (h : BtW w base T A t a S0) (hd : t.d = (d : Int)) (hd2 : 2 ≤ d) (hd64 : d ≤ 64) (x : Bt) (hx : t.f (x.i : Int) = some ⟨x.s, x.ks.map Bt.idx⟩) (h1 : 1 ≤ x.s.length) (h2 : x.s.length + 1 ≤ 2 * d) (h3 : t.root = x.idx ∨ d ≤ x.s.length + 1) (hkn : x.ks.length = 0 ∨ x.ks.length = x.s.length + 1)
    (p q r s : Int) (hq : I64 q) (hs : I64 s) (hin : InR (key p q) (key r s) x.s) (hall : ∀ g ∈ x.s, g.ok ∧ g.is g.key = true ∧ g.key < 9223372036854775808) (Hh : Int) (hH : 0 ≤ Hh ∧ Hh ≤ 100000) (N S cn cs : Nat → Nat)
    (HKD : ∀ k (hk : k < x.ks.length), ∀ W, Go.RowKit.Below w.heap.size w W → Calls Try.prog 47 #[aP T, .int .i64 (x.ks[k]).idx, spV (lowP x.s p q k).1 (lowP x.s p q k).2 (highP x.s r s k).1 (highP x.s r s k).2] W fun e w' => e = .returned (.tuple #[ctV (N k : Int) (S k : Int) Hh, .bool true]) ∧ Go.RowKit.Below W.heap.size W w')
    (HCN : cn 0 = 1 ∧ cs 0 = x.s.length ∧ ∀ k, k < x.ks.length → cn (k + 1) = cn k + N k ∧ cs (k + 1) = cs k + S k) (HLE : ∀ k, k ≤ x.ks.length → cn k ≤ 1000000 ∧ cs k ≤ 1000000) :
    ∀ W, Go.RowKit.Below w.heap.size w W → Calls Try.prog 47 #[aP T, .int .i64 x.idx, spV p q r s] W fun e w' => e = .returned (.tuple #[ctV (cn x.ks.length : Int) (cs x.ks.length : Int) (hiB Hh x.ks.length + 1), .bool true]) ∧ Go.RowKit.Below W.heap.size W w' := by
  intro W hW
  obtain ⟨np, k1, k2⟩ := bat_node h x.i _ hx
  have k3 := k1
  obtain ⟨g, go, _, e, _, _, _⟩ := k3
  obtain rfl : np = some ⟨g, go, none⟩ := by injection e
  obtain ⟨sa, ka, sc, kc, c2, c3, os, ok⟩ := (k1.below hW).cells
  have hkl : (⟨x.s, x.ks.map Bt.idx⟩ : Kn).kids.length = x.ks.length := List.length_map _
  rw [hkl] at c3 ok
  have hn : 1 ≤ x.s.length ∧ x.s.length ≤ 1000 := ⟨h1, by omega⟩
  have hs2 : ∀ q ∈ x.s, q.ok ∧ q.key < 9223372036854775808 := fun q hq => ⟨(hall q hq).1, (hall q hq).2.2⟩
  have hWt := h.below hW
  have cA : W.cell? ⟨T, 1, none⟩ = some (aP A) := (cell_of_row _ _ 1 _ _ _ hWt.top).trans rfl
  have cD : W.cell? ⟨T, 0, none⟩ = some (.int .i64 (d : Int)) := by rw [← hd]; exact (cell_of_row _ _ 0 _ _ _ hWt.top).trans rfl
  have cR : W.cell? ⟨T, 2, none⟩ = some (.int .i64 t.root) := (cell_of_row _ _ 2 _ _ _ hWt.top).trans rfl
  have up : ∀ (W' : World), Go.RowKit.Below W.heap.size W W' → ∀ (p : Addr) (v : Value), W.cell? p = some v → W'.cell? p = some v := fun W' hW' p v hv => (hW'.cell (p := p) (World.block_lt_of_cell? W _ hv)).trans hv
  have hnum : ∀ W', Go.RowKit.Below W.heap.size W W' → Calls Try.prog 76 #[aP T, .int .i64 x.idx, .pointer (some ⟨g, go, none⟩)] W' fun e w' => e = .returned (.bool true) ∧ Go.RowKit.Below W'.heap.size W' w' := fun W' hW' => by
    have d0 := up W' hW' _ _ cD
    have d1 := up W' hW' _ _ cR
    have d2 := up W' hW' _ _ c2
    have d3 := up W' hW' _ _ c3
    by_cases hr : t.root = x.idx
    · rcases hkn with e | e
      · exact bnum_rl T g go d _ _ sc kc sa ka _ _ hr.symm h1 h2 ⟨hd2, hd64⟩ e W' d0 d1 d2 d3
      · exact bnum_rk T g go d _ _ sc kc sa ka _ _ hr.symm h1 h2 ⟨hd2, hd64⟩ e W' d0 d1 d2 d3
    · have h4 := h3.resolve_left hr
      rcases hkn with e | e
      · exact bnum_ol T g go d _ _ sc kc sa ka _ _ (fun e => hr e.symm) h4 h2 ⟨hd2, hd64⟩ e W' d0 d1 d2 d3
      · exact bnum_ok T g go d _ _ sc kc sa ka _ _ (fun e => hr e.symm) h4 h2 ⟨hd2, hd64⟩ e W' d0 d1 d2 d3
  refine bsound_core T A g go x.s.length x.ks.length sc kc sa ka x.idx p q r s Hh N S cn cs W ⟨hn.2, by omega⟩ hH cA c2 c3 (Lib.hid fun W' hW' => k2 W' (bt hW hW')) (Lib.hid hnum) (Lib.hid fun W' hW' => bbetween_any (k1.below (bt hW hW')) hn hall p q r s hq hs hin)
    (Lib.hid fun k hk => ?_) (Lib.hid HCN) (Lib.hid HLE)
  obtain ⟨kb, e, _, hc, _⟩ := own_at ok hkl.symm k hk
  have hck : (x.ks.map Bt.idx)[k]'(by rw [List.length_map]; exact hk) = (x.ks[k]).idx := List.getElem_map ..
  refine ⟨kb, (x.ks[k]).idx, _, _, _, _, ⟨e, ?_, fun W' hW' => bbeside_any (k1.below (bt hW hW')) hn hs2 k (by show k ≤ x.s.length; omega) p q r s, fun W' hW' => HKD k hk W' (bt hW hW')⟩⟩
  rw [hc]
  show some (Value.int .i64 ((x.ks.map Bt.idx)[k]'_)) = _
  rw [hck]
set_option maxHeartbeats 1000000 in
theorem bsound_sub (h : BtW w base T A t a S0) (hd : t.d = (d : Int)) (hd2 : 2 ≤ d) (hd64 : d ≤ 64) : ∀ (H : Nat) (x : Bt) (p q r s : Int), RepB t.f H x → ((t.root = x.idx ∧ DegR d H x) ∨ Deg d H x) → I64 q → I64 s → InR (key p q) (key r s) (Bt.ino H x) → (∀ g ∈ Bt.ino H x, g.ok ∧ g.is g.key = true ∧ g.key < 9223372036854775808) → (Bt.ids H x).length ≤ 100000 → (Bt.ino H x).length ≤ 100000 → H ≤ 10000 →
    ∀ W, Go.RowKit.Below w.heap.size w W → Calls Try.prog 47 #[aP T, .int .i64 x.idx, spV p q r s] W fun e w' => e = .returned (.tuple #[ctV ((Bt.ids H x).length : Int) ((Bt.ino H x).length : Int) ((H : Int) + 1), .bool true]) ∧ Go.RowKit.Below W.heap.size W w' := by
  intro H
  induction H with
  | zero =>
    intro x p q r s hr hdeg hq hs hin hall hl1 hl2 hH
    have hk0 : x.ks = [] := hr.2
    obtain ⟨d1, d2, d3⟩ : 1 ≤ x.s.length ∧ x.s.length + 1 ≤ 2 * d ∧ (t.root = x.idx ∨ d ≤ x.s.length + 1) := by
      rcases hdeg with ⟨e, k⟩ | k
      · have := (degR_eq d 0 x).1 k; exact ⟨this.1.1, this.1.2, .inl e⟩
      · have := (deg_eq d 0 x).1 k; exact ⟨by omega, this.1.2, .inr this.1.1⟩
    have hkl : x.ks.length = 0 := by rw [hk0]; rfl
    have := bsound_at h hd hd2 hd64 x hr.node d1 d2 d3 (.inl hkl) p q r s hq hs hin hall 0 ⟨by omega, by omega⟩ (fun _ => 0) (fun _ => 0) (fun _ => 1) (fun _ => x.s.length) (fun k hk => absurd hk (by omega)) ⟨rfl, rfl, fun k hk => absurd hk (by omega)⟩ (fun k hk => ⟨by omega, by omega⟩)
    intro W hW
    have := this W hW
    rw [hkl] at this
    exact this
  | succ H ih =>
    intro x p q r s hr hdeg hq hs hin hall hl1 hl2 hH
    obtain ⟨d1, d2, d3, d4⟩ : 1 ≤ x.s.length ∧ x.s.length + 1 ≤ 2 * d ∧ (t.root = x.idx ∨ d ≤ x.s.length + 1) ∧ DegK d (H + 1) x.ks := by
      rcases hdeg with ⟨e, k⟩ | k
      · have := (degR_eq d (H + 1) x).1 k; exact ⟨this.1.1, this.1.2, .inl e, this.2⟩
      · have := (deg_eq d (H + 1) x).1 k; exact ⟨by omega, this.1.2, .inr this.1.1, this.2⟩
    have hkl : x.ks.length = x.s.length + 1 := hr.2.1
    have hn := cntN_all (f := t.f) H x
    have hsn := cntS_all H x hr
    have hsub := ino_sub (H + 1) x hr
    have hown := own_range (H + 1) x hr _ _ hin
    have hall2 : ∀ g ∈ x.s, g.ok ∧ g.is g.key = true ∧ g.key < 9223372036854775808 := fun g hg => hall g (hsub.subset hg)
    have hs2 : ∀ q ∈ x.s, q.ok ∧ q.key < 9223372036854775808 := fun q hq => ⟨(hall2 q hq).1, (hall2 q hq).2.2⟩
    have N_le : ∀ k, cntN H x.ks k ≤ 100000 := fun k => by have := cntN_le H x.ks k; omega
    have S_le : ∀ k, cntS H x.ks k ≤ 100000 := fun k => by have := cntS_le H x.ks k; omega
    have main := bsound_at h hd hd2 hd64 x hr.node d1 d2 d3 (.inr hkl) p q r s hq hs hown hall2 ((H : Int) + 1) ⟨by omega, by omega⟩ (fun k => (Bt.ids H (x.ks.getD k x)).length) (fun k => (Bt.ino H (x.ks.getD k x)).length) (fun k => 1 + cntN H x.ks k) (fun k => x.s.length + cntS H x.ks k)
      (fun k hk W hW => ?_) ⟨by simp [cntN], by simp [cntS], fun k hk => ?_⟩ (fun k hk => ⟨by have := N_le k; show 1 + cntN H x.ks k ≤ _; omega, by have := S_le k; show x.s.length + cntS H x.ks k ≤ _; omega⟩)
    · intro W hW
      have := main W hW
      rw [hn, hsn, show hiB ((H : Int) + 1) x.ks.length = (H : Int) + 1 from if_neg (by omega)] at this
      rw [show ((H + 1 : Nat) : Int) + 1 = (H : Int) + 1 + 1 by omega]
      exact this
    · have hg : x.ks.getD k x = x.ks[k] := by rw [List.getD_eq_getElem?_getD, List.getElem?_eq_getElem hk]; rfl
      simp only [hg]
      have hmem := List.getElem_mem hk
      have hrow := kid_row H x hr k hk
      have hsubk : ∀ g ∈ Bt.ino H x.ks[k], g ∈ Bt.ino (H + 1) x := fun g hg => by rw [hrow]; simp [hg]
      refine ih x.ks[k] _ _ _ _ (hr.2.2 _ hmem) (.inr (d4 _ hmem)) (low_i64 x.s p q k hq hs2) (high_i64 x.s r s k hs hs2) ?_ (fun g hg => hall g (hsubk g hg)) ?_ ?_ (by omega) W hW
      · rw [low_key x.s p q k hs2, high_key]; exact kid_range H x hr _ _ hin k hk
      · have := cntN_succ H x.ks k hk
        have := N_le (k + 1); omega
      · have := cntS_succ H x.ks k hk
        have := S_le (k + 1); omega
    · have hg : x.ks.getD k x = x.ks[k] := by rw [List.getD_eq_getElem?_getD, List.getElem?_eq_getElem hk]; rfl
      simp only [hg]
      have e1 := cntN_succ H x.ks k hk
      have e2 := cntS_succ H x.ks k hk
      omega
end
end Go.Proofs.Ytjgcdmeojjnjlaa
/- Check: the walk, and by the tree. -/
namespace Go.Proofs.Ytjgcdmeojjnjlaa
open Go.RowKit Go.Sort Go.Proofs.Ytjgcdmeojjnjlaa.Bo Go.Proofs.Ytjgcdmeojjnjlaa.Bb
set_option linter.unusedVariables false
set_option maxRecDepth 100000
/-- The count that Check holds. -/
structure CtN (w : World) (N : Nat) (x y z : Int) (W : World) : Prop where
  nb : W.heap[N]? = some (ctO x y z)
  ge : w.heap.size ≤ N
  be : Go.RowKit.Below w.heap.size w W
theorem CtN.on {w W W' : World} {N : Nat} {x y z : Int} (h : CtN w N x y z W) (hb : Go.RowKit.Below W.heap.size W W') : CtN w N x y z W' := ⟨box_on h.nb hb, h.ge, bt h.be hb⟩
theorem ct_alloc {w W : World} (h : Go.RowKit.Below w.heap.size w W) (x y z : Int) : CtN w W.heap.size x y z (W.alloc (ctO x y z)) := ⟨heap_alloc_new _ _, h.size, bt h (below_new _ _)⟩
theorem CtN.put {w W : World} {N : Nat} {x y z : Int} (h : CtN w N x y z W) (p q r : Int) : CtN w N p q r (((W.setCell ⟨N, 0, none⟩ (.int .i64 p)).setCell ⟨N, 1, none⟩ (.int .i64 q)).setCell ⟨N, 2, none⟩ (.int .i64 r)) :=
  ⟨heap_setCell_same _ _ _ _ _ _ (heap_setCell_same _ _ _ _ _ _ (heap_setCell_same _ _ _ _ _ _ h.nb)), h.ge, ((h.be.setCell (p := ⟨N, 0, none⟩) h.ge _).setCell (p := ⟨N, 1, none⟩) h.ge _).setCell (p := ⟨N, 2, none⟩) h.ge _⟩
theorem CtN.cells {w W : World} {N : Nat} {x y z : Int} (h : CtN w N x y z W) : W.cell? ⟨N, 0, none⟩ = some (.int .i64 x) ∧ W.cell? ⟨N, 1, none⟩ = some (.int .i64 y) ∧ W.cell? ⟨N, 2, none⟩ = some (.int .i64 z) ∧ W.frozen? ⟨N, 0, none⟩ = false ∧ W.frozen? ⟨N, 1, none⟩ = false ∧ W.frozen? ⟨N, 2, none⟩ = false :=
  ⟨(cell_of_row _ _ 0 _ _ _ h.nb).trans rfl, (cell_of_row _ _ 1 _ _ _ h.nb).trans rfl, (cell_of_row _ _ 2 _ _ _ h.nb).trans rfl, frozen_of_row _ _ _ _ _ h.nb, frozen_of_row _ _ _ _ _ h.nb, frozen_of_row _ _ _ _ _ h.nb⟩
set_option maxHeartbeats 1000000 in
theorem bcheck_nil (T A : Nat) (w : World) (hA : w.cell? ⟨T, 1, none⟩ = some (aP A)) (hR : w.cell? ⟨T, 2, none⟩ = some (.int .i64 (-1))) (hM : w.cell? ⟨T, 3, none⟩ = some (.int .i64 0))
    (HLn : Hid (∀ W, Go.RowKit.Below w.heap.size w W → Calls Try.prog 46 #[aP A] W fun e w' => e = .returned (.int .i64 0) ∧ Go.RowKit.Below W.heap.size W w')) :
    Calls Try.prog 19 #[aP T] w fun e w' => e = .returned (.bool true) ∧ Go.RowKit.Below w.heap.size w w' := by
  have mx := mixed
  have HM := Lib.hid hM
  go_enter Try.func19, Try.ntmps19
  go_wp2_with fail
  refine (HLn.out _ (Go.RowKit.Below.refl _ _)).mono ?_
  rintro e y ⟨rfl, hb⟩
  have HB := Lib.hid hb
  have m1 : y.cell? ⟨T, 3, none⟩ = some (.int .i64 0) := (hb.cell (p := ⟨T, 3, none⟩) (World.block_lt_of_cell? w _ HM.out)).trans HM.out
  clear hb hM hA hR
  go_wp2_with fail
  go_ret
  exact ⟨rfl, HB.out⟩
set_option maxHeartbeats 4000000 in
theorem bcheck_core (T A : Nat) (root nN nS nH : Int) (hroot : ¬ root = -1) (w : World) (hA : w.cell? ⟨T, 1, none⟩ = some (aP A)) (hR : w.cell? ⟨T, 2, none⟩ = some (.int .i64 root)) (hM : w.cell? ⟨T, 3, none⟩ = some (.int .i64 nS))
    (HF : Hid (∀ W, Go.RowKit.Below w.heap.size w W → Calls Try.prog 48 #[] W fun e w' => e = .returned (.agg #[.int .i64 (-1), .int .i64 0]) ∧ Go.RowKit.Below W.heap.size W w')) (HLa : Hid (∀ W, Go.RowKit.Below w.heap.size w W → Calls Try.prog 49 #[] W fun e w' => e = .returned (.agg #[.int .i64 1, .int .i64 0]) ∧ Go.RowKit.Below W.heap.size W w'))
    (HS : Hid (∀ W, Go.RowKit.Below w.heap.size w W → Calls Try.prog 47 #[aP T, .int .i64 root, spV (-1) 0 1 0] W fun e w' => e = .returned (.tuple #[ctV nN nS nH, .bool true]) ∧ Go.RowKit.Below W.heap.size W w'))
    (HLn : Hid (∀ W, Go.RowKit.Below w.heap.size w W → Calls Try.prog 46 #[aP A] W fun e w' => e = .returned (.int .i64 nN) ∧ Go.RowKit.Below W.heap.size W w')) :
    Calls Try.prog 19 #[aP T] w fun e w' => e = .returned (.bool true) ∧ Go.RowKit.Below w.heap.size w w' := by
  have mx := mixed
  have t1 : (root == -1) = false := by simpa using hroot
  have HBS : Hid (∀ W : World, (Instr.build 36 #[(0, .agg #[.int .i64 (-1), .int .i64 0]), (1, .agg #[.int .i64 1, .int .i64 0])]).run Try.prog W = .ok (spV (-1) 0 1 0) W) := fun W => run_build W _ _ _ (by kernel_rfl)
  have HCL : Hid (∀ W, Go.RowKit.Below w.heap.size w W → W.cell? ⟨T, 2, none⟩ = some (.int .i64 root)) := fun W hW => (hW.cell (p := ⟨T, 2, none⟩) (World.block_lt_of_cell? w _ hR)).trans hR
  have HCM : Hid (∀ W, Go.RowKit.Below w.heap.size w W → W.cell? ⟨T, 1, none⟩ = some (aP A) ∧ W.cell? ⟨T, 3, none⟩ = some (.int .i64 nS)) := fun W hW => ⟨(hW.cell (p := ⟨T, 1, none⟩) (World.block_lt_of_cell? w _ hA)).trans hA, (hW.cell (p := ⟨T, 3, none⟩) (World.block_lt_of_cell? w _ hM)).trans hM⟩
  clear hA hM
  go_enter Try.func19, Try.ntmps19
  go_upto_region 3 with fail
  clear hR
  go_cut [3, 4] from 23 to 34 (fun s3 s4 wx => ∃ N, s3 = .pointer (some ⟨N, 0, none⟩) ∧ s4 = .bool true ∧ CtN w N nN nS nH wx)
  case first =>
    have HA0 : Hid (Go.RowKit.Below w.heap.size w w.drew) := (Go.RowKit.Below.refl _ _).drew
    have HAD := Lib.hid ((ct_alloc (Go.RowKit.Below.refl w.heap.size w) 0 0 0).on (Go.RowKit.Below.refl _ _).drew)
    have bs := HBS.out
    go_region_held3 (fun w' => w'.cell? ⟨T, 2, none⟩ = some (.int .i64 root))
      (with_reducible first | exact HCL.out _ HAN.out.be | exact HCL.out _ HA0.out | exact HCL.out _ HAD.out.be | exact HCL.out _ (ct_alloc HA0.out 0 0 0).be | exact HCL.out _ (CtN.put HAN.out _ _ _).be | exact HCL.out _ (ct_alloc HA0.out _ _ _).be)
      (first
      | (go_at_call 48; with_reducible first
          | (refine (HF.out _ HAN.out.be).mono ?_; rintro e y1 ⟨rfl, hb⟩; replace HAN := Lib.hid (CtN.on HAN.out hb); clear hb)
          | (refine (HF.out _ HA0.out).mono ?_; rintro e y1 ⟨rfl, hb⟩; replace HA0 := Lib.hid (bt HA0.out hb); clear hb)
          | (refine (HF.out _ (ct_alloc HA0.out 0 0 0).be).mono ?_; rintro e y1 ⟨rfl, hb⟩; have HAN := Lib.hid (CtN.on (ct_alloc HA0.out 0 0 0) hb); clear hb)
          | (refine (HF.out _ HAD.out.be).mono ?_; rintro e y1 ⟨rfl, hb⟩; have HAN := Lib.hid (CtN.on HAD.out hb); clear hb))
      | (go_at_call 49; with_reducible first
          | (refine (HLa.out _ HAN.out.be).mono ?_; rintro e y2 ⟨rfl, hb⟩; replace HAN := Lib.hid (CtN.on HAN.out hb); clear hb)
          | (refine (HLa.out _ HA0.out).mono ?_; rintro e y2 ⟨rfl, hb⟩; replace HA0 := Lib.hid (bt HA0.out hb); clear hb)
          | (refine (HLa.out _ (ct_alloc HA0.out 0 0 0).be).mono ?_; rintro e y2 ⟨rfl, hb⟩; have HAN := Lib.hid (CtN.on (ct_alloc HA0.out 0 0 0) hb); clear hb)
          | (refine (HLa.out _ HAD.out.be).mono ?_; rintro e y2 ⟨rfl, hb⟩; have HAN := Lib.hid (CtN.on HAD.out hb); clear hb))
      | (go_at_call 47; with_reducible first
          | (refine (HS.out _ HAN.out.be).mono ?_; rintro e y3 ⟨rfl, hb⟩; replace HAN := Lib.hid (CtN.on HAN.out hb); clear hb; obtain ⟨z1, z2, z3, z4, z5, z6⟩ := HAN.out.cells)
          | (refine (HS.out _ HA0.out).mono ?_; rintro e y3 ⟨rfl, hb⟩; replace HA0 := Lib.hid (bt HA0.out hb); clear hb)
          | (refine (HS.out _ (ct_alloc HA0.out 0 0 0).be).mono ?_; rintro e y3 ⟨rfl, hb⟩; have HAN := Lib.hid (CtN.on (ct_alloc HA0.out 0 0 0) hb); clear hb; obtain ⟨z1, z2, z3, z4, z5, z6⟩ := HAN.out.cells)
          | (refine (HS.out _ HAD.out.be).mono ?_; rintro e y3 ⟨rfl, hb⟩; have HAN := Lib.hid (CtN.on HAD.out hb); clear hb; obtain ⟨z1, z2, z3, z4, z5, z6⟩ := HAN.out.cells)))
    all_goals
      go_wp2_with fail
      go_meet
      first
        | exact ⟨_, rfl, rfl, CtN.put HAN.out _ _ _⟩
        | exact ⟨_, rfl, rfl, ct_alloc HA0.out _ _ _⟩
  case rest =>
    obtain ⟨N, rfl, rfl, hN⟩ := hcut
    have HN1 := Lib.hid hN
    obtain ⟨z1, z2, z3, _, _, _⟩ := hN.cells
    have p1 := cell_regrown z1
    have p2 := cell_regrown z2
    have p3 := cell_regrown (HCM.out _ hN.be).1
    have p4 := cell_regrown (HCM.out _ hN.be).2
    clear hN HBS
    have HG : Hid (∀ (d : Nat) (os : Array Obj), Go.RowKit.Below w.heap.size w (grow (redrawn wc d) os)) := fun d os => bt HN1.out.be (below_regrown wc d os)
    go_upto_region 4 with fail
    refine wp_region_quiet_below (by assumption) (by kernel_rfl) ?_
    repeat (go_big_quiet_step (first
      | (go_at_call 46; with_reducible exact Calls.regrown_of (HLn.out _ (HG.out _ _)))))
    refine wpQuiet_nil ?_
    intro _ hw'
    obtain ⟨⟨nq, osq⟩, hw''⟩ := hw'
    subst hw''
    have HY := Lib.hid (HG.out nq osq)
    clear p1 p2 p3 p4 z1 z2 z3
    generalize grow (redrawn wc nq) osq = Y at *
    go_wp2_with fail
    go_ret
    exact ⟨rfl, HY.out⟩
theorem lt_last_g (g : G5) (h : g.may = true) (hk : Ky g.key) : g.key < 9223372036854775808 := by
  unfold G5.may at h
  simp at h
  have h2 := h.2
  unfold G5.key key
  unfold Ky at hk
  unfold G5.key key at hk
  have h1 := h.1
  split
  · omega
  · split
    · omega
    · rename_i a b
      have hz : g.ls = 0 := by omega
      unfold G5.is G5.key at h1
      rw [hz, key_zero] at h1
      simp at h1
      have := h1.1
      by_cases e : g.la = 9223372036854775808
      · rw [e, sd_hi] at this; omega
      · rw [hz] at hk
        simp at hk
        omega
section
variable {w : World} {base T A d : Nat} {t : Bx} {a : Ag Rn} {S0 : Nat → Prop} {L : List G5}
/-- Check, by the tree. -/
theorem btcheck_any (h : BtW w base T A t a S0) (ok : BtOk t d L) : Calls Try.prog 19 #[aP T] w fun e w' => e = .returned (.bool true) ∧ Go.RowKit.Below w.heap.size w w' := by
  have cA : w.cell? ⟨T, 1, none⟩ = some (aP A) := (cell_of_row _ _ 1 _ _ _ h.top).trans rfl
  have cR : w.cell? ⟨T, 2, none⟩ = some (.int .i64 t.root) := (cell_of_row _ _ 2 _ _ _ h.top).trans rfl
  have cM : w.cell? ⟨T, 3, none⟩ = some (.int .i64 t.many) := (cell_of_row _ _ 3 _ _ _ h.top).trans rfl
  have hln : ∀ W, Go.RowKit.Below w.heap.size w W → Calls Try.prog 46 #[aP A] W fun e w' => e = .returned (.int .i64 (t.n : Int)) ∧ Go.RowKit.Below W.heap.size W w' := fun W hW => by
    have := bnlen_any (h.below hW).ar h.ok
    rw [h.len] at this; exact this
  have hle := ok.tree.le ok.d2
  have h9 := ok.le
  have h8 := ok.room
  rcases ok.tree with ⟨e1, e2, e3, e4⟩ | ⟨H, x, z, hr, hL⟩
  · have hm : t.many = 0 := by rw [ok.many, e1]; rfl
    rw [e3] at cR
    rw [hm] at cM
    rw [e2] at hln
    exact bcheck_nil T A w cA cR cM (Lib.hid hln)
  · have hH := tree_high ok H x z hr hL
    have hroot : t.root = x.idx := z.root
    have hn : ¬ t.root = -1 := by
      have : t.root = (x.i : Int) := hroot
      omega
    have hcnt : t.n = (Bt.ids H x).length := by
      have hc := z.cnt
      simpa [bcids] using hc
    have hall : ∀ g ∈ L, g.ok ∧ g.is g.key = true ∧ g.key < 9223372036854775808 := fun g hg => ⟨ok.ok g hg, g.may_is (ok.row.may g hg), lt_last_g g (ok.row.may g hg) (g.ky (ok.ok g hg))⟩
    have hin : InR (key (-1) 0) (key 1 0) L := by
      refine ⟨(ris_iff L).1 ok.row.ris, fun g hg => ?_⟩
      have h3 := g.ky (ok.ok g hg)
      rw [key_neg _ _ (by omega), key_pos _ _ (by omega)]
      exact ⟨h3.1, (hall g hg).2.2⟩
    have hs : ∀ W, Go.RowKit.Below w.heap.size w W → Calls Try.prog 47 #[aP T, .int .i64 t.root, spV (-1) 0 1 0] W fun e w' => e = .returned (.tuple #[ctV (t.n : Int) t.many ((H : Int) + 1), .bool true]) ∧ Go.RowKit.Below W.heap.size W w' := fun W hW => by
      have := bsound_sub h ok.dg ok.d2 ok.d64 H x (-1) 0 1 0 z.tree (.inl ⟨hroot, hr⟩) (by unfold I64; omega) (by unfold I64; omega) (hL ▸ hin) (hL ▸ hall) (by omega) (by rw [hL]; omega) (by omega) W hW
      rw [hL, ← hcnt, ← hroot, ← ok.many] at this
      exact this
    exact bcheck_core T A t.root _ _ _ hn w cA cR cM (Lib.hid fun W _ => (first_any W).mono fun _ _ h => ⟨h.1, h.2.1⟩) (Lib.hid fun W _ => (last_any W).mono fun _ _ h => ⟨h.1, h.2.1⟩) (Lib.hid hs) (Lib.hid hln)
end
end Go.Proofs.Ytjgcdmeojjnjlaa
