/- A part of the proof: contracts of the functions that the statements reach. -/
import Derived.RangeFuncNested
import Derived.RangeFuncBound
import Derived.RangeFuncCalls
import Derived.RangeFuncLeaves
import Derived.Shelf.Abstract
import Derived.Shelf.RegionOpen
import Derived.WalkKit
import Derived.OwnWalkIn
import Derived.TacticsInMore
import Derived.LoopNIn
import Derived.LoopIn
import Derived.Shelf.SlSortCmp.WholeK
import Derived.WalkSpells
import Derived.WalkLawsBesides
import Derived.Lib.Hide
import Derived.Laws.StructEq
import Derived.Shelf.SlSortCmp.QuietGrown
import Derived.Laws.EntriesVeiled
import Derived.Deep.CutRange
import Derived.RegionTactic
import Derived.Lib.QuietBelow
import Derived.BigQuiet
import Derived.OpenShut
import Derived.Deep.RegionHeld3
import Derived.Deep.QuietTactic
import Derived.Maps.AppendAt
import Derived.Laws.IdiomCopy
import Derived.Deep.AppendLies
import Derived.Deep.LoopGhost
import Derived.Deep.Upon
import Derived.StillTailTactics
import Derived.Lib.SmallJoins
import Derived.Deep.SlicePairs
import Derived.Deep.Strs
import Derived.ChangeOld
import Derived.SizedLaws
import Derived.Lib.SliceRun
import Derived.Laws.CopyRow
import Derived.Below
import Derived.Laws.CopyOwn
import Derived.Deep.RegionLaw
import Derived.IntWalk
import Derived.Lib.MinMax
import Derived.Test.YtjgcdmeojjnjlaaCN

/- Height: the walk. -/
namespace Go.Proofs.Ytjgcdmeojjnjlaa
open Go.RowKit Go.Sort Go.Proofs.Ytjgcdmeojjnjlaa.Bo Go.Proofs.Ytjgcdmeojjnjlaa.Bb
set_option linter.unusedVariables false
set_option maxRecDepth 100000
set_option maxHeartbeats 2000000 in
theorem bheight_core (T A : Nat) (root : Int) (N : Nat) (hN : N ≤ 100000) (pt : Nat → Option Addr) (w : World) (h1 : w.cell? ⟨T, 1, none⟩ = some (aP A)) (h2 : w.cell? ⟨T, 2, none⟩ = some (.int .i64 root))
    (HA : Hid (∀ X, Go.RowKit.Below w.heap.size w X → Calls Try.prog 50 #[aP A, .int .i64 root] X fun e w' => e = .returned (.pointer (pt 0)) ∧ X = w'))
    (HS : Hid (∀ i, i < N → ∃ (np : Addr) (x : Int), pt i = some np ∧ (∀ X, Go.RowKit.Below w.heap.size w X → Calls Try.prog 51 #[.pointer (some np), .int .i64 0] X fun e w' => e = .returned (.int .i64 x) ∧ X = w') ∧
      ∀ X, Go.RowKit.Below w.heap.size w X → Calls Try.prog 50 #[aP A, .int .i64 x] X fun e w' => e = .returned (.pointer (pt (i + 1))) ∧ X = w'))
    (HE : Hid (pt N = none)) : Calls Try.prog 21 #[aP T] w fun e w' => e = .returned (.int .i64 (N : Int)) ∧ Go.RowKit.Below w.heap.size w w' := by
  have mx := mixed
  have p1 := cell_regrown h1
  have p2 := cell_regrown h2
  have H1 := Lib.hid h1
  clear h1 h2
  go_enter Try.func21, Try.ntmps21
  go_upto_region 2 with fail
  refine wp_region_quiet_below (by assumption) (by kernel_rfl) ?_
  repeat (go_big_quiet_step (first
    | (go_at_call 50; exact Calls.regrown_of ((HA.out _ (below_regrown _ _ _)).mono fun e w' h => ⟨h.1, h.2 ▸ Go.RowKit.Below.refl _ _⟩))))
  refine wpQuiet_nil ?_
  intro _ hw'
  obtain ⟨⟨nq, osq⟩, hw''⟩ := hw'
  subst hw''
  have hb := below_regrown w nq osq
  clear p1 p2
  generalize grow (redrawn w nq) osq = Y at *
  go_wp2_with fail
  go_loopg [3, 4] N (fun k hv pv wr => ∃ i : Nat, k = N - i ∧ i ≤ N ∧ hv = .int .i64 (i : Int) ∧ pv = .pointer (pt i) ∧ Go.RowKit.Below w.heap.size w wr)
  case atStart => exact ⟨0, rfl, Nat.zero_le _, rfl, rfl, hb⟩
  case round =>
    obtain ⟨i, hki, hle, rfl, rfl, hbw⟩ := hrel
    have HB := Lib.hid hbw
    have HK := Lib.hid hki
    clear hbw hki
    by_cases hlt : i < N
    · obtain ⟨np, x, e1, k1, k2⟩ := HS.out i hlt
      rw [e1]
      have HK1 := Lib.hid k1
      have HK2 := Lib.hid k2
      have i1 : IntKind.i64.wrap ((i : Int) + 1) = (i : Int) + 1 := IntWalk.i64_in _ (by omega)
      have q1 := cell_regrown ((HB.out.cell (p := ⟨T, 1, none⟩) (World.block_lt_of_cell? w _ H1.out)).trans H1.out)
      clear k1 k2 e1
      go_upto_region 4 with fail
      refine wp_region_quiet_below (by assumption) (by kernel_rfl) ?_
      repeat (go_big_quiet_step (first
        | (go_at_call 51; exact Calls.regrown_of ((HK1.out _ (bt HB.out (below_regrown _ _ _))).mono fun e w' h => ⟨h.1, h.2 ▸ Go.RowKit.Below.refl _ _⟩))
        | (go_at_call 50; exact Calls.regrown_of ((HK2.out _ (bt HB.out (below_regrown _ _ _))).mono fun e w' h => ⟨h.1, h.2 ▸ Go.RowKit.Below.refl _ _⟩))))
      refine wpQuiet_nil ?_
      intro _ hw'
      obtain ⟨⟨nq2, osq2⟩, hw''⟩ := hw'
      subst hw''
      have hb2 := bt HB.out (below_regrown wr nq2 osq2)
      clear q1
      generalize grow (redrawn wr nq2) osq2 = Y2 at *
      go_wp2_with fail
      go_roundg (N - (i + 1))
      case measure => have := HK.out; omega
      case rel => exact ⟨i + 1, rfl, by omega, by push_cast; rfl, rfl, hb2⟩
    · obtain rfl : i = N := by omega
      rw [HE.out]
      go_wp2_with fail
      go_ret
      exact ⟨rfl, HB.out⟩
section
variable {w : World} {base T A d : Nat} {t : Bx} {a : Ag Rn} {S0 : Nat → Prop} {L : List G5}
theorem chain_any (h : BtW w base T A t a S0) (hm : t.f (-1) = none) : ∀ (H : Nat) (x : Bt), RepB t.f H x → ∃ pt : Nat → Option Addr, (∀ X, Go.RowKit.Below w.heap.size w X → Calls Try.prog 50 #[aP A, .int .i64 x.idx] X fun e w' => e = .returned (.pointer (pt 0)) ∧ X = w') ∧
    (∀ i, i < H + 1 → ∃ (np : Addr) (y : Int), pt i = some np ∧ (∀ X, Go.RowKit.Below w.heap.size w X → Calls Try.prog 51 #[.pointer (some np), .int .i64 0] X fun e w' => e = .returned (.int .i64 y) ∧ X = w') ∧
      ∀ X, Go.RowKit.Below w.heap.size w X → Calls Try.prog 50 #[aP A, .int .i64 y] X fun e w' => e = .returned (.pointer (pt (i + 1))) ∧ X = w') ∧ pt (H + 1) = none := by
  intro H
  induction H with
  | zero =>
    intro x hr
    obtain ⟨np, h1, h2⟩ := bat_node h x.i _ hr.node
    have hk : x.ks = [] := hr.2
    have hpt := h1
    obtain ⟨g, p, r, e, _⟩ := hpt
    obtain rfl : np = some ⟨g, p, none⟩ := by injection e
    refine ⟨fun i => if i = 0 then some ⟨g, p, none⟩ else none, h2, fun i hi => ⟨⟨g, p, none⟩, -1, if_pos (by omega), fun X hX => ?_, fun X hX => ?_⟩, rfl⟩
    · have := bkid_any (h1.below hX) 0 (fun q => absurd (show (x.ks.map Bt.idx).length = 0 by rw [hk]; rfl) q)
      rw [show kidV ⟨x.s, x.ks.map Bt.idx⟩ 0 = -1 by unfold kidV; rw [if_pos (by rw [hk]; rfl)]] at this
      exact this
    · have := bat_none (h.below hX) (-1) hm
      rw [show (fun i : Nat => if i = 0 then (some ⟨g, p, none⟩ : Option Addr) else none) (i + 1) = none from if_neg (by omega)]; exact this
  | succ H ih =>
    intro x hr
    obtain ⟨np, h1, h2⟩ := bat_node h x.i _ hr.node
    obtain ⟨_, q2, q3⟩ := hr
    obtain ⟨c, r, hk⟩ : ∃ c r, x.ks = c :: r := by
      cases e : x.ks with
      | nil => rw [e] at q2; simp at q2
      | cons c r => exact ⟨c, r, rfl⟩
    obtain ⟨pt, i1, i2, i3⟩ := ih c (q3 c (by rw [hk]; simp))
    have hpt := h1
    obtain ⟨g, p, r', e, _⟩ := hpt
    obtain rfl : np = some ⟨g, p, none⟩ := by injection e
    refine ⟨fun i => match i with | 0 => some ⟨g, p, none⟩ | i + 1 => pt i, h2, fun i hi => ?_, i3⟩
    cases i with
    | zero =>
      refine ⟨⟨g, p, none⟩, c.idx, rfl, fun X hX => ?_, i1⟩
      have := bkid_any (h1.below hX) 0 (fun q => Nat.pos_of_ne_zero q)
      rw [show kidV ⟨x.s, x.ks.map Bt.idx⟩ 0 = c.idx by unfold kidV; rw [if_neg (by rw [hk]; simp), hk]; rfl] at this
      exact this
    | succ i => exact i2 i (by omega)
theorem bheight_any (h : BtW w base T A t a S0) (ok : BtOk t d L) :
    ∃ N : Nat, ((L = [] ∧ N = 0) ∨ ∃ H x, Zo t.f t.n t.root H [] x [] ∧ DegR d H x ∧ Bt.ino H x = L ∧ N = H + 1) ∧ Calls Try.prog 21 #[aP T] w fun e w' => e = .returned (.int .i64 (N : Int)) ∧ Go.RowKit.Below w.heap.size w w' := by
  have c1 : w.cell? ⟨T, 1, none⟩ = some (aP A) := (cell_of_row _ _ 1 _ _ _ h.top).trans rfl
  have c2 : w.cell? ⟨T, 2, none⟩ = some (.int .i64 t.root) := (cell_of_row _ _ 2 _ _ _ h.top).trans rfl
  rcases ok.tree with ⟨e1, e2, e3, e4⟩ | ⟨H, x, z, hr, hL⟩
  · refine ⟨0, .inl ⟨e1, rfl⟩, bheight_core T A t.root 0 (by omega) (fun _ => none) w c1 c2 (Lib.hid fun X hX => ?_) (Lib.hid fun i hi => absurd hi (Nat.not_lt_zero _)) (Lib.hid rfl)⟩
    exact bat_none (h.below hX) _ (e4 _)
  · have hH := tree_high ok H x z hr hL
    have hm : t.f (-1) = none := by
      cases e : t.f (-1) with
      | none => rfl
      | some v =>
        obtain ⟨m, _, q⟩ := z.all (-1) (by rw [e]; simp)
        omega
    obtain ⟨pt, i1, i2, i3⟩ := chain_any h hm H x z.tree
    have hroot : t.root = x.idx := z.root
    refine ⟨H + 1, .inr ⟨H, x, z, hr, hL, rfl⟩, ?_⟩
    exact bheight_core T A t.root (H + 1) (by omega) pt w c1 c2 (Lib.hid (by rw [hroot]; exact i1)) (Lib.hid i2) (Lib.hid i3)
end
end Go.Proofs.Ytjgcdmeojjnjlaa
/- The laws' does; a tree of a call's own beside blocks that stay. -/
namespace Go.Proofs.Ytjgcdmeojjnjlaa
open Go.RowKit Go.Sort Go.Proofs.Ytjgcdmeojjnjlaa.Bo Go.Proofs.Ytjgcdmeojjnjlaa.Bb
set_option linter.unusedVariables false
set_option maxRecDepth 100000
abbrev RdB (f : Nat) (args : Array Value) (v : Value) (P : World → Prop) (W : World) : Prop := Calls Try.prog f args W fun e w' => e = .returned v ∧ P w'
theorem BtW.lower {w : World} {b0 b1 T A : Nat} {t : Bx} {a : Ag Rn} {S0 : Nat → Prop} (h : BtW w b1 T A t a S0) (hb : b0 ≤ b1) : BtW w b0 T A t a S0 := by
  obtain ⟨pv, fv, hS, k⟩ := h.ar
  exact { top := h.top, le := Nat.le_trans hb h.le, ar := ⟨pv, fv, hS, ⟨k.box, own_base k.prow hb, own_base k.frow hb, Nat.le_trans hb k.le, k.ty⟩⟩, ok := h.ok, room := h.room, len := h.len, is := h.is, node := fun p n hp => ⟨own_base (h.node p n hp).s hb, own_base (h.node p n hp).k hb⟩, apart := h.apart, far := h.far }
/-- The call's own tree, of the degree d, holds L; the blocks B are none of its own. -/
structure BkK (w : World) (T A d : Nat) (R : Int) (L : List G5) (B : Nat → Prop) (W : World) : Prop where
  tr : ∃ t a S0, BtW W w.heap.size T A t a S0 ∧ BtOk t d L ∧ t.room = R ∧ ∀ b, B b → ¬ btS T t a S0 b ∧ b < W.heap.size
  be : Go.RowKit.Below w.heap.size w W
section
variable {w W W' : World} {T A d : Nat} {R : Int} {L M : List G5} {B C : Nat → Prop}
theorem BkK.row (h : BkK w T A d R L B W) : RowOk L := by obtain ⟨⟨t, a, S0, h1, h2, _⟩, _⟩ := h; exact h2.row
theorem BkK.ok (h : BkK w T A d R L B W) : ∀ g ∈ L, g.ok := by obtain ⟨⟨t, a, S0, h1, h2, _⟩, _⟩ := h; exact h2.ok
theorem BkK.on (h : BkK w T A d R L B W) (hb : Go.RowKit.Below W.heap.size W W') : BkK w T A d R L B W' := by
  obtain ⟨⟨t, a, S0, h1, h2, h3, h7⟩, h4⟩ := h
  exact ⟨⟨t, a, S0, h1.below hb, h2, h3, fun b hB => ⟨(h7 b hB).1, Nat.lt_of_lt_of_le (h7 b hB).2 hb.size⟩⟩, bt h4 hb⟩
/-- More blocks are kept, such as came since. -/
theorem BkK.keep (h : BkK w T A d R L B W) (hb : Go.RowKit.Below W.heap.size W W') (hC : ∀ b, C b → b < W'.heap.size ∧ (W.heap.size ≤ b ∨ B b)) : BkK w T A d R L C W' := by
  obtain ⟨⟨t, a, S0, h1, h2, h3, h7⟩, h4⟩ := h
  refine ⟨⟨t, a, S0, h1.below hb, h2, h3, fun b hb' => ⟨fun hS => ?_, (hC b hb').1⟩⟩, bt h4 hb⟩
  rcases (hC b hb').2 with k | k
  · have := h1.blt b hS; omega
  · exact (h7 b k).1 hS
theorem BkK.less (h : BkK w T A d R L B W) (hC : ∀ b, C b → B b) : BkK w T A d R L C W := by
  obtain ⟨⟨t, a, S0, h1, h2, h3, h7⟩, h4⟩ := h
  exact ⟨⟨t, a, S0, h1, h2, h3, fun b hb => h7 b (hC b hb)⟩, h4⟩
/-- A call that turns the tree's row from L to M: what is kept is as it was. -/
theorem BkK.call {f : Nat} {args : Array Value} {v : Value} (h : BkK w T A d R L B W)
    (hc : ∀ t a S0, BtW W w.heap.size T A t a S0 → BtOk t d L → t.room = R → RdB f args v (BtT W (btS T t a S0) (fun _ => False) w.heap.size T A d R M) W) : Calls Try.prog f args W fun e w' => e = .returned v ∧ BkK w T A d R M B w' ∧ (∀ b, B b → w'.heap[b]? = W.heap[b]?) := by
  obtain ⟨⟨t, a, S0, h1, h2, h3, h7⟩, h4⟩ := h
  refine (hc t a S0 h1 h2 h3).mono ?_
  rintro e w' ⟨rfl, t', ⟨a', S0', k1, k2, k3, _⟩, k4, k5⟩
  refine ⟨rfl, ⟨⟨t', a', S0', k1, k4, k5, fun b hb => ⟨fun hS => ?_, Nat.lt_of_lt_of_le (h7 b hb).2 k2.size⟩⟩, h4.trans (k2.to_below _ h4.size (fun b hb => (BtIs.lt ⟨a, S0, rfl, h1⟩ b hb).1))⟩, fun b hb => k2.block b (h7 b hb).2 (h7 b hb).1⟩
  rcases k3 b hS with e | e
  · exact (h7 b hb).1 e
  · have := (h7 b hb).2; omega
theorem BkK.put (h : BkK w T A d R L B W) (s : G5) (hs : s.ok) :
    Calls Try.prog 38 #[aP T, vG s] W fun e w' => e = .returned (.int .i64 (putG L R s).2) ∧ BkK w T A d R (putG L R s).1 B w' ∧ (∀ b, B b → w'.heap[b]? = W.heap[b]?) :=
  h.call fun t a S0 h1 h2 h3 => by subst h3; exact btput_any h1 h2 s hs
theorem BkK.del (h : BkK w T A d R L B W) (s x : Int) (hx : I64 x) :
    Calls Try.prog 41 #[aP T, .agg #[.int .i64 s, .int .i64 x]] W fun e w' => e = .returned (.bool (delG L (key s x)).2) ∧ BkK w T A d R (delG L (key s x)).1 B w' ∧ (∀ b, B b → w'.heap[b]? = W.heap[b]?) :=
  h.call fun t a S0 h1 h2 h3 => by subst h3; exact btdel_any h1 h2 s x hx
theorem BkK.check (h : BkK w T A d R L B W) : Calls Try.prog 19 #[aP T] W fun e w' => e = .returned (.bool true) ∧ Go.RowKit.Below W.heap.size W w' := by
  obtain ⟨⟨t, a, S0, h1, h2, _⟩, _⟩ := h; exact btcheck_any h1 h2
theorem BkK.len (h : BkK w T A d R L B W) : Calls Try.prog 18 #[aP T] W fun e w' => e = .returned (.int .i64 (L.length : Int)) ∧ Go.RowKit.Below W.heap.size W w' := by
  obtain ⟨⟨t, a, S0, h1, h2, _⟩, _⟩ := h
  rw [← h2.many]
  exact (bmany_any h1).mono fun e w' ⟨he, hw⟩ => ⟨he, hw ▸ Go.RowKit.Below.refl _ _⟩
theorem BkK.room (h : BkK w T A d R L B W) : Calls Try.prog 12 #[aP T] W fun e w' => e = .returned (.int .i64 R) ∧ Go.RowKit.Below W.heap.size W w' := by
  obtain ⟨⟨t, a, S0, h1, h2, rfl, _⟩, _⟩ := h
  exact (broom_any h1).mono fun e w' ⟨he, hw⟩ => ⟨he, hw ▸ Go.RowKit.Below.refl _ _⟩
theorem BkK.degree (h : BkK w T A d R L B W) : Calls Try.prog 13 #[aP T] W fun e w' => e = .returned (.int .i64 (d : Int)) ∧ Go.RowKit.Below W.heap.size W w' := by
  obtain ⟨⟨t, a, S0, h1, h2, rfl, _⟩, _⟩ := h
  rw [← h2.dg]
  exact (bdeg_any h1).mono fun e w' ⟨he, hw⟩ => ⟨he, hw ▸ Go.RowKit.Below.refl _ _⟩
/-- New, in a call's own world. -/
theorem bk_new (d : Nat) (room : Int) (h1 : 2 ≤ d ∧ d ≤ 64) (h2 : 0 ≤ room ∧ room ≤ 4096) (hW : Go.RowKit.Below w.heap.size w W) :
    Calls Try.prog 10 #[.int .i64 (d : Int), .int .i64 room] W fun e w' => ∃ T A, (e = .returned (.tuple #[aP T, .int .i64 0]) ∧ BkK w T A d room [] (fun _ => False) w') ∧ Go.RowKit.Below W.heap.size W w' := by
  refine (btnew_tree d room W h1 h2).mono ?_
  rintro e w' ⟨rfl, t, ⟨a, S0, k1, k2, k3, _⟩, k4, k5⟩
  have hb : Go.RowKit.Below W.heap.size W w' := k2.to_below _ (Nat.le_refl _) (fun b hb => hb.elim)
  exact ⟨_, _, ⟨rfl, ⟨⟨t, a, S0, k1.lower hW.size, k4, k5, fun b hb => hb.elim⟩, bt hW hb⟩⟩, hb⟩
end
end Go.Proofs.Ytjgcdmeojjnjlaa
/- The laws' alive. -/
namespace Go.Proofs.Ytjgcdmeojjnjlaa
open Go.RowKit Go.Sort Go.Proofs.Ytjgcdmeojjnjlaa.Bo Go.Proofs.Ytjgcdmeojjnjlaa.Bb
set_option linter.unusedVariables false
set_option maxRecDepth 100000
abbrev sgB (n : Int) : G5 := ⟨0, n, 0, 0, n⟩
set_option maxHeartbeats 1000000 in
theorem bseg_any (n : Int) (w : World) : Calls Try.prog 37 #[.int .i64 n] w fun e w' => e = .returned ((vG (sgB n))) ∧ Go.RowKit.Below w.heap.size w w' := by
  have hR := heap_alloc_new w zG
  obtain ⟨q0, q1, q2, q3, q4⟩ := five_cells (five_put (g := g0) hR (sgB n))
  have HE := Lib.hid (seg5_below (b := w.heap.size) (below_new w zG) (Nat.le_refl _) (sgB n))
  obtain ⟨d0, d1, d2, d3, d4⟩ := five_cells (g := g0) hR
  have z0 := five_frozen (g := g0) hR 0
  have z1 := five_frozen (g := g0) hR 1
  have z2 := five_frozen (g := g0) hR 2
  have z3 := five_frozen (g := g0) hR 3
  have z4 := five_frozen (g := g0) hR 4
  simp only [Nat.zero_add] at d1 d2 d3 d4 q1 q2 q3 q4
  clear hR
  go_enter Try.func37, Try.ntmps37
  go_upto_region 1 with fail
  generalize w.alloc zG = X at *
  go_wp2_with fail
  refine bodyPost_ret (v := vG (sgB n)) (by simp [results, Try.results37, go_sem, q0, q1, q2, q3, q4]) rfl ?_
  exact ⟨rfl, HE.out⟩
theorem sgB_ok (n : Int) (h : I64 n) : (sgB n).ok := ⟨h, by show I64 0; unfold I64; omega, h⟩
/-- The row behind j puts of alive. -/
def rowA : Nat → List G5
  | 0 => []
  | j + 1 => rowA j ++ [sgB ((j : Int) + 1)]
theorem rowA_put (j : Nat) (h : j < 4) : putG (rowA j) 9 (sgB ((j : Int) + 1)) = (rowA (j + 1), 0) := by
  match j, h with
  | 0, _ => show putG (rowA 0) 9 (sgB 1) = (rowA 1, 0); kernel_rfl
  | 1, _ => show putG (rowA 1) 9 (sgB 2) = (rowA 2, 0); kernel_rfl
  | 2, _ => show putG (rowA 2) 9 (sgB 3) = (rowA 3, 0); kernel_rfl
  | 3, _ => show putG (rowA 3) 9 (sgB 4) = (rowA 4, 0); kernel_rfl
theorem high4 {f : Int → Option Kn} (H : Nat) (x : Bt) (hr : DegR 2 H x) (hrep : RepB f H x) (h4 : (Bt.ino H x).length = 4) : H = 1 := by
  have hp := degR_pow 2 (by omega) H x hr hrep
  rw [h4] at hp
  match H with
  | 0 =>
    have h1 := ((degR_eq 2 0 x).1 hr).1.2
    have h2 : (Bt.ino 0 x) = x.s := rfl
    rw [h2] at h4
    omega
  | 1 => rfl
  | H + 2 =>
    exfalso
    have : 2 ^ (H + 2) = 4 * 2 ^ H := by rw [Nat.pow_add, Nat.mul_comm]
    have h1 : 1 ≤ 2 ^ H := Nat.one_le_two_pow
    omega
section
variable {w W W' : World} {T A d : Nat} {R : Int} {L M : List G5} {B C : Nat → Prop}
theorem BkK.floor (h : BkK w T A d R L B W) (s x : Int) (hx : I64 x) : Calls Try.prog 23 #[aP T, .agg #[.int .i64 s, .int .i64 x]] W fun e w' => e = .returned (.tuple #[vG (nearG L (key s x) 0).1, .bool (nearG L (key s x) 0).2]) ∧ Go.RowKit.Below W.heap.size W w' := by
  obtain ⟨⟨t, a, S0, h1, h2, _⟩, _⟩ := h; exact bfloor_any h1 h2 s x hx
theorem BkK.lower (h : BkK w T A d R L B W) (s x : Int) (hx : I64 x) : Calls Try.prog 24 #[aP T, .agg #[.int .i64 s, .int .i64 x]] W fun e w' => e = .returned (.tuple #[vG (nearG L (key s x) 1).1, .bool (nearG L (key s x) 1).2]) ∧ Go.RowKit.Below W.heap.size W w' := by
  obtain ⟨⟨t, a, S0, h1, h2, _⟩, _⟩ := h; exact blower_any h1 h2 s x hx
theorem BkK.higher (h : BkK w T A d R L B W) (s x : Int) (hx : I64 x) : Calls Try.prog 26 #[aP T, .agg #[.int .i64 s, .int .i64 x]] W fun e w' => e = .returned (.tuple #[vG (nearG L (key s x) 3).1, .bool (nearG L (key s x) 3).2]) ∧ Go.RowKit.Below W.heap.size W w' := by
  obtain ⟨⟨t, a, S0, h1, h2, _⟩, _⟩ := h; exact bhigher_any h1 h2 s x hx
theorem BkK.first (h : BkK w T A d R L B W) : Calls Try.prog 30 #[aP T] W fun e w' => e = .returned (.tuple #[vG (nearG L (key (-1) 0) 2).1, .bool (nearG L (key (-1) 0) 2).2]) ∧ Go.RowKit.Below W.heap.size W w' := by
  obtain ⟨⟨t, a, S0, h1, h2, _⟩, _⟩ := h; exact bfirst_any h1 h2
theorem BkK.last (h : BkK w T A d R L B W) : Calls Try.prog 31 #[aP T] W fun e w' => e = .returned (.tuple #[vG (nearG L (key 1 0) 0).1, .bool (nearG L (key 1 0) 0).2]) ∧ Go.RowKit.Below W.heap.size W w' := by
  obtain ⟨⟨t, a, S0, h1, h2, _⟩, _⟩ := h; exact blast_any h1 h2
end
abbrev noB : Nat → Prop := fun _ => False
set_option maxHeartbeats 4000000 in
theorem balive_any (w : World) : Calls Try.prog 9 #[] w fun e w' => e = .returned (.bool true) ∧ Go.RowKit.Below w.heap.size w w' := by
  have mx := mixed
  have HN := Lib.hid (bk_new (w := w) (W := w) 2 9 ⟨by omega, by omega⟩ (by decide) (Go.RowKit.Below.refl _ _))
  have HSG := Lib.hid bseg_any
  have HP : Hid (∀ (T A : Nat) W (j : Nat), j < 4 → BkK w T A 2 9 (rowA j) noB W → Calls Try.prog 38 #[aP T, vG (sgB ((j : Int) + 1))] W fun e w' => e = .returned (.int .i64 0) ∧ BkK w T A 2 9 (rowA (j + 1)) noB w' ∧ ∀ b, noB b → w'.heap[b]? = W.heap[b]?) := fun T A W j hj h => by
    have := h.put (sgB ((j : Int) + 1)) (sgB_ok _ (by unfold I64; omega))
    rw [rowA_put j hj] at this
    exact this
  have HFl : Hid (∀ (T A : Nat) W, BkK w T A 2 9 (rowA 4) noB W → Calls Try.prog 23 #[aP T, .agg #[.int .i64 0, .int .i64 9]] W fun e w' => e = .returned (.tuple #[vG (sgB 4), .bool true]) ∧ Go.RowKit.Below W.heap.size W w') := fun T A W h => by
    have := h.floor 0 9 (by unfold I64; omega)
    rw [show nearG (rowA 4) (key 0 9) 0 = (sgB 4, true) by kernel_rfl] at this
    exact this
  have HHi : Hid (∀ (T A : Nat) W, BkK w T A 2 9 (rowA 4) noB W → Calls Try.prog 26 #[aP T, .agg #[.int .i64 0, .int .i64 2]] W fun e w' => e = .returned (.tuple #[vG (sgB 3), .bool true]) ∧ Go.RowKit.Below W.heap.size W w') := fun T A W h => by
    have := h.higher 0 2 (by unfold I64; omega)
    rw [show nearG (rowA 4) (key 0 2) 3 = (sgB 3, true) by kernel_rfl] at this
    exact this
  have HHt : Hid (∀ (T A : Nat) W, BkK w T A 2 9 (rowA 4) noB W → Calls Try.prog 21 #[aP T] W fun e w' => e = .returned (.int .i64 2) ∧ Go.RowKit.Below W.heap.size W w') := fun T A W h => by
    obtain ⟨⟨t, a, S0, h1, h2, _⟩, _⟩ := h
    obtain ⟨N, h3, h4⟩ := bheight_any h1 h2
    rcases h3 with ⟨e, _⟩ | ⟨H, x, z, hr, hL, rfl⟩
    · exact absurd (congrArg List.length e) (by decide)
    · have hH := high4 H x hr z.tree (by rw [hL]; rfl)
      subst hH
      exact h4
  have HCk : Hid (∀ (T A : Nat) W (L : List G5), BkK w T A 2 9 L noB W → Calls Try.prog 19 #[aP T] W fun e w' => e = .returned (.bool true) ∧ Go.RowKit.Below W.heap.size W w') := fun T A W L h => h.check
  have HD1 : Hid (∀ (T A : Nat) W, BkK w T A 2 9 (rowA 4) noB W → Calls Try.prog 41 #[aP T, .agg #[.int .i64 0, .int .i64 4]] W fun e w' => e = .returned (.bool true) ∧ BkK w T A 2 9 (rowA 3) noB w' ∧ ∀ b, noB b → w'.heap[b]? = W.heap[b]?) := fun T A W h => by
    have := h.del 0 4 (by unfold I64; omega)
    rw [show delG (rowA 4) (key 0 4) = (rowA 3, true) by kernel_rfl] at this
    exact this
  have HD2 : Hid (∀ (T A : Nat) W, BkK w T A 2 9 (rowA 3) noB W → Calls Try.prog 41 #[aP T, .agg #[.int .i64 0, .int .i64 4]] W fun e w' => e = .returned (.bool false) ∧ BkK w T A 2 9 (rowA 3) noB w' ∧ ∀ b, noB b → w'.heap[b]? = W.heap[b]?) := fun T A W h => by
    have := h.del 0 4 (by unfold I64; omega)
    rw [show delG (rowA 3) (key 0 4) = (rowA 3, false) by kernel_rfl] at this
    exact this
  have HLn : Hid (∀ (T A : Nat) W, BkK w T A 2 9 (rowA 3) noB W → Calls Try.prog 18 #[aP T] W fun e w' => e = .returned (.int .i64 3) ∧ Go.RowKit.Below W.heap.size W w') := fun T A W h => h.len
  have HDg : Hid (∀ (T A : Nat) W (L : List G5), BkK w T A 2 9 L noB W → Calls Try.prog 13 #[aP T] W fun e w' => e = .returned (.int .i64 2) ∧ Go.RowKit.Below W.heap.size W w') := fun T A W L h => h.degree
  go_enter Try.func9, Try.ntmps9
  go_wp2_with fail
  refine HN.out.mono ?_
  rintro e y0 ⟨T, A, ⟨rfl, ht⟩, hb⟩
  have HT := Lib.hid ht
  clear ht hb
  go_wp2_with fail
  go_loopg [18] 4 (fun k kv wr => ∃ j : Nat, k = 4 - j ∧ j ≤ 4 ∧ kv = .int .i64 (j : Int) ∧ BkK w T A 2 9 (rowA j) noB wr)
  case atStart => exact ⟨0, rfl, by omega, rfl, HT.out⟩
  case round =>
    obtain ⟨j, hkj, hle, rfl, hbk⟩ := hrel
    have HKJ := Lib.hid hkj
    have HT1 := Lib.hid hbk
    clear hkj hbk HT
    by_cases hlt : j < 4
    · have i1 : IntKind.i64.wrap ((j : Int) + 1) = (j : Int) + 1 := IntWalk.i64_in _ (by omega)
      have i3 : (j : Int) < 4 := by omega
      go_wp2_with fail
      refine (HSG.out ((j : Int) + 1) _).mono ?_
      rintro e u3 ⟨rfl, hb⟩
      have HT2 := Lib.hid (HT1.out.on hb)
      clear hb HT1
      go_wp2_with fail
      refine (HP.out T A _ j hlt HT2.out).mono ?_
      rintro e v3 ⟨rfl, ht, _⟩
      have HT3 := Lib.hid ht
      clear ht HT2
      go_wp2_with fail
      go_roundg (4 - (j + 1))
      case measure => have := HKJ.out; omega
      case rel => exact ⟨j + 1, rfl, by omega, by push_cast; rfl, HT3.out⟩
    · obtain rfl : j = 4 := by omega
      clear HP HSG HN
      go_wp2_with fail
      refine (HFl.out T A _ HT1.out).mono ?_
      rintro e y1 ⟨rfl, hb⟩
      have HT2 := Lib.hid ((HT1.out.on hb).on (below_new _ (oG (sgB 4))))
      have HA := Lib.hid (heap_alloc_new y1 (oG (sgB 4)))
      clear hb HT1
      go_wp2_with fail
      refine (HHi.out T A _ HT2.out).mono ?_
      rintro e y2 ⟨rfl, hb⟩
      have HT3 := Lib.hid ((HT2.out.on hb).on (below_new _ (oG (sgB 3))))
      replace HA := Lib.hid (box_on (box_on HA.out hb) (below_new _ (oG (sgB 3))))
      have HB := Lib.hid (heap_alloc_new y2 (oG (sgB 3)))
      clear hb HFl HHi HT2
      go_wp2_with fail
      refine (HHt.out T A _ HT3.out).mono ?_
      rintro e x1 ⟨rfl, hb⟩
      have HT4 := Lib.hid (HT3.out.on hb)
      have k1 : x1.cell? ⟨y1.heap.size, 4, none⟩ = some (.int .i64 4) := (cell_of_row _ _ 4 _ _ _ (box_on HA.out hb)).trans rfl
      have k2 : x1.cell? ⟨y2.heap.size, 4, none⟩ = some (.int .i64 3) := (cell_of_row _ _ 4 _ _ _ (box_on HB.out hb)).trans rfl
      clear hb HT3
      go_wp2_with fail
      refine (HD1.out T A _ HT4.out).mono ?_
      rintro e x3 ⟨rfl, ht, _⟩
      have HT5 := Lib.hid ht
      clear ht k1 k2 HT4
      go_wp2_with fail
      refine (HD2.out T A _ HT5.out).mono ?_
      rintro e x4 ⟨rfl, ht, _⟩
      have HT6 := Lib.hid ht
      clear ht HT5
      go_wp2_with fail
      refine (HLn.out T A _ HT6.out).mono ?_
      rintro e x5 ⟨rfl, hb⟩
      have HT7 := Lib.hid (HT6.out.on hb)
      clear hb HT6
      go_wp2_with fail
      refine (HCk.out T A _ _ HT7.out).mono ?_
      rintro e x6 ⟨rfl, hb⟩
      have HT8 := Lib.hid (HT7.out.on hb)
      clear hb HT7
      go_wp2_with fail
      refine (HDg.out T A _ _ HT8.out).mono ?_
      rintro e x7 ⟨rfl, hb⟩
      have HT9 := Lib.hid (HT8.out.on hb)
      clear hb HT8
      go_wp2_with fail
      go_ret
      exact ⟨rfl, HT9.out.be⟩
end Go.Proofs.Ytjgcdmeojjnjlaa
/- Calls of the document's tree as arguments: one by value, a slice of them. -/
namespace Go.Proofs.Ytjgcdmeojjnjlaa
open Go.ChangeShapes Go.WideShapes Go.ChangeAt Go.RowKit Go.Sort Go.Joins Go.Proofs.Ytjgcdmeojjnjlaa.Bo
set_option linter.unusedVariables false
/-- A call: its kind, a segment. -/
structure O6 where
  k : Int
  s : G5
def O6.ok (o : O6) : Prop := I64 o.k ∧ o.s.ok
def Cells6 (w : World) (b x : Nat) (o : O6) : Prop := w.cell? ⟨b, x, none⟩ = some (.int .i64 o.k) ∧ Cells5 w b (x + 1) o.s
theorem Cells6.below {w w' : World} {b x : Nat} {o : O6} (h : Cells6 w b x o) (hb : Go.RowKit.Below w.heap.size w w') : Cells6 w' b x o :=
  ⟨(hb.cell (World.block_lt_of_cell? w _ h.1)).trans h.1, h.2.below hb⟩
/-- A slice of calls that holds l. -/
def QRow (w : World) (a : Option Addr) (l : List O6) : Prop := 0 < l.length → ∃ b off, a = some ⟨b, off, none⟩ ∧ ∀ (j : Nat) (h : j < l.length), Cells6 w b (off + j * 6) l[j]
theorem QRow.below {w w' : World} {a : Option Addr} {l : List O6} (h : QRow w a l) (hb : Go.RowKit.Below w.heap.size w w') : QRow w' a l := by
  intro hp
  obtain ⟨b, off, e, hc⟩ := h hp
  exact ⟨b, off, e, fun j hj => (hc j hj).below hb⟩
end Go.Proofs.Ytjgcdmeojjnjlaa
/- The laws' made: a tree behind a script, and the document's row. -/
namespace Go.Proofs.Ytjgcdmeojjnjlaa
open Go.RowKit Go.Sort Go.Proofs.Ytjgcdmeojjnjlaa.Bo Go.Proofs.Ytjgcdmeojjnjlaa.Bb
set_option linter.unusedVariables false
set_option maxRecDepth 100000
/-- The blocks in which a row lies. -/
def GBb (a : Option Addr) (l : List G5) (b : Nat) : Prop := 0 < l.length ∧ ∃ off, a = some ⟨b, off, none⟩
theorem GRow.keptBb {W W' : World} {a : Option Addr} {l : List G5} (h : GRow W a l) (hk : ∀ b, GBb a l b → W'.heap[b]? = W.heap[b]?) : GRow W' a l := by
  intro hp
  obtain ⟨b, off, rfl, hc⟩ := h hp
  refine ⟨b, off, rfl, fun j hj => ?_⟩
  have e := hk b ⟨hp, off, rfl⟩
  have cell : ∀ o, W'.cell? ⟨b, o, none⟩ = W.cell? ⟨b, o, none⟩ := fun o => by unfold World.cell?; simp only [e]
  obtain ⟨c1, c2, c3, c4, c5⟩ := hc j hj
  exact ⟨(cell _).trans c1, (cell _).trans c2, (cell _).trans c3, (cell _).trans c4, (cell _).trans c5⟩
theorem GRow.ltb {W : World} {a : Option Addr} {l : List G5} (h : GRow W a l) : ∀ b, GBb a l b → b < W.heap.size := by
  rintro b ⟨hp, off, rfl⟩
  obtain ⟨b', off', e, hc⟩ := h hp
  injection e with e
  injection e with e1 e2 e3
  subst e1
  exact World.block_lt_of_cell? W _ (hc 0 hp).1
/-- The call's own tree, and the document's row, which is the same, beside it; the blocks K stay. -/
structure MdB (w : World) (T A d : Nat) (R : Int) (L M : List G5) (a : Option Addr) (cap : Nat) (K : Nat → Prop) (W : World) : Prop where
  tk : BkK w T A d R L (fun b => GBb a M b ∨ K b) W
  row : GRow W a M
  cap : M.length ≤ cap
section
variable {w W W' : World} {T A d : Nat} {R : Int} {L M : List G5} {a : Option Addr} {cap : Nat} {K : Nat → Prop}
theorem MdB.on (h : MdB w T A d R L M a cap K W) (hb : Go.RowKit.Below W.heap.size W W') : MdB w T A d R L M a cap K W' := ⟨h.tk.on hb, h.row.below hb, h.cap⟩
theorem MdB.be (h : MdB w T A d R L M a cap K W) : Go.RowKit.Below w.heap.size w W := h.tk.be
theorem MdB.klt (h : MdB w T A d R L M a cap K W) : ∀ b, K b → b < W.heap.size := fun b hb => by
  obtain ⟨⟨t, a, S0, _, _, _, h7⟩, _⟩ := h.tk
  exact (h7 b (.inr hb)).2
/-- More blocks are kept, such as came since. -/
theorem MdB.keep {K' : Nat → Prop} (h : MdB w T A d R L M a cap K W) (hb : Go.RowKit.Below W.heap.size W W') (hC : ∀ b, K' b → b < W'.heap.size ∧ (W.heap.size ≤ b ∨ K b)) : MdB w T A d R L M a cap K' W' := by
  refine ⟨h.tk.keep hb (fun b hb' => ?_), h.row.below hb, h.cap⟩
  rcases hb' with k | k
  · exact ⟨Nat.lt_of_lt_of_le (h.row.ltb b k) hb.size, .inr (.inl k)⟩
  · exact ⟨(hC b k).1, (hC b k).2.imp id .inr⟩
/-- The document's row is turned: another one, of a call's own making, or the same. -/
theorem MdB.turn {N : List G5} {a' : Option Addr} {cap' : Nat} (h : MdB w T A d R L M a cap K W) (hg : GRow W' a' N) (hc : N.length ≤ cap') (hn : (a' = a ∧ N = M) ∨ ∀ b off, 0 < N.length → a' = some ⟨b, off, none⟩ → W.heap.size ≤ b) (hb : Go.RowKit.Below W.heap.size W W') : MdB w T A d R L N a' cap' K W' := by
  refine ⟨h.tk.keep hb (fun b hB => ?_), hg, hc⟩
  rcases hB with k | k
  · refine ⟨hg.ltb b k, ?_⟩
    rcases hn with ⟨rfl, rfl⟩ | hn
    · exact .inr (.inl k)
    · obtain ⟨h0, off, rfl⟩ := k
      exact .inl (hn _ _ h0 rfl)
  · exact ⟨Nat.lt_of_lt_of_le (h.klt b k) hb.size, .inr (.inr k)⟩
/-- A call that turns the tree. -/
theorem MdB.call {L' : List G5} {f : Nat} {args : Array Value} {v : Value} (h : MdB w T A d R L M a cap K W) (hc : ∀ B, BkK w T A d R L B W → Calls Try.prog f args W fun e w' => e = .returned v ∧ BkK w T A d R L' B w' ∧ ∀ b, B b → w'.heap[b]? = W.heap[b]?) :
    Calls Try.prog f args W fun e w' => e = .returned v ∧ MdB w T A d R L' M a cap K w' ∧ ∀ b, K b → w'.heap[b]? = W.heap[b]? := by
  refine (hc _ h.tk).mono ?_
  rintro e w' ⟨rfl, hk, hB⟩
  exact ⟨rfl, ⟨hk, h.row.keptBb (fun b hb => hB b (.inl hb)), h.cap⟩, fun b hb => hB b (.inr hb)⟩
end
theorem mdb_new {w : World} (d : Nat) (room : Int) (h1 : 2 ≤ d ∧ d ≤ 64) (h2 : 0 ≤ room ∧ room ≤ 4096) (K : Nat → Prop) (W : World) (hW : Go.RowKit.Below w.heap.size w W) (hK : ∀ b, K b → b < W.heap.size) :
    Calls Try.prog 10 #[.int .i64 (d : Int), .int .i64 room] W fun e w' => ∃ T A, (e = .returned (.tuple #[aP T, .int .i64 0]) ∧ MdB w T A d room [] [] none 0 K w') ∧ Go.RowKit.Below W.heap.size W w' := by
  refine (btnew_tree d room W h1 h2).mono ?_
  rintro e w' ⟨rfl, t, ⟨a, S0, k1, k2, k3, _⟩, k4, k5⟩
  have hb : Go.RowKit.Below W.heap.size W w' := k2.to_below _ (Nat.le_refl _) (fun b hb => hb.elim)
  refine ⟨_, _, ⟨rfl, ⟨⟨⟨t, a, S0, k1.lower hW.size, k4, k5, fun b hB => ?_⟩, bt hW hb⟩, grow_nil _ _, Nat.le_refl _⟩⟩, hb⟩
  rcases hB with hB | hB
  · exact absurd hB.1 (by simp)
  · refine ⟨fun hS => ?_, Nat.lt_of_lt_of_le (hK b hB) hb.size⟩
    have := hK b hB
    rcases k3 b hS with q | q
    · exact q
    · omega
end Go.Proofs.Ytjgcdmeojjnjlaa
/- The arena's Each: its contract as a function that is ranged over. -/
namespace Go.Proofs.Ytjgcdmeojjnjlaa
open Go.RowKit Go.Sort Go.Shelf Go.Proofs.Ytjgcdmeojjnjlaa.Bo
set_option linter.unusedVariables false
attribute [local go_sem] Oper.semAt_some
/-- What a round keeps: all that lay below n0, and the block B. -/
def KpE (n0 B : Nat) (W W' : World) : Prop := Go.RowKit.Below n0 W W' ∧ W'.heap[B]? = W.heap[B]?
theorem KpE.trans {n0 B : Nat} {X Y Z : World} (h : KpE n0 B X Y) (k : KpE n0 B Y Z) : KpE n0 B X Z := ⟨h.1.trans k.1, k.2.trans h.2⟩
end Go.Proofs.Ytjgcdmeojjnjlaa
/- All: the recursive walk that hands yield on, its core. -/
namespace Go.Proofs.Ytjgcdmeojjnjlaa
open Go.RowKit Go.Sort Go.Shelf Go.Proofs.Ytjgcdmeojjnjlaa.Bo Go.Proofs.Ytjgcdmeojjnjlaa.Bb
set_option linter.unusedVariables false
set_option maxRecDepth 100000
attribute [local go_sem] Oper.semAt_some
abbrev bnV (sa ka : Option Addr) (sn kn sc kc : Nat) : Value := .agg #[.slice sa sn sc, .slice ka kn kc]
abbrev bnB (sa ka : Option Addr) (sn kn sc kc : Nat) : Obj := .cells #[.slice sa sn sc, .slice ka kn kc] 80
set_option maxHeartbeats 2000000 in
theorem brise_no (T A l k : Nat) (i : Int) (w : World) (c0 : w.cell? ⟨T, 1, none⟩ = some (aP A)) (HG : Hid (Calls Try.prog 86 #[aP A, .int .i64 i] w fun e w' => e = .returned (.tuple #[bnV none none 0 0 0 0, .bool false]) ∧ Go.RowKit.Below w.heap.size w w')) :
    CallsIn Fence.wide k Try.prog 64 #[aP T, .int .i64 i, .func (.yield l) #[] #[]] w fun e W' => e = .returned (.bool true) ∧ Go.RowKit.Below w.heap.size w W' := by
  have mx := mixed
  refine callsIn_wide.2 ?_
  go_enter Try.func64, Try.ntmps64
  go_wp2_with fail
  refine HG.out.mono ?_
  rintro e y ⟨rfl, hb⟩
  have HB := Lib.hid (bt hb (below_new y (bnB none none 0 0 0 0)))
  clear hb c0
  go_wp2_with fail
  go_ret
  exact ⟨rfl, HB.out⟩
/-- What a round of rising may find. -/
def RiseR (T l k sb j : Nat) (g : G5) (ck : Int) (Bn : Nat) (PI : Nat → World → Prop) (X : World → Prop) (W : World) : Prop :=
  Cells5 W sb (j * 5) g ∧ (Calls Try.prog 51 #[.pointer (some ⟨Bn, 0, none⟩), .int .i64 (j : Int)] (W.alloc (oG g)) fun e w' => e = .returned (.int .i64 ck) ∧ W.alloc (oG g) = w') ∧
    CallsIn Fence.wide (k - 1) Try.prog 64 #[aP T, .int .i64 ck, .func (.yield l) #[] #[]] (W.alloc (oG g)) fun e W1 =>
      (e = .returned (.bool true) ∧ W1.heap[W.heap.size]? = some (oG g) ∧ YieldAt Fence.wide (k - 1) Try.prog l #[vG g] W1 fun e W2 => (e = .returned (.bool true) ∧ PI (j + 1) W2) ∨ (e = .returned (.bool false) ∧ X W2)) ∨ (e = .returned (.bool false) ∧ X W1)
def RiseE (T l k N sc : Nat) (sa : Option Addr) (ck : Int) (Bn : Nat) (PA X : World → Prop) (W : World) : Prop :=
  W.cell? ⟨Bn, 0, none⟩ = some (.slice sa N sc) ∧ (Calls Try.prog 51 #[.pointer (some ⟨Bn, 0, none⟩), .int .i64 (N : Int)] W fun e w' => e = .returned (.int .i64 ck) ∧ W = w') ∧
    CallsIn Fence.wide (k - 1) Try.prog 64 #[aP T, .int .i64 ck, .func (.yield l) #[] #[]] W fun e W1 => (e = .returned (.bool true) ∧ PA W1) ∨ (e = .returned (.bool false) ∧ X W1)
set_option maxHeartbeats 4000000 in
theorem brise_core (T A l k N nk sc kc sb : Nat) (hN : N ≤ 1000) (ka : Option Addr) (i : Int) (sg : Nat → G5) (ck : Nat → Int) (PI : Nat → Nat → World → Prop) (PA X : World → Prop) (w : World) (c0 : w.cell? ⟨T, 1, none⟩ = some (aP A))
    (HG : Hid (Calls Try.prog 86 #[aP A, .int .i64 i] w fun e w' => e = .returned (.tuple #[bnV (some ⟨sb, 0, none⟩) ka N nk sc kc, .bool true]) ∧ Go.RowKit.Below w.heap.size w w'))
    (H0 : Hid (∀ y, Go.RowKit.Below w.heap.size w y → PI y.heap.size 0 (y.alloc (bnB (some ⟨sb, 0, none⟩) ka N nk sc kc))))
    (HR : Hid (∀ Bn j W, j < N → PI Bn j W → RiseR T l k sb j (sg j) (ck j) Bn (PI Bn) X W))
    (HE : Hid (∀ Bn W, PI Bn N W → RiseE T l k N sc (some ⟨sb, 0, none⟩) (ck N) Bn PA X W)) :
    CallsIn Fence.wide k Try.prog 64 #[aP T, .int .i64 i, .func (.yield l) #[] #[]] w fun e W' => (e = .returned (.bool true) ∧ PA W') ∨ (e = .returned (.bool false) ∧ X W') := by
  have mx := mixed
  refine callsIn_of_wp Try.func64 rfl trivial ?_ rfl
  simp only [Try.ntmps64, List.size_toArray, List.length_cons, List.length_nil, Nat.reduceAdd, Nat.reduceSub, Array.replicate_succ, Array.replicate_zero, List.push_toArray, List.append_toArray, List.nil_append, List.cons_append]
  have hdd : ∀ m : Nat, (Fence.wide.depth.isSome = true → 1 ≤ m) := fun m h => by cases h
  gi_wp2_with (refine ⟨trivial, ?_⟩; refine ⟨hdd _, ?_⟩; gi_at_call 86; refine (callsIn_wide.2 HG.out).mono ?_; clear c0; rintro e y ⟨rfl, hb⟩; have hp := H0.out y hb; have hNY := heap_alloc_new y (bnB (some ⟨sb, 0, none⟩) ka N nk sc kc); have n0 : (y.alloc (bnB (some ⟨sb, 0, none⟩) ka N nk sc kc)).cell? ⟨y.heap.size, 0, none⟩ = some (.slice (some ⟨sb, 0, none⟩) N sc) := (cell_of_row _ _ 0 _ _ _ hNY).trans rfl; clear hb hNY)
  have HP := Lib.hid hp
  clear hp n0 H0 HG
  generalize y.heap.size = Bn at *
  generalize y.alloc (bnB (some ⟨sb, 0, none⟩) ka N nk sc kc) = Y at *
  gi_loopw [25] (fun i wr => ∃ j : Nat, j ≤ N ∧ i = .int .i64 (j : Int) ∧ PI Bn j wr) (fun i _ => N - (intOf i).toNat)
  case atStart => exact ⟨0, Nat.zero_le _, rfl, HP.out⟩
  case round =>
    obtain ⟨j, hj, rfl, hpi⟩ := hrel
    clear HP
    by_cases hlt : j < N
    · obtain ⟨hc, hkid, hrec⟩ := HR.out Bn j wr hlt hpi
      obtain ⟨f0, f1, f2, f3, f4⟩ := hc
      have HKD := Lib.hid hkid
      have HRC := Lib.hid hrec
      have hS := heap_alloc_new wr (oG (sg j))
      have t1 : (j : Int) < (N : Int) := by omega
      have t0 : (0 : Int) ≤ (j : Int) := by omega
      have i1 : IntKind.i64.wrap ((j : Int) + 1) = (j : Int) + 1 := IntWalk.i64_in _ (by omega)
      clear hkid hrec hpi
      gi_wp2_with (refine ⟨trivial, ?_⟩; refine ⟨hdd _, ?_⟩; gi_at_call 51; refine (callsIn_wide.2 HKD.out).mono ?_; clear f0 f1 f2 f3 f4; rintro e V ⟨rfl, rfl⟩)
      refine ⟨trivial, ?_⟩
      refine ⟨hdd _, ?_⟩
      refine HRC.out.mono ?_
      clear HRC HKD
      rintro e W1 (⟨rfl, hN1, fn, tmps, assign, body, hy, hR⟩ | ⟨rfl, hx1⟩)
      · have hN0 := hN1
        obtain ⟨s0, s1, s2, s3, s4⟩ := five_cells hN0
        simp only [Nat.zero_add] at s1 s2 s3 s4
        clear hN1 hN0 hS
        gi_wp2
        refine ⟨hdd _, ?_⟩
        refine hR.mono ?_
        clear hR s0 s1 s2 s3 s4
        rintro e W2 (⟨rfl, hp2⟩ | ⟨rfl, hx2⟩)
        · gi_wp2
          go_roundw
          case rel => exact ⟨j + 1, by omega, by push_cast; rfl, hp2⟩
          case measure => simp [intOf]; omega
        · gi_wp2
          go_ret
          exact .inr ⟨rfl, hx2⟩
      · gi_wp2
        refine ⟨fun _ h => (by cases h), ?_⟩
        gi_wp2
        go_ret
        exact .inr ⟨rfl, hx1⟩
    · obtain rfl : j = N := by omega
      obtain ⟨n0, hkid, hrec⟩ := HE.out Bn wr hpi
      have HKD := Lib.hid hkid
      have HRC := Lib.hid hrec
      clear hkid hrec hpi
      gi_wp2_with (refine ⟨trivial, ?_⟩; refine ⟨hdd _, ?_⟩; gi_at_call 51; refine (callsIn_wide.2 HKD.out).mono ?_; clear n0; rintro e V ⟨rfl, rfl⟩)
      refine ⟨trivial, ?_⟩
      refine ⟨hdd _, ?_⟩
      refine HRC.out.mono ?_
      clear HRC HKD
      rintro e W1 (⟨rfl, hp3⟩ | ⟨rfl, hx3⟩)
      · gi_wp2
        go_ret
        exact .inl ⟨rfl, hp3⟩
      · gi_wp2
        go_ret
        exact .inr ⟨rfl, hx3⟩
end Go.Proofs.Ytjgcdmeojjnjlaa
/- All: through the tree, by rising keys. -/
namespace Go.Proofs.Ytjgcdmeojjnjlaa
open Go.RowKit Go.Sort Go.Shelf Go.Proofs.Ytjgcdmeojjnjlaa.Bo Go.Proofs.Ytjgcdmeojjnjlaa.Bb
set_option linter.unusedVariables false
set_option maxRecDepth 100000
attribute [local go_sem] Oper.semAt_some
/-- The block of the row that the box b holds. -/
def rowAt (b : Nat) (W : World) (k : Nat) : Prop := ∃ v, W.heap[b]? = some (.cells #[v] 32 (0, 0)) ∧ v.ownBlock = some k
/-- What a round keeps: all that lay below n0, and the blocks that the walk reads; a segment's box, but for the row of the box b, which may only move on to a new block. -/
def KpS (b n0 : Nat) (W W' : World) : Prop := Go.RowKit.Below n0 W W' ∧ (∀ (k : Nat) (cs : Array Value) (t : TypeId), W.heap[k]? = some (.cells cs t (0, 0)) → t = 80 ∨ t = 26 ∨ (t = 38 ∧ cs.size = 5 ∧ ¬ rowAt b W k) → W'.heap[k]? = some (.cells cs t (0, 0))) ∧
  ∀ k, rowAt b W' k → rowAt b W k ∨ (W.heap.size ≤ k ∧ k < W'.heap.size)
theorem KpS.trans {b n0 : Nat} {X Y Z : World} (h : KpS b n0 X Y) (k : KpS b n0 Y Z) : KpS b n0 X Z := by
  refine ⟨h.1.trans k.1, fun i cs t hi ht => ?_, fun i hi => ?_⟩
  · refine k.2.1 i cs t (h.2.1 i cs t hi ht) ?_
    rcases ht with e | e | ⟨e1, e2, e3⟩
    · exact .inl e
    · exact .inr (.inl e)
    · refine .inr (.inr ⟨e1, e2, fun hr => ?_⟩)
      have := lt_of_block hi
      rcases h.2.2 i hr with q | q
      · exact e3 q
      · omega
  · have := h.1.size
    have := k.1.size
    rcases k.2.2 i hi with q | q
    · rcases h.2.2 i q with q | q
      · exact .inl q
      · exact .inr ⟨q.1, by omega⟩
    · exact .inr ⟨by omega, q.2⟩
theorem KpS.refl (b n0 : Nat) (X : World) : KpS b n0 X X := ⟨Go.RowKit.Below.refl _ _, fun _ _ _ h _ => h, fun _ h => .inl h⟩
theorem kpS_b {b n0 : Nat} {w : World} (hn : n0 ≤ w.heap.size) (hbl : b < w.heap.size) (W : World) (l : Nat) (o o' : Obj) (hl : w.heap.size ≤ l) (h : W.heap[l]? = some o) (h1 : o.isCells = false) (h2 : o.isWalk = false) : KpS b n0 W (W.putObj l o') :=
  ⟨belowK_b hn W l o o' hl h h1 h2, fun k cs t hk ht => by
    by_cases e : k = l
    · subst e; rw [h] at hk; injection hk with hk; subst hk; cases h1
    · exact (World.putObj_heap_other e).trans hk, fun k hk => by
    obtain ⟨v, hv, ho⟩ := hk
    exact .inl ⟨v, (World.putObj_heap_other (show b ≠ l by omega)).symm.trans hv, ho⟩⟩
theorem KpS.of_below {b n0 : Nat} {W W' : World} (h : Go.RowKit.Below W.heap.size W W') (hn : n0 ≤ W.heap.size) (hbl : b < W.heap.size) : KpS b n0 W W' := ⟨h.mono hn, fun k cs t hk _ => box_on hk h, fun k hk => by
  obtain ⟨v, hv, ho⟩ := hk
  exact .inl ⟨v, (h.block b hbl).symm.trans hv, ho⟩⟩
theorem kp_of_belowB {n0 : Nat} {W W' : World} (h : Go.RowKit.Below n0 W W') : Kp (fun b => n0 ≤ b) W W' := ⟨h.os, h.tape, h.output, h.size, fun k _ hn => h.block k (by omega)⟩
theorem abides_belowB {β : Type} {J : β → World → Prop} {B : Nat} (h : AbidesFrom B J) {s : β} {W W' : World} (hJ : J s W) (hb : Go.RowKit.Below W.heap.size W W') : J s W' :=
  h s W W' none hJ ⟨hb.os, hb.tape, hb.output, hb.size, fun k hk _ => hb.block k hk⟩ (fun r e => by cases e)
section
variable {T A l bl n0 M base : Nat} {t : Bx} {a : Ag Rn} {S0 : Nat → Prop} {J Jx : List G5 → World → Prop} {W0 : World}
/-- What came of a way through R. -/
def Went (bl n0 : Nat) (J Jx : List G5 → World → Prop) (pre R : List G5) (W : World) (e : Ending) (W' : World) : Prop :=
  (e = .returned (.bool true) ∧ J (pre ++ R) W' ∧ KpS bl n0 W W') ∨ (e = .returned (.bool false) ∧ ∃ q, q <+: R ∧ Jx (pre ++ q) W')
set_option maxHeartbeats 1000000 in
theorem brise_node (hn : n0 ≤ W0.heap.size) (hbl : bl < W0.heap.size) (hrow : ∀ k, rowAt bl W0 k → k < W0.heap.size)
    (hJ : ∀ pre W W', J pre W → Go.RowKit.Below W.heap.size W W' → J pre W')
    (hY : ∀ m pre g W, J pre W → pre.length < M → YieldAt Fence.wide m Try.prog l #[vG g] W fun e W' => (e = .returned (.bool true) ∧ J (pre ++ [g]) W' ∧ KpS bl n0 W W') ∨ (e = .returned (.bool false) ∧ Jx (pre ++ [g]) W'))
    (hT : ∀ W, KpS bl n0 W0 W → BtW W base T A t a S0)
    (x : Bt) (hx : t.f (x.i : Int) = some ⟨x.s, x.ks.map Bt.idx⟩) (h1 : 1 ≤ x.s.length) (h2 : x.s.length ≤ 1000) (hkn : x.ks.length = 0 ∨ x.ks.length = x.s.length + 1) (upX rowC : Nat → List G5) (R : List G5) (u0 : upX 0 = []) (us : ∀ j (hj : j < x.s.length), upX (j + 1) = upX j ++ (rowC j ++ [x.s[j]])) (uR : R = upX x.s.length ++ rowC x.s.length)
    (up : ∀ j, j ≤ x.s.length → upX j ++ rowC j <+: R)
    (hch : ∀ j, j ≤ x.s.length → ∀ (k : Nat) (pre : List G5) (W : World), KpS bl n0 W0 W → W0.heap.size ≤ W.heap.size → J pre W → pre.length + (rowC j).length ≤ M → CallsIn Fence.wide k Try.prog 64 #[aP T, .int .i64 (kidV ⟨x.s, x.ks.map Bt.idx⟩ j), .func (.yield l) #[] #[]] W (Went bl n0 J Jx pre (rowC j) W)) :
    ∀ (k : Nat) (pre : List G5) (W : World), KpS bl n0 W0 W → W0.heap.size ≤ W.heap.size → J pre W → pre.length + R.length ≤ M → CallsIn Fence.wide k Try.prog 64 #[aP T, .int .i64 x.idx, .func (.yield l) #[] #[]] W (Went bl n0 J Jx pre R W) := by
  intro k pre W hW hsz hj hM
  have hWt := hT W hW
  have hc0 : W.cell? ⟨T, 1, none⟩ = some (aP A) := (cell_of_row _ _ 1 _ _ _ hWt.top).trans rfl
  have hnd := hWt.node x.i _ hx
  obtain ⟨en, ek⟩ := hnd.nums
  have es : (a.l.getD x.i bnZ).s.v = .slice (a.l.getD x.i bnZ).s.a x.s.length (a.l.getD x.i bnZ).s.c := by rw [← show (a.l.getD x.i bnZ).s.n = x.s.length from en]
  have ek2 : (a.l.getD x.i bnZ).k.v = .slice (a.l.getD x.i bnZ).k.a (x.ks.map Bt.idx).length (a.l.getD x.i bnZ).k.c := by rw [← show (a.l.getD x.i bnZ).k.n = (x.ks.map Bt.idx).length from ek]
  have hs0 : W.ownsRow base 38 5 (.slice (a.l.getD x.i bnZ).s.a x.s.length (a.l.getD x.i bnZ).s.c) x.s.length (flatG x.s) := es ▸ hnd.s
  obtain ⟨sb, hsb, _, _, _⟩ := own_atG hs0 rfl 0 h1
  have es3 : (a.l.getD x.i bnZ).s.v = .slice (some ⟨sb, 0, none⟩) x.s.length (a.l.getD x.i bnZ).s.c := by rw [es, hsb]
  have hget := bnget_yes hWt.ar hWt.ok x.i ((hWt.is x.i).2 (by rw [hx]; simp)) _ rfl
  rw [hsb, show (a.l.getD x.i bnZ).s.n = x.s.length from en, show (a.l.getD x.i bnZ).k.n = (x.ks.map Bt.idx).length from ek] at hget
  have pt : ∀ (X : World) (Bn : Nat), KpS bl n0 W0 X → X.heap[Bn]? = some (bnB (some ⟨sb, 0, none⟩) (a.l.getD x.i bnZ).k.a x.s.length (x.ks.map Bt.idx).length (a.l.getD x.i bnZ).s.c (a.l.getD x.i bnZ).k.c) → NdPt X base (.pointer (some ⟨Bn, 0, none⟩)) ⟨x.s, x.ks.map Bt.idx⟩ := fun X Bn hX hB =>
    ⟨Bn, 0, a.l.getD x.i bnZ, rfl, by rw [es3]; exact (cell_of_row _ _ 0 _ _ _ hB).trans rfl, by rw [ek2]; exact (cell_of_row _ _ 1 _ _ _ hB).trans rfl, (hT X hX).node x.i _ hx⟩
  have kl : ∀ j, j ≤ x.s.length → (⟨x.s, x.ks.map Bt.idx⟩ : Kn).kids.length ≠ 0 → j < (⟨x.s, x.ks.map Bt.idx⟩ : Kn).kids.length := fun j hj h => by
    have e : (⟨x.s, x.ks.map Bt.idx⟩ : Kn).kids.length = x.ks.length := List.length_map _
    rw [e] at h ⊢
    omega
  have lenR : ∀ j, j ≤ x.s.length → (upX j).length + (rowC j).length ≤ R.length := fun j hj => by
    have := (up j hj).length_le
    rwa [List.length_append] at this
  refine brise_core T A l k x.s.length (x.ks.map Bt.idx).length _ _ sb h2 _ x.idx (fun j => x.s.getD j Bo.g0) (fun j => kidV ⟨x.s, x.ks.map Bt.idx⟩ j)
    (fun Bn j X => J (pre ++ upX j) X ∧ KpS bl n0 W X ∧ W0.heap.size ≤ X.heap.size ∧ X.heap[Bn]? = some (bnB (some ⟨sb, 0, none⟩) (a.l.getD x.i bnZ).k.a x.s.length (x.ks.map Bt.idx).length (a.l.getD x.i bnZ).s.c (a.l.getD x.i bnZ).k.c))
    (fun X => J (pre ++ R) X ∧ KpS bl n0 W X) (fun X => ∃ q, q <+: R ∧ Jx (pre ++ q) X) W hc0 (Lib.hid hget) (Lib.hid fun y hy => ?_) (Lib.hid fun Bn j X hj ⟨p1, p2, p3, p4⟩ => ?_) (Lib.hid fun Bn X ⟨p1, p2, p3, p4⟩ => ?_)
  · have hb := bt hy (below_new y (bnB (some ⟨sb, 0, none⟩) (a.l.getD x.i bnZ).k.a x.s.length (x.ks.map Bt.idx).length (a.l.getD x.i bnZ).s.c (a.l.getD x.i bnZ).k.c))
    refine ⟨by rw [u0, List.append_nil]; exact hJ _ _ _ hj hb, KpS.of_below hb (by omega) (by omega), Nat.le_trans hsz hb.size, heap_alloc_new _ _⟩
  · have hX0 := hW.trans p2
    have hg : x.s.getD j Bo.g0 = x.s[j] := by rw [List.getD_eq_getElem?_getD, List.getElem?_eq_getElem hj]; rfl
    have hXt := hT X hX0
    have hs1 : X.ownsRow base 38 5 (.slice (some ⟨sb, 0, none⟩) x.s.length (a.l.getD x.i bnZ).s.c) x.s.length (flatG x.s) := es3 ▸ (hXt.node x.i _ hx).s
    obtain ⟨sb', e, _, hc, _⟩ := own_atG hs1 rfl j hj
    obtain rfl : sb = sb' := by injection e with e; injection e
    have hb := below_new X (oG x.s[j])
    have k1 : KpS bl n0 X (X.alloc (oG x.s[j])) := KpS.of_below hb (by omega) (by omega)
    have hnr : ¬ rowAt bl (X.alloc (oG x.s[j])) X.heap.size := fun hr => by
      have hz : ∀ k, rowAt bl X k → k < X.heap.size := fun k hk => by
        rcases hX0.2.2 k hk with q | q
        · have := hrow k q; have := hX0.1.size; omega
        · exact q.2
      obtain ⟨v, hv, ho⟩ := hr
      have := hz X.heap.size ⟨v, (hb.block bl (by omega)).symm.trans hv, ho⟩
      omega
    show RiseR T l k sb j (x.s.getD j Bo.g0) _ Bn _ _ X
    rw [hg]
    refine ⟨hc, bkid_any (pt _ Bn (hX0.trans k1) (box_on p4 hb)) j (kl j (Nat.le_of_lt hj)), ?_⟩
    have hl := lenR j (Nat.le_of_lt hj)
    refine (hch j (Nat.le_of_lt hj) (k - 1) (pre ++ upX j) (X.alloc (oG x.s[j])) (hX0.trans k1) (Nat.le_trans p3 hb.size) (hJ _ _ _ p1 hb) (by simp only [List.length_append]; omega)).mono ?_
    rintro e W1 (⟨rfl, hj1, hk1⟩ | ⟨rfl, q, hq, hx1⟩)
    · have hl2 : (upX j).length + (rowC j).length + 1 ≤ R.length := by
        have := lenR (j + 1) (by omega)
        rw [us j hj] at this
        simp only [List.length_append, List.length_cons, List.length_nil] at this
        omega
      refine .inl ⟨rfl, hk1.2.1 _ _ _ (heap_alloc_new X (oG x.s[j])) (.inr (.inr ⟨rfl, rfl, hnr⟩)), YieldAt.mono (hY (k - 1) _ x.s[j] W1 hj1 (by simp only [List.length_append]; omega)) ?_⟩
      rintro e W2 (⟨rfl, hj2, hk2⟩ | ⟨rfl, hx2⟩)
      · exact .inl ⟨rfl, by rw [us j hj]; simpa using hj2, ((p2.trans k1).trans hk1).trans hk2, Nat.le_trans p3 (Nat.le_trans hb.size (Nat.le_trans hk1.1.size hk2.1.size)), hk2.2.1 _ _ _ (hk1.2.1 _ _ _ (box_on p4 hb) (.inl rfl)) (.inl rfl)⟩
      · refine .inr ⟨rfl, upX j ++ (rowC j ++ [x.s[j]]), ?_, by simpa using hx2⟩
        rw [← us j hj]
        exact (List.prefix_append _ _).trans (up (j + 1) (by omega))
    · exact .inr ⟨rfl, upX j ++ q, ((List.prefix_append_right_inj _).2 hq).trans (up j (Nat.le_of_lt hj)), by simpa using hx1⟩
  · have hX0 := hW.trans p2
    refine ⟨(cell_of_row _ _ 0 _ _ _ p4).trans rfl, bkid_any (pt _ Bn hX0 p4) x.s.length (kl _ (Nat.le_refl _)), ?_⟩
    have hl := lenR x.s.length (Nat.le_refl _)
    refine (hch x.s.length (Nat.le_refl _) (k - 1) (pre ++ upX x.s.length) X hX0 p3 p1 (by simp only [List.length_append]; omega)).mono ?_
    rintro e W1 (⟨rfl, hj1, hk1⟩ | ⟨rfl, q, hq, hx1⟩)
    · exact .inl ⟨rfl, by rw [uR]; simpa using hj1, p2.trans hk1⟩
    · exact .inr ⟨rfl, upX x.s.length ++ q, ((List.prefix_append_right_inj _).2 hq).trans (up _ (Nat.le_refl _)), by simpa using hx1⟩
theorem kidV_at (x : Bt) (j : Nat) (hj : j < x.ks.length) : kidV ⟨x.s, x.ks.map Bt.idx⟩ j = (x.ks[j]).idx := by
  unfold kidV
  rw [if_neg (by show ¬ (x.ks.map Bt.idx).length = 0; rw [List.length_map]; omega)]
  show (x.ks.map Bt.idx).getD j _ = _
  rw [List.getD_eq_getElem?_getD, List.getElem?_map, List.getElem?_eq_getElem hj]; rfl
set_option maxHeartbeats 1000000 in
theorem brise_in (d : Nat) (hd2 : 2 ≤ d) (hd64 : d ≤ 64) (hn : n0 ≤ W0.heap.size) (hbl : bl < W0.heap.size) (hrow : ∀ k, rowAt bl W0 k → k < W0.heap.size)
    (hJ : ∀ pre W W', J pre W → Go.RowKit.Below W.heap.size W W' → J pre W')
    (hY : ∀ m pre g W, J pre W → pre.length < M → YieldAt Fence.wide m Try.prog l #[vG g] W fun e W' => (e = .returned (.bool true) ∧ J (pre ++ [g]) W' ∧ KpS bl n0 W W') ∨ (e = .returned (.bool false) ∧ Jx (pre ++ [g]) W'))
    (hT : ∀ W, KpS bl n0 W0 W → BtW W base T A t a S0) (hm : t.f (-1) = none) :
    ∀ (H : Nat) (x : Bt), RepB t.f H x → (DegR d H x ∨ Deg d H x) →
      ∀ (k : Nat) (pre : List G5) (W : World), KpS bl n0 W0 W → W0.heap.size ≤ W.heap.size → J pre W → pre.length + (Bt.ino H x).length ≤ M → CallsIn Fence.wide k Try.prog 64 #[aP T, .int .i64 x.idx, .func (.yield l) #[] #[]] W (Went bl n0 J Jx pre (Bt.ino H x) W) := by
  have nil : ∀ (k : Nat) (pre : List G5) (W : World), KpS bl n0 W0 W → W0.heap.size ≤ W.heap.size → J pre W → CallsIn Fence.wide k Try.prog 64 #[aP T, .int .i64 (-1), .func (.yield l) #[] #[]] W (Went bl n0 J Jx pre [] W) := fun k pre W hW hsz hj => by
    have hWt := hT W hW
    have hno : a.is (-1) = false := by
      cases e : a.is (-1) with
      | false => rfl
      | true => exact absurd hm ((hWt.is (-1)).1 e)
    refine (brise_no T A l k (-1) W ((cell_of_row _ _ 1 _ _ _ hWt.top).trans rfl) (Lib.hid (bnget_no hWt.ar hWt.ok (-1) hno))).mono ?_
    rintro e W' ⟨rfl, hb⟩
    exact .inl ⟨rfl, by rw [List.append_nil]; exact hJ _ _ _ hj hb, KpS.of_below hb (by omega) (by omega)⟩
  intro H
  induction H with
  | zero =>
    intro x hr hdeg
    have hk0 : x.ks = [] := hr.2
    obtain ⟨d1, d2⟩ : 1 ≤ x.s.length ∧ x.s.length + 1 ≤ 2 * d := by
      rcases hdeg with k | k
      · have := (degR_eq d 0 x).1 k; exact ⟨this.1.1, this.1.2⟩
      · have := (deg_eq d 0 x).1 k; exact ⟨by omega, this.1.2⟩
    have hkv : ∀ j, kidV ⟨x.s, x.ks.map Bt.idx⟩ j = -1 := fun j => by unfold kidV; rw [if_pos (by rw [hk0]; rfl)]
    have main := brise_node (T := T) (A := A) (l := l) (bl := bl) (n0 := n0) (M := M) (base := base) (t := t) (a := a) (S0 := S0) (J := J) (Jx := Jx) (W0 := W0) hn hbl hrow hJ hY hT x hr.node d1 (by omega) (.inl (by rw [hk0]; rfl)) (fun j => x.s.take j) (fun _ => []) x.s (List.take_zero) (fun j hj => by
      show x.s.take (j + 1) = x.s.take j ++ ([] ++ [x.s[j]])
      rw [List.take_succ_eq_append_getElem hj, List.nil_append]) (by
      show x.s = x.s.take x.s.length ++ []
      rw [List.take_length, List.append_nil]) (fun j hj => by
      show x.s.take j ++ [] <+: x.s
      rw [List.append_nil]; exact List.take_prefix j x.s) (fun j hj k pre W hW hsz hj' _ => by
      rw [hkv]
      exact nil k pre W hW hsz hj')
    exact main
  | succ H ih =>
    intro x hr hdeg
    obtain ⟨d1, d2, d4⟩ : 1 ≤ x.s.length ∧ x.s.length + 1 ≤ 2 * d ∧ DegK d (H + 1) x.ks := by
      rcases hdeg with k | k
      · have := (degR_eq d (H + 1) x).1 k; exact ⟨this.1.1, this.1.2, this.2⟩
      · have := (deg_eq d (H + 1) x).1 k; exact ⟨by omega, this.1.2, this.2⟩
    have hkl : x.ks.length = x.s.length + 1 := hr.2.1
    have hg : ∀ j (hj : j < x.ks.length), x.ks.getD j x = x.ks[j] := fun j hj => by rw [List.getD_eq_getElem?_getD, List.getElem?_eq_getElem hj]; rfl
    refine brise_node (T := T) (A := A) (l := l) (bl := bl) (n0 := n0) (M := M) (base := base) (t := t) (a := a) (S0 := S0) (J := J) (Jx := Jx) (W0 := W0) hn hbl hrow hJ hY hT x hr.node d1 (by omega) (.inr hkl) (upR H x) (fun j => Bt.ino H (x.ks.getD j x)) (Bt.ino (H + 1) x) (upR_zero H x) (fun j hj => ?_) ?_ (fun j hj => ?_) (fun j hj k pre W hW hsz hj' hl => ?_)
    · rw [hg j (by omega)]; exact upR_succ H x hr j hj (by omega)
    · rw [hg x.s.length (by omega)]; exact upR_all H x hr (by omega)
    · rw [hg j (by omega)]; exact upR_pre H x hr j (by omega)
    · rw [kidV_at x j (by omega)]
      rw [hg j (by omega)] at hl ⊢
      have hmem := List.getElem_mem (show j < x.ks.length by omega)
      exact ih x.ks[j] (hr.2.2 _ hmem) (.inr (d4 _ hmem)) k pre W hW hsz hj' hl
end
abbrev oBP (T : Nat) : Obj := .cells #[aP T] 26
theorem ball_any (T : Nat) (w : World) : Calls Try.prog 34 #[aP T] w fun e w' => e = .returned (.func (.func 63) #[] #[.pointer (some ⟨w.heap.size, 0, none⟩)]) ∧ w.alloc (oBP T) = w' := by
  go_enter Try.func34, Try.ntmps34
  go_wp2_with fail
  go_ret
  exact ⟨rfl, rfl⟩
theorem two_waysB {e : Ending} {p q : Prop} (h : (e = .returned (.bool true) ∧ p) ∨ (e = .returned (.bool false) ∧ q)) : ∃ b, e = .returned (.bool b) ∧ (p ∨ q) := h.elim (fun ⟨a, b⟩ => ⟨true, a, .inl b⟩) (fun ⟨a, b⟩ => ⟨false, a, .inr b⟩)
theorem yield_anyB {m m' : Nat} {P : Program} {l : Nat} {args : Array Value} {W : World} {R : Ending → World → Prop} (h : YieldAt Fence.wide m P l args W R) : YieldAt Fence.wide m' P l args W R := by
  obtain ⟨fn, tmps, assign, body, hy, hR⟩ := h
  exact ⟨fn, tmps, assign, body, hy, hR.1, fun c cs _ => hR.2 c cs (fun d h => by cases h)⟩
theorem below_drewB (W : World) : Go.RowKit.Below W.heap.size W W.drew := (Go.RowKit.Below.refl _ _).drew
set_option maxHeartbeats 2000000 in
theorem ball1_core (T Bn l k : Nat) (root : Int) (PA PX : World → Prop) (W : World) (HB : Hid (W.heap[Bn]? = some (oBP T))) (HT : Hid (W.cell? ⟨T, 2, none⟩ = some (.int .i64 root)))
    (H : Hid (∀ W', Go.RowKit.Below W.heap.size W W' → CallsIn Fence.wide (k - 1) Try.prog 64 #[aP T, .int .i64 root, .func (.yield l) #[] #[]] W' fun e W2 => (e = .returned (.bool true) ∧ PA W2) ∨ (e = .returned (.bool false) ∧ PX W2))) :
    CallsIn Fence.wide k Try.prog 63 #[.func (.yield l) #[] #[], .pointer (some ⟨Bn, 0, none⟩)] W fun e W' => (∃ v, e = .returned v) ∧ (PA W' ∨ PX W') := by
  have mx := mixed
  have c0 : W.cell? ⟨Bn, 0, none⟩ = some (aP T) := (cell_of_row _ _ 0 _ _ _ HB.out).trans rfl
  have c1 := HT.out
  have hdd : ∀ m : Nat, (Fence.wide.depth.isSome = true → 1 ≤ m) := fun m h => by cases h
  refine callsIn_of_wp Try.func63 rfl trivial ?_ rfl
  simp only [Try.ntmps63, List.size_toArray, List.length_cons, List.length_nil, Nat.reduceAdd, Nat.reduceSub, Array.replicate_succ, Array.replicate_zero, List.push_toArray, List.append_toArray, List.nil_append, List.cons_append]
  gi_region_with_o (refine ⟨trivial, ?_⟩; refine ⟨hdd _, ?_⟩; gi_at_call 64; refine (H.out _ (below_drewB W)).mono ?_; rintro e W2 h2; obtain ⟨b2, rfl, h3⟩ := two_waysB h2)
  all_goals
    go_end0
    exact ⟨⟨_, rfl⟩, by assumption⟩
theorem ball_stops (k Bn bl n0 base T A d : Nat) {t : Bx} {a : Ag Rn} {S0 : Nat → Prop} {L : List G5} (w : World) (h : BtW w base T A t a S0) (ok : BtOk t d L) (hS : ∀ b, btS T t a S0 b → b < n0) (hn0 : n0 ≤ w.heap.size) (hB : w.heap[Bn]? = some (oBP T)) (hbl : bl < w.heap.size) (hrow : ∀ k, rowAt bl w k → k < w.heap.size) :
    SeqStopsK Fence.wide k Try.prog 63 #[.pointer (some ⟨Bn, 0, none⟩)] (fun g : G5 => #[vG g]) (KpS bl n0) (fun ys => ys = L) (fun pre => pre <+: L) L.length w := fun l J Jx W hW hJ _ hY h0 => by
  have hWr := h.below hW
  have hsz := hW.size
  have tr : ∀ W', KpS bl n0 W W' → BtW W' base T A t a S0 := fun W' hk => hWr.kp (kp_of_belowB hk.1) (fun b hb hge => by have := hS b hb; omega)
  have hR : W.cell? ⟨T, 2, none⟩ = some (.int .i64 t.root) := (cell_of_row _ _ 2 _ _ _ hWr.top).trans rfl
  have hrow2 : ∀ k, rowAt bl W k → k < W.heap.size := fun k hk => by
    obtain ⟨v, hv, ho⟩ := hk
    have := hrow k ⟨v, (hW.block bl hbl).symm.trans hv, ho⟩
    omega
  refine ball1_core T Bn l k t.root (fun W2 => ∃ ys, ys = L ∧ J ys W2) (fun W2 => ∃ pre, pre <+: L ∧ Jx pre W2) W (Lib.hid (box_on hB hW)) (Lib.hid hR) (Lib.hid fun W' hb => ?_)
  rcases ok.tree with ⟨e1, e2, e3, e4⟩ | ⟨H, x, z, hr, hL⟩
  · have hWt := tr W' (KpS.of_below hb (by omega) (by omega))
    have hno : a.is (-1) = false := by
      cases e : a.is (-1) with
      | false => rfl
      | true => exact absurd (e4 (-1)) ((hWt.is (-1)).1 e)
    rw [e3, e1]
    refine (brise_no T A l (k - 1) (-1) W' ((cell_of_row _ _ 1 _ _ _ hWt.top).trans rfl) (Lib.hid (bnget_no hWt.ar hWt.ok (-1) hno))).mono ?_
    rintro e W2 ⟨rfl, hb2⟩
    exact .inl ⟨rfl, _, rfl, abides_belowB hJ (abides_belowB hJ h0 hb) hb2⟩
  · have hm : t.f (-1) = none := by
      cases e : t.f (-1) with
      | none => rfl
      | some v =>
        obtain ⟨m, _, q⟩ := z.all (-1) (by rw [e]; simp)
        omega
    have hin := brise_in (M := L.length) (l := l) (J := J) (Jx := Jx) (W0 := W) d ok.d2 ok.d64 (by omega) (by omega) hrow2 (fun pre X Y hj hb => abides_belowB hJ hj hb) (fun m pre g X hj hl => yield_anyB (hY pre g X hj hl)) tr hm H x z.tree (.inl hr) (k - 1) [] W' (KpS.of_below hb (by omega) (by omega)) hb.size (abides_belowB hJ h0 hb) (by rw [hL]; simp)
    rw [show t.root = x.idx from z.root]
    refine hin.mono ?_
    rw [hL]
    rintro e W2 (⟨rfl, hj, _⟩ | ⟨rfl, q, hq, hx⟩)
    · exact .inl ⟨rfl, _, rfl, by simpa using hj⟩
    · exact .inr ⟨rfl, q, hq, by simpa using hx⟩
end Go.Proofs.Ytjgcdmeojjnjlaa
/- The laws' all: the segments of a tree, gone through. -/
namespace Go.Proofs.Ytjgcdmeojjnjlaa
open Go.RowKit Go.Sort Go.Shelf Go.Proofs.Ytjgcdmeojjnjlaa.Bo Go.Proofs.Ytjgcdmeojjnjlaa.Bb
set_option linter.unusedVariables false
set_option maxRecDepth 100000
attribute [local go_sem] Oper.semAt_some
/-- An append to a row, in a fence: where the row comes to lie. -/
theorem wpListIn_append_rowB {F : Fence} {n : Nat} (w : World) {ops : Array Oper} {rest : List Oper} {o : Oper} {ac : Act} {Q : Exit → Act → World → Prop}
    (hg : o.guard = none) (s x : Operand) (t : TypeId) (hop : o.op = Op.call { callee := Callee.builtin Builtin.append, args := #[s, x], argTypes := #[t, t] })
    (base : Nat) (e : TypeId) (i : TypeInfo) (z : Value) (size bytes : Nat) (h1 : Try.prog.underlying t = some (.slice e)) (h2 : Try.prog.info? e = some i) (h3 : i.zero = some z) (h4 : i.size = size) (h5 : i.bytes = bytes) (h6 : z.cells.size = size) (h7 : 0 < size)
    (v : Value) (k : Nat) (xs : List Value) (hs : ac.eval s = v) (hown : w.ownsRow base e size v k xs) (ad : Option Addr) (m c : Nat) (news : List Value) (hx : ac.eval x = .slice ad m c) (hn : news.length = m * size)
    (hc : Bs.Lies w ad news) (h1c : ∀ u ∈ news, u.oneCell' = true) (b1 : k + m ≤ maxLen) (b2 : (k + m) * bytes ≤ 140737488355328) (b3 : base ≤ w.heap.size)
    (hK : ∀ a' cap w', w'.ownsRow base e size (.slice a' (k + m) cap) (k + m) (xs ++ news) → w.grownBy w' v.ownBlock → ((Value.slice a' (k + m) cap).ownBlock = v.ownBlock ∨ (Value.slice a' (k + m) cap).ownBlock = some w.heap.size) → wpListIn F n Try.prog ops Q rest (ac.put o.dst (.slice a' (k + m) cap)) w') :
    wpListIn F n Try.prog ops Q (o :: rest) ac w := by
  refine wpListIn_plain hg fun K hK' => ?_
  obtain ⟨a', cap, w', hrun, r1, r2, r3⟩ := Bs.run_append_row (P := Try.prog) t o.type i z bytes h1 h2 h3 h4 h5 h6 h7 v k xs hown ad m c news hn hc h1c b1 b2 b3
  unfold Oper.wpIn
  refine ⟨?_, ?_⟩
  · simp [Oper.about, hop, resolve, Target.leads, Sem.run_pure]
  · rw [Oper.semAt_plain F _ _ (by rw [hop]; intro c hc'; cases hc')]
    simp [execOp, hop, resolve, invoke, builtin, hs, hx, hrun, Result.andThen]
    exact hK' _ _ (hK a' cap w' r1 r2 r3)
/-- Between two rounds of all: the row's box at b, what has come behind it. -/
def AllB (X : World) (b : Nat) (pre : List G5) (W : World) : Prop := (∃ v, Boxed W b 32 v ∧ W.ownsRow b 38 5 v pre.length (flatG pre) ∧ ∃ a cap, v = .slice a pre.length cap) ∧ Go.RowKit.Below b X W
theorem allB_own (X : World) (b B : Nat) (hX : b ≤ X.heap.size) (hB : b ≤ B) : OwnFrom B (AllB X b) :=
  OwnFrom.and (Own.from (holdsRow_own b b 32 38 5 (fun pre : List G5 => pre.length) flatG (fun pre v => ∃ a cap, v = .slice a pre.length cap)) _) (ownFrom_below hX hB)
theorem kpS_app {W w1 : World} {B k : Nat} {v v' : Value} {xs : List Value} {tmp : Obj} (hv : Boxed W B 32 v) (hrow : W.ownsRow B 38 5 v k xs) (hgrow : (W.alloc tmp).grownBy w1 v.ownBlock) (hat : v'.ownBlock = v.ownBlock ∨ v'.ownBlock = some (W.alloc tmp).heap.size) (hB1 : w1.heap[B]? = some (.cells #[v] 32 (0, 0))) (hlt : ∀ q, v'.ownBlock = some q → q < w1.heap.size) (hb : Go.RowKit.Below B W (w1.setCell ⟨B, 0, none⟩ v')) : KpS B B W (w1.setCell ⟨B, 0, none⟩ v') := by
  refine ⟨hb, fun j cs t hj ht => ?_, fun q hq => ?_⟩
  · have hjl := lt_of_block hj
    have h1 : (W.alloc tmp).heap[j]? = some (.cells cs t (0, 0)) := box_on hj (below_new W tmp)
    have h2 : w1.heap[j]? = some (.cells cs t (0, 0)) := (hgrow.block j (by simp; omega) (fun e => by
      rcases hrow.2 with ⟨rfl, _⟩ | ⟨g, cap, cur, rfl, _, hgb, _⟩
      · simp [Value.ownBlock] at e
      · obtain rfl : j = g := by simpa [Value.ownBlock] using e
        rw [hj] at hgb
        injection hgb with hgb
        injection hgb with _ hgb _
        subst hgb
        rcases ht with e1 | e1 | ⟨_, _, e3⟩
        · revert e1; decide
        · revert e1; decide
        · exact e3 ⟨_, hv, rfl⟩)).trans h1
    refine set_far h2 (fun e => ?_)
    subst e
    have := (show W.heap[j]? = _ from hv).symm.trans hj
    injection this with this
    injection this with _ this _
    subst this
    rcases ht with e1 | e1 | ⟨e1, _, _⟩ <;> (revert e1; decide)
  · obtain ⟨u, hu, ho⟩ := hq
    have hset : (w1.setCell ⟨B, 0, none⟩ v').heap[B]? = some (.cells #[v'] 32 (0, 0)) := heap_setCell_same w1 B 0 _ _ v' hB1
    have e := hset.symm.trans hu
    injection e with e
    injection e with e _ _
    obtain rfl : v' = u := by simpa using e
    rcases hat with h | h
    · exact .inl ⟨v, hv, h ▸ ho⟩
    · rw [h] at ho
      injection ho with ho
      refine .inr ⟨by rw [← ho]; simp, ?_⟩
      rw [World.size_setCell]
      exact hlt q (by rw [h, ho])
set_option maxHeartbeats 4000000 in
theorem bdall_any {w : World} {base T A d : Nat} {t : Bx} {a : Ag Rn} {S0 : Nat → Prop} {L : List G5} (h : BtW w base T A t a S0) (ok : BtOk t d L) : Calls Try.prog 17 #[aP T] w fun e w' => ∃ a cap, (e = .returned (.slice a L.length cap) ∧ GRow w' a L ∧ L.length ≤ cap) ∧ Go.RowKit.Below w.heap.size w w' := by
  have mx := mixed
  obtain ⟨i0, hi, hz0, hz1, hz2⟩ := info_parts Try.infoSeg
  have HTR := Lib.hid h
  have hlen := ok.le
  have hroom := ok.room
  have HOK := Lib.hid ok
  have hB0 : Go.RowKit.Below w.heap.size w ((w.alloc (.cells #[.slice none 0 0] 32)).alloc (oBP T)) := bt (below_new _ _) (below_new _ _)
  have HB0 := Lib.hid hB0
  have HBX : Hid (((w.alloc (.cells #[.slice none 0 0] 32)).alloc (oBP T)).heap[w.heap.size]? = some (.cells #[.slice none 0 0] 32 (0, 0))) := box_on (heap_alloc_new _ _) (below_new _ _)
  have HBT : Hid (((w.alloc (.cells #[.slice none 0 0] 32)).alloc (oBP T)).heap[w.heap.size + 1]? = some (oBP T)) := new_at' _ (by simp)
  clear h hB0
  refine (callsIn_wide (n := 6)).1 ?_
  refine callsIn_of_wp_marks Try.func17 rfl trivial ?_ rfl
  simp only [Try.ntmps17, List.size_toArray, List.length_cons, List.length_nil, Nat.reduceAdd, Nat.reduceSub, Array.replicate_succ, Array.replicate_zero, List.push_toArray, List.append_toArray, List.nil_append, List.cons_append]
  gi_wp2_with (refine ⟨trivial, ?_⟩; gi_at_call 34; refine (callsIn_wide.2 (ball_any T _)).mono ?_; rintro e w' ⟨rfl, rfl⟩)
  generalize (w.alloc (.cells #[.slice none 0 0] 32)).alloc (oBP T) = W0 at *
  have hsz : w.heap.size + 1 < W0.heap.size := lt_of_block HBT.out
  have hrow0 : ∀ k, rowAt w.heap.size W0 k → k < W0.heap.size := fun k hk => by
    obtain ⟨v, hv, ho⟩ := hk
    rw [HBX.out] at hv
    injection hv with hv
    injection hv with hv _ _
    obtain rfl : Value.slice none 0 0 = v := by simpa using hv
    cases ho
  refine wpIn_rangeFunc_ownH rfl (by omega) (gf := 63) (lb := #[.pointer (some ⟨w.heap.size + 1, 0, none⟩)]) rfl trivial (enters_of Try.func63 (by kernel_rfl) rfl)
    (ball_stops (6 - 1) (w.heap.size + 1) w.heap.size w.heap.size base T A d W0 (HTR.out.below HB0.out) HOK.out (fun b hb => HTR.out.blt b hb) HB0.out.size HBT.out (by omega) hrow0) KpS.trans (kpS_b HB0.out.size (by omega)) (Go.RowKit.Below.refl _ _) (fun _ => rfl)
    (AllB w w.heap.size) (fun _ _ _ => False) (allB_own w _ _ (Nat.le_refl _) HB0.out.size) (fun _ _ _ _ _ hs _ _ => hs)
    ⟨⟨_, HBX.out, World.ownsRow_nil _ _ _ _, none, 0, rfl⟩, HB0.out⟩
    (fun g a' W => ∃ Bx, W.heap[Bx]? = some (oG g) ∧ a' = { tmps := #[aP T, undef, .slice none 0 0, .pointer (some ⟨w.heap.size, 0, none⟩), .pointer (some ⟨Bx, 0, none⟩), aP T, .func (.func 63) #[] #[.pointer (some ⟨w.heap.size + 1, 0, none⟩)], vG g, undef, undef, undef, undef, undef], defers := [] })
    (fun g a' _ X Y row hs hg hr => by
      obtain ⟨Bx, h1, h2⟩ := hs
      exact ⟨Bx, (hg.block Bx (lt_of_block h1) (fun e => by obtain ⟨_, o, ho, hc⟩ := hr Bx e.symm; rw [h1] at ho; injection ho with ho; subst ho; cases hc)).trans h1, h2⟩)
    ?assign ?body ?done ?stop
  case assign =>
    rintro l pre g W K hI hK
    obtain ⟨⟨v, hv, hrow, hva⟩, hB⟩ := hI
    gi_wp2
    exact hK _ _ ((KeepsOthers.alloc _ _).from _) (KpS.of_below (below_new W (oG g)) hB.size (lt_of_block hv)) ⟨⟨v, hv.alloc _, hrow.alloc _, hva⟩, hB.alloc hB.size _⟩ ⟨W.heap.size, heap_alloc_new W (oG g), rfl⟩
  case body =>
    rintro l pre g a' W hl ⟨r, hr⟩ ⟨⟨v, hv, hrow, av, cv, hva⟩, hB⟩ ⟨Bx, hbx, rfl⟩ hlt
    have HV := Lib.hid hv
    have HROW := Lib.hid hrow
    have HB := Lib.hid hB
    have hc := hv.cell
    obtain ⟨c1, c2, c3, c4, c5⟩ := five_cells hbx
    simp only [Nat.zero_add] at c2 c3 c4 c5
    have hlen2 : pre.length ≤ 65536 := by omega
    have HLS : Hid (Bs.Lies (W.alloc (oG g)) (some ⟨W.heap.size, 0, none⟩) (flatG [g])) := Lib.hid (Bs.Lies.of_own (w := W.alloc (oG g)) (base := 0) (e := 38) (size := 5) (a := some ⟨W.heap.size, 0, none⟩) (n := 1) (cap := 1) (xs := flatG [g]) ⟨rfl, .inr ⟨W.heap.size, 1, _, rfl, Nat.zero_le _, heap_alloc_new W (oG g), Nat.le_refl _, by decide, rfl, rfl⟩⟩)
    have HR2 := Lib.hid (hrow.alloc (oG g))
    have hsz2 : w.heap.size ≤ (W.alloc (oG g)).heap.size := by have := hB.size; simp; omega
    clear hv hrow hB hbx hr hva
    gi_wp2_with (gi_at_builtin; refine wpListIn_append_rowB _ rfl _ _ 32 rfl w.heap.size 38 i0 (.agg #[.int .i64 0, .int .i64 0, .int .i64 0, .int .i64 0, .int .i64 0]) 5 40 Try.underlying32 hi hz0 hz1 hz2 rfl (by decide) v pre.length _ rfl HR2.out (some ⟨W.heap.size, 0, none⟩) 1 1 (flatG [g]) rfl rfl HLS.out (flatG_one [g]) (by unfold maxLen; omega) (by omega) hsz2 ?_; intro a' cap' w1 hown' hgrow hat; obtain ⟨hv1, hv2, hr2, hk2, hb2⟩ := HV.out.appended (by decide) HROW.out HB.out.size (Nat.le_refl _) hown' hgrow; have hkp := kpS_app HV.out HROW.out hgrow hat hv1 (fun q hq => (hown'.lt q hq).2) hb2; have hc1 := hv1.cell; have hf1 := hv1.frozen)
    refine ⟨hk2.from _, hkp, ⟨⟨_, hv2, ?_, ?_⟩, HB.out.trans hb2⟩⟩
    · rw [flatG_append, List.length_append]; exact hr2
    · exact ⟨_, _, by rw [List.length_append]; rfl⟩
  case done =>
    rintro D ys W hD rfl ⟨⟨v, hv, hrow, av, cv, rfl⟩, hB⟩ hK
    have hc := hv.cell
    have HK := Lib.hid hK
    have HROW := Lib.hid hrow
    have HB := Lib.hid hB
    clear hv hK hrow hB
    gi_wp2
    refine ⟨by simp, .inl ⟨_, _, rfl, run_takeDeferred HK.out, ?_⟩⟩
    refine ⟨_, results_tmp rfl _ _ _, av, cv, ⟨rfl, own_grow (ownsRow_putObj HROW.out _ HK.out rfl) rfl, own_capG HROW.out⟩, HB.out.trans (belowK_b (w := w) (Nat.le_refl _) W D _ _ (by have := HB0.out.size; omega) HK.out rfl rfl)⟩
  case stop =>
    rintro D c pre W _ _ h _
    exact h.elim
section
variable {w W : World} {T A d : Nat} {R : Int} {L M : List G5} {B : Nat → Prop} {a : Option Addr} {cap : Nat} {K : Nat → Prop}
theorem BkK.all (h : BkK w T A d R L B W) : Calls Try.prog 17 #[aP T] W fun e w' => ∃ a2 cap2, (e = .returned (.slice a2 L.length cap2) ∧ GRow w' a2 L ∧ L.length ≤ cap2) ∧ Go.RowKit.Below W.heap.size W w' := by
  obtain ⟨⟨t, a, S0, h1, h2, _⟩, _⟩ := h
  exact bdall_any h1 h2
end
end Go.Proofs.Ytjgcdmeojjnjlaa
/- The arena's Each, over nodes: its contract as a function that is ranged over. -/
namespace Go.Proofs.Ytjgcdmeojjnjlaa
open Go.RowKit Go.Sort Go.Shelf Go.Proofs.Ytjgcdmeojjnjlaa.Bo Go.Proofs.Ytjgcdmeojjnjlaa.Bb Go.Proofs.Ytjgcdmeojjnjlaa.Rf
set_option linter.unusedVariables false
set_option maxRecDepth 100000
attribute [local go_sem] Oper.semAt_some
/-- The taken places below k, rising. -/
def Bo.Ag.upTo {α : Type} (a : Ag α) (k : Nat) : List Nat := (List.range k).filter fun p => a.is (p : Int)
theorem upTo_yes {α : Type} (a : Ag α) (k : Nat) (h : a.is (k : Int) = true) : a.upTo (k + 1) = a.upTo k ++ [k] := by
  unfold Bo.Ag.upTo; rw [List.range_succ, List.filter_append]; simp [h]
theorem upTo_no {α : Type} (a : Ag α) (k : Nat) (h : a.is (k : Int) = false) : a.upTo (k + 1) = a.upTo k := by
  unfold Bo.Ag.upTo; rw [List.range_succ, List.filter_append]; simp [h]
theorem upTo_pre {α : Type} (a : Ag α) (k n : Nat) (h : k ≤ n) : a.upTo k <+: a.upTo n := by
  induction n with
  | zero => obtain rfl : k = 0 := by omega
            exact List.prefix_refl _
  | succ n ih =>
    by_cases e : k = n + 1
    · subst e; exact List.prefix_refl _
    · refine (ih (by omega)).trans ?_
      cases h : a.is (n : Int) with
      | true => rw [upTo_yes a n h]; exact List.prefix_append _ _
      | false => rw [upTo_no a n h]; exact List.prefix_refl _
theorem upTo_at {α : Type} (a : Ag α) (k n : Nat) (h : k < n) (hi : a.is (k : Int) = true) : (a.upTo n).getD (a.upTo k).length 0 = k ∧ (a.upTo k).length < (a.upTo n).length := by
  have h1 := upTo_pre a (k + 1) n h
  rw [upTo_yes a k hi] at h1
  obtain ⟨t, ht⟩ := h1
  rw [← ht]
  refine ⟨?_, by simp⟩
  rw [List.getD_eq_getElem?_getD, List.append_assoc, List.getElem?_append_right (Nat.le_refl _), Nat.sub_self]; rfl
theorem upTo_mem {α : Type} (a : Ag α) (n p : Nat) : p ∈ a.upTo n ↔ p < n ∧ a.is (p : Int) = true := by
  unfold Bo.Ag.upTo; simp [List.mem_filter]
abbrev encN (a : Ag Rn) (p : Nat) : Array Value := #[.int .i64 (p : Int), .agg #[.slice (a.l.getD p bnZ).s.a (a.l.getD p bnZ).s.n (a.l.getD p bnZ).s.c, .slice (a.l.getD p bnZ).k.a (a.l.getD p bnZ).k.n (a.l.getD p bnZ).k.c]]
/-- What a round keeps: all that lay below n0, and the block B. -/
def KpN (n0 B : Nat) (W W' : World) : Prop := Go.RowKit.Below n0 W W' ∧ W'.heap[B]? = W.heap[B]?
theorem KpN.trans {n0 B : Nat} {X Y Z : World} (h : KpN n0 B X Y) (k : KpN n0 B Y Z) : KpN n0 B X Z := ⟨h.1.trans k.1, k.2.trans h.2⟩
theorem kpN_b {n0 B : Nat} {w : World} (hn : n0 ≤ w.heap.size) (hB : B < w.heap.size) (W : World) (l : Nat) (o o' : Obj) (hl : w.heap.size ≤ l) (h : W.heap[l]? = some o) (h1 : o.isCells = false) (h2 : o.isWalk = false) : KpN n0 B W (W.putObj l o') :=
  ⟨belowK_b hn W l o o' hl h h1 h2, World.putObj_heap_other (by omega)⟩
theorem KpN.of_below {n0 B : Nat} {W W' : World} (h : Go.RowKit.Below W.heap.size W W') (hn : n0 ≤ W.heap.size) (hB : B < W.heap.size) : KpN n0 B W W' := ⟨h.mono hn, h.block B hB⟩
theorem beach_any (A : Nat) (w : World) : Calls Try.prog 70 #[aP A] w fun e w' => e = .returned (.func (.func 94) #[] #[.pointer (some ⟨w.heap.size, 0, none⟩)]) ∧ w.alloc (.cells #[aP A] 75) = w' := by
  go_enter Try.func70, Try.ntmps70
  go_wp2_with fail
  go_ret
  exact ⟨rfl, rfl⟩
set_option maxHeartbeats 4000000 in
theorem beach_seq (A Bn n0 base : Nat) (S : Nat → Prop) (a : Ag Rn) (w : World) (hA : bnIs w base A a S) (hok : a.ok) (hS : ∀ b, S b → b < n0) (hn0 : n0 ≤ w.heap.size) (hB : w.heap[Bn]? = some (.cells #[aP A] 75 (0, 0))) :
    SeqN Try.prog 94 #[.pointer (some ⟨Bn, 0, none⟩)] (fun j => encN a ((a.upTo a.l.length).getD j 0)) (KpN n0 Bn) (a.upTo a.l.length).length w := by
  intro n l J Jx W hW hJ hY h0
  have hA' := hA.below hW
  obtain ⟨pv, fv, hSe, h1⟩ := hA'
  obtain ⟨pa, pc, rfl, _⟩ := own_slice h1.prow
  have hl := a.lens hok
  have hbox := h1.box
  rw [a.ps_len] at hbox
  obtain ⟨⟨c1, c2, c3⟩, _⟩ := box3 hbox
  have HB := Lib.hid (box_on hB hW)
  have c0 := (cell_of_row _ _ 0 _ _ _ HB.out).trans rfl
  have hsz := hW.size
  have HG : Hid (∀ W', KpN n0 Bn W W' → bnIs W' base A a S) := fun W' hk => (hA.below hW).kp (kp_of_belowB hk.1) (fun b hb hge => by have := hS b hb; omega)
  have HY := Lib.hid hY
  have HJ := Lib.hid hJ
  have hpn : a.l.length ≤ 1000000 := by omega
  obtain ⟨pn, hpn2⟩ : ∃ pn, pn = a.l.length := ⟨_, rfl⟩
  have HPN := Lib.hid hpn2
  rw [← hpn2] at c2 hpn
  have hBl : Bn < W.heap.size := lt_of_block HB.out
  have hn0W : n0 ≤ W.heap.size := by omega
  clear hY hJ hA hB h1 hbox hl hSe hpn2
  refine callsIn_of_wp Try.func94 rfl trivial ?_ rfl
  simp only [Try.ntmps94, List.size_toArray, List.length_cons, List.length_nil, Nat.reduceAdd, Nat.reduceSub, Array.replicate_succ, Array.replicate_zero, List.push_toArray, List.append_toArray, List.nil_append, List.cons_append]
  have hdd : ∀ m : Nat, (Fence.wide.depth.isSome = true → 1 ≤ m) := fun m h => by cases h
  gi_wp2
  clear c0 c1 c2 c3
  gi_loopw [11] (fun i wr => ∃ k : Nat, k ≤ pn ∧ i = .int .i64 (k : Int) ∧ J (a.upTo k).length wr ∧ KpN n0 Bn W wr) (fun i _ => pn - (intOf i).toNat)
  case atStart => exact ⟨0, Nat.zero_le _, rfl, h0, Go.RowKit.Below.refl _ _, rfl⟩
  case round =>
    obtain ⟨k, hk, rfl, hJs, hkp⟩ := hrel
    have HJS := Lib.hid hJs
    have HK := Lib.hid hkp
    have c0 : wr.cell? ⟨Bn, 0, none⟩ = some (aP A) := (cell_of_row _ _ 0 _ _ _ (hkp.2.trans HB.out)).trans rfl
    have hws := hkp.1.size
    clear hJs hkp
    by_cases hlt : k < pn
    · cases hi : a.is (k : Int) with
      | true =>
        obtain ⟨hat, hlen⟩ := upTo_at a k a.l.length (by rw [← HPN.out]; exact hlt) hi
        have HGET := Lib.hid (bnget_yes (HG.out wr HK.out) hok k hi _ rfl)
        have HUP := Lib.hid (congrArg List.length (upTo_yes a k hi))
        rw [List.length_append] at HUP
        have HLEN := Lib.hid hlen
        have HAT := Lib.hid hat
        have t1 : (k : Int) < (pn : Int) := by omega
        have i1 : IntKind.i64.wrap ((k : Int) + 1) = (k : Int) + 1 := IntWalk.i64_in _ (by omega)
        clear hi hat hlen
        have HYK : Hid (∀ V, KpN n0 Bn wr V → J (a.upTo k).length V → YieldAt Fence.wide (n - 1) Try.prog l #[.int .i64 (k : Int), .agg #[.slice (a.l.getD k bnZ).s.a (a.l.getD k bnZ).s.n (a.l.getD k bnZ).s.c, .slice (a.l.getD k bnZ).k.a (a.l.getD k bnZ).k.n (a.l.getD k bnZ).k.c]] V fun e Y => (e = .returned (.bool true) ∧ J ((a.upTo k).length + 1) Y ∧ KpN n0 Bn V Y) ∨ (e = .returned (.bool false) ∧ Jx ((a.upTo k).length + 1) Y)) := fun V _ hv => by
          have := HY.out (n - 1) (a.upTo k).length V HLEN.out hv
          rw [HAT.out] at this
          exact this
        generalize a.l.getD k bnZ = x at *
        gi_wp2_with (refine ⟨trivial, ?_⟩; refine ⟨hdd _, ?_⟩; gi_at_call 86; refine (callsIn_wide.2 HGET.out).mono ?_; clear c0; rintro e y ⟨rfl, hb⟩; have hb1 := bt hb (below_new y (.cells #[.slice x.s.a x.s.n x.s.c, .slice x.k.a x.k.n x.k.c] 80)); have hjk := HJ.out _ _ _ HJS.out hb1; have hkk : KpN n0 Bn wr (y.alloc (.cells #[.slice x.s.a x.s.n x.s.c, .slice x.k.a x.k.n x.k.c] 80)) := KpN.of_below hb1 (by omega) (by omega); have hyk := HYK.out _ hkk hjk; have hNY := heap_alloc_new y (.cells #[.slice x.s.a x.s.n x.s.c, .slice x.k.a x.k.n x.k.c] 80); have n0' : (y.alloc (.cells #[.slice x.s.a x.s.n x.s.c, .slice x.k.a x.k.n x.k.c] 80)).cell? ⟨y.heap.size, 0, none⟩ = some (.slice x.s.a x.s.n x.s.c) := (cell_of_row _ _ 0 _ _ _ hNY).trans rfl; have n1' : (y.alloc (.cells #[.slice x.s.a x.s.n x.s.c, .slice x.k.a x.k.n x.k.c] 80)).cell? ⟨y.heap.size, 1, none⟩ = some (.slice x.k.a x.k.n x.k.c) := (cell_of_row _ _ 1 _ _ _ hNY).trans rfl; have HKK := Lib.hid (HK.out.trans hkk); clear hb hb1 hjk hkk hNY; obtain ⟨fn, tmps, assign, body, hy, hR⟩ := hyk)
        refine ⟨hdd _, ?_⟩
        refine hR.mono ?_
        clear hR n0' n1'
        rintro e W3 (⟨rfl, hJ3, hk3⟩ | ⟨rfl, hJx3⟩)
        · gi_wp2
          go_roundw
          case rel => exact ⟨k + 1, by omega, by push_cast; rfl, by rw [HUP.out]; exact hJ3, HKK.out.trans hk3⟩
          case measure => simp [intOf]; omega
        · gi_wp2
          refine bodyPost_ret (results_none rfl _ _ _) rfl ?_
          exact ⟨⟨_, rfl⟩, .inr ⟨_, HLEN.out, hJx3⟩⟩
      | false =>
        have HGET := Lib.hid (bnget_no (HG.out wr HK.out) hok (k : Int) hi)
        have HUP := Lib.hid (congrArg List.length (upTo_no a k hi))
        have t1 : (k : Int) < (pn : Int) := by omega
        have i1 : IntKind.i64.wrap ((k : Int) + 1) = (k : Int) + 1 := IntWalk.i64_in _ (by omega)
        clear hi
        gi_wp2_with (refine ⟨trivial, ?_⟩; refine ⟨hdd _, ?_⟩; gi_at_call 86; refine (callsIn_wide.2 HGET.out).mono ?_; clear c0; rintro e y ⟨rfl, hb⟩; have HB1 := Lib.hid (bt hb (below_new y (.cells #[.slice none 0 0, .slice none 0 0] 80))); clear hb)
        refine ⟨fun _ h => (by cases h), ?_⟩
        gi_wp2
        go_roundw
        case rel => exact ⟨k + 1, by omega, by push_cast; rfl, by rw [HUP.out]; exact HJ.out _ _ _ HJS.out HB1.out, HK.out.trans (KpN.of_below HB1.out (by omega) (by omega))⟩
        case measure => simp [intOf]; omega
    · obtain rfl : k = pn := by omega
      gi_wp2
      go_end0
      exact ⟨⟨_, rfl⟩, .inl (by rw [← HPN.out]; exact HJS.out)⟩
end Go.Proofs.Ytjgcdmeojjnjlaa
