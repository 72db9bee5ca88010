/- A part of the proof: contracts of the functions that the statements reach. -/
import Derived.RangeFuncNested
import Derived.RangeFuncBound
import Derived.RangeFuncCalls
import Derived.RangeFuncLeaves
import Derived.Shelf.Abstract
import Derived.Shelf.RegionOpen
import Derived.WalkKit
import Derived.OwnWalkIn
import Derived.TacticsInMore
import Derived.LoopNIn
import Derived.LoopIn
import Derived.Shelf.SlSortCmp.WholeK
import Derived.WalkSpells
import Derived.WalkLawsBesides
import Derived.Lib.Hide
import Derived.Laws.StructEq
import Derived.Shelf.SlSortCmp.QuietGrown
import Derived.Laws.EntriesVeiled
import Derived.Deep.CutRange
import Derived.RegionTactic
import Derived.Lib.QuietBelow
import Derived.BigQuiet
import Derived.OpenShut
import Derived.Deep.RegionHeld3
import Derived.Deep.QuietTactic
import Derived.Maps.AppendAt
import Derived.Laws.IdiomCopy
import Derived.Deep.AppendLies
import Derived.Deep.LoopGhost
import Derived.Deep.Upon
import Derived.StillTailTactics
import Derived.Lib.SmallJoins
import Derived.Deep.SlicePairs
import Derived.Deep.Strs
import Derived.ChangeOld
import Derived.SizedLaws
import Derived.Lib.SliceRun
import Derived.Laws.CopyRow
import Derived.Below
import Derived.Laws.CopyOwn
import Derived.Deep.RegionLaw
import Derived.IntWalk
import Derived.Lib.MinMax
import Derived.Test.YtjgcdmeojjnjlaaCN

/- Clear. -/
namespace Go.Proofs.Ytjgcdmeojjnjlaa
open Go.RowKit Go.Sort Go.Proofs.Ytjgcdmeojjnjlaa.Bo Go.Proofs.Ytjgcdmeojjnjlaa.Bb
set_option linter.unusedVariables false
set_option maxRecDepth 100000
section
variable {w : World} {base T A d : Nat} {t : Bx} {a : Ag Rn} {S0 : Nat → Prop} {L : List G5}
theorem bclear_core (T A : Nat) (t : Bx) (P1 P2 : World → Prop) (w : World) (hT : w.cell? ⟨T, 1, none⟩ = some (aP A))
    (HH : Hid (Calls Try.prog 75 #[aP A] w fun e w' => e = .returned (.tuple #[]) ∧ P1 w'))
    (HP : Hid (∀ W, P1 W → W.heap[T]? = some (bO A t) ∧ P2 ((W.setCell ⟨T, 2, none⟩ (.int .i64 (-1))).setCell ⟨T, 3, none⟩ (.int .i64 0)))) :
    Calls Try.prog 42 #[aP T] w fun e w' => e = .returned (.tuple #[]) ∧ P2 w' := by
  have mx := mixed
  go_enter Try.func42, Try.ntmps42
  go_wp2_with fail
  refine HH.out.mono ?_
  rintro e y1 ⟨rfl, hp⟩
  obtain ⟨h1, h2⟩ := HP.out _ hp
  have c1 : y1.cell? ⟨T, 2, none⟩ = some (.int .i64 t.root) := (cell_of_row _ _ 2 _ _ _ h1).trans rfl
  have c2 : y1.cell? ⟨T, 3, none⟩ = some (.int .i64 t.many) := (cell_of_row _ _ 3 _ _ _ h1).trans rfl
  have f1 : y1.frozen? ⟨T, 2, none⟩ = false := frozen_of_row _ _ _ _ _ h1
  have f2 : y1.frozen? ⟨T, 3, none⟩ = false := frozen_of_row _ _ _ _ _ h1
  have H2 := Lib.hid h2
  clear hp h1 h2 hT
  go_wp2_with fail
  go_end0
  exact ⟨rfl, H2.out⟩
theorem btclear_any (h : BtW w base T A t a S0) (ok : BtOk t d L) :
    Calls Try.prog 42 #[aP T] w fun e w' => e = .returned (.tuple #[]) ∧ BtT w (btS T t a S0) (fun _ => False) base T A d t.room [] w' := by
  refine bclear_core T A { t with f := fun _ => none, n := 0 } (fun W => BtH w (btS T t a S0) (fun _ => False) base T A { t with f := fun _ => none, n := 0 } W) _ w ((cell_of_row _ _ 1 _ _ _ h.top).trans rfl) (Lib.hid ?_) (Lib.hid fun W hW => ⟨hW.top, _, ((hW.setRoot (-1)).1.setMany 0).1, ⟨ok.dg, ok.d2, ok.d64, .inl ⟨rfl, rfl, rfl, fun _ => rfl⟩, rfl, ok.room, by have := ok.room; show ((0 : Nat) : Int) ≤ t.room; omega, rowOk_nil, fun g hg => by simp at hg⟩, rfl⟩)
  refine (bnreset_any h.ar).mono ?_
  rintro e w' ⟨S', ⟨rfl, hA⟩, hk, hs⟩
  have hr := ok.room
  refine ⟨rfl, Ag.new a.room, S', { top := hk.at h.top h.notT, le := h.le, ar := hA, ok := Ag.new_ok _ ⟨by rw [h.room]; omega, by rw [h.room]; omega⟩, room := h.room, len := rfl, is := ?_, node := ?_, apart := ?_, far := ?_ }, hk.mono (fun b hb => .inr (.inl hb)), ?_, fun b hb => hb.elim⟩
  · intro i
    rw [Ag.is_iff]
    simp only [Ag.new]
    constructor
    · rintro ⟨_, k1, k2⟩; omega
    · intro k; exact absurd rfl k
  · intro p n hp; cases hp
  · intro p q hp; exact absurd rfl hp
  · intro p hp; exact absurd rfl hp
  · rintro b (hb | hb | ⟨p, hp, _⟩)
    · exact .inl (.inl hb)
    · exact (hs b hb).imp (fun q => .inr (.inl q)) id
    · exact absurd rfl hp
end
end Go.Proofs.Ytjgcdmeojjnjlaa
/- Height: the walk. -/
namespace Go.Proofs.Ytjgcdmeojjnjlaa
open Go.RowKit Go.Sort Go.Proofs.Ytjgcdmeojjnjlaa.Bo Go.Proofs.Ytjgcdmeojjnjlaa.Bb
set_option linter.unusedVariables false
set_option maxRecDepth 100000
set_option maxHeartbeats 2000000 in
theorem bheight_core (T A : Nat) (root : Int) (N : Nat) (hN : N ≤ 100000) (pt : Nat → Option Addr) (w : World) (h1 : w.cell? ⟨T, 1, none⟩ = some (aP A)) (h2 : w.cell? ⟨T, 2, none⟩ = some (.int .i64 root))
    (HA : Hid (∀ X, Go.RowKit.Below w.heap.size w X → Calls Try.prog 50 #[aP A, .int .i64 root] X fun e w' => e = .returned (.pointer (pt 0)) ∧ X = w'))
    (HS : Hid (∀ i, i < N → ∃ (np : Addr) (x : Int), pt i = some np ∧ (∀ X, Go.RowKit.Below w.heap.size w X → Calls Try.prog 51 #[.pointer (some np), .int .i64 0] X fun e w' => e = .returned (.int .i64 x) ∧ X = w') ∧
      ∀ X, Go.RowKit.Below w.heap.size w X → Calls Try.prog 50 #[aP A, .int .i64 x] X fun e w' => e = .returned (.pointer (pt (i + 1))) ∧ X = w'))
    (HE : Hid (pt N = none)) : Calls Try.prog 21 #[aP T] w fun e w' => e = .returned (.int .i64 (N : Int)) ∧ Go.RowKit.Below w.heap.size w w' := by
  have mx := mixed
  have p1 := cell_regrown h1
  have p2 := cell_regrown h2
  have H1 := Lib.hid h1
  clear h1 h2
  go_enter Try.func21, Try.ntmps21
  go_upto_region 2 with fail
  refine wp_region_quiet_below (by assumption) (by kernel_rfl) ?_
  repeat (go_big_quiet_step (first
    | (go_at_call 50; exact Calls.regrown_of ((HA.out _ (below_regrown _ _ _)).mono fun e w' h => ⟨h.1, h.2 ▸ Go.RowKit.Below.refl _ _⟩))))
  refine wpQuiet_nil ?_
  intro _ hw'
  obtain ⟨⟨nq, osq⟩, hw''⟩ := hw'
  subst hw''
  have hb := below_regrown w nq osq
  clear p1 p2
  generalize grow (redrawn w nq) osq = Y at *
  go_wp2_with fail
  go_loopg [3, 4] N (fun k hv pv wr => ∃ i : Nat, k = N - i ∧ i ≤ N ∧ hv = .int .i64 (i : Int) ∧ pv = .pointer (pt i) ∧ Go.RowKit.Below w.heap.size w wr)
  case atStart => exact ⟨0, rfl, Nat.zero_le _, rfl, rfl, hb⟩
  case round =>
    obtain ⟨i, hki, hle, rfl, rfl, hbw⟩ := hrel
    have HB := Lib.hid hbw
    have HK := Lib.hid hki
    clear hbw hki
    by_cases hlt : i < N
    · obtain ⟨np, x, e1, k1, k2⟩ := HS.out i hlt
      rw [e1]
      have HK1 := Lib.hid k1
      have HK2 := Lib.hid k2
      have i1 : IntKind.i64.wrap ((i : Int) + 1) = (i : Int) + 1 := IntWalk.i64_in _ (by omega)
      have q1 := cell_regrown ((HB.out.cell (p := ⟨T, 1, none⟩) (World.block_lt_of_cell? w _ H1.out)).trans H1.out)
      clear k1 k2 e1
      go_upto_region 4 with fail
      refine wp_region_quiet_below (by assumption) (by kernel_rfl) ?_
      repeat (go_big_quiet_step (first
        | (go_at_call 51; exact Calls.regrown_of ((HK1.out _ (bt HB.out (below_regrown _ _ _))).mono fun e w' h => ⟨h.1, h.2 ▸ Go.RowKit.Below.refl _ _⟩))
        | (go_at_call 50; exact Calls.regrown_of ((HK2.out _ (bt HB.out (below_regrown _ _ _))).mono fun e w' h => ⟨h.1, h.2 ▸ Go.RowKit.Below.refl _ _⟩))))
      refine wpQuiet_nil ?_
      intro _ hw'
      obtain ⟨⟨nq2, osq2⟩, hw''⟩ := hw'
      subst hw''
      have hb2 := bt HB.out (below_regrown wr nq2 osq2)
      clear q1
      generalize grow (redrawn wr nq2) osq2 = Y2 at *
      go_wp2_with fail
      go_roundg (N - (i + 1))
      case measure => have := HK.out; omega
      case rel => exact ⟨i + 1, rfl, by omega, by push_cast; rfl, rfl, hb2⟩
    · obtain rfl : i = N := by omega
      rw [HE.out]
      go_wp2_with fail
      go_ret
      exact ⟨rfl, HB.out⟩
section
variable {w : World} {base T A d : Nat} {t : Bx} {a : Ag Rn} {S0 : Nat → Prop} {L : List G5}
theorem chain_any (h : BtW w base T A t a S0) (hm : t.f (-1) = none) : ∀ (H : Nat) (x : Bt), RepB t.f H x → ∃ pt : Nat → Option Addr, (∀ X, Go.RowKit.Below w.heap.size w X → Calls Try.prog 50 #[aP A, .int .i64 x.idx] X fun e w' => e = .returned (.pointer (pt 0)) ∧ X = w') ∧
    (∀ i, i < H + 1 → ∃ (np : Addr) (y : Int), pt i = some np ∧ (∀ X, Go.RowKit.Below w.heap.size w X → Calls Try.prog 51 #[.pointer (some np), .int .i64 0] X fun e w' => e = .returned (.int .i64 y) ∧ X = w') ∧
      ∀ X, Go.RowKit.Below w.heap.size w X → Calls Try.prog 50 #[aP A, .int .i64 y] X fun e w' => e = .returned (.pointer (pt (i + 1))) ∧ X = w') ∧ pt (H + 1) = none := by
  intro H
  induction H with
  | zero =>
    intro x hr
    obtain ⟨np, h1, h2⟩ := bat_node h x.i _ hr.node
    have hk : x.ks = [] := hr.2
    have hpt := h1
    obtain ⟨g, p, r, e, _⟩ := hpt
    obtain rfl : np = some ⟨g, p, none⟩ := by injection e
    refine ⟨fun i => if i = 0 then some ⟨g, p, none⟩ else none, h2, fun i hi => ⟨⟨g, p, none⟩, -1, if_pos (by omega), fun X hX => ?_, fun X hX => ?_⟩, rfl⟩
    · have := bkid_any (h1.below hX) 0 (fun q => absurd (show (x.ks.map Bt.idx).length = 0 by rw [hk]; rfl) q)
      rw [show kidV ⟨x.s, x.ks.map Bt.idx⟩ 0 = -1 by unfold kidV; rw [if_pos (by rw [hk]; rfl)]] at this
      exact this
    · have := bat_none (h.below hX) (-1) hm
      rw [show (fun i : Nat => if i = 0 then (some ⟨g, p, none⟩ : Option Addr) else none) (i + 1) = none from if_neg (by omega)]; exact this
  | succ H ih =>
    intro x hr
    obtain ⟨np, h1, h2⟩ := bat_node h x.i _ hr.node
    obtain ⟨_, q2, q3⟩ := hr
    obtain ⟨c, r, hk⟩ : ∃ c r, x.ks = c :: r := by
      cases e : x.ks with
      | nil => rw [e] at q2; simp at q2
      | cons c r => exact ⟨c, r, rfl⟩
    obtain ⟨pt, i1, i2, i3⟩ := ih c (q3 c (by rw [hk]; simp))
    have hpt := h1
    obtain ⟨g, p, r', e, _⟩ := hpt
    obtain rfl : np = some ⟨g, p, none⟩ := by injection e
    refine ⟨fun i => match i with | 0 => some ⟨g, p, none⟩ | i + 1 => pt i, h2, fun i hi => ?_, i3⟩
    cases i with
    | zero =>
      refine ⟨⟨g, p, none⟩, c.idx, rfl, fun X hX => ?_, i1⟩
      have := bkid_any (h1.below hX) 0 (fun q => Nat.pos_of_ne_zero q)
      rw [show kidV ⟨x.s, x.ks.map Bt.idx⟩ 0 = c.idx by unfold kidV; rw [if_neg (by rw [hk]; simp), hk]; rfl] at this
      exact this
    | succ i => exact i2 i (by omega)
theorem bheight_any (h : BtW w base T A t a S0) (ok : BtOk t d L) :
    ∃ N : Nat, ((L = [] ∧ N = 0) ∨ ∃ H x, Zo t.f t.n t.root H [] x [] ∧ DegR d H x ∧ Bt.ino H x = L ∧ N = H + 1) ∧ Calls Try.prog 21 #[aP T] w fun e w' => e = .returned (.int .i64 (N : Int)) ∧ Go.RowKit.Below w.heap.size w w' := by
  have c1 : w.cell? ⟨T, 1, none⟩ = some (aP A) := (cell_of_row _ _ 1 _ _ _ h.top).trans rfl
  have c2 : w.cell? ⟨T, 2, none⟩ = some (.int .i64 t.root) := (cell_of_row _ _ 2 _ _ _ h.top).trans rfl
  rcases ok.tree with ⟨e1, e2, e3, e4⟩ | ⟨H, x, z, hr, hL⟩
  · refine ⟨0, .inl ⟨e1, rfl⟩, bheight_core T A t.root 0 (by omega) (fun _ => none) w c1 c2 (Lib.hid fun X hX => ?_) (Lib.hid fun i hi => absurd hi (Nat.not_lt_zero _)) (Lib.hid rfl)⟩
    exact bat_none (h.below hX) _ (e4 _)
  · have hH := tree_high ok H x z hr hL
    have hm : t.f (-1) = none := by
      cases e : t.f (-1) with
      | none => rfl
      | some v =>
        obtain ⟨m, _, q⟩ := z.all (-1) (by rw [e]; simp)
        omega
    obtain ⟨pt, i1, i2, i3⟩ := chain_any h hm H x z.tree
    have hroot : t.root = x.idx := z.root
    refine ⟨H + 1, .inr ⟨H, x, z, hr, hL, rfl⟩, ?_⟩
    exact bheight_core T A t.root (H + 1) (by omega) pt w c1 c2 (Lib.hid (by rw [hroot]; exact i1)) (Lib.hid i2) (Lib.hid i3)
end
end Go.Proofs.Ytjgcdmeojjnjlaa
/- The laws' does; a tree of a call's own beside blocks that stay. -/
namespace Go.Proofs.Ytjgcdmeojjnjlaa
open Go.RowKit Go.Sort Go.Proofs.Ytjgcdmeojjnjlaa.Bo Go.Proofs.Ytjgcdmeojjnjlaa.Bb
set_option linter.unusedVariables false
set_option maxRecDepth 100000
abbrev RdB (f : Nat) (args : Array Value) (v : Value) (P : World → Prop) (W : World) : Prop := Calls Try.prog f args W fun e w' => e = .returned v ∧ P w'
abbrev vOb (k : Int) (s : G5) : Value := .agg #[.int .i64 k, .int .i64 s.ls, .int .i64 s.la, .int .i64 s.hs, .int .i64 s.ha, .int .i64 s.v]
abbrev oOb (k : Int) (s : G5) : Obj := .cells #[.int .i64 k, .int .i64 s.ls, .int .i64 s.la, .int .i64 s.hs, .int .i64 s.ha, .int .i64 s.v] 40
theorem ob_cells {W : World} {b : Nat} {k : Int} {s : G5} (h : W.heap[b]? = some (oOb k s)) : W.cell? ⟨b, 0, none⟩ = some (.int .i64 k) ∧ W.cell? ⟨b, 1, none⟩ = some (.int .i64 s.ls) ∧ W.cell? ⟨b, 2, none⟩ = some (.int .i64 s.la) ∧ W.cell? ⟨b, 3, none⟩ = some (.int .i64 s.hs) ∧ W.cell? ⟨b, 4, none⟩ = some (.int .i64 s.ha) ∧ W.cell? ⟨b, 5, none⟩ = some (.int .i64 s.v) :=
  ⟨(cell_of_row _ _ 0 _ _ _ h).trans rfl, (cell_of_row _ _ 1 _ _ _ h).trans rfl, (cell_of_row _ _ 2 _ _ _ h).trans rfl, (cell_of_row _ _ 3 _ _ _ h).trans rfl, (cell_of_row _ _ 4 _ _ _ h).trans rfl, (cell_of_row _ _ 5 _ _ _ h).trans rfl⟩
set_option maxHeartbeats 2000000 in
theorem bdoes_put (T : Nat) (s : G5) (e0 : Int) (PF : World → Prop) (w : World) (HP : Hid (∀ W, Go.RowKit.Below w.heap.size w W → RdB 38 #[aP T, vG s] (.int .i64 e0) PF W)) :
    RdB 15 #[aP T, vOb 0 s] (.tuple #[.bool false, .int .i64 e0]) PF w := by
  have mx := mixed
  have hb := heap_alloc_new w (oOb 0 s)
  obtain ⟨d0, d1, d2, d3, d4, d5⟩ := ob_cells hb
  have HB := Lib.hid (below_new w (oOb 0 s))
  clear hb
  go_enter Try.func15, Try.ntmps15
  go_wp2_with fail
  refine (HP.out _ HB.out).mono ?_
  rintro e y1 ⟨rfl, hp⟩
  have HP1 := Lib.hid hp
  clear hp d0 d1 d2 d3 d4 d5
  go_wp2_with fail
  go_ret2
  exact ⟨rfl, HP1.out⟩
set_option maxHeartbeats 2000000 in
theorem bdoes_del (T : Nat) (s : G5) (b0 : Bool) (PF : World → Prop) (w : World) (HP : Hid (∀ W, Go.RowKit.Below w.heap.size w W → RdB 41 #[aP T, .agg #[.int .i64 s.ls, .int .i64 s.la]] (.bool b0) PF W)) :
    RdB 15 #[aP T, vOb 1 s] (.tuple #[.bool b0, .int .i64 0]) PF w := by
  have mx := mixed
  have hb := heap_alloc_new w (oOb 1 s)
  obtain ⟨d0, d1, d2, d3, d4, d5⟩ := ob_cells hb
  have HB := Lib.hid (below_new w (oOb 1 s))
  clear hb
  go_enter Try.func15, Try.ntmps15
  go_wp2_with fail
  refine (HP.out _ HB.out).mono ?_
  rintro e y1 ⟨rfl, hp⟩
  have HP1 := Lib.hid hp
  clear hp d0 d1 d2 d3 d4 d5
  go_wp2_with fail
  go_ret2
  exact ⟨rfl, HP1.out⟩
set_option maxHeartbeats 2000000 in
theorem bdoes_clear (T : Nat) (s : G5) (PF : World → Prop) (w : World) (HP : Hid (∀ W, Go.RowKit.Below w.heap.size w W → RdB 42 #[aP T] (.tuple #[]) PF W)) :
    RdB 15 #[aP T, vOb 2 s] (.tuple #[.bool false, .int .i64 0]) PF w := by
  have mx := mixed
  have hb := heap_alloc_new w (oOb 2 s)
  obtain ⟨d0, d1, d2, d3, d4, d5⟩ := ob_cells hb
  have HB := Lib.hid (below_new w (oOb 2 s))
  clear hb
  go_enter Try.func15, Try.ntmps15
  go_wp2_with fail
  refine (HP.out _ HB.out).mono ?_
  rintro e y1 ⟨rfl, hp⟩
  have HP1 := Lib.hid hp
  clear hp d0 d1 d2 d3 d4 d5
  go_wp2_with fail
  go_ret2
  exact ⟨rfl, HP1.out⟩
set_option maxHeartbeats 2000000 in
theorem bdoes_other (T : Nat) (k : Int) (s : G5) (w : World) (h0 : ¬ k = 0) (h1 : ¬ k = 1) (h2 : ¬ k = 2) :
    Calls Try.prog 15 #[aP T, vOb k s] w fun e w' => e = .returned (.tuple #[.bool false, .int .i64 0]) ∧ Go.RowKit.Below w.heap.size w w' := by
  have mx := mixed
  have hb := heap_alloc_new w (oOb k s)
  obtain ⟨d0, d1, d2, d3, d4, d5⟩ := ob_cells hb
  have HB := Lib.hid (below_new w (oOb k s))
  have t0 : (k == 0) = false := by simpa using h0
  have t1 : (k == 1) = false := by simpa using h1
  have t2 : (k == 2) = false := by simpa using h2
  clear hb
  go_enter Try.func15, Try.ntmps15
  go_wp2_with fail
  go_ret2
  exact ⟨rfl, HB.out⟩
theorem BtW.lower {w : World} {b0 b1 T A : Nat} {t : Bx} {a : Ag Rn} {S0 : Nat → Prop} (h : BtW w b1 T A t a S0) (hb : b0 ≤ b1) : BtW w b0 T A t a S0 := by
  obtain ⟨pv, fv, hS, k⟩ := h.ar
  exact { top := h.top, le := Nat.le_trans hb h.le, ar := ⟨pv, fv, hS, ⟨k.box, own_base k.prow hb, own_base k.frow hb, Nat.le_trans hb k.le, k.ty⟩⟩, ok := h.ok, room := h.room, len := h.len, is := h.is, node := fun p n hp => ⟨own_base (h.node p n hp).s hb, own_base (h.node p n hp).k hb⟩, apart := h.apart, far := h.far }
/-- The call's own tree, of the degree d, holds L; the blocks B are none of its own. -/
structure BkK (w : World) (T A d : Nat) (R : Int) (L : List G5) (B : Nat → Prop) (W : World) : Prop where
  tr : ∃ t a S0, BtW W w.heap.size T A t a S0 ∧ BtOk t d L ∧ t.room = R ∧ ∀ b, B b → ¬ btS T t a S0 b ∧ b < W.heap.size
  be : Go.RowKit.Below w.heap.size w W
section
variable {w W W' : World} {T A d : Nat} {R : Int} {L M : List G5} {B C : Nat → Prop}
theorem BkK.row (h : BkK w T A d R L B W) : RowOk L := by obtain ⟨⟨t, a, S0, h1, h2, _⟩, _⟩ := h; exact h2.row
theorem BkK.ok (h : BkK w T A d R L B W) : ∀ g ∈ L, g.ok := by obtain ⟨⟨t, a, S0, h1, h2, _⟩, _⟩ := h; exact h2.ok
theorem BkK.on (h : BkK w T A d R L B W) (hb : Go.RowKit.Below W.heap.size W W') : BkK w T A d R L B W' := by
  obtain ⟨⟨t, a, S0, h1, h2, h3, h7⟩, h4⟩ := h
  exact ⟨⟨t, a, S0, h1.below hb, h2, h3, fun b hB => ⟨(h7 b hB).1, Nat.lt_of_lt_of_le (h7 b hB).2 hb.size⟩⟩, bt h4 hb⟩
/-- More blocks are kept, such as came since. -/
theorem BkK.keep (h : BkK w T A d R L B W) (hb : Go.RowKit.Below W.heap.size W W') (hC : ∀ b, C b → b < W'.heap.size ∧ (W.heap.size ≤ b ∨ B b)) : BkK w T A d R L C W' := by
  obtain ⟨⟨t, a, S0, h1, h2, h3, h7⟩, h4⟩ := h
  refine ⟨⟨t, a, S0, h1.below hb, h2, h3, fun b hb' => ⟨fun hS => ?_, (hC b hb').1⟩⟩, bt h4 hb⟩
  rcases (hC b hb').2 with k | k
  · have := h1.blt b hS; omega
  · exact (h7 b k).1 hS
theorem BkK.less (h : BkK w T A d R L B W) (hC : ∀ b, C b → B b) : BkK w T A d R L C W := by
  obtain ⟨⟨t, a, S0, h1, h2, h3, h7⟩, h4⟩ := h
  exact ⟨⟨t, a, S0, h1, h2, h3, fun b hb => h7 b (hC b hb)⟩, h4⟩
/-- A call that turns the tree's row from L to M: what is kept is as it was. -/
theorem BkK.call {f : Nat} {args : Array Value} {v : Value} (h : BkK w T A d R L B W)
    (hc : ∀ t a S0, BtW W w.heap.size T A t a S0 → BtOk t d L → t.room = R → RdB f args v (BtT W (btS T t a S0) (fun _ => False) w.heap.size T A d R M) W) : Calls Try.prog f args W fun e w' => e = .returned v ∧ BkK w T A d R M B w' ∧ (∀ b, B b → w'.heap[b]? = W.heap[b]?) := by
  obtain ⟨⟨t, a, S0, h1, h2, h3, h7⟩, h4⟩ := h
  refine (hc t a S0 h1 h2 h3).mono ?_
  rintro e w' ⟨rfl, t', ⟨a', S0', k1, k2, k3, _⟩, k4, k5⟩
  refine ⟨rfl, ⟨⟨t', a', S0', k1, k4, k5, fun b hb => ⟨fun hS => ?_, Nat.lt_of_lt_of_le (h7 b hb).2 k2.size⟩⟩, h4.trans (k2.to_below _ h4.size (fun b hb => (BtIs.lt ⟨a, S0, rfl, h1⟩ b hb).1))⟩, fun b hb => k2.block b (h7 b hb).2 (h7 b hb).1⟩
  rcases k3 b hS with e | e
  · exact (h7 b hb).1 e
  · have := (h7 b hb).2; omega
theorem bdoes_any {base T A d : Nat} {t : Bx} {a : Ag Rn} {S0 : Nat → Prop} {L : List G5} {w : World} (h : BtW w base T A t a S0) (ok : BtOk t d L) (k : Int) (s : G5) (hs : s.ok) :
    RdB 15 #[aP T, vOb k s] (.tuple #[.bool (doG L t.room k s).2.1, .int .i64 (doG L t.room k s).2.2]) (BtT w (btS T t a S0) (fun _ => False) base T A d t.room (doG L t.room k s).1) w := by
  have back : ∀ (W : World) (M : List G5), Go.RowKit.Below w.heap.size w W → ∀ w', BtT W (btS T t a S0) (fun _ => False) base T A d t.room M w' → BtT w (btS T t a S0) (fun _ => False) base T A d t.room M w' := by
    rintro W M hW w' ⟨t', ⟨a', S0', k1, k2, k3, k4⟩, k5, k6⟩
    exact ⟨t', ⟨a', S0', k1, (Kp.of_below _ hW).trans k2 (fun _ _ h => h), fun b hb => (k3 b hb).imp id (fun q => Nat.le_trans hW.size q), fun b hb => hb.elim⟩, k5, k6⟩
  unfold doG
  by_cases h0 : k = 0
  · subst h0
    rw [if_pos rfl]
    exact bdoes_put T s _ _ w (Lib.hid fun W hW => (btput_any (h.below hW) ok s hs).mono fun e w' ⟨he, hw⟩ => ⟨he, back W _ hW w' hw⟩)
  rw [if_neg h0]
  by_cases h1 : k = 1
  · subst h1
    rw [if_pos rfl]
    exact bdoes_del T s _ _ w (Lib.hid fun W hW => (btdel_any (h.below hW) ok s.ls s.la hs.1).mono fun e w' ⟨he, hw⟩ => ⟨he, back W _ hW w' hw⟩)
  rw [if_neg h1]
  by_cases h2 : k = 2
  · subst h2
    rw [if_pos rfl]
    exact bdoes_clear T s _ w (Lib.hid fun W hW => (btclear_any (h.below hW) ok).mono fun e w' ⟨he, hw⟩ => ⟨he, back W _ hW w' hw⟩)
  rw [if_neg h2]
  exact (bdoes_other T k s w h0 h1 h2).mono fun e w' ⟨he, hw⟩ => ⟨he, t, (btH_of h).below hw, ok, rfl⟩
theorem BkK.does (h : BkK w T A d R L B W) (k : Int) (s : G5) (hs : s.ok) :
    Calls Try.prog 15 #[aP T, vOb k s] W fun e w' => e = .returned (.tuple #[.bool (doG L R k s).2.1, .int .i64 (doG L R k s).2.2]) ∧ BkK w T A d R (doG L R k s).1 B w' ∧ (∀ b, B b → w'.heap[b]? = W.heap[b]?) :=
  h.call fun t a S0 h1 h2 h3 => by subst h3; exact bdoes_any h1 h2 k s hs
theorem BkK.put (h : BkK w T A d R L B W) (s : G5) (hs : s.ok) :
    Calls Try.prog 38 #[aP T, vG s] W fun e w' => e = .returned (.int .i64 (putG L R s).2) ∧ BkK w T A d R (putG L R s).1 B w' ∧ (∀ b, B b → w'.heap[b]? = W.heap[b]?) :=
  h.call fun t a S0 h1 h2 h3 => by subst h3; exact btput_any h1 h2 s hs
theorem BkK.del (h : BkK w T A d R L B W) (s x : Int) (hx : I64 x) :
    Calls Try.prog 41 #[aP T, .agg #[.int .i64 s, .int .i64 x]] W fun e w' => e = .returned (.bool (delG L (key s x)).2) ∧ BkK w T A d R (delG L (key s x)).1 B w' ∧ (∀ b, B b → w'.heap[b]? = W.heap[b]?) :=
  h.call fun t a S0 h1 h2 h3 => by subst h3; exact btdel_any h1 h2 s x hx
theorem BkK.check (h : BkK w T A d R L B W) : Calls Try.prog 19 #[aP T] W fun e w' => e = .returned (.bool true) ∧ Go.RowKit.Below W.heap.size W w' := by
  obtain ⟨⟨t, a, S0, h1, h2, _⟩, _⟩ := h; exact btcheck_any h1 h2
theorem BkK.len (h : BkK w T A d R L B W) : Calls Try.prog 18 #[aP T] W fun e w' => e = .returned (.int .i64 (L.length : Int)) ∧ Go.RowKit.Below W.heap.size W w' := by
  obtain ⟨⟨t, a, S0, h1, h2, _⟩, _⟩ := h
  rw [← h2.many]
  exact (bmany_any h1).mono fun e w' ⟨he, hw⟩ => ⟨he, hw ▸ Go.RowKit.Below.refl _ _⟩
theorem BkK.room (h : BkK w T A d R L B W) : Calls Try.prog 12 #[aP T] W fun e w' => e = .returned (.int .i64 R) ∧ Go.RowKit.Below W.heap.size W w' := by
  obtain ⟨⟨t, a, S0, h1, h2, rfl, _⟩, _⟩ := h
  exact (broom_any h1).mono fun e w' ⟨he, hw⟩ => ⟨he, hw ▸ Go.RowKit.Below.refl _ _⟩
theorem BkK.degree (h : BkK w T A d R L B W) : Calls Try.prog 13 #[aP T] W fun e w' => e = .returned (.int .i64 (d : Int)) ∧ Go.RowKit.Below W.heap.size W w' := by
  obtain ⟨⟨t, a, S0, h1, h2, rfl, _⟩, _⟩ := h
  rw [← h2.dg]
  exact (bdeg_any h1).mono fun e w' ⟨he, hw⟩ => ⟨he, hw ▸ Go.RowKit.Below.refl _ _⟩
/-- New, in a call's own world. -/
theorem bk_new (d : Nat) (room : Int) (h1 : 2 ≤ d ∧ d ≤ 64) (h2 : 0 ≤ room ∧ room ≤ 4096) (hW : Go.RowKit.Below w.heap.size w W) :
    Calls Try.prog 10 #[.int .i64 (d : Int), .int .i64 room] W fun e w' => ∃ T A, (e = .returned (.tuple #[aP T, .int .i64 0]) ∧ BkK w T A d room [] (fun _ => False) w') ∧ Go.RowKit.Below W.heap.size W w' := by
  refine (btnew_tree d room W h1 h2).mono ?_
  rintro e w' ⟨rfl, t, ⟨a, S0, k1, k2, k3, _⟩, k4, k5⟩
  have hb : Go.RowKit.Below W.heap.size W w' := k2.to_below _ (Nat.le_refl _) (fun b hb => hb.elim)
  exact ⟨_, _, ⟨rfl, ⟨⟨t, a, S0, k1.lower hW.size, k4, k5, fun b hb => hb.elim⟩, bt hW hb⟩⟩, hb⟩
end
end Go.Proofs.Ytjgcdmeojjnjlaa
/- The laws' alive. -/
namespace Go.Proofs.Ytjgcdmeojjnjlaa
open Go.RowKit Go.Sort Go.Proofs.Ytjgcdmeojjnjlaa.Bo Go.Proofs.Ytjgcdmeojjnjlaa.Bb
set_option linter.unusedVariables false
set_option maxRecDepth 100000
abbrev sgB (n : Int) : G5 := ⟨0, n, 0, 0, n⟩
set_option maxHeartbeats 1000000 in
theorem bseg_any (n : Int) (w : World) : Calls Try.prog 37 #[.int .i64 n] w fun e w' => e = .returned ((vG (sgB n))) ∧ Go.RowKit.Below w.heap.size w w' := by
  have hR := heap_alloc_new w zG
  obtain ⟨q0, q1, q2, q3, q4⟩ := five_cells (five_put (g := g0) hR (sgB n))
  have HE := Lib.hid (seg5_below (b := w.heap.size) (below_new w zG) (Nat.le_refl _) (sgB n))
  obtain ⟨d0, d1, d2, d3, d4⟩ := five_cells (g := g0) hR
  have z0 := five_frozen (g := g0) hR 0
  have z1 := five_frozen (g := g0) hR 1
  have z2 := five_frozen (g := g0) hR 2
  have z3 := five_frozen (g := g0) hR 3
  have z4 := five_frozen (g := g0) hR 4
  simp only [Nat.zero_add] at d1 d2 d3 d4 q1 q2 q3 q4
  clear hR
  go_enter Try.func37, Try.ntmps37
  go_upto_region 1 with fail
  generalize w.alloc zG = X at *
  go_wp2_with fail
  refine bodyPost_ret (v := vG (sgB n)) (by simp [results, Try.results37, go_sem, q0, q1, q2, q3, q4]) rfl ?_
  exact ⟨rfl, HE.out⟩
theorem sgB_ok (n : Int) (h : I64 n) : (sgB n).ok := ⟨h, by show I64 0; unfold I64; omega, h⟩
/-- The row behind j puts of alive. -/
def rowA : Nat → List G5
  | 0 => []
  | j + 1 => rowA j ++ [sgB ((j : Int) + 1)]
theorem rowA_put (j : Nat) (h : j < 4) : putG (rowA j) 9 (sgB ((j : Int) + 1)) = (rowA (j + 1), 0) := by
  match j, h with
  | 0, _ => show putG (rowA 0) 9 (sgB 1) = (rowA 1, 0); kernel_rfl
  | 1, _ => show putG (rowA 1) 9 (sgB 2) = (rowA 2, 0); kernel_rfl
  | 2, _ => show putG (rowA 2) 9 (sgB 3) = (rowA 3, 0); kernel_rfl
  | 3, _ => show putG (rowA 3) 9 (sgB 4) = (rowA 4, 0); kernel_rfl
theorem high4 {f : Int → Option Kn} (H : Nat) (x : Bt) (hr : DegR 2 H x) (hrep : RepB f H x) (h4 : (Bt.ino H x).length = 4) : H = 1 := by
  have hp := degR_pow 2 (by omega) H x hr hrep
  rw [h4] at hp
  match H with
  | 0 =>
    have h1 := ((degR_eq 2 0 x).1 hr).1.2
    have h2 : (Bt.ino 0 x) = x.s := rfl
    rw [h2] at h4
    omega
  | 1 => rfl
  | H + 2 =>
    exfalso
    have : 2 ^ (H + 2) = 4 * 2 ^ H := by rw [Nat.pow_add, Nat.mul_comm]
    have h1 : 1 ≤ 2 ^ H := Nat.one_le_two_pow
    omega
section
variable {w W W' : World} {T A d : Nat} {R : Int} {L M : List G5} {B C : Nat → Prop}
theorem BkK.floor (h : BkK w T A d R L B W) (s x : Int) (hx : I64 x) : Calls Try.prog 23 #[aP T, .agg #[.int .i64 s, .int .i64 x]] W fun e w' => e = .returned (.tuple #[vG (nearG L (key s x) 0).1, .bool (nearG L (key s x) 0).2]) ∧ Go.RowKit.Below W.heap.size W w' := by
  obtain ⟨⟨t, a, S0, h1, h2, _⟩, _⟩ := h; exact bfloor_any h1 h2 s x hx
theorem BkK.lower (h : BkK w T A d R L B W) (s x : Int) (hx : I64 x) : Calls Try.prog 24 #[aP T, .agg #[.int .i64 s, .int .i64 x]] W fun e w' => e = .returned (.tuple #[vG (nearG L (key s x) 1).1, .bool (nearG L (key s x) 1).2]) ∧ Go.RowKit.Below W.heap.size W w' := by
  obtain ⟨⟨t, a, S0, h1, h2, _⟩, _⟩ := h; exact blower_any h1 h2 s x hx
theorem BkK.higher (h : BkK w T A d R L B W) (s x : Int) (hx : I64 x) : Calls Try.prog 26 #[aP T, .agg #[.int .i64 s, .int .i64 x]] W fun e w' => e = .returned (.tuple #[vG (nearG L (key s x) 3).1, .bool (nearG L (key s x) 3).2]) ∧ Go.RowKit.Below W.heap.size W w' := by
  obtain ⟨⟨t, a, S0, h1, h2, _⟩, _⟩ := h; exact bhigher_any h1 h2 s x hx
theorem BkK.first (h : BkK w T A d R L B W) : Calls Try.prog 30 #[aP T] W fun e w' => e = .returned (.tuple #[vG (nearG L (key (-1) 0) 2).1, .bool (nearG L (key (-1) 0) 2).2]) ∧ Go.RowKit.Below W.heap.size W w' := by
  obtain ⟨⟨t, a, S0, h1, h2, _⟩, _⟩ := h; exact bfirst_any h1 h2
theorem BkK.last (h : BkK w T A d R L B W) : Calls Try.prog 31 #[aP T] W fun e w' => e = .returned (.tuple #[vG (nearG L (key 1 0) 0).1, .bool (nearG L (key 1 0) 0).2]) ∧ Go.RowKit.Below W.heap.size W w' := by
  obtain ⟨⟨t, a, S0, h1, h2, _⟩, _⟩ := h; exact blast_any h1 h2
end
abbrev noB : Nat → Prop := fun _ => False
set_option maxHeartbeats 4000000 in
theorem balive_any (w : World) : Calls Try.prog 9 #[] w fun e w' => e = .returned (.bool true) ∧ Go.RowKit.Below w.heap.size w w' := by
  have mx := mixed
  have HN := Lib.hid (bk_new (w := w) (W := w) 2 9 ⟨by omega, by omega⟩ (by decide) (Go.RowKit.Below.refl _ _))
  have HSG := Lib.hid bseg_any
  have HP : Hid (∀ (T A : Nat) W (j : Nat), j < 4 → BkK w T A 2 9 (rowA j) noB W → Calls Try.prog 38 #[aP T, vG (sgB ((j : Int) + 1))] W fun e w' => e = .returned (.int .i64 0) ∧ BkK w T A 2 9 (rowA (j + 1)) noB w' ∧ ∀ b, noB b → w'.heap[b]? = W.heap[b]?) := fun T A W j hj h => by
    have := h.put (sgB ((j : Int) + 1)) (sgB_ok _ (by unfold I64; omega))
    rw [rowA_put j hj] at this
    exact this
  have HFl : Hid (∀ (T A : Nat) W, BkK w T A 2 9 (rowA 4) noB W → Calls Try.prog 23 #[aP T, .agg #[.int .i64 0, .int .i64 9]] W fun e w' => e = .returned (.tuple #[vG (sgB 4), .bool true]) ∧ Go.RowKit.Below W.heap.size W w') := fun T A W h => by
    have := h.floor 0 9 (by unfold I64; omega)
    rw [show nearG (rowA 4) (key 0 9) 0 = (sgB 4, true) by kernel_rfl] at this
    exact this
  have HHi : Hid (∀ (T A : Nat) W, BkK w T A 2 9 (rowA 4) noB W → Calls Try.prog 26 #[aP T, .agg #[.int .i64 0, .int .i64 2]] W fun e w' => e = .returned (.tuple #[vG (sgB 3), .bool true]) ∧ Go.RowKit.Below W.heap.size W w') := fun T A W h => by
    have := h.higher 0 2 (by unfold I64; omega)
    rw [show nearG (rowA 4) (key 0 2) 3 = (sgB 3, true) by kernel_rfl] at this
    exact this
  have HHt : Hid (∀ (T A : Nat) W, BkK w T A 2 9 (rowA 4) noB W → Calls Try.prog 21 #[aP T] W fun e w' => e = .returned (.int .i64 2) ∧ Go.RowKit.Below W.heap.size W w') := fun T A W h => by
    obtain ⟨⟨t, a, S0, h1, h2, _⟩, _⟩ := h
    obtain ⟨N, h3, h4⟩ := bheight_any h1 h2
    rcases h3 with ⟨e, _⟩ | ⟨H, x, z, hr, hL, rfl⟩
    · exact absurd (congrArg List.length e) (by decide)
    · have hH := high4 H x hr z.tree (by rw [hL]; rfl)
      subst hH
      exact h4
  have HCk : Hid (∀ (T A : Nat) W (L : List G5), BkK w T A 2 9 L noB W → Calls Try.prog 19 #[aP T] W fun e w' => e = .returned (.bool true) ∧ Go.RowKit.Below W.heap.size W w') := fun T A W L h => h.check
  have HD1 : Hid (∀ (T A : Nat) W, BkK w T A 2 9 (rowA 4) noB W → Calls Try.prog 41 #[aP T, .agg #[.int .i64 0, .int .i64 4]] W fun e w' => e = .returned (.bool true) ∧ BkK w T A 2 9 (rowA 3) noB w' ∧ ∀ b, noB b → w'.heap[b]? = W.heap[b]?) := fun T A W h => by
    have := h.del 0 4 (by unfold I64; omega)
    rw [show delG (rowA 4) (key 0 4) = (rowA 3, true) by kernel_rfl] at this
    exact this
  have HD2 : Hid (∀ (T A : Nat) W, BkK w T A 2 9 (rowA 3) noB W → Calls Try.prog 41 #[aP T, .agg #[.int .i64 0, .int .i64 4]] W fun e w' => e = .returned (.bool false) ∧ BkK w T A 2 9 (rowA 3) noB w' ∧ ∀ b, noB b → w'.heap[b]? = W.heap[b]?) := fun T A W h => by
    have := h.del 0 4 (by unfold I64; omega)
    rw [show delG (rowA 3) (key 0 4) = (rowA 3, false) by kernel_rfl] at this
    exact this
  have HLn : Hid (∀ (T A : Nat) W, BkK w T A 2 9 (rowA 3) noB W → Calls Try.prog 18 #[aP T] W fun e w' => e = .returned (.int .i64 3) ∧ Go.RowKit.Below W.heap.size W w') := fun T A W h => h.len
  have HDg : Hid (∀ (T A : Nat) W (L : List G5), BkK w T A 2 9 L noB W → Calls Try.prog 13 #[aP T] W fun e w' => e = .returned (.int .i64 2) ∧ Go.RowKit.Below W.heap.size W w') := fun T A W L h => h.degree
  go_enter Try.func9, Try.ntmps9
  go_wp2_with fail
  refine HN.out.mono ?_
  rintro e y0 ⟨T, A, ⟨rfl, ht⟩, hb⟩
  have HT := Lib.hid ht
  clear ht hb
  go_wp2_with fail
  go_loopg [18] 4 (fun k kv wr => ∃ j : Nat, k = 4 - j ∧ j ≤ 4 ∧ kv = .int .i64 (j : Int) ∧ BkK w T A 2 9 (rowA j) noB wr)
  case atStart => exact ⟨0, rfl, by omega, rfl, HT.out⟩
  case round =>
    obtain ⟨j, hkj, hle, rfl, hbk⟩ := hrel
    have HKJ := Lib.hid hkj
    have HT1 := Lib.hid hbk
    clear hkj hbk HT
    by_cases hlt : j < 4
    · have i1 : IntKind.i64.wrap ((j : Int) + 1) = (j : Int) + 1 := IntWalk.i64_in _ (by omega)
      have i3 : (j : Int) < 4 := by omega
      go_wp2_with fail
      refine (HSG.out ((j : Int) + 1) _).mono ?_
      rintro e u3 ⟨rfl, hb⟩
      have HT2 := Lib.hid (HT1.out.on hb)
      clear hb HT1
      go_wp2_with fail
      refine (HP.out T A _ j hlt HT2.out).mono ?_
      rintro e v3 ⟨rfl, ht, _⟩
      have HT3 := Lib.hid ht
      clear ht HT2
      go_wp2_with fail
      go_roundg (4 - (j + 1))
      case measure => have := HKJ.out; omega
      case rel => exact ⟨j + 1, rfl, by omega, by push_cast; rfl, HT3.out⟩
    · obtain rfl : j = 4 := by omega
      clear HP HSG HN
      go_wp2_with fail
      refine (HFl.out T A _ HT1.out).mono ?_
      rintro e y1 ⟨rfl, hb⟩
      have HT2 := Lib.hid ((HT1.out.on hb).on (below_new _ (oG (sgB 4))))
      have HA := Lib.hid (heap_alloc_new y1 (oG (sgB 4)))
      clear hb HT1
      go_wp2_with fail
      refine (HHi.out T A _ HT2.out).mono ?_
      rintro e y2 ⟨rfl, hb⟩
      have HT3 := Lib.hid ((HT2.out.on hb).on (below_new _ (oG (sgB 3))))
      replace HA := Lib.hid (box_on (box_on HA.out hb) (below_new _ (oG (sgB 3))))
      have HB := Lib.hid (heap_alloc_new y2 (oG (sgB 3)))
      clear hb HFl HHi HT2
      go_wp2_with fail
      refine (HHt.out T A _ HT3.out).mono ?_
      rintro e x1 ⟨rfl, hb⟩
      have HT4 := Lib.hid (HT3.out.on hb)
      have k1 : x1.cell? ⟨y1.heap.size, 4, none⟩ = some (.int .i64 4) := (cell_of_row _ _ 4 _ _ _ (box_on HA.out hb)).trans rfl
      have k2 : x1.cell? ⟨y2.heap.size, 4, none⟩ = some (.int .i64 3) := (cell_of_row _ _ 4 _ _ _ (box_on HB.out hb)).trans rfl
      clear hb HT3
      go_wp2_with fail
      refine (HD1.out T A _ HT4.out).mono ?_
      rintro e x3 ⟨rfl, ht, _⟩
      have HT5 := Lib.hid ht
      clear ht k1 k2 HT4
      go_wp2_with fail
      refine (HD2.out T A _ HT5.out).mono ?_
      rintro e x4 ⟨rfl, ht, _⟩
      have HT6 := Lib.hid ht
      clear ht HT5
      go_wp2_with fail
      refine (HLn.out T A _ HT6.out).mono ?_
      rintro e x5 ⟨rfl, hb⟩
      have HT7 := Lib.hid (HT6.out.on hb)
      clear hb HT6
      go_wp2_with fail
      refine (HCk.out T A _ _ HT7.out).mono ?_
      rintro e x6 ⟨rfl, hb⟩
      have HT8 := Lib.hid (HT7.out.on hb)
      clear hb HT7
      go_wp2_with fail
      refine (HDg.out T A _ _ HT8.out).mono ?_
      rintro e x7 ⟨rfl, hb⟩
      have HT9 := Lib.hid (HT8.out.on hb)
      clear hb HT8
      go_wp2_with fail
      go_ret
      exact ⟨rfl, HT9.out.be⟩
end Go.Proofs.Ytjgcdmeojjnjlaa
/- Spans as arguments: one by value, a slice of them. -/
namespace Go.Proofs.Ytjgcdmeojjnjlaa
open Go.ChangeShapes Go.WideShapes Go.ChangeAt Go.RowKit Go.Sort Go.Joins Go.Proofs.Ytjgcdmeojjnjlaa.Bo
set_option linter.unusedVariables false
set_option maxRecDepth 100000 in
theorem trod_cut2 {H : Type} {enc : TypeId × Value → H} {w : World} {base : Nat} {spare : Nat → Bool} {held : Bool} {n : Nat} {cs : List Value} {y : DataW H × List MemPlace} (h : DataW.trod enc Try.prog w base spare held n 34 cs = some y) :
    ∃ s a : Int, cs = [.int .i64 s, .int .i64 a] ∧ I64 a := by
  obtain ⟨y0, y1, n', hx, hlen, h0, h1⟩ := trod_struct2 Try.underlying34 h
  rw [show Try.prog.cellsOf 34 = 2 by kernel_rfl] at hlen
  obtain ⟨s, es, _, _⟩ := DataW.trod_int Try.underlying3 h0
  obtain ⟨a, ea, _, wa⟩ := DataW.trod_int Try.underlying2 h1
  match cs, hlen with
  | [v0, v1], _ =>
    rw [show Try.prog.cellsOf 3 = 1 by kernel_rfl] at es
    rw [show Try.prog.cellsOf 2 = 1 by kernel_rfl] at ea
    simp at es ea
    exact ⟨s, a, by rw [es, ea], i64_of_wf2 wa⟩
set_option maxRecDepth 100000 in
theorem trod_span {H : Type} {enc : TypeId × Value → H} {w : World} {base : Nat} {spare : Nat → Bool} {held : Bool} {n : Nat} {cs : List Value} {y : DataW H × List MemPlace} (h : DataW.trod enc Try.prog w base spare held n 36 cs = some y) :
    ∃ q : S4, cs = [.int .i64 q.ls, .int .i64 q.la, .int .i64 q.hs, .int .i64 q.ha] ∧ q.ok := by
  obtain ⟨y0, y1, n', hx, hlen, h0, h1⟩ := trod_struct2 Try.underlying36 h
  rw [show Try.prog.cellsOf 36 = 4 by kernel_rfl] at hlen
  obtain ⟨ls, la, e1, o1⟩ := trod_cut2 h0
  obtain ⟨hs, ha, e2, o2⟩ := trod_cut2 h1
  match cs, hlen with
  | [v0, v1, v2, v3], _ =>
    rw [show Try.prog.cellsOf 34 = 2 by kernel_rfl] at e1 e2
    simp at e1 e2
    exact ⟨⟨ls, la, hs, ha⟩, by rw [e1.1, e1.2, e2.1, e2.2], o1, o2⟩
end Go.Proofs.Ytjgcdmeojjnjlaa
/- Calls of the document's tree as arguments: one by value, a slice of them. -/
namespace Go.Proofs.Ytjgcdmeojjnjlaa
open Go.ChangeShapes Go.WideShapes Go.ChangeAt Go.RowKit Go.Sort Go.Joins Go.Proofs.Ytjgcdmeojjnjlaa.Bo
set_option linter.unusedVariables false
/-- A call: its kind, a segment. -/
structure O6 where
  k : Int
  s : G5
def O6.ok (o : O6) : Prop := I64 o.k ∧ o.s.ok
def Cells6 (w : World) (b x : Nat) (o : O6) : Prop := w.cell? ⟨b, x, none⟩ = some (.int .i64 o.k) ∧ Cells5 w b (x + 1) o.s
theorem Cells6.below {w w' : World} {b x : Nat} {o : O6} (h : Cells6 w b x o) (hb : Go.RowKit.Below w.heap.size w w') : Cells6 w' b x o :=
  ⟨(hb.cell (World.block_lt_of_cell? w _ h.1)).trans h.1, h.2.below hb⟩
/-- A slice of calls that holds l. -/
def QRow (w : World) (a : Option Addr) (l : List O6) : Prop := 0 < l.length → ∃ b off, a = some ⟨b, off, none⟩ ∧ ∀ (j : Nat) (h : j < l.length), Cells6 w b (off + j * 6) l[j]
theorem QRow.below {w w' : World} {a : Option Addr} {l : List O6} (h : QRow w a l) (hb : Go.RowKit.Below w.heap.size w w') : QRow w' a l := by
  intro hp
  obtain ⟨b, off, e, hc⟩ := h hp
  exact ⟨b, off, e, fun j hj => (hc j hj).below hb⟩
set_option maxRecDepth 100000 in
theorem trod_seg {H : Type} {enc : TypeId × Value → H} {w : World} {base : Nat} {spare : Nat → Bool} {held : Bool} {n : Nat} {cs : List Value} {y : DataW H × List MemPlace} (h : DataW.trod enc Try.prog w base spare held n 38 cs = some y) :
    ∃ g : G5, cs = [.int .i64 g.ls, .int .i64 g.la, .int .i64 g.hs, .int .i64 g.ha, .int .i64 g.v] ∧ g.ok := by
  obtain ⟨y0, y1, n', hx, hlen, h0, h1⟩ := trod_struct2 Try.underlying38 h
  rw [show Try.prog.cellsOf 38 = 5 by kernel_rfl] at hlen
  obtain ⟨q, e1, o1⟩ := trod_span h0
  obtain ⟨v, ev, _, wv⟩ := DataW.trod_int Try.underlying2 h1
  match cs, hlen with
  | [v0, v1, v2, v3, v4], _ =>
    rw [show Try.prog.cellsOf 36 = 4 by kernel_rfl] at e1
    rw [show Try.prog.cellsOf 2 = 1 by kernel_rfl] at ev
    simp at e1 ev
    exact ⟨⟨q.ls, q.la, q.hs, q.ha, v⟩, by rw [e1.1, e1.2.1, e1.2.2.1, e1.2.2.2, ev], o1.1, o1.2, i64_of_wf2 wv⟩
set_option maxRecDepth 100000 in
theorem trod_op6 {H : Type} {enc : TypeId × Value → H} {w : World} {base : Nat} {spare : Nat → Bool} {held : Bool} {n : Nat} {cs : List Value} {y : DataW H × List MemPlace} (h : DataW.trod enc Try.prog w base spare held n 40 cs = some y) :
    ∃ o : O6, cs = [.int .i64 o.k, .int .i64 o.s.ls, .int .i64 o.s.la, .int .i64 o.s.hs, .int .i64 o.s.ha, .int .i64 o.s.v] ∧ o.ok := by
  obtain ⟨y0, y1, n', hx, hlen, h0, h1⟩ := trod_struct2 Try.underlying40 h
  rw [show Try.prog.cellsOf 40 = 6 by kernel_rfl] at hlen
  obtain ⟨k, ek, _, wk⟩ := DataW.trod_int Try.underlying3 h0
  obtain ⟨g, e1, o1⟩ := trod_seg h1
  match cs, hlen with
  | [v0, v1, v2, v3, v4, v5], _ =>
    rw [show Try.prog.cellsOf 3 = 1 by kernel_rfl] at ek
    rw [show Try.prog.cellsOf 38 = 5 by kernel_rfl] at e1
    simp at ek e1
    exact ⟨⟨k, g⟩, by rw [ek, e1.1, e1.2.1, e1.2.2.1, e1.2.2.2.1, e1.2.2.2.2], i64_of_wf2 wk, o1⟩
/-- A slice of calls. -/
def IsOps6 (w : World) (a : Option Addr) (len : Nat) (l : List O6) : Prop := len = l.length ∧ (∀ q ∈ l, q.ok) ∧ QRow w a l
theorem isOps6_nil (w : World) : IsOps6 w none 0 [] := ⟨rfl, by simp, fun h => by simp at h⟩
theorem isOps6_of (w : World) (x : Addr) (len m : Nat) (hlm : len ≤ m) (hi : ∀ i, i < m → ∃ o : O6, (∀ j u, [Value.int .i64 o.k, .int .i64 o.s.ls, .int .i64 o.s.la, .int .i64 o.s.hs, .int .i64 o.s.ha, .int .i64 o.s.v][j]? = some u → w.cell? (x.add (i * 6 + j)) = some u) ∧ o.ok) : ∃ l, IsOps6 w (some x) len l := by
  have h' : ∀ i, ∃ o : O6, i < m → (∀ j u, [Value.int .i64 o.k, .int .i64 o.s.ls, .int .i64 o.s.la, .int .i64 o.s.hs, .int .i64 o.s.ha, .int .i64 o.s.v][j]? = some u → w.cell? (x.add (i * 6 + j)) = some u) ∧ o.ok := by
    intro i
    by_cases h : i < m
    · obtain ⟨o, h1⟩ := hi i h
      exact ⟨o, fun _ => h1⟩
    · exact ⟨⟨0, ⟨0, 0, 0, 0, 0⟩⟩, fun h2 => absurd h2 h⟩
  obtain ⟨f, hf⟩ := Classical.axiomOfChoice h'
  refine ⟨(List.range len).map f, by simp, ?_, ?_⟩
  · intro c hc
    obtain ⟨i, hi2, rfl⟩ := List.mem_map.1 hc
    exact (hf i (by have := List.mem_range.1 hi2; omega)).2
  · intro hp
    have hp' : 0 < len := by simpa using hp
    obtain ⟨b, off, spot⟩ := x
    have hspot : spot = none := by simpa [Addr.add] using World.cell?_spot ((hf 0 (by omega)).1 0 _ rfl)
    subst hspot
    refine ⟨b, off, rfl, fun j hj => ?_⟩
    have hj' : j < len := by simpa using hj
    have h1 := (hf j (by omega)).1
    simp only [List.getElem_map, List.getElem_range]
    have g0 := h1 0 _ rfl
    have g1 := h1 1 _ rfl
    have g2 := h1 2 _ rfl
    have g3 := h1 3 _ rfl
    have g4 := h1 4 _ rfl
    have g5 := h1 5 _ rfl
    rw [Addr.add_lit] at g0 g1 g2 g3 g4 g5
    exact ⟨g0, by rw [Nat.add_assoc]; exact g1, by rw [Nat.add_assoc, Nat.add_assoc]; exact g2, by rw [Nat.add_assoc, Nat.add_assoc]; exact g3, by rw [Nat.add_assoc, Nat.add_assoc]; exact g4, by rw [Nat.add_assoc, Nat.add_assoc]; exact g5⟩
set_option maxRecDepth 100000 in
theorem open_ops6 {H : Type} {enc : TypeId × Value → H} {w : World} {base : Nat} {spare : Nat → Bool} {held : Bool} {a : Option Addr} {len cap : Nat} {d : DataW H} {p : List MemPlace} (h : DataW.Trod enc Try.prog w base spare held 24 (.slice a len cap) d p) : ∃ l, IsOps6 w a len l := by
  obtain ⟨fuel, hf⟩ := h
  rcases Go.Deep.open_slice Try.underlying24 hf with ⟨hcs, _⟩ | ⟨x, l, c, m, n, D, Pl, hcs, _, hl, hm, hmm, _, hc⟩
  · simp [Value.cells] at hcs
    obtain ⟨rfl, rfl, rfl⟩ := hcs
    exact ⟨[], isOps6_nil w⟩
  · simp [Value.cells] at hcs
    obtain ⟨rfl, rfl, rfl⟩ := hcs
    have hlm : len ≤ m := by rw [hmm]; split <;> omega
    refine isOps6_of w x _ m hlm fun i hi => ?_
    obtain ⟨cs', h1, h2⟩ := hc i hi
    obtain ⟨o, e, ok⟩ := trod_op6 h2
    rw [show Try.prog.cellsOf 40 = 6 by kernel_rfl] at h1
    obtain ⟨_, hlen, hcell⟩ := World.cells?_some h1
    refine ⟨o, fun j u hu => ?_, ok⟩
    rw [e] at hlen hcell
    have hj : j < 6 := by
      rcases Nat.lt_or_ge j 6 with h | h
      · exact h
      · rw [List.getElem?_eq_none (by simpa using h)] at hu; cases hu
    have e0 := hcell j hj
    rw [Go.Deep.add_add] at e0
    rw [e0, hu]
end Go.Proofs.Ytjgcdmeojjnjlaa
/- The laws' made: a tree behind a script, and the document's row. -/
namespace Go.Proofs.Ytjgcdmeojjnjlaa
open Go.RowKit Go.Sort Go.Proofs.Ytjgcdmeojjnjlaa.Bo Go.Proofs.Ytjgcdmeojjnjlaa.Bb
set_option linter.unusedVariables false
set_option maxRecDepth 100000
abbrev seV (d R : Int) : Value := .agg #[.int .i64 d, .int .i64 R]
abbrev seO (d R : Int) : Obj := .cells #[.int .i64 d, .int .i64 R] 23
/-- The document's row behind a script. -/
def gRunB (R : Int) (z : List O6) : List G5 := z.foldl (fun l o => (doG l R o.k o.s).1) []
theorem gRunB_step (R : Int) (z : List O6) (j : Nat) (h : j < z.length) : gRunB R (z.take (j + 1)) = (doG (gRunB R (z.take j)) R z[j].k z[j].s).1 := by
  unfold gRunB
  rw [List.take_succ_eq_append_getElem h, List.foldl_append]
  rfl
theorem gRunB_len (R : Int) (z : List O6) : ∀ j, j ≤ z.length → (gRunB R (z.take j)).length ≤ j := by
  intro j
  induction j with
  | zero => intro _; show ([] : List G5).length ≤ 0; simp
  | succ j ih =>
    intro h
    rw [gRunB_step R z j (by omega)]
    have := ih (by omega)
    have := doG_len (gRunB R (z.take j)) R z[j].k z[j].s
    omega
/-- The blocks in which a row lies. -/
def GBb (a : Option Addr) (l : List G5) (b : Nat) : Prop := 0 < l.length ∧ ∃ off, a = some ⟨b, off, none⟩
theorem GRow.keptBb {W W' : World} {a : Option Addr} {l : List G5} (h : GRow W a l) (hk : ∀ b, GBb a l b → W'.heap[b]? = W.heap[b]?) : GRow W' a l := by
  intro hp
  obtain ⟨b, off, rfl, hc⟩ := h hp
  refine ⟨b, off, rfl, fun j hj => ?_⟩
  have e := hk b ⟨hp, off, rfl⟩
  have cell : ∀ o, W'.cell? ⟨b, o, none⟩ = W.cell? ⟨b, o, none⟩ := fun o => by unfold World.cell?; simp only [e]
  obtain ⟨c1, c2, c3, c4, c5⟩ := hc j hj
  exact ⟨(cell _).trans c1, (cell _).trans c2, (cell _).trans c3, (cell _).trans c4, (cell _).trans c5⟩
theorem GRow.ltb {W : World} {a : Option Addr} {l : List G5} (h : GRow W a l) : ∀ b, GBb a l b → b < W.heap.size := by
  rintro b ⟨hp, off, rfl⟩
  obtain ⟨b', off', e, hc⟩ := h hp
  injection e with e
  injection e with e1 e2 e3
  subst e1
  exact World.block_lt_of_cell? W _ (hc 0 hp).1
/-- The call's own tree, and the document's row, which is the same, beside it; the blocks K stay. -/
structure MdB (w : World) (T A d : Nat) (R : Int) (L M : List G5) (a : Option Addr) (cap : Nat) (K : Nat → Prop) (W : World) : Prop where
  tk : BkK w T A d R L (fun b => GBb a M b ∨ K b) W
  row : GRow W a M
  cap : M.length ≤ cap
section
variable {w W W' : World} {T A d : Nat} {R : Int} {L M : List G5} {a : Option Addr} {cap : Nat} {K : Nat → Prop}
theorem MdB.on (h : MdB w T A d R L M a cap K W) (hb : Go.RowKit.Below W.heap.size W W') : MdB w T A d R L M a cap K W' := ⟨h.tk.on hb, h.row.below hb, h.cap⟩
theorem MdB.be (h : MdB w T A d R L M a cap K W) : Go.RowKit.Below w.heap.size w W := h.tk.be
theorem MdB.klt (h : MdB w T A d R L M a cap K W) : ∀ b, K b → b < W.heap.size := fun b hb => by
  obtain ⟨⟨t, a, S0, _, _, _, h7⟩, _⟩ := h.tk
  exact (h7 b (.inr hb)).2
/-- More blocks are kept, such as came since. -/
theorem MdB.keep {K' : Nat → Prop} (h : MdB w T A d R L M a cap K W) (hb : Go.RowKit.Below W.heap.size W W') (hC : ∀ b, K' b → b < W'.heap.size ∧ (W.heap.size ≤ b ∨ K b)) : MdB w T A d R L M a cap K' W' := by
  refine ⟨h.tk.keep hb (fun b hb' => ?_), h.row.below hb, h.cap⟩
  rcases hb' with k | k
  · exact ⟨Nat.lt_of_lt_of_le (h.row.ltb b k) hb.size, .inr (.inl k)⟩
  · exact ⟨(hC b k).1, (hC b k).2.imp id .inr⟩
/-- The document's row is turned: another one, of a call's own making, or the same. -/
theorem MdB.turn {N : List G5} {a' : Option Addr} {cap' : Nat} (h : MdB w T A d R L M a cap K W) (hg : GRow W' a' N) (hc : N.length ≤ cap') (hn : (a' = a ∧ N = M) ∨ ∀ b off, 0 < N.length → a' = some ⟨b, off, none⟩ → W.heap.size ≤ b) (hb : Go.RowKit.Below W.heap.size W W') : MdB w T A d R L N a' cap' K W' := by
  refine ⟨h.tk.keep hb (fun b hB => ?_), hg, hc⟩
  rcases hB with k | k
  · refine ⟨hg.ltb b k, ?_⟩
    rcases hn with ⟨rfl, rfl⟩ | hn
    · exact .inr (.inl k)
    · obtain ⟨h0, off, rfl⟩ := k
      exact .inl (hn _ _ h0 rfl)
  · exact ⟨Nat.lt_of_lt_of_le (h.klt b k) hb.size, .inr (.inr k)⟩
/-- The document's call. -/
theorem MdB.doG (h : MdB w T A d R L L a cap K W) (k : Int) (s : G5) (hs : s.ok) (hl : L.length ≤ 9999) :
    Calls Try.prog 14 #[.slice a L.length cap, .int .i64 R, vOb k s] W fun e w' => ∃ a' cap', e = .returned (.tuple #[.slice a' (Bo.doG L R k s).1.length cap', .bool (Bo.doG L R k s).2.1, .int .i64 (Bo.doG L R k s).2.2]) ∧ MdB w T A d R L (Bo.doG L R k s).1 a' cap' K w' ∧ Go.RowKit.Below W.heap.size W w' := by
  refine (rdoG_any a cap L R k s W hs h.tk.ok h.row h.cap hl).mono ?_
  rintro e w' ⟨a', cap', ⟨rfl, hg, hc, hn⟩, hb⟩
  refine ⟨a', cap', rfl, h.turn hg hc ?_ hb, hb⟩
  rcases hn with ⟨rfl, e⟩ | hn
  · exact .inl ⟨rfl, e⟩
  · exact .inr (fun b off _ e => hn _ e)
/-- A call that turns the tree. -/
theorem MdB.call {L' : List G5} {f : Nat} {args : Array Value} {v : Value} (h : MdB w T A d R L M a cap K W) (hc : ∀ B, BkK w T A d R L B W → Calls Try.prog f args W fun e w' => e = .returned v ∧ BkK w T A d R L' B w' ∧ ∀ b, B b → w'.heap[b]? = W.heap[b]?) :
    Calls Try.prog f args W fun e w' => e = .returned v ∧ MdB w T A d R L' M a cap K w' ∧ ∀ b, K b → w'.heap[b]? = W.heap[b]? := by
  refine (hc _ h.tk).mono ?_
  rintro e w' ⟨rfl, hk, hB⟩
  exact ⟨rfl, ⟨hk, h.row.keptBb (fun b hb => hB b (.inl hb)), h.cap⟩, fun b hb => hB b (.inr hb)⟩
theorem MdB.does {k : Int} {s : G5} (h : MdB w T A d R L M a cap K W) (hs : s.ok) :
    Calls Try.prog 15 #[aP T, vOb k s] W fun e w' => e = .returned (.tuple #[.bool (Bo.doG L R k s).2.1, .int .i64 (Bo.doG L R k s).2.2]) ∧ MdB w T A d R (Bo.doG L R k s).1 M a cap K w' ∧ ∀ b, K b → w'.heap[b]? = W.heap[b]? :=
  h.call fun B hB => hB.does k s hs
end
theorem seO_cells {W : World} {b : Nat} {p q : Int} (h : W.heap[b]? = some (seO p q)) : W.cell? ⟨b, 0, none⟩ = some (.int .i64 p) ∧ W.cell? ⟨b, 1, none⟩ = some (.int .i64 q) :=
  ⟨(cell_of_row _ _ 0 _ _ _ h).trans rfl, (cell_of_row _ _ 1 _ _ _ h).trans rfl⟩
theorem mdb_new {w : World} (d : Nat) (room : Int) (h1 : 2 ≤ d ∧ d ≤ 64) (h2 : 0 ≤ room ∧ room ≤ 4096) (K : Nat → Prop) (W : World) (hW : Go.RowKit.Below w.heap.size w W) (hK : ∀ b, K b → b < W.heap.size) :
    Calls Try.prog 10 #[.int .i64 (d : Int), .int .i64 room] W fun e w' => ∃ T A, (e = .returned (.tuple #[aP T, .int .i64 0]) ∧ MdB w T A d room [] [] none 0 K w') ∧ Go.RowKit.Below W.heap.size W w' := by
  refine (btnew_tree d room W h1 h2).mono ?_
  rintro e w' ⟨rfl, t, ⟨a, S0, k1, k2, k3, _⟩, k4, k5⟩
  have hb : Go.RowKit.Below W.heap.size W w' := k2.to_below _ (Nat.le_refl _) (fun b hb => hb.elim)
  refine ⟨_, _, ⟨rfl, ⟨⟨⟨t, a, S0, k1.lower hW.size, k4, k5, fun b hB => ?_⟩, bt hW hb⟩, grow_nil _ _, Nat.le_refl _⟩⟩, hb⟩
  rcases hB with hB | hB
  · exact absurd hB.1 (by simp)
  · refine ⟨fun hS => ?_, Nat.lt_of_lt_of_le (hK b hB) hb.size⟩
    have := hK b hB
    rcases k3 b hS with q | q
    · exact q
    · omega
set_option maxHeartbeats 2000000 in
theorem bmade_no (d room : Int) (a : Option Addr) (len cap : Nat) (w : World) (h : ¬ ((2 ≤ d ∧ d ≤ 64) ∧ 0 ≤ room ∧ room ≤ 4096)) : Calls Try.prog 22 #[seV d room, .slice a len cap] w fun e w' => e = .returned (.tuple #[.pointer none, .slice none 0 0, .bool false]) ∧ Go.RowKit.Below w.heap.size w w' := by
  have mx := mixed
  have HN := Lib.hid (fun W => btnew_no d room W h)
  obtain ⟨c1, c2⟩ := seO_cells (heap_alloc_new w (seO d room))
  have HB := Lib.hid (below_new w (seO d room))
  clear h
  go_enter Try.func22, Try.ntmps22
  go_wp2_with fail
  refine (HN.out _).mono ?_
  rintro e y0 ⟨rfl, rfl⟩
  go_wp2_with fail
  go_ret3
  exact ⟨rfl, HB.out⟩
set_option maxHeartbeats 2000000 in
theorem bmade_long (d : Nat) (room : Int) (a : Option Addr) (len cap : Nat) (w : World) (h1 : 2 ≤ d ∧ d ≤ 64) (h2 : 0 ≤ room ∧ room ≤ 4096) (hl : 200 < len) : Calls Try.prog 22 #[seV (d : Int) room, .slice a len cap] w fun e w' => e = .returned (.tuple #[.pointer none, .slice none 0 0, .bool false]) ∧ Go.RowKit.Below w.heap.size w w' := by
  have mx := mixed
  have HB := Lib.hid (below_new w (seO (d : Int) room))
  have HN := Lib.hid (bk_new (w := w) d room h1 h2 HB.out)
  obtain ⟨c1, c2⟩ := seO_cells (heap_alloc_new w (seO (d : Int) room))
  have t2 : decide ((200 : Int) < (len : Int)) = true := decide_eq_true (by omega)
  have t3 : decide (200 < len) = true := decide_eq_true (by omega)
  clear h1 h2
  go_enter Try.func22, Try.ntmps22
  go_wp2_with fail
  refine HN.out.mono ?_
  rintro e y0 ⟨T, A, ⟨rfl, ht⟩, hb⟩
  have HB2 := Lib.hid (bt HB.out hb)
  clear ht hb c1 c2
  go_wp2_with fail
  go_ret3
  exact ⟨rfl, HB2.out⟩
set_option maxHeartbeats 4000000 in
theorem bmade_any (d : Nat) (room : Int) (a : Option Addr) (len cap : Nat) (z : List O6) (w : World) (h : IsOps6 w a len z) (h1 : 2 ≤ d ∧ d ≤ 64) (h2 : 0 ≤ room ∧ room ≤ 4096) (hl : len ≤ 200) :
    Calls Try.prog 22 #[seV (d : Int) room, .slice a len cap] w fun e w' => ∃ T A la lc, e = .returned (.tuple #[aP T, .slice la (gRunB room z).length lc, .bool true]) ∧ MdB w T A d room (gRunB room z) (gRunB room z) la lc noB w' := by
  have mx := mixed
  obtain ⟨rfl, hz, hr⟩ := h
  obtain ⟨LZ, hLZ⟩ : ∃ LZ, gRunB room z = LZ := ⟨_, rfl⟩
  rw [hLZ]
  have HLZ := Lib.hid hLZ
  have HZ := Lib.hid hz
  have HR := Lib.hid hr
  clear hz hr hLZ
  have HSE : Hid ((w.alloc (seO (d : Int) room)).heap[w.heap.size]? = some (seO (d : Int) room)) := heap_alloc_new w _
  have HN := Lib.hid (mdb_new (w := w) d room h1 h2 (fun b => b = w.heap.size) _ (below_new w (seO (d : Int) room)) (fun b hb => by subst hb; exact lt_of_block HSE.out))
  obtain ⟨c1, c2⟩ := seO_cells HSE.out
  have t2 : decide ((200 : Int) < (z.length : Int)) = false := decide_eq_false (by omega)
  have t3 : decide (200 < z.length) = false := decide_eq_false (by omega)
  go_enter Try.func22, Try.ntmps22
  go_wp2_with fail
  refine HN.out.mono ?_
  rintro e y0 ⟨T, A, ⟨rfl, ht⟩, hb⟩
  have HT0 := Lib.hid ht
  have HS0 := Lib.hid (box_on HSE.out hb)
  clear ht hb HN t2 t3 c1 c2 HSE
  go_wp2_with fail
  go_loopw [9, 36] (fun l k wr => ∃ (j : Nat) (la : Option Addr) (lc : Nat), k = .int .i64 (j : Int) ∧ j ≤ z.length ∧ l = .slice la (gRunB room (z.take j)).length lc ∧ MdB w T A d room (gRunB room (z.take j)) (gRunB room (z.take j)) la lc (fun b => b = w.heap.size) wr ∧ wr.heap[w.heap.size]? = some (seO (d : Int) room)) (fun _ k _ => z.length - (intOf k).toNat)
  case atStart => exact ⟨0, none, 0, rfl, Nat.zero_le _, rfl, HT0.out, HS0.out⟩
  case round =>
    clear HT0 HS0
    obtain ⟨j, la, lc, rfl, hj, rfl, ht, hs⟩ := hrel
    have HT := Lib.hid ht
    have HS := Lib.hid hs
    have HLN := gRunB_len room z j hj
    by_cases hlt : j < z.length
    · obtain ⟨b, off, rfl, hc⟩ := (HR.out.below ht.be) (by omega)
      obtain ⟨c1, c2, c3, c4, c5, c6⟩ := hc j hlt
      have HOK := Lib.hid (HZ.out _ (List.getElem_mem hlt))
      have HST := Lib.hid (gRunB_step room z j hlt)
      have ti0 : (0 : Int) ≤ (j : Int) := by omega
      have ti1 : (j : Int) < (z.length : Int) := by omega
      clear hc ht hs
      generalize z[j] = o at *
      generalize gRunB room (z.take j) = L at *
      have HT1 := Lib.hid (HT.out.on (below_new wr (oOb o.k o.s)))
      have HS1 := Lib.hid (box_on HS.out (below_new wr (oOb o.k o.s)))
      have HDO := Lib.hid (HT1.out.doG o.k o.s HOK.out.2 (by omega))
      have hbo := heap_alloc_new wr (oOb o.k o.s)
      obtain ⟨d0, d1, d2, d3, d4, d5⟩ := ob_cells hbo
      obtain ⟨s0, s1⟩ := seO_cells HS1.out
      have HBO := Lib.hid hbo
      clear hbo
      have HTG : Hid (∀ (a2 : Option Addr) (cap2 : Nat) W, MdB w T A d room L (doG L room o.k o.s).1 a2 cap2 (fun b => b = w.heap.size) W → Calls Try.prog 15 #[aP T, vOb o.k o.s] W fun e w' => e = .returned (.tuple #[.bool (doG L room o.k o.s).2.1, .int .i64 (doG L room o.k o.s).2.2]) ∧ MdB w T A d room (doG L room o.k o.s).1 (doG L room o.k o.s).1 a2 cap2 (fun b => b = w.heap.size) w' ∧ ∀ b, b = w.heap.size → w'.heap[b]? = W.heap[b]?) := fun a2 cap2 W h => h.does HOK.out.2
      generalize (doG L room o.k o.s).1 = L2 at *
      generalize (doG L room o.k o.s).2.1 = rb at *
      generalize (doG L room o.k o.s).2.2 = re at *
      go_wp2_with fail
      refine HDO.out.mono ?_
      rintro e y1 ⟨la2, lc2, rfl, hmid, hb⟩
      have HMI := Lib.hid hmid
      replace HBO := Lib.hid (box_on HBO.out hb)
      have HS2 := Lib.hid (box_on HS1.out hb)
      clear d0 d1 d2 d3 d4 d5 c1 c2 c3 c4 c5 c6 s0 s1 HDO hmid hb HT1 HS1
      obtain ⟨d0, d1, d2, d3, d4, d5⟩ := ob_cells HBO.out
      go_wp2_with fail
      refine (HTG.out la2 lc2 _ HMI.out).mono ?_
      rintro e y2 ⟨rfl, hm2, hk2⟩
      have HM2 := Lib.hid hm2
      have HS3 := Lib.hid ((hk2 _ rfl).trans HS2.out)
      clear hm2 hk2 d0 d1 d2 d3 d4 d5
      go_wp2_with fail
      go_roundw
      case rel => exact ⟨j + 1, la2, lc2, by go_num, by omega, by rw [HST.out], by rw [HST.out]; exact HM2.out, HS3.out⟩
      case measure => simp [intOf]; omega
    · obtain rfl : j = z.length := by omega
      rw [List.take_length, HLZ.out] at HT ⊢
      clear ht HLN
      go_wp2_with fail
      go_ret3
      exact ⟨T, A, la, lc, rfl, HT.out.keep (Go.RowKit.Below.refl _ _) (fun b hb => hb.elim)⟩
end Go.Proofs.Ytjgcdmeojjnjlaa
/- The arena's Each: its contract as a function that is ranged over. -/
namespace Go.Proofs.Ytjgcdmeojjnjlaa
open Go.RowKit Go.Sort Go.Shelf Go.Proofs.Ytjgcdmeojjnjlaa.Bo
set_option linter.unusedVariables false
attribute [local go_sem] Oper.semAt_some
/-- What a round keeps: all that lay below n0, and the block B. -/
def KpE (n0 B : Nat) (W W' : World) : Prop := Go.RowKit.Below n0 W W' ∧ W'.heap[B]? = W.heap[B]?
theorem KpE.trans {n0 B : Nat} {X Y Z : World} (h : KpE n0 B X Y) (k : KpE n0 B Y Z) : KpE n0 B X Z := ⟨h.1.trans k.1, k.2.trans h.2⟩
end Go.Proofs.Ytjgcdmeojjnjlaa
/- All: the recursive walk that hands yield on, its core. -/
namespace Go.Proofs.Ytjgcdmeojjnjlaa
open Go.RowKit Go.Sort Go.Shelf Go.Proofs.Ytjgcdmeojjnjlaa.Bo Go.Proofs.Ytjgcdmeojjnjlaa.Bb
set_option linter.unusedVariables false
set_option maxRecDepth 100000
attribute [local go_sem] Oper.semAt_some
abbrev bnV (sa ka : Option Addr) (sn kn sc kc : Nat) : Value := .agg #[.slice sa sn sc, .slice ka kn kc]
abbrev bnB (sa ka : Option Addr) (sn kn sc kc : Nat) : Obj := .cells #[.slice sa sn sc, .slice ka kn kc] 80
set_option maxHeartbeats 2000000 in
theorem brise_no (T A l k : Nat) (i : Int) (w : World) (c0 : w.cell? ⟨T, 1, none⟩ = some (aP A)) (HG : Hid (Calls Try.prog 86 #[aP A, .int .i64 i] w fun e w' => e = .returned (.tuple #[bnV none none 0 0 0 0, .bool false]) ∧ Go.RowKit.Below w.heap.size w w')) :
    CallsIn Fence.wide k Try.prog 64 #[aP T, .int .i64 i, .func (.yield l) #[] #[]] w fun e W' => e = .returned (.bool true) ∧ Go.RowKit.Below w.heap.size w W' := by
  have mx := mixed
  refine callsIn_wide.2 ?_
  go_enter Try.func64, Try.ntmps64
  go_wp2_with fail
  refine HG.out.mono ?_
  rintro e y ⟨rfl, hb⟩
  have HB := Lib.hid (bt hb (below_new y (bnB none none 0 0 0 0)))
  clear hb c0
  go_wp2_with fail
  go_ret
  exact ⟨rfl, HB.out⟩
/-- What a round of rising may find. -/
def RiseR (T l k sb j : Nat) (g : G5) (ck : Int) (Bn : Nat) (PI : Nat → World → Prop) (X : World → Prop) (W : World) : Prop :=
  Cells5 W sb (j * 5) g ∧ (Calls Try.prog 51 #[.pointer (some ⟨Bn, 0, none⟩), .int .i64 (j : Int)] (W.alloc (oG g)) fun e w' => e = .returned (.int .i64 ck) ∧ W.alloc (oG g) = w') ∧
    CallsIn Fence.wide (k - 1) Try.prog 64 #[aP T, .int .i64 ck, .func (.yield l) #[] #[]] (W.alloc (oG g)) fun e W1 =>
      (e = .returned (.bool true) ∧ W1.heap[W.heap.size]? = some (oG g) ∧ YieldAt Fence.wide (k - 1) Try.prog l #[vG g] W1 fun e W2 => (e = .returned (.bool true) ∧ PI (j + 1) W2) ∨ (e = .returned (.bool false) ∧ X W2)) ∨ (e = .returned (.bool false) ∧ X W1)
def RiseE (T l k N sc : Nat) (sa : Option Addr) (ck : Int) (Bn : Nat) (PA X : World → Prop) (W : World) : Prop :=
  W.cell? ⟨Bn, 0, none⟩ = some (.slice sa N sc) ∧ (Calls Try.prog 51 #[.pointer (some ⟨Bn, 0, none⟩), .int .i64 (N : Int)] W fun e w' => e = .returned (.int .i64 ck) ∧ W = w') ∧
    CallsIn Fence.wide (k - 1) Try.prog 64 #[aP T, .int .i64 ck, .func (.yield l) #[] #[]] W fun e W1 => (e = .returned (.bool true) ∧ PA W1) ∨ (e = .returned (.bool false) ∧ X W1)
set_option maxHeartbeats 4000000 in
theorem brise_core (T A l k N nk sc kc sb : Nat) (hN : N ≤ 1000) (ka : Option Addr) (i : Int) (sg : Nat → G5) (ck : Nat → Int) (PI : Nat → Nat → World → Prop) (PA X : World → Prop) (w : World) (c0 : w.cell? ⟨T, 1, none⟩ = some (aP A))
    (HG : Hid (Calls Try.prog 86 #[aP A, .int .i64 i] w fun e w' => e = .returned (.tuple #[bnV (some ⟨sb, 0, none⟩) ka N nk sc kc, .bool true]) ∧ Go.RowKit.Below w.heap.size w w'))
    (H0 : Hid (∀ y, Go.RowKit.Below w.heap.size w y → PI y.heap.size 0 (y.alloc (bnB (some ⟨sb, 0, none⟩) ka N nk sc kc))))
    (HR : Hid (∀ Bn j W, j < N → PI Bn j W → RiseR T l k sb j (sg j) (ck j) Bn (PI Bn) X W))
    (HE : Hid (∀ Bn W, PI Bn N W → RiseE T l k N sc (some ⟨sb, 0, none⟩) (ck N) Bn PA X W)) :
    CallsIn Fence.wide k Try.prog 64 #[aP T, .int .i64 i, .func (.yield l) #[] #[]] w fun e W' => (e = .returned (.bool true) ∧ PA W') ∨ (e = .returned (.bool false) ∧ X W') := by
  have mx := mixed
  refine callsIn_of_wp Try.func64 rfl trivial ?_ rfl
  simp only [Try.ntmps64, List.size_toArray, List.length_cons, List.length_nil, Nat.reduceAdd, Nat.reduceSub, Array.replicate_succ, Array.replicate_zero, List.push_toArray, List.append_toArray, List.nil_append, List.cons_append]
  have hdd : ∀ m : Nat, (Fence.wide.depth.isSome = true → 1 ≤ m) := fun m h => by cases h
  gi_wp2_with (refine ⟨trivial, ?_⟩; refine ⟨hdd _, ?_⟩; gi_at_call 86; refine (callsIn_wide.2 HG.out).mono ?_; clear c0; rintro e y ⟨rfl, hb⟩; have hp := H0.out y hb; have hNY := heap_alloc_new y (bnB (some ⟨sb, 0, none⟩) ka N nk sc kc); have n0 : (y.alloc (bnB (some ⟨sb, 0, none⟩) ka N nk sc kc)).cell? ⟨y.heap.size, 0, none⟩ = some (.slice (some ⟨sb, 0, none⟩) N sc) := (cell_of_row _ _ 0 _ _ _ hNY).trans rfl; clear hb hNY)
  have HP := Lib.hid hp
  clear hp n0 H0 HG
  generalize y.heap.size = Bn at *
  generalize y.alloc (bnB (some ⟨sb, 0, none⟩) ka N nk sc kc) = Y at *
  gi_loopw [25] (fun i wr => ∃ j : Nat, j ≤ N ∧ i = .int .i64 (j : Int) ∧ PI Bn j wr) (fun i _ => N - (intOf i).toNat)
  case atStart => exact ⟨0, Nat.zero_le _, rfl, HP.out⟩
  case round =>
    obtain ⟨j, hj, rfl, hpi⟩ := hrel
    clear HP
    by_cases hlt : j < N
    · obtain ⟨hc, hkid, hrec⟩ := HR.out Bn j wr hlt hpi
      obtain ⟨f0, f1, f2, f3, f4⟩ := hc
      have HKD := Lib.hid hkid
      have HRC := Lib.hid hrec
      have hS := heap_alloc_new wr (oG (sg j))
      have t1 : (j : Int) < (N : Int) := by omega
      have t0 : (0 : Int) ≤ (j : Int) := by omega
      have i1 : IntKind.i64.wrap ((j : Int) + 1) = (j : Int) + 1 := IntWalk.i64_in _ (by omega)
      clear hkid hrec hpi
      gi_wp2_with (refine ⟨trivial, ?_⟩; refine ⟨hdd _, ?_⟩; gi_at_call 51; refine (callsIn_wide.2 HKD.out).mono ?_; clear f0 f1 f2 f3 f4; rintro e V ⟨rfl, rfl⟩)
      refine ⟨trivial, ?_⟩
      refine ⟨hdd _, ?_⟩
      refine HRC.out.mono ?_
      clear HRC HKD
      rintro e W1 (⟨rfl, hN1, fn, tmps, assign, body, hy, hR⟩ | ⟨rfl, hx1⟩)
      · have hN0 := hN1
        obtain ⟨s0, s1, s2, s3, s4⟩ := five_cells hN0
        simp only [Nat.zero_add] at s1 s2 s3 s4
        clear hN1 hN0 hS
        gi_wp2
        refine ⟨hdd _, ?_⟩
        refine hR.mono ?_
        clear hR s0 s1 s2 s3 s4
        rintro e W2 (⟨rfl, hp2⟩ | ⟨rfl, hx2⟩)
        · gi_wp2
          go_roundw
          case rel => exact ⟨j + 1, by omega, by push_cast; rfl, hp2⟩
          case measure => simp [intOf]; omega
        · gi_wp2
          go_ret
          exact .inr ⟨rfl, hx2⟩
      · gi_wp2
        refine ⟨fun _ h => (by cases h), ?_⟩
        gi_wp2
        go_ret
        exact .inr ⟨rfl, hx1⟩
    · obtain rfl : j = N := by omega
      obtain ⟨n0, hkid, hrec⟩ := HE.out Bn wr hpi
      have HKD := Lib.hid hkid
      have HRC := Lib.hid hrec
      clear hkid hrec hpi
      gi_wp2_with (refine ⟨trivial, ?_⟩; refine ⟨hdd _, ?_⟩; gi_at_call 51; refine (callsIn_wide.2 HKD.out).mono ?_; clear n0; rintro e V ⟨rfl, rfl⟩)
      refine ⟨trivial, ?_⟩
      refine ⟨hdd _, ?_⟩
      refine HRC.out.mono ?_
      clear HRC HKD
      rintro e W1 (⟨rfl, hp3⟩ | ⟨rfl, hx3⟩)
      · gi_wp2
        go_ret
        exact .inl ⟨rfl, hp3⟩
      · gi_wp2
        go_ret
        exact .inr ⟨rfl, hx3⟩
end Go.Proofs.Ytjgcdmeojjnjlaa
/- All: through the tree, by rising keys. -/
namespace Go.Proofs.Ytjgcdmeojjnjlaa
open Go.RowKit Go.Sort Go.Shelf Go.Proofs.Ytjgcdmeojjnjlaa.Bo Go.Proofs.Ytjgcdmeojjnjlaa.Bb
set_option linter.unusedVariables false
set_option maxRecDepth 100000
attribute [local go_sem] Oper.semAt_some
/-- The block of the row that the box b holds. -/
def rowAt (b : Nat) (W : World) (k : Nat) : Prop := ∃ v, W.heap[b]? = some (.cells #[v] 32 (0, 0)) ∧ v.ownBlock = some k
/-- What a round keeps: all that lay below n0, and the blocks that the walk reads; a segment's box, but for the row of the box b, which may only move on to a new block. -/
def KpS (b n0 : Nat) (W W' : World) : Prop := Go.RowKit.Below n0 W W' ∧ (∀ (k : Nat) (cs : Array Value) (t : TypeId), W.heap[k]? = some (.cells cs t (0, 0)) → t = 80 ∨ t = 26 ∨ (t = 38 ∧ cs.size = 5 ∧ ¬ rowAt b W k) → W'.heap[k]? = some (.cells cs t (0, 0))) ∧
  ∀ k, rowAt b W' k → rowAt b W k ∨ (W.heap.size ≤ k ∧ k < W'.heap.size)
theorem KpS.trans {b n0 : Nat} {X Y Z : World} (h : KpS b n0 X Y) (k : KpS b n0 Y Z) : KpS b n0 X Z := by
  refine ⟨h.1.trans k.1, fun i cs t hi ht => ?_, fun i hi => ?_⟩
  · refine k.2.1 i cs t (h.2.1 i cs t hi ht) ?_
    rcases ht with e | e | ⟨e1, e2, e3⟩
    · exact .inl e
    · exact .inr (.inl e)
    · refine .inr (.inr ⟨e1, e2, fun hr => ?_⟩)
      have := lt_of_block hi
      rcases h.2.2 i hr with q | q
      · exact e3 q
      · omega
  · have := h.1.size
    have := k.1.size
    rcases k.2.2 i hi with q | q
    · rcases h.2.2 i q with q | q
      · exact .inl q
      · exact .inr ⟨q.1, by omega⟩
    · exact .inr ⟨by omega, q.2⟩
theorem KpS.refl (b n0 : Nat) (X : World) : KpS b n0 X X := ⟨Go.RowKit.Below.refl _ _, fun _ _ _ h _ => h, fun _ h => .inl h⟩
theorem kpS_b {b n0 : Nat} {w : World} (hn : n0 ≤ w.heap.size) (hbl : b < w.heap.size) (W : World) (l : Nat) (o o' : Obj) (hl : w.heap.size ≤ l) (h : W.heap[l]? = some o) (h1 : o.isCells = false) (h2 : o.isWalk = false) : KpS b n0 W (W.putObj l o') :=
  ⟨belowK_b hn W l o o' hl h h1 h2, fun k cs t hk ht => by
    by_cases e : k = l
    · subst e; rw [h] at hk; injection hk with hk; subst hk; cases h1
    · exact (World.putObj_heap_other e).trans hk, fun k hk => by
    obtain ⟨v, hv, ho⟩ := hk
    exact .inl ⟨v, (World.putObj_heap_other (show b ≠ l by omega)).symm.trans hv, ho⟩⟩
theorem KpS.of_below {b n0 : Nat} {W W' : World} (h : Go.RowKit.Below W.heap.size W W') (hn : n0 ≤ W.heap.size) (hbl : b < W.heap.size) : KpS b n0 W W' := ⟨h.mono hn, fun k cs t hk _ => box_on hk h, fun k hk => by
  obtain ⟨v, hv, ho⟩ := hk
  exact .inl ⟨v, (h.block b hbl).symm.trans hv, ho⟩⟩
theorem kp_of_belowB {n0 : Nat} {W W' : World} (h : Go.RowKit.Below n0 W W') : Kp (fun b => n0 ≤ b) W W' := ⟨h.os, h.tape, h.output, h.size, fun k _ hn => h.block k (by omega)⟩
theorem abides_belowB {β : Type} {J : β → World → Prop} {B : Nat} (h : AbidesFrom B J) {s : β} {W W' : World} (hJ : J s W) (hb : Go.RowKit.Below W.heap.size W W') : J s W' :=
  h s W W' none hJ ⟨hb.os, hb.tape, hb.output, hb.size, fun k hk _ => hb.block k hk⟩ (fun r e => by cases e)
section
variable {T A l bl n0 M base : Nat} {t : Bx} {a : Ag Rn} {S0 : Nat → Prop} {J Jx : List G5 → World → Prop} {W0 : World}
/-- What came of a way through R. -/
def Went (bl n0 : Nat) (J Jx : List G5 → World → Prop) (pre R : List G5) (W : World) (e : Ending) (W' : World) : Prop :=
  (e = .returned (.bool true) ∧ J (pre ++ R) W' ∧ KpS bl n0 W W') ∨ (e = .returned (.bool false) ∧ ∃ q, q <+: R ∧ Jx (pre ++ q) W')
set_option maxHeartbeats 1000000 in
theorem brise_node (hn : n0 ≤ W0.heap.size) (hbl : bl < W0.heap.size) (hrow : ∀ k, rowAt bl W0 k → k < W0.heap.size)
    (hJ : ∀ pre W W', J pre W → Go.RowKit.Below W.heap.size W W' → J pre W')
    (hY : ∀ m pre g W, J pre W → pre.length < M → YieldAt Fence.wide m Try.prog l #[vG g] W fun e W' => (e = .returned (.bool true) ∧ J (pre ++ [g]) W' ∧ KpS bl n0 W W') ∨ (e = .returned (.bool false) ∧ Jx (pre ++ [g]) W'))
    (hT : ∀ W, KpS bl n0 W0 W → BtW W base T A t a S0)
    (x : Bt) (hx : t.f (x.i : Int) = some ⟨x.s, x.ks.map Bt.idx⟩) (h1 : 1 ≤ x.s.length) (h2 : x.s.length ≤ 1000) (hkn : x.ks.length = 0 ∨ x.ks.length = x.s.length + 1) (upX rowC : Nat → List G5) (R : List G5) (u0 : upX 0 = []) (us : ∀ j (hj : j < x.s.length), upX (j + 1) = upX j ++ (rowC j ++ [x.s[j]])) (uR : R = upX x.s.length ++ rowC x.s.length)
    (up : ∀ j, j ≤ x.s.length → upX j ++ rowC j <+: R)
    (hch : ∀ j, j ≤ x.s.length → ∀ (k : Nat) (pre : List G5) (W : World), KpS bl n0 W0 W → W0.heap.size ≤ W.heap.size → J pre W → pre.length + (rowC j).length ≤ M → CallsIn Fence.wide k Try.prog 64 #[aP T, .int .i64 (kidV ⟨x.s, x.ks.map Bt.idx⟩ j), .func (.yield l) #[] #[]] W (Went bl n0 J Jx pre (rowC j) W)) :
    ∀ (k : Nat) (pre : List G5) (W : World), KpS bl n0 W0 W → W0.heap.size ≤ W.heap.size → J pre W → pre.length + R.length ≤ M → CallsIn Fence.wide k Try.prog 64 #[aP T, .int .i64 x.idx, .func (.yield l) #[] #[]] W (Went bl n0 J Jx pre R W) := by
  intro k pre W hW hsz hj hM
  have hWt := hT W hW
  have hc0 : W.cell? ⟨T, 1, none⟩ = some (aP A) := (cell_of_row _ _ 1 _ _ _ hWt.top).trans rfl
  have hnd := hWt.node x.i _ hx
  obtain ⟨en, ek⟩ := hnd.nums
  have es : (a.l.getD x.i bnZ).s.v = .slice (a.l.getD x.i bnZ).s.a x.s.length (a.l.getD x.i bnZ).s.c := by rw [← show (a.l.getD x.i bnZ).s.n = x.s.length from en]
  have ek2 : (a.l.getD x.i bnZ).k.v = .slice (a.l.getD x.i bnZ).k.a (x.ks.map Bt.idx).length (a.l.getD x.i bnZ).k.c := by rw [← show (a.l.getD x.i bnZ).k.n = (x.ks.map Bt.idx).length from ek]
  have hs0 : W.ownsRow base 38 5 (.slice (a.l.getD x.i bnZ).s.a x.s.length (a.l.getD x.i bnZ).s.c) x.s.length (flatG x.s) := es ▸ hnd.s
  obtain ⟨sb, hsb, _, _, _⟩ := own_atG hs0 rfl 0 h1
  have es3 : (a.l.getD x.i bnZ).s.v = .slice (some ⟨sb, 0, none⟩) x.s.length (a.l.getD x.i bnZ).s.c := by rw [es, hsb]
  have hget := bnget_yes hWt.ar hWt.ok x.i ((hWt.is x.i).2 (by rw [hx]; simp)) _ rfl
  rw [hsb, show (a.l.getD x.i bnZ).s.n = x.s.length from en, show (a.l.getD x.i bnZ).k.n = (x.ks.map Bt.idx).length from ek] at hget
  have pt : ∀ (X : World) (Bn : Nat), KpS bl n0 W0 X → X.heap[Bn]? = some (bnB (some ⟨sb, 0, none⟩) (a.l.getD x.i bnZ).k.a x.s.length (x.ks.map Bt.idx).length (a.l.getD x.i bnZ).s.c (a.l.getD x.i bnZ).k.c) → NdPt X base (.pointer (some ⟨Bn, 0, none⟩)) ⟨x.s, x.ks.map Bt.idx⟩ := fun X Bn hX hB =>
    ⟨Bn, 0, a.l.getD x.i bnZ, rfl, by rw [es3]; exact (cell_of_row _ _ 0 _ _ _ hB).trans rfl, by rw [ek2]; exact (cell_of_row _ _ 1 _ _ _ hB).trans rfl, (hT X hX).node x.i _ hx⟩
  have kl : ∀ j, j ≤ x.s.length → (⟨x.s, x.ks.map Bt.idx⟩ : Kn).kids.length ≠ 0 → j < (⟨x.s, x.ks.map Bt.idx⟩ : Kn).kids.length := fun j hj h => by
    have e : (⟨x.s, x.ks.map Bt.idx⟩ : Kn).kids.length = x.ks.length := List.length_map _
    rw [e] at h ⊢
    omega
  have lenR : ∀ j, j ≤ x.s.length → (upX j).length + (rowC j).length ≤ R.length := fun j hj => by
    have := (up j hj).length_le
    rwa [List.length_append] at this
  refine brise_core T A l k x.s.length (x.ks.map Bt.idx).length _ _ sb h2 _ x.idx (fun j => x.s.getD j Bo.g0) (fun j => kidV ⟨x.s, x.ks.map Bt.idx⟩ j)
    (fun Bn j X => J (pre ++ upX j) X ∧ KpS bl n0 W X ∧ W0.heap.size ≤ X.heap.size ∧ X.heap[Bn]? = some (bnB (some ⟨sb, 0, none⟩) (a.l.getD x.i bnZ).k.a x.s.length (x.ks.map Bt.idx).length (a.l.getD x.i bnZ).s.c (a.l.getD x.i bnZ).k.c))
    (fun X => J (pre ++ R) X ∧ KpS bl n0 W X) (fun X => ∃ q, q <+: R ∧ Jx (pre ++ q) X) W hc0 (Lib.hid hget) (Lib.hid fun y hy => ?_) (Lib.hid fun Bn j X hj ⟨p1, p2, p3, p4⟩ => ?_) (Lib.hid fun Bn X ⟨p1, p2, p3, p4⟩ => ?_)
  · have hb := bt hy (below_new y (bnB (some ⟨sb, 0, none⟩) (a.l.getD x.i bnZ).k.a x.s.length (x.ks.map Bt.idx).length (a.l.getD x.i bnZ).s.c (a.l.getD x.i bnZ).k.c))
    refine ⟨by rw [u0, List.append_nil]; exact hJ _ _ _ hj hb, KpS.of_below hb (by omega) (by omega), Nat.le_trans hsz hb.size, heap_alloc_new _ _⟩
  · have hX0 := hW.trans p2
    have hg : x.s.getD j Bo.g0 = x.s[j] := by rw [List.getD_eq_getElem?_getD, List.getElem?_eq_getElem hj]; rfl
    have hXt := hT X hX0
    have hs1 : X.ownsRow base 38 5 (.slice (some ⟨sb, 0, none⟩) x.s.length (a.l.getD x.i bnZ).s.c) x.s.length (flatG x.s) := es3 ▸ (hXt.node x.i _ hx).s
    obtain ⟨sb', e, _, hc, _⟩ := own_atG hs1 rfl j hj
    obtain rfl : sb = sb' := by injection e with e; injection e
    have hb := below_new X (oG x.s[j])
    have k1 : KpS bl n0 X (X.alloc (oG x.s[j])) := KpS.of_below hb (by omega) (by omega)
    have hnr : ¬ rowAt bl (X.alloc (oG x.s[j])) X.heap.size := fun hr => by
      have hz : ∀ k, rowAt bl X k → k < X.heap.size := fun k hk => by
        rcases hX0.2.2 k hk with q | q
        · have := hrow k q; have := hX0.1.size; omega
        · exact q.2
      obtain ⟨v, hv, ho⟩ := hr
      have := hz X.heap.size ⟨v, (hb.block bl (by omega)).symm.trans hv, ho⟩
      omega
    show RiseR T l k sb j (x.s.getD j Bo.g0) _ Bn _ _ X
    rw [hg]
    refine ⟨hc, bkid_any (pt _ Bn (hX0.trans k1) (box_on p4 hb)) j (kl j (Nat.le_of_lt hj)), ?_⟩
    have hl := lenR j (Nat.le_of_lt hj)
    refine (hch j (Nat.le_of_lt hj) (k - 1) (pre ++ upX j) (X.alloc (oG x.s[j])) (hX0.trans k1) (Nat.le_trans p3 hb.size) (hJ _ _ _ p1 hb) (by simp only [List.length_append]; omega)).mono ?_
    rintro e W1 (⟨rfl, hj1, hk1⟩ | ⟨rfl, q, hq, hx1⟩)
    · have hl2 : (upX j).length + (rowC j).length + 1 ≤ R.length := by
        have := lenR (j + 1) (by omega)
        rw [us j hj] at this
        simp only [List.length_append, List.length_cons, List.length_nil] at this
        omega
      refine .inl ⟨rfl, hk1.2.1 _ _ _ (heap_alloc_new X (oG x.s[j])) (.inr (.inr ⟨rfl, rfl, hnr⟩)), YieldAt.mono (hY (k - 1) _ x.s[j] W1 hj1 (by simp only [List.length_append]; omega)) ?_⟩
      rintro e W2 (⟨rfl, hj2, hk2⟩ | ⟨rfl, hx2⟩)
      · exact .inl ⟨rfl, by rw [us j hj]; simpa using hj2, ((p2.trans k1).trans hk1).trans hk2, Nat.le_trans p3 (Nat.le_trans hb.size (Nat.le_trans hk1.1.size hk2.1.size)), hk2.2.1 _ _ _ (hk1.2.1 _ _ _ (box_on p4 hb) (.inl rfl)) (.inl rfl)⟩
      · refine .inr ⟨rfl, upX j ++ (rowC j ++ [x.s[j]]), ?_, by simpa using hx2⟩
        rw [← us j hj]
        exact (List.prefix_append _ _).trans (up (j + 1) (by omega))
    · exact .inr ⟨rfl, upX j ++ q, ((List.prefix_append_right_inj _).2 hq).trans (up j (Nat.le_of_lt hj)), by simpa using hx1⟩
  · have hX0 := hW.trans p2
    refine ⟨(cell_of_row _ _ 0 _ _ _ p4).trans rfl, bkid_any (pt _ Bn hX0 p4) x.s.length (kl _ (Nat.le_refl _)), ?_⟩
    have hl := lenR x.s.length (Nat.le_refl _)
    refine (hch x.s.length (Nat.le_refl _) (k - 1) (pre ++ upX x.s.length) X hX0 p3 p1 (by simp only [List.length_append]; omega)).mono ?_
    rintro e W1 (⟨rfl, hj1, hk1⟩ | ⟨rfl, q, hq, hx1⟩)
    · exact .inl ⟨rfl, by rw [uR]; simpa using hj1, p2.trans hk1⟩
    · exact .inr ⟨rfl, upX x.s.length ++ q, ((List.prefix_append_right_inj _).2 hq).trans (up _ (Nat.le_refl _)), by simpa using hx1⟩
theorem kidV_at (x : Bt) (j : Nat) (hj : j < x.ks.length) : kidV ⟨x.s, x.ks.map Bt.idx⟩ j = (x.ks[j]).idx := by
  unfold kidV
  rw [if_neg (by show ¬ (x.ks.map Bt.idx).length = 0; rw [List.length_map]; omega)]
  show (x.ks.map Bt.idx).getD j _ = _
  rw [List.getD_eq_getElem?_getD, List.getElem?_map, List.getElem?_eq_getElem hj]; rfl
set_option maxHeartbeats 1000000 in
theorem brise_in (d : Nat) (hd2 : 2 ≤ d) (hd64 : d ≤ 64) (hn : n0 ≤ W0.heap.size) (hbl : bl < W0.heap.size) (hrow : ∀ k, rowAt bl W0 k → k < W0.heap.size)
    (hJ : ∀ pre W W', J pre W → Go.RowKit.Below W.heap.size W W' → J pre W')
    (hY : ∀ m pre g W, J pre W → pre.length < M → YieldAt Fence.wide m Try.prog l #[vG g] W fun e W' => (e = .returned (.bool true) ∧ J (pre ++ [g]) W' ∧ KpS bl n0 W W') ∨ (e = .returned (.bool false) ∧ Jx (pre ++ [g]) W'))
    (hT : ∀ W, KpS bl n0 W0 W → BtW W base T A t a S0) (hm : t.f (-1) = none) :
    ∀ (H : Nat) (x : Bt), RepB t.f H x → (DegR d H x ∨ Deg d H x) →
      ∀ (k : Nat) (pre : List G5) (W : World), KpS bl n0 W0 W → W0.heap.size ≤ W.heap.size → J pre W → pre.length + (Bt.ino H x).length ≤ M → CallsIn Fence.wide k Try.prog 64 #[aP T, .int .i64 x.idx, .func (.yield l) #[] #[]] W (Went bl n0 J Jx pre (Bt.ino H x) W) := by
  have nil : ∀ (k : Nat) (pre : List G5) (W : World), KpS bl n0 W0 W → W0.heap.size ≤ W.heap.size → J pre W → CallsIn Fence.wide k Try.prog 64 #[aP T, .int .i64 (-1), .func (.yield l) #[] #[]] W (Went bl n0 J Jx pre [] W) := fun k pre W hW hsz hj => by
    have hWt := hT W hW
    have hno : a.is (-1) = false := by
      cases e : a.is (-1) with
      | false => rfl
      | true => exact absurd hm ((hWt.is (-1)).1 e)
    refine (brise_no T A l k (-1) W ((cell_of_row _ _ 1 _ _ _ hWt.top).trans rfl) (Lib.hid (bnget_no hWt.ar hWt.ok (-1) hno))).mono ?_
    rintro e W' ⟨rfl, hb⟩
    exact .inl ⟨rfl, by rw [List.append_nil]; exact hJ _ _ _ hj hb, KpS.of_below hb (by omega) (by omega)⟩
  intro H
  induction H with
  | zero =>
    intro x hr hdeg
    have hk0 : x.ks = [] := hr.2
    obtain ⟨d1, d2⟩ : 1 ≤ x.s.length ∧ x.s.length + 1 ≤ 2 * d := by
      rcases hdeg with k | k
      · have := (degR_eq d 0 x).1 k; exact ⟨this.1.1, this.1.2⟩
      · have := (deg_eq d 0 x).1 k; exact ⟨by omega, this.1.2⟩
    have hkv : ∀ j, kidV ⟨x.s, x.ks.map Bt.idx⟩ j = -1 := fun j => by unfold kidV; rw [if_pos (by rw [hk0]; rfl)]
    have main := brise_node (T := T) (A := A) (l := l) (bl := bl) (n0 := n0) (M := M) (base := base) (t := t) (a := a) (S0 := S0) (J := J) (Jx := Jx) (W0 := W0) hn hbl hrow hJ hY hT x hr.node d1 (by omega) (.inl (by rw [hk0]; rfl)) (fun j => x.s.take j) (fun _ => []) x.s (List.take_zero) (fun j hj => by
      show x.s.take (j + 1) = x.s.take j ++ ([] ++ [x.s[j]])
      rw [List.take_succ_eq_append_getElem hj, List.nil_append]) (by
      show x.s = x.s.take x.s.length ++ []
      rw [List.take_length, List.append_nil]) (fun j hj => by
      show x.s.take j ++ [] <+: x.s
      rw [List.append_nil]; exact List.take_prefix j x.s) (fun j hj k pre W hW hsz hj' _ => by
      rw [hkv]
      exact nil k pre W hW hsz hj')
    exact main
  | succ H ih =>
    intro x hr hdeg
    obtain ⟨d1, d2, d4⟩ : 1 ≤ x.s.length ∧ x.s.length + 1 ≤ 2 * d ∧ DegK d (H + 1) x.ks := by
      rcases hdeg with k | k
      · have := (degR_eq d (H + 1) x).1 k; exact ⟨this.1.1, this.1.2, this.2⟩
      · have := (deg_eq d (H + 1) x).1 k; exact ⟨by omega, this.1.2, this.2⟩
    have hkl : x.ks.length = x.s.length + 1 := hr.2.1
    have hg : ∀ j (hj : j < x.ks.length), x.ks.getD j x = x.ks[j] := fun j hj => by rw [List.getD_eq_getElem?_getD, List.getElem?_eq_getElem hj]; rfl
    refine brise_node (T := T) (A := A) (l := l) (bl := bl) (n0 := n0) (M := M) (base := base) (t := t) (a := a) (S0 := S0) (J := J) (Jx := Jx) (W0 := W0) hn hbl hrow hJ hY hT x hr.node d1 (by omega) (.inr hkl) (upR H x) (fun j => Bt.ino H (x.ks.getD j x)) (Bt.ino (H + 1) x) (upR_zero H x) (fun j hj => ?_) ?_ (fun j hj => ?_) (fun j hj k pre W hW hsz hj' hl => ?_)
    · rw [hg j (by omega)]; exact upR_succ H x hr j hj (by omega)
    · rw [hg x.s.length (by omega)]; exact upR_all H x hr (by omega)
    · rw [hg j (by omega)]; exact upR_pre H x hr j (by omega)
    · rw [kidV_at x j (by omega)]
      rw [hg j (by omega)] at hl ⊢
      have hmem := List.getElem_mem (show j < x.ks.length by omega)
      exact ih x.ks[j] (hr.2.2 _ hmem) (.inr (d4 _ hmem)) k pre W hW hsz hj' hl
end
abbrev oBP (T : Nat) : Obj := .cells #[aP T] 26
theorem ball_any (T : Nat) (w : World) : Calls Try.prog 34 #[aP T] w fun e w' => e = .returned (.func (.func 63) #[] #[.pointer (some ⟨w.heap.size, 0, none⟩)]) ∧ w.alloc (oBP T) = w' := by
  go_enter Try.func34, Try.ntmps34
  go_wp2_with fail
  go_ret
  exact ⟨rfl, rfl⟩
theorem two_waysB {e : Ending} {p q : Prop} (h : (e = .returned (.bool true) ∧ p) ∨ (e = .returned (.bool false) ∧ q)) : ∃ b, e = .returned (.bool b) ∧ (p ∨ q) := h.elim (fun ⟨a, b⟩ => ⟨true, a, .inl b⟩) (fun ⟨a, b⟩ => ⟨false, a, .inr b⟩)
theorem yield_anyB {m m' : Nat} {P : Program} {l : Nat} {args : Array Value} {W : World} {R : Ending → World → Prop} (h : YieldAt Fence.wide m P l args W R) : YieldAt Fence.wide m' P l args W R := by
  obtain ⟨fn, tmps, assign, body, hy, hR⟩ := h
  exact ⟨fn, tmps, assign, body, hy, hR.1, fun c cs _ => hR.2 c cs (fun d h => by cases h)⟩
theorem below_drewB (W : World) : Go.RowKit.Below W.heap.size W W.drew := (Go.RowKit.Below.refl _ _).drew
set_option maxHeartbeats 2000000 in
theorem ball1_core (T Bn l k : Nat) (root : Int) (PA PX : World → Prop) (W : World) (HB : Hid (W.heap[Bn]? = some (oBP T))) (HT : Hid (W.cell? ⟨T, 2, none⟩ = some (.int .i64 root)))
    (H : Hid (∀ W', Go.RowKit.Below W.heap.size W W' → CallsIn Fence.wide (k - 1) Try.prog 64 #[aP T, .int .i64 root, .func (.yield l) #[] #[]] W' fun e W2 => (e = .returned (.bool true) ∧ PA W2) ∨ (e = .returned (.bool false) ∧ PX W2))) :
    CallsIn Fence.wide k Try.prog 63 #[.func (.yield l) #[] #[], .pointer (some ⟨Bn, 0, none⟩)] W fun e W' => (∃ v, e = .returned v) ∧ (PA W' ∨ PX W') := by
  have mx := mixed
  have c0 : W.cell? ⟨Bn, 0, none⟩ = some (aP T) := (cell_of_row _ _ 0 _ _ _ HB.out).trans rfl
  have c1 := HT.out
  have hdd : ∀ m : Nat, (Fence.wide.depth.isSome = true → 1 ≤ m) := fun m h => by cases h
  refine callsIn_of_wp Try.func63 rfl trivial ?_ rfl
  simp only [Try.ntmps63, List.size_toArray, List.length_cons, List.length_nil, Nat.reduceAdd, Nat.reduceSub, Array.replicate_succ, Array.replicate_zero, List.push_toArray, List.append_toArray, List.nil_append, List.cons_append]
  gi_region_with_o (refine ⟨trivial, ?_⟩; refine ⟨hdd _, ?_⟩; gi_at_call 64; refine (H.out _ (below_drewB W)).mono ?_; rintro e W2 h2; obtain ⟨b2, rfl, h3⟩ := two_waysB h2)
  all_goals
    go_end0
    exact ⟨⟨_, rfl⟩, by assumption⟩
theorem ball_stops (k Bn bl n0 base T A d : Nat) {t : Bx} {a : Ag Rn} {S0 : Nat → Prop} {L : List G5} (w : World) (h : BtW w base T A t a S0) (ok : BtOk t d L) (hS : ∀ b, btS T t a S0 b → b < n0) (hn0 : n0 ≤ w.heap.size) (hB : w.heap[Bn]? = some (oBP T)) (hbl : bl < w.heap.size) (hrow : ∀ k, rowAt bl w k → k < w.heap.size) :
    SeqStopsK Fence.wide k Try.prog 63 #[.pointer (some ⟨Bn, 0, none⟩)] (fun g : G5 => #[vG g]) (KpS bl n0) (fun ys => ys = L) (fun pre => pre <+: L) L.length w := fun l J Jx W hW hJ _ hY h0 => by
  have hWr := h.below hW
  have hsz := hW.size
  have tr : ∀ W', KpS bl n0 W W' → BtW W' base T A t a S0 := fun W' hk => hWr.kp (kp_of_belowB hk.1) (fun b hb hge => by have := hS b hb; omega)
  have hR : W.cell? ⟨T, 2, none⟩ = some (.int .i64 t.root) := (cell_of_row _ _ 2 _ _ _ hWr.top).trans rfl
  have hrow2 : ∀ k, rowAt bl W k → k < W.heap.size := fun k hk => by
    obtain ⟨v, hv, ho⟩ := hk
    have := hrow k ⟨v, (hW.block bl hbl).symm.trans hv, ho⟩
    omega
  refine ball1_core T Bn l k t.root (fun W2 => ∃ ys, ys = L ∧ J ys W2) (fun W2 => ∃ pre, pre <+: L ∧ Jx pre W2) W (Lib.hid (box_on hB hW)) (Lib.hid hR) (Lib.hid fun W' hb => ?_)
  rcases ok.tree with ⟨e1, e2, e3, e4⟩ | ⟨H, x, z, hr, hL⟩
  · have hWt := tr W' (KpS.of_below hb (by omega) (by omega))
    have hno : a.is (-1) = false := by
      cases e : a.is (-1) with
      | false => rfl
      | true => exact absurd (e4 (-1)) ((hWt.is (-1)).1 e)
    rw [e3, e1]
    refine (brise_no T A l (k - 1) (-1) W' ((cell_of_row _ _ 1 _ _ _ hWt.top).trans rfl) (Lib.hid (bnget_no hWt.ar hWt.ok (-1) hno))).mono ?_
    rintro e W2 ⟨rfl, hb2⟩
    exact .inl ⟨rfl, _, rfl, abides_belowB hJ (abides_belowB hJ h0 hb) hb2⟩
  · have hm : t.f (-1) = none := by
      cases e : t.f (-1) with
      | none => rfl
      | some v =>
        obtain ⟨m, _, q⟩ := z.all (-1) (by rw [e]; simp)
        omega
    have hin := brise_in (M := L.length) (l := l) (J := J) (Jx := Jx) (W0 := W) d ok.d2 ok.d64 (by omega) (by omega) hrow2 (fun pre X Y hj hb => abides_belowB hJ hj hb) (fun m pre g X hj hl => yield_anyB (hY pre g X hj hl)) tr hm H x z.tree (.inl hr) (k - 1) [] W' (KpS.of_below hb (by omega) (by omega)) hb.size (abides_belowB hJ h0 hb) (by rw [hL]; simp)
    rw [show t.root = x.idx from z.root]
    refine hin.mono ?_
    rw [hL]
    rintro e W2 (⟨rfl, hj, _⟩ | ⟨rfl, q, hq, hx⟩)
    · exact .inl ⟨rfl, _, rfl, by simpa using hj⟩
    · exact .inr ⟨rfl, q, hq, by simpa using hx⟩
end Go.Proofs.Ytjgcdmeojjnjlaa
