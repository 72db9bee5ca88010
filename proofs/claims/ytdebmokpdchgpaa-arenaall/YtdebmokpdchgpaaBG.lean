/- A part of the proof: contracts of the functions that the statements reach. -/
import Derived.Test.YtdebmokpdchgpaaRows
import Derived.Test.YtdebmokpdchgpaaBA
import Derived.Test.YtdebmokpdchgpaaBB
import Derived.Test.YtdebmokpdchgpaaBC
import Derived.Test.YtdebmokpdchgpaaBD
import Derived.Test.YtdebmokpdchgpaaBE
import Derived.Test.YtdebmokpdchgpaaBF
import Derived.RangeFuncNested
import Derived.RangeFuncBound
import Derived.RangeFuncCalls
import Derived.RangeFuncLeaves
import Derived.Shelf.Abstract
import Derived.Shelf.RegionOpen
import Derived.OwnWalkIn
import Derived.TacticsInMore
import Derived.LoopNIn
import Derived.LoopIn
import Derived.Deep.RegionHeld3
import Derived.Lib.SliceRun

/- The arena's Each: its contract as a function that is ranged over. -/
namespace Go.Proofs.Ytdebmokpdchgpaa
open Go.RowKit Go.Sort Go.Shelf Go.Proofs.Ytdebmokpdchgpaa.Bo
set_option linter.unusedVariables false
attribute [local go_sem] Oper.semAt_some

abbrev encT (x : Int × Int) : Array Value := #[.int .i64 x.1, .int .i64 x.2]
/-- What a round keeps: all that lay below n0, and the block B. -/
def KpE (n0 B : Nat) (W W' : World) : Prop := Go.RowKit.Below n0 W W' ∧ W'.heap[B]? = W.heap[B]?
theorem KpE.trans {n0 B : Nat} {X Y Z : World} (h : KpE n0 B X Y) (k : KpE n0 B Y Z) : KpE n0 B X Z := ⟨h.1.trans k.1, k.2.trans h.2⟩
theorem kpE_b {n0 B : Nat} {w : World} (hn : n0 ≤ w.heap.size) (hB : B < w.heap.size) (W : World) (l : Nat) (o o' : Obj) (hl : w.heap.size ≤ l) (h : W.heap[l]? = some o) (h1 : o.isCells = false) (h2 : o.isWalk = false) : KpE n0 B W (W.putObj l o') :=
  ⟨belowK_b hn W l o o' hl h h1 h2, World.putObj_heap_other (by omega)⟩
theorem kp_of_belowN {n0 : Nat} {W W' : World} (h : Go.RowKit.Below n0 W W') : Kp (fun b => n0 ≤ b) W W' := ⟨h.os, h.tape, h.output, h.size, fun k _ hn => h.block k (by omega)⟩
theorem each_any (A : Nat) (w : World) : Calls Try.prog 21 #[aP A] w fun e w' => e = .returned (.func (.func 31) #[] #[.pointer (some ⟨w.heap.size, 0, none⟩)]) ∧ w.alloc (.cells #[aP A] 24) = w' := by
  go_enter Try.func21, Try.ntmps21
  go_wp2_with fail
  go_ret
  exact ⟨rfl, rfl⟩
set_option maxRecDepth 100000 in
set_option maxHeartbeats 2000000 in
theorem each1_core (n l A Bn n0 pn pc : Nat) (pa : Option Addr) (fv : Value) (a : Ar) (J Jx : List (Int × Int) → World → Prop) (hn : 1 ≤ n) (hpn : pn ≤ 1000000)
    (HPN : Hid (pn = a.l.length))
    (hY : ∀ pre x W, J pre W → pre.length < pn → YieldAt Fence.wide (n - 1) Try.prog l (encT x) W fun e W' =>
      (e = .returned (.bool true) ∧ J (pre ++ [x]) W' ∧ KpE n0 Bn W W') ∨ (e = .returned (.bool false) ∧ Jx (pre ++ [x]) W'))
    (W : World) (HB : Hid (W.heap[Bn]? = some (.cells #[aP A] 24 (0, 0)))) (HX : Hid (W.heap[A]? = some (.cells #[.int .i64 a.room, .slice pa pn pc, fv] 62 (0, 0))))
    (HG : Hid (∀ W', KpE n0 Bn W W' → ∀ i : Int, Calls Try.prog 19 #[aP A, .int .i64 i] W' fun e w' => e = .returned (.tuple #[.int .i64 (if a.is i = true then a.l.getD i.toNat 0 else 0), .bool (a.is i)]) ∧ W' = w')) (h0 : J [] W) :
    CallsIn Fence.wide n Try.prog 31 #[.func (.yield l) #[] #[], .pointer (some ⟨Bn, 0, none⟩)] W fun e W' => (∃ v, e = .returned v) ∧
      ((∃ ys, ys = a.things ∧ J ys W') ∨ (∃ pre, pre <+: a.things ∧ Jx pre W')) := by
  have c0 := (cell_of_row _ _ 0 _ _ _ HB.out).trans rfl
  obtain ⟨⟨c1, c2, c3⟩, _⟩ := box3 HX.out
  have HY := Lib.hid hY
  clear hY
  refine callsIn_of_wp Try.func31 rfl trivial ?_ rfl
  simp only [Try.ntmps31, List.size_toArray, List.length_cons, List.length_nil, Nat.reduceAdd, Nat.reduceSub, Array.replicate_succ, Array.replicate_zero, List.push_toArray, List.append_toArray, List.nil_append, List.cons_append]
  gi_wp2
  clear c0 c1 c2 c3
  gi_loopw [11] (fun i wr => ∃ k : Nat, k ≤ pn ∧ i = .int .i64 (k : Int) ∧ J (a.upto k) wr ∧ KpE n0 Bn W wr) (fun i _ => pn - (intOf i).toNat)
  case atStart => exact ⟨0, Nat.zero_le _, rfl, h0, Go.RowKit.Below.refl _ _, rfl⟩
  case round =>
    obtain ⟨k, hk, rfl, hJs, hkp⟩ := hrel
    have HJ := Lib.hid hJs
    have HK := Lib.hid hkp
    have c0 := (cell_of_row _ _ 0 _ _ _ (hkp.2.trans HB.out)).trans rfl
    clear hJs hkp
    by_cases hlt : k < pn
    · have hget := HG.out wr HK.out (k : Int)
      cases hi : a.is (k : Int) with
      | true =>
        rw [hi, if_pos rfl, Int.toNat_natCast] at hget
        have HGET := Lib.hid hget
        have HUP := Lib.hid (a.upto_is k hi)
        obtain ⟨fn, tmps, assign, body, hy, hR⟩ := HY.out (a.upto k) ((k : Int), a.l.getD k 0) wr HJ.out (Nat.lt_of_le_of_lt (a.upto_len k) hlt)
        dsimp only [encT] at hy
        clear hget hi
        obtain ⟨z, hz⟩ : ∃ z, a.l.getD k 0 = z := ⟨_, rfl⟩
        rw [hz] at HGET HUP hy hR
        clear hz
        gi_wp2_with (refine ⟨trivial, ?_⟩; gi_at_call 19; refine (callsIn_wide.2 HGET.out).mono ?_; rintro e w' ⟨rfl, rfl⟩)
        refine hR.mono ?_
        rintro e W3 (⟨rfl, hJ3, hk3⟩ | ⟨rfl, hJx3⟩)
        · gi_wp2
          go_roundw
          case rel => exact ⟨k + 1, by omega, by go_num, by rw [HUP.out]; exact hJ3, HK.out.trans hk3⟩
          case measure => simp [intOf]; omega
        · gi_wp2
          refine bodyPost_ret (results_none rfl _ _ _) rfl ?_
          exact ⟨⟨_, rfl⟩, .inr ⟨_, by rw [← HUP.out]; exact a.upto_pre_things (k + 1) (by have := HPN.out; omega), hJx3⟩⟩
      | false =>
        rw [hi, if_neg (by simp)] at hget
        have HGET := Lib.hid hget
        have HUP := Lib.hid (a.upto_no k hi)
        clear hget hi
        gi_wp2_with (refine ⟨trivial, ?_⟩; gi_at_call 19; refine (callsIn_wide.2 HGET.out).mono ?_; rintro e w' ⟨rfl, rfl⟩)
        refine ⟨fun _ h => (by cases h), ?_⟩
        gi_wp2
        go_roundw
        case rel => exact ⟨k + 1, by omega, by go_num, by rw [HUP.out]; exact HJ.out, HK.out⟩
        case measure => simp [intOf]; omega
    · obtain rfl : k = pn := by omega
      gi_wp2
      go_end0
      exact ⟨⟨_, rfl⟩, .inl ⟨_, by rw [HPN.out, a.upto_all], HJ.out⟩⟩
/-- Each goes through all things, by rising places, or up to one at which it is told to stop. -/
theorem each_stops (n A Bn n0 base : Nat) (S : Nat → Prop) (a : Ar) (room : Int) (hn : 1 ≤ n) (w : World) (hA : AIs w base A a S) (hg : AG a room) (hS : ∀ b, S b → b < n0) (hn0 : n0 ≤ w.heap.size) (hB : w.heap[Bn]? = some (.cells #[aP A] 24 (0, 0))) :
    SeqStopsK Fence.wide n Try.prog 31 #[.pointer (some ⟨Bn, 0, none⟩)] encT (KpE n0 Bn) (fun ys => ys = a.things) (fun pre => pre <+: a.things) a.l.length w := fun l J Jx W hW _ _ hY h0 => by
  have hA' := hA.below hW
  obtain ⟨pv, fv, hSe, h1⟩ := hA'
  obtain ⟨pa, pc, rfl, _⟩ := own_slice h1.prow
  have hl := hg.len.1
  have hbox := h1.box
  rw [a.ps_len] at hbox
  refine each1_core n l A Bn n0 a.l.length pc pa fv a J Jx hn (by omega) rfl hY W (box_on hB hW) hbox (fun W' hk i => ?_) h0
  exact aget_any ((hA.below hW).kp (kp_of_belowN hk.1) (fun b hb hge => by have := hS b hb; omega)) hg.ok (by omega) i
end Go.Proofs.Ytdebmokpdchgpaa

/- Contract of the laws' stands, where the arena has the document's things. -/
namespace Go.Proofs.Ytdebmokpdchgpaa
open Go.RowKit Go.Sort Go.Shelf Go.Proofs.Ytdebmokpdchgpaa.Bo
set_option linter.unusedVariables false
attribute [local go_sem] Oper.semAt_some

theorem ownFrom_heap {β : Type} (B b : Nat) (f : β → Array Value) (t : TypeId) : OwnFrom B (fun (s : β) (W : World) => W.heap[b]? = some (.cells (f s) t (0, 0))) := fun s W W' row hs hg hr =>
  (hg.block b (lt_of_block hs) (fun e => by
    obtain ⟨_, o, ho, hc⟩ := hr b e.symm
    rw [hs] at ho
    injection ho with ho
    subst ho
    cases hc)).trans hs
theorem keeps_of_below {W W' : World} (h : Go.RowKit.Below W.heap.size W W') : KeepsOthers W W' := ⟨h.size, fun k o hk _ => (h.block k (lt_of_block hk)).trans hk⟩
/-- The blocks of stands. -/
structure StAt (w : World) (rB : Obj) (n last : Int) (W : World) : Prop where
  rb : W.heap[w.heap.size]? = some rB
  rs : W.heap[w.heap.size + 1]? = some (.cells #[.bool false] 4 (0, 0))
  nb : W.heap[w.heap.size + 1 + 1]? = some (.cells #[.int .i64 n] 3 (0, 0))
  lb : W.heap[w.heap.size + 1 + 1 + 1]? = some (.cells #[.int .i64 last] 3 (0, 0))
  sz : w.heap.size + 1 + 1 + 1 + 1 < W.heap.size
theorem StAt.on {w : World} {rB : Obj} {n last : Int} {W W' : World} (h : StAt w rB n last W) (hb : Go.RowKit.Below W.heap.size W W') : StAt w rB n last W' := ⟨box_on h.rb hb, box_on h.rs hb, box_on h.nb hb, box_on h.lb hb, Nat.lt_of_lt_of_le h.sz hb.size⟩
theorem StAt.setL {w : World} {rB : Obj} {n last : Int} {W : World} (h : StAt w rB n last W) (z : Int) : StAt w rB n z (W.setCell ⟨w.heap.size + 1 + 1 + 1, 0, none⟩ (.int .i64 z)) := ⟨set_far h.rb (by omega), set_far h.rs (by omega), set_far h.nb (by omega), heap_setCell_same _ _ _ _ _ _ h.lb, by have := h.sz; simp [World.setCell]; omega⟩
theorem StAt.setN {w : World} {rB : Obj} {n last : Int} {W : World} (h : StAt w rB n last W) (z : Int) : StAt w rB z last (W.setCell ⟨w.heap.size + 1 + 1, 0, none⟩ (.int .i64 z)) := ⟨set_far h.rb (by omega), set_far h.rs (by omega), heap_setCell_same _ _ _ _ _ _ h.nb, set_far h.lb (by omega), by have := h.sz; simp [World.setCell]; omega⟩
theorem one_cell {W : World} {b : Nat} {x : Value} {t : TypeId} (h : W.heap[b]? = some (.cells #[x] t (0, 0))) : W.cell? ⟨b, 0, none⟩ = some x ∧ W.frozen? ⟨b, 0, none⟩ = false := ⟨(cell_of_row _ _ 0 _ _ _ h).trans rfl, frozen_of_row _ _ 0 _ _ h⟩
theorem st_new (w : World) (rB : Obj) (A : Nat) : StAt w rB 0 (-1) (((((w.alloc rB).alloc (.cells #[.bool false] 4)).alloc (.cells #[.int .i64 0] 3)).alloc (.cells #[.int .i64 (-1)] 3)).alloc (.cells #[aP A] 24)) :=
  ⟨box_on (box_on (box_on (box_on (heap_alloc_new w _) (below_new _ _)) (below_new _ _)) (below_new _ _)) (below_new _ _), box_on (box_on (box_on (new_at' _ (by simp)) (below_new _ _)) (below_new _ _)) (below_new _ _), box_on (box_on (new_at' _ (by simp)) (below_new _ _)) (below_new _ _), box_on (new_at' _ (by simp)) (below_new _ _), by simp⟩
theorem st_below (w : World) (rB : Obj) (A : Nat) : Go.RowKit.Below w.heap.size w (((((w.alloc rB).alloc (.cells #[.bool false] 4)).alloc (.cells #[.int .i64 0] 3)).alloc (.cells #[.int .i64 (-1)] 3)).alloc (.cells #[aP A] 24)) := bt (bt (bt (bt (below_new _ _) (below_new _ _)) (below_new _ _)) (below_new _ _)) (below_new _ _)
theorem st_box (w : World) (rB : Obj) (A : Nat) : (((((w.alloc rB).alloc (.cells #[.bool false] 4)).alloc (.cells #[.int .i64 0] 3)).alloc (.cells #[.int .i64 (-1)] 3)).alloc (.cells #[aP A] 24)).heap[w.heap.size + 1 + 1 + 1 + 1]? = some (.cells #[aP A] 24 (0, 0)) := new_at' _ (by simp)
theorem st_size (w : World) (rB : Obj) (A : Nat) : (((((w.alloc rB).alloc (.cells #[.bool false] 4)).alloc (.cells #[.int .i64 0] 3)).alloc (.cells #[.int .i64 (-1)] 3)).alloc (.cells #[aP A] 24)).heap.size = w.heap.size + 5 := by simp
theorem st_s {w : World} {RM EV : Int} {fv lv : Value} {n last : Int} {W : World} {t : TypeId} (h : StAt w (.cells #[.int .i64 RM, .int .i64 EV, fv, lv] t (0, 0)) n last W) :
    (W.cell? ⟨w.heap.size, 0, none⟩ = some (.int .i64 RM) ∧ W.cell? ⟨w.heap.size, 1, none⟩ = some (.int .i64 EV) ∧ W.cell? ⟨w.heap.size, 2, none⟩ = some fv) ∧ W.cell? ⟨w.heap.size + 1 + 1, 0, none⟩ = some (.int .i64 n) := by
  obtain ⟨⟨c1, c2, c3, c4⟩, _⟩ := four_cells h.rb
  exact ⟨⟨c1, c2, c3⟩, (one_cell h.nb).1⟩
structure StR (w : World) (rB : Obj) (n : Int) (W : World) : Prop where
  rb : W.heap[w.heap.size]? = some rB
  nb : W.heap[w.heap.size + 1 + 1]? = some (.cells #[.int .i64 n] 3 (0, 0))
theorem st_res {w : World} {rB : Obj} {n last : Int} {W : World} (h : StAt w rB n last W) : StR w rB n (W.setCell ⟨w.heap.size + 1, 0, none⟩ (.bool true)) := ⟨set_far h.rb (by omega), set_far h.nb (by omega)⟩
theorem st_s2 {w : World} {RM EV : Int} {fv lv : Value} {n : Int} {W : World} {t : TypeId} (h : StR w (.cells #[.int .i64 RM, .int .i64 EV, fv, lv] t (0, 0)) n W) :
    (W.cell? ⟨w.heap.size, 0, none⟩ = some (.int .i64 RM) ∧ W.cell? ⟨w.heap.size, 1, none⟩ = some (.int .i64 EV) ∧ W.cell? ⟨w.heap.size, 2, none⟩ = some fv) ∧ W.cell? ⟨w.heap.size + 1 + 1, 0, none⟩ = some (.int .i64 n) := by
  obtain ⟨⟨c1, c2, c3, c4⟩, _⟩ := four_cells h.rb
  exact ⟨⟨c1, c2, c3⟩, (one_cell h.nb).1⟩
theorem StAt.drew {w : World} {rB : Obj} {n last : Int} {W : World} (h : StAt w rB n last W) : StAt w rB n last W.drew := ⟨h.rb, h.rs, h.nb, h.lb, h.sz⟩
/-- Between two rounds. -/
def StI (w : World) (rB : Obj) (pre : List (Int × Int)) (W : World) : Prop := StAt w rB (pre.length : Int) (lastPl pre) W ∧ Go.RowKit.Below w.heap.size w W
/-- A round that is left: it has met what is not the document's. -/
def StX (r : Ar) (c : Code) (pre : List (Int × Int)) (W : World) : Prop := ∃ p x, pre = p ++ [x] ∧ goodT r p x = false
theorem stI_own (w : World) (rB : Obj) (B : Nat) (cs : Array Value) (t : TypeId) (hr : rB = .cells cs t (0, 0)) (hB : w.heap.size ≤ B) : OwnFrom B (StI w rB) := by
  subst hr
  intro s W W' row hs hg hr
  have k : ∀ {b : Nat} {ds : Array Value} {u : TypeId}, W.heap[b]? = some (.cells ds u (0, 0)) → W'.heap[b]? = some (.cells ds u (0, 0)) := fun {b ds u} h => ownFrom_heap B b (fun _ : Unit => ds) u () W W' row h hg hr
  exact ⟨⟨k hs.1.rb, k hs.1.rs, k hs.1.nb, k hs.1.lb, Nat.lt_of_lt_of_le hs.1.sz hg.size⟩, hs.2.grown hg hs.2.size (fun j e => by have := (hr j e).1; omega)⟩
theorem stX_own (r : Ar) (c : Code) (B : Nat) : OwnFrom B (StX r c) := fun s W W' row hs _ _ => hs
theorem good_of {r : Ar} {pre : List (Int × Int)} {x : Int × Int} (h1 : ¬ x.1 ≤ lastPl pre) (h2 : r.is x.1 = true) (h3 : r.l.getD x.1.toNat 0 = x.2) : goodT r pre x = true := by
  unfold goodT; rw [decide_eq_false h1, h2, h3, bne_self_eq_false]; rfl
theorem bad1 {r : Ar} {pre : List (Int × Int)} {x : Int × Int} (h1 : x.1 ≤ lastPl pre) : goodT r pre x = false := by unfold goodT; rw [decide_eq_true h1]; rfl
theorem bad2 {r : Ar} {pre : List (Int × Int)} {x : Int × Int} (h2 : r.is x.1 = false) : goodT r pre x = false := by unfold goodT; rw [h2]; simp
theorem bad3 {r : Ar} {pre : List (Int × Int)} {x : Int × Int} (h3 : r.l.getD x.1.toNat 0 ≠ x.2) : goodT r pre x = false := by
  unfold goodT; rw [show (r.l.getD x.1.toNat 0 != x.2) = true from by simpa using h3]; simp
theorem kpE_set {n0 B : Nat} {X W : World} (h : KpE n0 B X W) (b : Nat) (hb : n0 ≤ b) (hne : b ≠ B) (u : Value) : KpE n0 B X (W.setCell ⟨b, 0, none⟩ u) := ⟨h.1.setCell hb _, (heap_setCell_other _ _ _ _ (fun e => hne e.symm)).trans h.2⟩
theorem kpE_below {n0 B : Nat} {X W : World} (hb : Go.RowKit.Below X.heap.size X W) (hn : n0 ≤ X.heap.size) (hB : B < X.heap.size) : KpE n0 B X W := ⟨hb.mono hn, hb.block B hB⟩
set_option maxRecDepth 100000 in
set_option maxHeartbeats 4000000 in
theorem stands_core (S : Nat → Prop) (w : World) (base A : Nat) (r : Ar) (room RM EV : Int) (fa la : Option Addr) (FN fc LN lc : Nat) (HA : Hid (AIs w base A r S)) (HG : Hid (AG r room)) (hl : LN ≤ 9999) (hl2 : FN ≤ 9999) (hEV : 0 ≤ EV ∧ EV ≤ 9999)
    (HLN : Hid (LN = r.l.length)) (HTL : Hid ((r.things.length : Int) = EV - (FN : Int))) (HLR : Hid (NRow w 2 la r.l))
    (HIS : Hid (∀ W, Go.RowKit.Below w.heap.size w W → ∀ i : Int, Calls Try.prog 20 #[.agg #[.int .i64 RM, .int .i64 EV, .slice fa FN fc, .slice la LN lc], .int .i64 i] W fun e w' => e = .returned (.bool (r.is i)) ∧ Go.RowKit.Below W.heap.size W w'))
    (HLE : Hid (∀ W, Go.RowKit.Below w.heap.size w W → Calls Try.prog 22 #[aP A] W fun e w' => e = .returned (.int .i64 (EV - (FN : Int))) ∧ Go.RowKit.Below W.heap.size W w'))
    (HRO : Hid (∀ W, Go.RowKit.Below w.heap.size w W → Calls Try.prog 27 #[aP A] W fun e w' => e = .returned (.int .i64 RM) ∧ W = w')) :
    Calls Try.prog 15 #[aP A, .agg #[.int .i64 RM, .int .i64 EV, .slice fa FN fc, .slice la LN lc]] w fun e w' => e = .returned (.bool true) ∧ Go.RowKit.Below w.heap.size w w' := by
  have mx := mixed
  have HST := Lib.hid (st_new w (.cells #[.int .i64 RM, .int .i64 EV, .slice fa FN fc, .slice la LN lc] 31) A)
  have HBB := Lib.hid (st_below w (.cells #[.int .i64 RM, .int .i64 EV, .slice fa FN fc, .slice la LN lc] 31) A)
  have HBX := Lib.hid (st_box w (.cells #[.int .i64 RM, .int .i64 EV, .slice fa FN fc, .slice la LN lc] 31) A)
  have HSZ := Lib.hid (st_size w (.cells #[.int .i64 RM, .int .i64 EV, .slice fa FN fc, .slice la LN lc] 31) A)
  refine (callsIn_wide (n := 3)).1 ?_
  refine callsIn_of_wp_marks Try.func15 rfl trivial ?_ rfl
  simp only [Try.ntmps15, List.size_toArray, List.length_cons, List.length_nil, Nat.reduceAdd, Nat.reduceSub, Array.replicate_succ, Array.replicate_zero, List.push_toArray, List.append_toArray, List.nil_append, List.cons_append]
  refine wpIn_wide.2 ?_
  go_wp2_with (go_at_call 21; refine (each_any A _).mono ?_; rintro e w' ⟨rfl, rfl⟩)
  generalize (((((w.alloc (.cells #[.int .i64 RM, .int .i64 EV, .slice fa FN fc, .slice la LN lc] 31)).alloc (.cells #[.bool false] 4)).alloc (.cells #[.int .i64 0] 3)).alloc (.cells #[.int .i64 (-1)] 3)).alloc (.cells #[aP A] 24)) = W0 at *
  refine (wpIn_wide (n := 3)).1 ?_
  refine wpIn_rangeFunc_ownF rfl (by omega) (gf := 31) (lb := #[.pointer (some ⟨w.heap.size + 1 + 1 + 1 + 1, 0, none⟩)]) rfl trivial (enters_of Try.func31 (by kernel_rfl) rfl)
    (each_stops (3 - 1) A (w.heap.size + 1 + 1 + 1 + 1) w.heap.size base S r room (by omega) W0 (HA.out.below HBB.out) HG.out (fun b hb => (HA.out.lt b hb).2) HBB.out.size HBX.out) KpE.trans (kpE_b HBB.out.size (by have := HSZ.out; omega)) (Go.RowKit.Below.refl _ _) (fun _ => rfl)
    (StI w (.cells #[.int .i64 RM, .int .i64 EV, .slice fa FN fc, .slice la LN lc] 31 (0, 0))) (StX r) (stI_own w _ _ _ _ rfl HBB.out.size) (fun c => stX_own r c _) ⟨HST.out, HBB.out⟩
    (fun x => { tmps := #[aP A, .agg #[.int .i64 RM, .int .i64 EV, .slice fa FN fc, .slice la LN lc], undef, .pointer (some ⟨w.heap.size, 0, none⟩), .pointer (some ⟨w.heap.size + 1, 0, none⟩), .pointer (some ⟨w.heap.size + 1 + 1, 0, none⟩), .pointer (some ⟨w.heap.size + 1 + 1 + 1, 0, none⟩), .int .i64 x.1, .int .i64 x.2, aP A,
      .func (.func 31) #[] #[.pointer (some ⟨w.heap.size + 1 + 1 + 1 + 1, 0, none⟩)], .int .i64 x.1, .int .i64 x.2, undef, undef, undef, undef, undef, undef, undef, undef, undef, undef, undef, undef, undef, undef, undef, undef, undef, undef, undef, undef, undef, undef, undef, undef, undef, undef, undef, undef, undef, undef, undef, undef, undef, undef, undef, undef, undef, undef, undef, undef, undef, undef], defers := [] }) ?assign ?body ?done ?stop
  case assign =>
    intro l x W K hK
    gi_wp2
    exact hK
  case body =>
    rintro l pre ⟨xi, xv⟩ W ⟨hst, hB⟩ hlen
    have HT := Lib.hid hst
    have HW := Lib.hid hB
    have hsz := lt_of_block hst.lb
    obtain ⟨⟨c1, c2, c3, c4⟩, _⟩ := four_cells hst.rb
    obtain ⟨d1, d2⟩ := one_cell hst.rs
    obtain ⟨e1, e2⟩ := one_cell hst.nb
    obtain ⟨f1, f2⟩ := one_cell hst.lb
    have hpl : pre.length < 10000 := by have := HLN.out; omega
    have HSN := Lib.hid (lastPl_snoc pre (xi, xv))
    have HLS : Hid ((pre ++ [(xi, xv)]).length = pre.length + 1) := by show _ = _; simp
    clear hst hB hlen
    by_cases h1 : xi ≤ lastPl pre
    · have HBAD := Lib.hid (bad1 (r := r) (x := (xi, xv)) h1)
      have t1 : decide (xi ≤ lastPl pre) = true := decide_eq_true h1
      clear h1
      gi_wp2
      refine ⟨trivial, ?_⟩
      gi_wp2
      exact ⟨KeepsOthers.setCell _ _ _, ⟨pre, (xi, xv), rfl, HBAD.out⟩⟩
    · have t1 : decide (xi ≤ lastPl pre) = false := decide_eq_false h1
      have HIX := Lib.hid (HIS.out W HW.out xi)
      cases h2 : r.is xi with
      | false =>
        have HBAD := Lib.hid (bad2 (r := r) (pre := pre) (x := (xi, xv)) h2)
        rw [h2] at HIX
        clear h1 h2
        gi_wp2_with (refine ⟨trivial, ?_⟩; gi_at_call 20; refine (CallsIn.inRound l (callsIn_wide.2 HIX.out)).mono ?_; rintro e y1 ⟨rfl, hb⟩; have hb2 := Lib.hid hb; have d3 := (one_cell (HT.out.on hb).rs).1; have d4 := (one_cell (HT.out.on hb).rs).2; clear hb)
        exact ⟨(keeps_of_below hb2.out).trans (KeepsOthers.setCell _ _ _), ⟨pre, (xi, xv), rfl, HBAD.out⟩⟩
      | true =>
        obtain ⟨g1, _, g3, _⟩ := r.is_in xi HG.out.ok h2
        obtain ⟨n, rfl⟩ : ∃ n : Nat, xi = (n : Int) := ⟨xi.toNat, by omega⟩
        rw [Int.toNat_natCast] at g3
        have hnL : n < LN := by have := HLN.out; omega
        obtain ⟨lb, loff, rfl, _, hlc⟩ := HLR.out (by omega)
        have hcl := hlc n g3
        have hgd : r.l.getD n 0 = r.l[n] := by rw [List.getD_eq_getElem?_getD, List.getElem?_eq_getElem g3]; rfl
        rw [← hgd] at hcl
        have hlbs : lb < w.heap.size := World.block_lt_of_cell? w _ hcl
        have HCL := Lib.hid hcl
        have HKW := Lib.hid (HW.out.cell (p := ⟨lb, loff + n, none⟩) hlbs)
        rw [h2] at HIX
        have i1 : (0 : Int) ≤ (n : Int) := by omega
        have i2 : (n : Int) < (LN : Int) := by omega
        clear hlc hcl hgd g1 g3
        by_cases h3 : r.l.getD n 0 = xv
        · have HB2 := Lib.hid h3
          obtain ⟨z, hz⟩ : ∃ z, r.l.getD n 0 = z := ⟨_, rfl⟩
          have t3 : (z != xv) = false := by rw [← hz, h3]; simp
          rw [hz] at HCL
          obtain ⟨q, hq⟩ : ∃ q, pre.length = q := ⟨_, rfl⟩
          obtain ⟨ls, hls⟩ : ∃ ls, lastPl pre = ls := ⟨_, rfl⟩
          have HQ := Lib.hid hq
          rw [hq, hls] at HT
          rw [hq] at e1 hpl
          rw [hls] at f1 t1
          clear h1 h2 h3 hz hq hls
          gi_wp2_with (refine ⟨trivial, ?_⟩; gi_at_call 20; refine (CallsIn.inRound l (callsIn_wide.2 HIX.out)).mono ?_; rintro e y1 ⟨rfl, hb⟩; have hb2 := Lib.hid hb; have HT1 := Lib.hid (HT.out.on hb); have HT2 := Lib.hid (HT1.out.setL (n : Int)); have HT3 := Lib.hid (HT2.out.setN ((q : Int) + 1)); obtain ⟨⟨k1, k2, k3, k4⟩, _⟩ := four_cells HT1.out.rb; obtain ⟨k5, k6⟩ := one_cell HT1.out.lb; obtain ⟨k7, k8⟩ := one_cell HT2.out.nb; have k9 := (hb.cell (p := ⟨lb, loff + n, none⟩) (Nat.lt_of_lt_of_le hlbs HW.out.size)).trans (HKW.out.trans HCL.out); clear hb)
          refine ⟨((keeps_of_below hb2.out).trans (KeepsOthers.setCell _ _ _)).trans (KeepsOthers.setCell _ _ _), ?_, ⟨?_, ?_⟩⟩
          · exact kpE_set (kpE_set (kpE_below hb2.out HW.out.size HT.out.sz) _ (by omega) (by omega) _) _ (by omega) (by omega) _
          · have h := HT3.out
            rw [HSN.out, HLS.out, HQ.out]
            exact h
          · exact ((bt HW.out hb2.out).setCell (p := ⟨w.heap.size + 1 + 1 + 1, 0, none⟩) (by show w.heap.size ≤ w.heap.size + 1 + 1 + 1; omega) _).setCell (p := ⟨w.heap.size + 1 + 1, 0, none⟩) (by show w.heap.size ≤ w.heap.size + 1 + 1; omega) _
        · have HBAD := Lib.hid (bad3 (r := r) (pre := pre) (x := ((n : Int), xv)) (by rw [Int.toNat_natCast]; exact h3))
          obtain ⟨z, hz⟩ : ∃ z, r.l.getD n 0 = z := ⟨_, rfl⟩
          have t3 : (z != xv) = true := by rw [← hz]; simpa using h3
          rw [hz] at HCL
          clear h1 h2 h3 hz
          gi_wp2_with (refine ⟨trivial, ?_⟩; gi_at_call 20; refine (CallsIn.inRound l (callsIn_wide.2 HIX.out)).mono ?_; rintro e y1 ⟨rfl, hb⟩; have hb2 := Lib.hid hb; have HT1 := Lib.hid (HT.out.on hb); obtain ⟨⟨k1, k2, k3, k4⟩, _⟩ := four_cells HT1.out.rb; obtain ⟨k5, k6⟩ := one_cell HT1.out.rs; have k9 := (hb.cell (p := ⟨lb, loff + n, none⟩) (Nat.lt_of_lt_of_le hlbs HW.out.size)).trans (HKW.out.trans HCL.out); clear hb)
          exact ⟨(keeps_of_below hb2.out).trans (KeepsOthers.setCell _ _ _), ⟨pre, ((n : Int), xv), rfl, HBAD.out⟩⟩
  case stop =>
    rintro D c pre W hD hSp ⟨p, x, rfl, hbad⟩ hK
    have := things_good r r.l.length p x (by rw [r.upto_all]; exact hSp)
    rw [this] at hbad
    cases hbad
  case done =>
    rintro D ys W hD rfl ⟨hst, hB⟩ hK
    have HT := Lib.hid hst
    have HW := Lib.hid hB
    have HK := Lib.hid hK
    clear hst hB hK
    rw [HTL.out] at HT
    obtain ⟨⟨c1, c2, c3, c4⟩, _⟩ := four_cells HT.out.rb
    obtain ⟨d1, d2⟩ := one_cell HT.out.rs
    obtain ⟨e1, e2⟩ := one_cell HT.out.nb
    have q1 : IntKind.i64.wrap (EV - (FN : Int)) = EV - (FN : Int) := IntWalk.i64_in _ (by omega)
    have t1 : ((EV - (FN : Int)) == (EV - (FN : Int))) = true := beq_self_eq_true _
    have t2 : (RM == RM) = true := beq_self_eq_true _
    have hDw : w.heap.size ≤ D := Nat.le_trans HBB.out.size hD
    have HT0 := Lib.hid HT.out.drew
    have hS0 := Lib.hid (st_s HT0.out)
    have HWD := Lib.hid HW.out.drew
    have HKD : Hid (W.drew.heap[D]? = some (.deferred (some []))) := HK.out
    clear hD
    go_wp2_with fail
    clear c1 c2 c3 c4 d1 d2 e1 e2
    go_region_held3 (fun w' => (w'.cell? ⟨w.heap.size, 0, none⟩ = some (.int .i64 RM) ∧ w'.cell? ⟨w.heap.size, 1, none⟩ = some (.int .i64 EV) ∧ w'.cell? ⟨w.heap.size, 2, none⟩ = some (.slice fa FN fc)) ∧ w'.cell? ⟨w.heap.size + 1 + 1, 0, none⟩ = some (.int .i64 (EV - (FN : Int))))
      (with_reducible first | exact hS0.out | exact hS1.out | exact hS2.out)
      (first
        | (go_at_call 22; refine (HLE.out _ HWD.out).mono ?_; rintro e y1 ⟨rfl, hb⟩; have HB1 := Lib.hid hb; have HT1 := Lib.hid (HT0.out.on hb); have hS1 := Lib.hid (st_s HT1.out); have d3 := (one_cell HT1.out.rs).1; have d4 := (one_cell HT1.out.rs).2; have HWY := Lib.hid (bt HWD.out hb); have HKY := Lib.hid (box_on HKD.out hb); have hK' := (KeepsOthers.setCell y1 ⟨w.heap.size + 1, 0, none⟩ (.bool true)).same D _ HKY.out rfl; have hS2 := Lib.hid (st_s2 (st_res HT1.out)); clear hb)
        | (go_at_call 27; refine (HRO.out _ HWY.out).mono ?_; rintro e y2 ⟨rfl, rfl⟩))
    all_goals
      go_wp2_with fail
      refine ⟨by simp, .inl ⟨_, _, rfl, run_takeDeferred hK', ?_⟩⟩
      have hc5 := cell_kept (World.cell?_setCell_same' y1 ⟨w.heap.size + 1, 0, none⟩ (.bool true) (by rw [d3]; rfl)) (grownBy_putObj' _ D (.deferred none)) (fun r e => by cases e; exact ⟨_, hK', rfl⟩)
      refine ⟨.bool true, ?_, rfl, (HWY.out.setCell (p := ⟨w.heap.size + 1, 0, none⟩) (by show w.heap.size ≤ w.heap.size + 1; omega) _).trans (belowK_b (w := w) (Nat.le_refl _) _ D _ _ hDw hK' rfl rfl)⟩
      simp [results, Try.f15, go_sem, hc5]
theorem stands_any {S : Nat → Prop} {w : World} {base A : Nat} {r : Ar} {room : Int} {fa la : Option Addr} {fc lc : Nat} (hA : AIs w base A r S) (hg : AG r room) (hr : ArAt w r fa fc la lc) (hl : r.l.length ≤ 9999) (hl2 : r.free.length ≤ 9999) :
    Calls Try.prog 15 #[aP A, arV r fa fc la lc] w fun e w' => e = .returned (.bool true) ∧ Go.RowKit.Below w.heap.size w w' :=
  stands_core S w base A r room r.room r.ever fa la r.free.length fc r.l.length lc hA hg hl hl2 (by have := hg.ok.ever; omega) rfl (r.things_len hg.ok) hr.lr
    (fun W hb i => raris_any r fa fc la lc i W (hr.below hb) (by omega)) (fun W hb => alen_g (hA.below hb) hg) (fun W hb => aroom_any (hA.below hb))
end Go.Proofs.Ytdebmokpdchgpaa

/- Contract of the program's Copy. -/
namespace Go.Proofs.Ytdebmokpdchgpaa
open Go.RowKit Go.Sort Go.Proofs.Ytdebmokpdchgpaa.Bo
set_option linter.unusedVariables false

/-- append of an owned row, also of an empty one. -/
theorem run_append_src (w : World) (t ty e : TypeId) (base base' : Nat) (i : TypeInfo) (z : Value) (size bytes : Nat) (ht : Try.prog.underlying t = some (.slice e)) (hi : Try.prog.info? e = some i) (hz : i.zero = some z)
    (hsize : i.size = size) (hby : i.bytes = bytes) (hzs : z.cells.size = size) (hsz : 0 < size) (v : Value) (n : Nat) (xs : List Value) (hown : w.ownsRow base e size v n xs)
    (g m c : Nat) (ys : List Value) (hsrc : w.ownsRow base' e size (.slice (some ⟨g, 0, none⟩) m c) m ys) (h1 : ∀ u ∈ ys, u.oneCell' = true) (h63 : n + m ≤ 1000000) (hbt : bytes ≤ 64) (hbase : base ≤ w.heap.size) :
    ∃ a' cap w', (Builtin.append_ #[t, t] ty #[v, .slice (some ⟨g, 0, none⟩) m c]).run Try.prog w = .ok (.slice a' (n + m) cap) w' ∧
      w'.ownsRow base e size (.slice a' (n + m) cap) (n + m) (xs ++ ys) ∧ w.grownBy w' v.ownBlock := by
  rcases Nat.eq_zero_or_pos m with h0 | h0
  · subst h0
    have hys : ys = [] := by
      have := hsrc.1
      rw [Nat.zero_mul] at this
      exact List.length_eq_zero_iff.1 this
    subst hys
    have hs : Src Try.prog i.size t (.slice (some ⟨g, 0, none⟩) 0 c) 0 [] w := Src.ofSlice w ht ⟨g, 0, none⟩ 0 c [] (by simp) (by simp) (by simp)
    have key : ∀ base' cap', v = .slice base' n cap' → n ≤ cap' → (Builtin.append_ #[t, t] ty #[v, .slice (some ⟨g, 0, none⟩) 0 c]).run Try.prog w = .ok (.slice base' n cap') w := by
      intro base' cap' hv hle
      rw [hv]
      exact run_append_nothing w t t ty e i ht hi base' n cap' hle _ hs
    rw [List.append_nil]
    rcases hown.2 with ⟨hv, hn⟩ | ⟨g', cap, cur, hv, r⟩
    · subst hn
      refine ⟨none, 0, w, key none 0 hv (Nat.le_refl _), ?_, World.grownBy.refl _ _⟩
      rw [hv] at hown; exact hown
    · refine ⟨some ⟨g', 0, none⟩, cap, w, key _ _ hv r.2.2.1, ?_, World.grownBy.refl _ _⟩
      rw [hv] at hown; exact hown
  · have hb : (n + m) * bytes ≤ 140737488355328 := Nat.le_trans (Nat.mul_le_mul h63 hbt) (by decide)
    obtain ⟨g', cap, w', k1, k2, k3, _, _⟩ := run_append_lies (P := Try.prog) w t ty base e i z size bytes ht hi hz hsize hby hzs hsz v n xs hown ⟨g, 0, none⟩ m c ys hsrc.1 (hsrc.cells rfl) h1 h0 (by unfold maxLen; omega) hb hbase _ rfl
    exact ⟨_, cap, w', k1, k2, k3⟩
theorem wpList_append_src {ops : Array Oper} {rest : List Oper} {o : Oper} {a : Act} {Q : Exit → Act → World → Prop} (w : World) (hgd : o.guard = none) (s x : Operand) (t : TypeId)
    (ho : o.op = .call { callee := .builtin .append, args := #[s, x], argTypes := #[t, t] })
    (base base' : Nat) (e : TypeId) (i : TypeInfo) (z : Value) (size bytes : Nat) (ht : Try.prog.underlying t = some (.slice e)) (hi : Try.prog.info? e = some i) (hz : i.zero = some z)
    (hsize : i.size = size) (hby : i.bytes = bytes) (hzs : z.cells.size = size) (hsz : 0 < size)
    (v : Value) (n : Nat) (xs : List Value) (hs : a.eval s = v) (hown : w.ownsRow base e size v n xs)
    (g m c : Nat) (ys : List Value) (hx : a.eval x = .slice (some ⟨g, 0, none⟩) m c) (hsrc : w.ownsRow base' e size (.slice (some ⟨g, 0, none⟩) m c) m ys) (h1 : ∀ u ∈ ys, u.oneCell' = true)
    (h63 : n + m ≤ 1000000) (hbt : bytes ≤ 64) (hbase : base ≤ w.heap.size)
    (h : ∀ a' cap w', w'.ownsRow base e size (.slice a' (n + m) cap) (n + m) (xs ++ ys) → w.grownBy w' v.ownBlock → wpList Try.prog ops Q rest (a.put o.dst (.slice a' (n + m) cap)) w') : wpList Try.prog ops Q (o :: rest) a w := by
  refine wpList_plain hgd fun _ hK => ?_
  obtain ⟨a', cap, w', hr', h2, h3⟩ := run_append_src w t o.type e base base' i z size bytes ht hi hz hsize hby hzs hsz v n xs hown g m c ys hsrc h1 h63 hbt hbase
  unfold Oper.wp execOp
  simp only [ho, resolve, invoke, builtin, Sem.run_bind, Sem.run_pure, Result.andThen_ok, List.map_toArray, List.map_cons, List.map_nil, hs, hx, hr']
  exact hK _ _ (h a' cap w' h2 h3)
theorem own_none {w : World} {base : Nat} {e : TypeId} {size n cap : Nat} {xs : List Value} (h : w.ownsRow base e size (.slice none n cap) n xs) : n = 0 ∧ cap = 0 ∧ xs = [] := by
  rcases h.2 with ⟨h1, h2⟩ | ⟨g, c, cur, h1, _⟩
  · injection h1 with _ h3 h4
    refine ⟨h2, h4, ?_⟩
    have := h.1
    rw [h2, Nat.zero_mul] at this
    exact List.length_eq_zero_iff.1 this
  · cases h1
theorem own_some {w : World} {base : Nat} {e : TypeId} {size n cap : Nat} {x : Addr} {xs : List Value} (h : w.ownsRow base e size (.slice (some x) n cap) n xs) : ∃ g, x = ⟨g, 0, none⟩ := by
  rcases h.2 with ⟨h1, h2⟩ | ⟨g, c, cur, h1, _⟩
  · cases h1
  · injection h1 with h1 _ _
    injection h1 with h1
    exact ⟨g, h1⟩
theorem own_empty' (X : World) (e : TypeId) (size : Nat) : (X.alloc (.cells #[] e)).ownsRow X.heap.size e size (.slice (some ⟨X.heap.size, 0, none⟩) 0 0) 0 [] := ⟨by simp, .inr ⟨X.heap.size, 0, #[], rfl, Nat.le_refl _, heap_alloc_new _ _, Nat.le_refl _, Nat.zero_le _, by simp, by simp⟩⟩
theorem own_base {w : World} {base base' : Nat} {e : TypeId} {size : Nat} {v : Value} {n : Nat} {xs : List Value} (h : w.ownsRow base e size v n xs) (hb : base' ≤ base) : w.ownsRow base' e size v n xs := by
  refine ⟨h.1, ?_⟩
  rcases h.2 with hz | ⟨g, cap, cur, rfl, hb2, rest⟩
  · exact .inl hz
  · exact .inr ⟨g, cap, cur, rfl, Nat.le_trans hb hb2, rest⟩
/-- What a clone is: a row of its own making. -/
def ClPost (w : World) (e : TypeId) (size n : Nat) (xs : List Value) (en : Ending) (w' : World) : Prop := ∃ a cap, (en = .returned (.slice a n cap) ∧ w'.ownsRow w.heap.size e size (.slice a n cap) n xs) ∧ Go.RowKit.Below w.heap.size w w'
set_option maxRecDepth 100000 in
set_option maxHeartbeats 1000000 in
theorem clone_p {w : World} {base n cap : Nat} {a : Option Addr} {xs : List Value} (h : w.ownsRow base 66 2 (.slice a n cap) n xs) (h1 : ∀ u ∈ xs, u.oneCell' = true) (hn : n ≤ 1000000) :
    Calls Try.prog 28 #[.slice a n cap] w (ClPost w 66 2 n xs) := by
  obtain ⟨i0, hi, hz0, hz1, hz2⟩ := info_parts Try.infoPl
  have q22 : ∀ (w : World) (a : Option Addr) (n c n' c' : Nat), (binOp .eql 60 (.slice a n c) (.slice none n' c')).run Try.prog w = .ok (.bool a.isNone) w := fun w a n c n' c' => Lib.run_eql_slice_nil w _ _ a n c n' c' Try.underlying60
  cases a with
  | none =>
    obtain ⟨rfl, rfl, rfl⟩ := own_none h
    clear h h1
    go_enter Try.func28, Try.ntmps28
    go_wp2_with fail
    go_ret
    exact ⟨none, 0, ⟨rfl, World.ownsRow_nil _ _ _ _⟩, Go.RowKit.Below.refl _ _⟩
  | some x =>
    obtain ⟨g, rfl⟩ := own_some h
    have HO := Lib.hid (h.alloc (.cells #[] 66))
    have HE := Lib.hid (own_empty' w 66 2)
    have HB := Lib.hid (below_new w (.cells #[] 66))
    have H1 := Lib.hid h1
    clear h h1
    go_enter Try.func28, Try.ntmps28
    go_wp2_with (at_builtin; refine wpList_append_src _ rfl _ _ 60 rfl w.heap.size base 66 i0 _ 2 16 Try.underlying60 hi hz0 hz1 hz2 rfl (by omega) _ 0 [] (by rfl) HE.out g n cap xs (by rfl) HO.out H1.out (by omega) (by omega) (by simp) ?_; intro a1 cap1 w1 hown1 hgrow1; rw [Nat.zero_add, List.nil_append] at hown1; have HO1 := Lib.hid hown1; have HB1 : Hid (Go.RowKit.Below w.heap.size w w1) := HB.out.grown hgrow1 (by simp) (fun k hk => (HE.out.lt k hk).1); clear hown1 hgrow1)
    go_ret
    refine ⟨a1, cap1, ⟨?_, HO1.out⟩, HB1.out⟩
    first | rfl | rw [Nat.zero_add]
set_option maxRecDepth 100000 in
set_option maxHeartbeats 1000000 in
theorem clone_f {w : World} {base n cap : Nat} {a : Option Addr} {xs : List Value} (h : w.ownsRow base 3 1 (.slice a n cap) n xs) (h1 : ∀ u ∈ xs, u.oneCell' = true) (hn : n ≤ 1000000) :
    Calls Try.prog 29 #[.slice a n cap] w (ClPost w 3 1 n xs) := by
  obtain ⟨i0, hi, hz0, hz1, hz2⟩ := info_parts Try.infoInt
  have q22 : ∀ (w : World) (a : Option Addr) (n c n' c' : Nat), (binOp .eql 28 (.slice a n c) (.slice none n' c')).run Try.prog w = .ok (.bool a.isNone) w := fun w a n c n' c' => Lib.run_eql_slice_nil w _ _ a n c n' c' Try.underlying28
  cases a with
  | none =>
    obtain ⟨rfl, rfl, rfl⟩ := own_none h
    clear h h1
    go_enter Try.func29, Try.ntmps29
    go_wp2_with fail
    go_ret
    exact ⟨none, 0, ⟨rfl, World.ownsRow_nil _ _ _ _⟩, Go.RowKit.Below.refl _ _⟩
  | some x =>
    obtain ⟨g, rfl⟩ := own_some h
    have HO := Lib.hid (h.alloc (.cells #[] 3))
    have HE := Lib.hid (own_empty' w 3 1)
    have HB := Lib.hid (below_new w (.cells #[] 3))
    have H1 := Lib.hid h1
    clear h h1
    go_enter Try.func29, Try.ntmps29
    go_wp2_with (at_builtin; refine wpList_append_src _ rfl _ _ 28 rfl w.heap.size base 3 i0 _ 1 8 Try.underlying28 hi hz0 hz1 hz2 rfl (by omega) _ 0 [] (by rfl) HE.out g n cap xs (by rfl) HO.out H1.out (by omega) (by omega) (by simp) ?_; intro a1 cap1 w1 hown1 hgrow1; rw [Nat.zero_add, List.nil_append] at hown1; have HO1 := Lib.hid hown1; have HB1 : Hid (Go.RowKit.Below w.heap.size w w1) := HB.out.grown hgrow1 (by simp) (fun k hk => (HE.out.lt k hk).1); clear hown1 hgrow1)
    go_ret
    refine ⟨a1, cap1, ⟨?_, HO1.out⟩, HB1.out⟩
    first | rfl | rw [Nat.zero_add]

/-- What a copy is. -/
def CpPost (w : World) (a : Ar) (e : Ending) (w' : World) : Prop := ∃ C S, (e = .returned (aP C) ∧ AIs w' w.heap.size C a S) ∧ Go.RowKit.Below w.heap.size w w'
theorem box3_drew {W : World} {b : Nat} {o : Obj} (h : W.heap[b]? = some o) : W.drew.heap[b]? = some o := h
set_option maxRecDepth 100000 in
set_option maxHeartbeats 2000000 in
theorem acopy_core (A base pn pc fn fc : Nat) (pa fa : Option Addr) (a : Ar) (w : World) (HS : Hid (AAt w base A a.room (.slice pa pn pc) (.slice fa fn fc) a.ps a.free)) (RM : Int) (HRM : Hid (RM = a.room)) (HPN : Hid (pn = a.ps.length)) (HFN : Hid (fn = a.free.length)) (hp : pn ≤ 1000000) (hf : fn ≤ 1000000)
    (HX : Hid (w.heap[A]? = some (.cells #[.int .i64 RM, .slice pa pn pc, .slice fa fn fc] 62 (0, 0)))) :
    Calls Try.prog 17 #[aP A] w (CpPost w a) := by
  have mx := mixed
  have hsz : A < w.heap.size := lt_of_block HX.out
  have HX0 := Lib.hid (box3_drew HX.out)
  have hS0 := Lib.hid (box3 HX0.out).1
  have HP : Hid (∀ W, Go.RowKit.Below w.heap.size w W → Calls Try.prog 28 #[.slice pa pn pc] W (ClPost W 66 2 pn (flatP a.ps))) := fun W hb => by
    have h := (HS.out.below hb).prow
    rw [← HPN.out] at h
    exact clone_p h (flatP_one _) hp
  have HF : Hid (∀ W, Go.RowKit.Below w.heap.size w W → Calls Try.prog 29 #[.slice fa fn fc] W (ClPost W 3 1 fn (a.free.map nv))) := fun W hb => by
    have h := (HS.out.below hb).frow
    rw [← HFN.out] at h
    exact clone_f h (nv_one _) hf
  have HB0 := Lib.hid ((Go.RowKit.Below.refl w.heap.size w).drew)
  go_enter Try.func17, Try.ntmps17
  go_wp2_with fail
  go_region_held3 (fun w' => w'.cell? ⟨A, 0, none⟩ = some (.int .i64 RM) ∧ w'.cell? ⟨A, 1, none⟩ = some (.slice pa pn pc) ∧ w'.cell? ⟨A, 2, none⟩ = some (.slice fa fn fc))
    (with_reducible first | exact hS0.out | exact hS1.out | exact hS2.out | exact hS3.out)
    (first
      | (go_at_call 28; refine (HP.out _ HB0.out).mono ?_; rintro e y1 ⟨a1, cap1, ⟨rfl, ho1⟩, hb1⟩; have HO1 := Lib.hid ho1; have HX1 := Lib.hid (box_on HX0.out hb1); have hS1 := Lib.hid (box3 HX1.out).1; have HB1 := Lib.hid (bt HB0.out hb1); clear ho1 hb1)
      | (go_at_call 29; refine (HF.out _ HB1.out).mono ?_; rintro e y2 ⟨a2, cap2, ⟨rfl, ho2⟩, hb2⟩; have HO2 := Lib.hid ho2; have HX2 := Lib.hid (box_on HX1.out hb2); have hS2 := Lib.hid (box3 HX2.out).1; have HB2 := Lib.hid (bt HB1.out hb2); have HO3 := Lib.hid (own_on HO1.out hb2); have HNB := Lib.hid (HB1.out.size); have hS3 := Lib.hid (box3 (box_on HX2.out (below_new y2 (.cells #[.int .i64 RM, .slice a1 pn cap1, .slice a2 fn cap2] 62)))).1; clear ho2 hb2))
  all_goals
    go_wp2_with fail
    go_ret
    refine ⟨y2.heap.size, FP y2.heap.size (.slice a1 pn cap1) (.slice a2 fn cap2), ⟨rfl, .slice a1 pn cap1, .slice a2 fn cap2, rfl, ?_⟩, bt HB2.out (below_new _ _)⟩
    refine ⟨by rw [← HRM.out]; exact heap_alloc_new _ _, ?_, ?_, HB2.out.size⟩
    · have h := own_base (HO3.out.alloc (.cells #[.int .i64 RM, .slice a1 pn cap1, .slice a2 fn cap2] 62)) (Nat.le_refl w.heap.size)
      rw [← HPN.out]
      exact h
    · have h := own_base (HO2.out.alloc (.cells #[.int .i64 RM, .slice a1 pn cap1, .slice a2 fn cap2] 62)) HNB.out
      rw [← HFN.out]
      exact h
theorem acopy_any {S : Nat → Prop} {w : World} {base A : Nat} {a : Ar} {room : Int} (h : AIs w base A a S) (hg : AG a room) : Calls Try.prog 17 #[aP A] w (CpPost w a) := by
  obtain ⟨pv, fv, rfl, hA⟩ := h
  obtain ⟨pa, pc, rfl, _⟩ := own_slice hA.prow
  obtain ⟨fa, fc, rfl, _⟩ := own_slice hA.frow
  have hl := hg.len
  have hpl := a.ps_len
  exact acopy_core A base a.ps.length pc a.free.length fc pa fa a w hA a.room rfl rfl rfl (by omega) (by omega) hA.box
end Go.Proofs.Ytdebmokpdchgpaa

/- The program's arena beside the document's, step by step. -/
namespace Go.Proofs.Ytdebmokpdchgpaa
open Go.RowKit Go.Sort Go.Proofs.Ytdebmokpdchgpaa.Bo
set_option linter.unusedVariables false

set_option maxRecDepth 100000 in
theorem eqAn_self (x : An) (w : World) : (Op.equalIn 10000 37 (anV x) (anV x)).run Try.prog w = .ok true w := by
  have hS : Try.prog.underlying 37 = some (.struct (Try.prog.fieldsOf 37)) := by kernel_rfl
  have hp : Try.prog.stoodInHeld 37 = false := by kernel_rfl
  have u1 := Try.underlying3
  have u2 := Try.underlying2
  have u3 := Try.underlying4
  have u4 := Try.underlying25
  rw [show (10000 : Nat) = 9999 + 1 from rfl, run_equalIn_agg w 9999 37 _ _ hS hp]
  simp only [Program.fieldsOf, Try.underlying37]
  go_simp
theorem neqAn_self (x : An) (w : World) : Sem.run Try.prog (binOp .neq 37 (anV x) (anV x)) w = .ok (.bool false) w := by
  rw [run_neq_struct, eqAn_self]; rfl
abbrev arO (r : Ar) (fa : Option Addr) (fc : Nat) (la : Option Addr) (lc : Nat) : Obj := .cells #[.int .i64 r.room, .int .i64 r.ever, .slice fa r.free.length fc, .slice la r.l.length lc] 31 (0, 0)
/-- An arena of the call's own in the block A, as a says; the document's in the block R, as r says. -/
structure MidAt (w : World) (A R : Nat) (a r : Ar) (S : Nat → Prop) (fa : Option Addr) (fc : Nat) (la : Option Addr) (lc : Nat) (W : World) : Prop where
  ar : AIs W w.heap.size A a S
  be : Go.RowKit.Below w.heap.size w W
  bx : W.heap[R]? = some (arO r fa fc la lc)
  rw : ArAt W r fa fc la lc
  apart : ∀ b off, fa = some ⟨b, off, none⟩ → b < W.heap.size ∧ ¬ S b
  le : w.heap.size ≤ R
theorem MidAt.below {w : World} {A R : Nat} {a r : Ar} {S : Nat → Prop} {fa la : Option Addr} {fc lc : Nat} {W W' : World} (h : MidAt w A R a r S fa fc la lc W) (hb : Go.RowKit.Below W.heap.size W W') : MidAt w A R a r S fa fc la lc W' :=
  ⟨h.ar.below hb, bt h.be hb, box_on h.bx hb, h.rw.below hb, fun b off e => ⟨Nat.lt_of_lt_of_le (h.apart b off e).1 hb.size, (h.apart b off e).2⟩, h.le⟩
/-- The box is not the arena's. -/
theorem MidAt.notS {w : World} {A R : Nat} {a r : Ar} {S : Nat → Prop} {fa la : Option Addr} {fc lc : Nat} {W : World} (h : MidAt w A R a r S fa fc la lc W) : ¬ S R := fun hS => by
  rcases h.ar.type R hS h.bx with e | e | e <;> exact absurd e (by decide)
theorem nrow_kp {W W' : World} {t : TypeId} {a : Option Addr} {zs : List Int} {S : Nat → Prop} (h : NRow W t a zs) (hk : Kp S W W') (hn : 0 < zs.length → ∀ b off, a = some ⟨b, off, none⟩ → ¬ S b) : NRow W' t a zs := by
  intro hp
  obtain ⟨b, off, e, ⟨cur, hh⟩, hc⟩ := h hp
  have hbk := hk.block b (lt_of_block hh) (hn hp b off e)
  exact ⟨b, off, e, ⟨cur, hbk.trans hh⟩, fun j hj => (World.cell?_of_block (a := ⟨b, off + j, none⟩) hbk).trans (hc j hj)⟩
/-- The document's arena has made a step. -/
theorem MidAt.step {w : World} {A R : Nat} {a r r' : Ar} {S : Nat → Prop} {fa la fa' la' : Option Addr} {fc lc fc' lc' : Nat} {W W1 W2 W3 : World} (h : MidAt w A R a r S fa fc la lc W) (h1 : Go.RowKit.Below W.heap.size W W1) (hr : ArAt W2 r' fa' fc' la' lc') (h2 : Go.RowKit.Below W1.heap.size W1 W2) (hf : Frm W1 W2 fa fa') (h3 : Go.RowKit.Below W2.heap.size W2 W3) :
    MidAt w A R a r' S fa' fc' la' lc' (set4 W3 R (.int .i64 r'.room) (.int .i64 r'.ever) (.slice fa' r'.free.length fc') (.slice la' r'.l.length lc')) := by
  have hm := ((h.below h1).below h2).below h3
  have hk : Kp (fun b => b = R) W3 (set4 W3 R (.int .i64 r'.room) (.int .i64 r'.ever) (.slice fa' r'.free.length fc') (.slice la' r'.l.length lc')) :=
    ((((Kp.refl (fun b => b = R) W3).setCell ⟨R, 0, none⟩ (.inl rfl) _).setCell ⟨R, 1, none⟩ (.inl rfl) _).setCell ⟨R, 2, none⟩ (.inl rfl) _).setCell ⟨R, 3, none⟩ (.inl rfl) _
  have hr3 := hr.below h3
  have hsz : (set4 W3 R (.int .i64 r'.room) (.int .i64 r'.ever) (.slice fa' r'.free.length fc') (.slice la' r'.l.length lc')).heap.size = W3.heap.size := by simp [World.setCell]
  refine ⟨hm.ar.kp hk (fun b hb e => hm.notS (e ▸ hb)), hm.be.trans (hk.to_below _ hm.be.size (fun b e => e ▸ h.le)), four_put hm.bx _ _ _ _, ⟨nrow_set4 hr3.fr hm.bx (by decide) _ _ _ _, hr3.fn, nrow_set4 hr3.lr hm.bx (by decide) _ _ _ _, hr3.ln⟩, fun b off e => ?_, h.le⟩
  rw [hsz]
  rcases hf b off e with ⟨o, e0⟩ | ⟨g1, g2⟩
  · exact hm.apart b o e0
  · exact ⟨Nat.lt_of_lt_of_le g2 h3.size, fun hS => by have := (h.ar.lt b hS).2; have := h1.size; omega⟩
/-- The program's arena has made a step. -/
theorem MidAt.turn {w : World} {A R : Nat} {a a' r : Ar} {S S' : Nat → Prop} {fa la : Option Addr} {fc lc : Nat} {W W' : World} (h : MidAt w A R a r S fa fc la lc W) (hA : AIs W' w.heap.size A a' S') (hk : Kp S W W') (hs : ∀ b, S' b → S b ∨ W.heap.size ≤ b) : MidAt w A R a' r S' fa fc la lc W' := by
  refine ⟨hA, h.ar.step h.be hk, hk.at h.bx h.notS, ⟨nrow_kp h.rw.fr hk (fun _ b off e => (h.apart b off e).2), h.rw.fn, nrow_kp h.rw.lr hk (fun hp b off e hS => ?_), h.rw.ln⟩, fun b off e => ⟨Nat.lt_of_lt_of_le (h.apart b off e).1 hk.size, fun hS => ?_⟩, h.le⟩
  · obtain ⟨b', off', e', ⟨cur, hh⟩, _⟩ := h.rw.lr hp
    rw [e] at e'
    injection e' with e'
    injection e' with e1
    subst e1
    rcases h.ar.type b hS hh with x | x | x <;> exact absurd x (by decide)
  · rcases hs b hS with x | x
    · exact (h.apart b off e).2 x
    · have := (h.apart b off e).1; omega
def Mid (w : World) (A R : Nat) (a r : Ar) (W : World) : Prop := ∃ S fa fc la lc, MidAt w A R a r S fa fc la lc W
/-- What the law's does leaves. -/
def MidPost (w W : World) (A R : Nat) (a' r : Ar) (S : Nat → Prop) (fa : Option Addr) (fc : Nat) (la : Option Addr) (lc : Nat) (ans : Value) (e : Ending) (w' : World) : Prop :=
  (e = .returned ans ∧ ∃ S', MidAt w A R a' r S' fa fc la lc w') ∧ Other W w'
theorem does_m {w : World} {A R : Nat} {a r : Ar} {S : Nat → Prop} {fa la : Option Addr} {fc lc : Nat} {W : World} {room : Int} (h : MidAt w A R a r S fa fc la lc W) (hg : AG a room) (k i v : Int) :
    Calls Try.prog 14 #[aP A, opV k i v] W (MidPost w W A R (a.does k i v).1 r S fa fc la lc (anV (a.does k i v).2)) :=
  (does_g h.ar hg k i v).mono fun e w' hp => by
    obtain ⟨S', ⟨he, hA⟩, hk, hs⟩ := hp
    exact ⟨⟨he, S', h.turn hA hk hs⟩, other_of h.ar hk⟩
theorem mid_new (room : Int) (w : World) (hr : 0 ≤ room ∧ room ≤ 65536) (o : Obj) (W : World) (hb : Go.RowKit.Below (w.alloc (aZ room)).heap.size (w.alloc (aZ room)) W) (R : Nat) (hR : W.heap[R]? = some (arO (Ar.new room) none 0 none 0)) (hle : w.heap.size ≤ R) : Mid w w.heap.size R (Ar.new room) (Ar.new room) W :=
  ⟨_, none, 0, none, 0, (ais_new room w).below hb, bt (below_new w (aZ room)) hb, hR, ⟨nrow_nil _ _ _, Nat.le_refl _, nrow_nil _ _ _, Nat.le_refl _⟩, (fun b off e => by cases e), hle⟩
end Go.Proofs.Ytdebmokpdchgpaa
