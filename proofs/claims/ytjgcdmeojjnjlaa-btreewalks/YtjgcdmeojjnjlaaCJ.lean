/- A part of the proof: contracts of the functions that the statements reach. -/
import Derived.RangeFuncNested
import Derived.RangeFuncBound
import Derived.RangeFuncCalls
import Derived.RangeFuncLeaves
import Derived.Shelf.Abstract
import Derived.Shelf.RegionOpen
import Derived.WalkKit
import Derived.OwnWalkIn
import Derived.TacticsInMore
import Derived.LoopNIn
import Derived.LoopIn
import Derived.Shelf.SlSortCmp.WholeK
import Derived.WalkSpells
import Derived.WalkLawsBesides
import Derived.Lib.Hide
import Derived.Laws.StructEq
import Derived.Shelf.SlSortCmp.QuietGrown
import Derived.Laws.EntriesVeiled
import Derived.Deep.CutRange
import Derived.RegionTactic
import Derived.Lib.QuietBelow
import Derived.BigQuiet
import Derived.OpenShut
import Derived.Deep.RegionHeld3
import Derived.Deep.QuietTactic
import Derived.Maps.AppendAt
import Derived.Laws.IdiomCopy
import Derived.Deep.AppendLies
import Derived.Deep.LoopGhost
import Derived.Deep.Upon
import Derived.StillTailTactics
import Derived.Lib.SmallJoins
import Derived.Deep.SlicePairs
import Derived.Deep.Strs
import Derived.ChangeOld
import Derived.SizedLaws
import Derived.Lib.SliceRun
import Derived.Laws.CopyRow
import Derived.Below
import Derived.Laws.CopyOwn
import Derived.Deep.RegionLaw
import Derived.IntWalk
import Derived.Test.YtjgcdmeojjnjlaaCI

/- mayBeKey; Put: the walks. -/
namespace Go.Proofs.Ytjgcdmeojjnjlaa
open Go.RowKit Go.Sort Go.Proofs.Ytjgcdmeojjnjlaa.Bo Go.Proofs.Ytjgcdmeojjnjlaa.Bb
set_option linter.unusedVariables false
set_option maxRecDepth 100000
theorem neqc_cut (s a t b : Int) (w : World) : Sem.run Try.prog (binOp .neq 34 (.agg #[.int .i64 s, .int .i64 a]) (.agg #[.int .i64 t, .int .i64 b])) w = .ok (.bool (!(s == t && a == b))) w := by
  have hS : Try.prog.underlying 34 = some (.struct (Try.prog.fieldsOf 34)) := by kernel_rfl
  have hp : Try.prog.stoodInHeld 34 = false := by kernel_rfl
  have u3 := Try.underlying3
  have u2 := Try.underlying2
  rw [run_neq_struct, show (10000 : Nat) = 9999 + 1 from rfl, run_equalIn_agg w 9999 34 _ _ hS hp]
  simp only [Program.fieldsOf, Try.underlying34]
  go_simp
  by_cases h1 : s = t <;> by_cases h2 : a = b <;> simp [h1, h2]
/-- The blocks of Put. -/
structure PvAt (w : World) (s : G5) (W : World) : Prop where
  sb : W.heap[w.heap.size]? = some (oG s)
  kb : W.heap[w.heap.size + 1]? = some (.cells #[.int .i64 s.ls, .int .i64 s.la] 34)
  be : Go.RowKit.Below w.heap.size w W
theorem PvAt.on {w W W' : World} {s : G5} (h : PvAt w s W) (hb : Go.RowKit.Below W.heap.size W W') : PvAt w s W' := ⟨box_on h.sb hb, box_on h.kb hb, bt h.be hb⟩
theorem pv_new (w : World) (s : G5) : PvAt w s ((w.alloc (oG s)).alloc (.cells #[.int .i64 s.ls, .int .i64 s.la] 34)) :=
  ⟨box_on (heap_alloc_new w _) (below_new _ _), new_at' _ (by simp), bt (below_new _ _) (below_new _ _)⟩
set_option maxHeartbeats 2000000 in
theorem bmay_n (s a : Int) (w : World) (ha : I64 a) (hRB : (s == sd (key s a) && a == pa (key s a)) = false) : Calls Try.prog 67 #[.agg #[.int .i64 s, .int .i64 a]] w fun e w' => e = .returned (.bool false) ∧ Go.RowKit.Below w.heap.size w w' := by
  have mx := mixed
  have HRI := Lib.hid (fun W => right_any s a W ha)
  have HLA := Lib.hid last_any
  rw [hRB] at HRI
  have HB0 := Lib.hid (below_new w (.cells #[.int .i64 s, .int .i64 a] 34))
  obtain ⟨d1, d2, _, _⟩ := two_cells (heap_alloc_new w (.cells #[.int .i64 s, .int .i64 a] 34))
  go_enter Try.func67, Try.ntmps67
  go_upto_region 1 with fail
  generalize w.alloc (.cells #[.int .i64 s, .int .i64 a] 34) = X at *
  have p1 := cell_regrown d1
  have p2 := cell_regrown d2
  clear d1 d2
  refine wp_region_quiet_below (by assumption) (by kernel_rfl) ?_
  repeat (go_big_quiet_step (first
    | (go_at_call 88; exact Calls.regrown_of ((HRI.out _).mono fun _ _ h => ⟨h.1, h.2.1⟩))
    | (go_at_call 49; exact Calls.regrown_of ((HLA.out _).mono fun _ _ h => ⟨h.1, h.2.1⟩))))
  refine wpQuiet_nil ?_
  intro _ hw'
  obtain ⟨⟨nq, osq⟩, hw''⟩ := hw'
  subst hw''
  have HY := Lib.hid (bt HB0.out (below_regrown X nq osq))
  clear p1 p2
  generalize grow (redrawn X nq) osq = Y at *
  go_wp2_with fail
  go_ret
  exact ⟨rfl, HY.out⟩
set_option maxHeartbeats 2000000 in
theorem bmay_l (s a : Int) (w : World) (ha : I64 a) (hRB : (s == sd (key s a) && a == pa (key s a)) = true) (hD : (s == 1 && a == 0) = true) : Calls Try.prog 67 #[.agg #[.int .i64 s, .int .i64 a]] w fun e w' => e = .returned (.bool false) ∧ Go.RowKit.Below w.heap.size w w' := by
  have mx := mixed
  have HRI := Lib.hid (fun W => right_any s a W ha)
  have HLA := Lib.hid last_any
  rw [hRB] at HRI
  have HB0 := Lib.hid (below_new w (.cells #[.int .i64 s, .int .i64 a] 34))
  obtain ⟨d1, d2, _, _⟩ := two_cells (heap_alloc_new w (.cells #[.int .i64 s, .int .i64 a] 34))
  have eqc := neqc_cut s a 1 0
  rw [hD] at eqc
  go_enter Try.func67, Try.ntmps67
  go_upto_region 1 with fail
  generalize w.alloc (.cells #[.int .i64 s, .int .i64 a] 34) = X at *
  have p1 := cell_regrown d1
  have p2 := cell_regrown d2
  clear d1 d2
  refine wp_region_quiet_below (by assumption) (by kernel_rfl) ?_
  repeat (go_big_quiet_step (first
    | (go_at_call 88; exact Calls.regrown_of ((HRI.out _).mono fun _ _ h => ⟨h.1, h.2.1⟩))
    | (go_at_call 49; exact Calls.regrown_of ((HLA.out _).mono fun _ _ h => ⟨h.1, h.2.1⟩))))
  refine wpQuiet_nil ?_
  intro _ hw'
  obtain ⟨⟨nq, osq⟩, hw''⟩ := hw'
  subst hw''
  have HY := Lib.hid (bt HB0.out (below_regrown X nq osq))
  clear p1 p2 eqc
  generalize grow (redrawn X nq) osq = Y at *
  go_wp2_with fail
  go_ret
  exact ⟨rfl, HY.out⟩
set_option maxHeartbeats 2000000 in
theorem bmay_y (s a : Int) (w : World) (ha : I64 a) (hRB : (s == sd (key s a) && a == pa (key s a)) = true) (hD : (s == 1 && a == 0) = false) : Calls Try.prog 67 #[.agg #[.int .i64 s, .int .i64 a]] w fun e w' => e = .returned (.bool true) ∧ Go.RowKit.Below w.heap.size w w' := by
  have mx := mixed
  have HRI := Lib.hid (fun W => right_any s a W ha)
  have HLA := Lib.hid last_any
  rw [hRB] at HRI
  have HB0 := Lib.hid (below_new w (.cells #[.int .i64 s, .int .i64 a] 34))
  obtain ⟨d1, d2, _, _⟩ := two_cells (heap_alloc_new w (.cells #[.int .i64 s, .int .i64 a] 34))
  have eqc := neqc_cut s a 1 0
  rw [hD] at eqc
  go_enter Try.func67, Try.ntmps67
  go_upto_region 1 with fail
  generalize w.alloc (.cells #[.int .i64 s, .int .i64 a] 34) = X at *
  have p1 := cell_regrown d1
  have p2 := cell_regrown d2
  clear d1 d2
  refine wp_region_quiet_below (by assumption) (by kernel_rfl) ?_
  repeat (go_big_quiet_step (first
    | (go_at_call 88; exact Calls.regrown_of ((HRI.out _).mono fun _ _ h => ⟨h.1, h.2.1⟩))
    | (go_at_call 49; exact Calls.regrown_of ((HLA.out _).mono fun _ _ h => ⟨h.1, h.2.1⟩))))
  refine wpQuiet_nil ?_
  intro _ hw'
  obtain ⟨⟨nq, osq⟩, hw''⟩ := hw'
  subst hw''
  have HY := Lib.hid (bt HB0.out (below_regrown X nq osq))
  clear p1 p2 eqc
  generalize grow (redrawn X nq) osq = Y at *
  go_wp2_with fail
  go_ret
  exact ⟨rfl, HY.out⟩
theorem bmay_any (s : G5) (hs : s.ok) (w : World) : Calls Try.prog 67 #[.agg #[.int .i64 s.ls, .int .i64 s.la]] w fun e w' => e = .returned (.bool s.may) ∧ Go.RowKit.Below w.heap.size w w' := by
  cases hm : s.may with
  | false =>
    rcases may_not s hm with e | ⟨e1, e2⟩
    · exact bmay_n _ _ w hs.1 e
    · exact bmay_l _ _ w hs.1 e1 e2
  | true =>
    obtain ⟨m1, m2⟩ := may_is s hm
    exact bmay_y _ _ w hs.1 m1 m2
set_option maxHeartbeats 4000000 in
theorem bput_bad (T : Nat) (s : G5) (w : World) (HMY : Hid (∀ W, Calls Try.prog 67 #[.agg #[.int .i64 s.ls, .int .i64 s.la]] W fun e w' => e = .returned (.bool false) ∧ Go.RowKit.Below W.heap.size W w')) :
    Calls Try.prog 38 #[aP T, vG s] w fun e w' => e = .returned (.int .i64 1) ∧ Go.RowKit.Below w.heap.size w w' := by
  have mx := mixed
  have hN := pv_new w s
  have HN := Lib.hid hN
  obtain ⟨g0', g1', g2', g3', g4'⟩ := five_cells (show ((w.alloc (oG s)).alloc (.cells #[.int .i64 s.ls, .int .i64 s.la] 34)).heap[w.heap.size]? = some (oG s) from hN.sb)
  simp only [Nat.zero_add] at g1' g2' g3' g4'
  obtain ⟨d1, d2, _, _⟩ := two_cells hN.kb
  clear hN
  go_enter Try.func38, Try.ntmps38
  go_wp2_with fail
  refine (HMY.out _).mono ?_
  rintro e y1 ⟨rfl, hb⟩
  have HY1 := Lib.hid (HN.out.on hb)
  clear hb g0' g1' g2' g3' g4' d1 d2
  go_wp2_with fail
  go_ret
  exact ⟨rfl, HY1.out.be⟩
set_option maxHeartbeats 4000000 in
theorem bput_old (T : Nat) (sb off : Nat) (PW : Option Addr → Nat → Nat → World → Prop) (s : G5) (w : World) (HMY : Hid (∀ W, Calls Try.prog 67 #[.agg #[.int .i64 s.ls, .int .i64 s.la]] W fun e w' => e = .returned (.bool true) ∧ Go.RowKit.Below W.heap.size W w'))
    (HPW : Hid (∀ ap n cap W W', PW ap n cap W → Go.RowKit.Below W.heap.size W W' → PW ap n cap W'))
    (HW : Hid (∀ W c, Go.RowKit.Below w.heap.size w W → W.heap[c]? = some (.cells #[.int .i64 s.ls, .int .i64 s.la] 34) → Calls Try.prog 54 #[aP T, .func (.func 84) #[] #[.pointer (some ⟨c, 0, none⟩)]] W fun e w' => ∃ ap n cap, (e = .returned (.slice ap n cap) ∧ PW ap n cap w') ∧ Go.RowKit.Below W.heap.size W w'))
    (HA : Hid (∀ ap n cap W, PW ap n cap W → Go.RowKit.Below w.heap.size w W → Calls Try.prog 59 #[aP T, .slice ap n cap, .agg #[.int .i64 s.ls, .int .i64 s.la]] W fun e w' => e = .returned (.pointer (some ⟨sb, off, none⟩)) ∧ Go.RowKit.Below W.heap.size W w'))
    (PF : World → Prop) (HO : Hid (∀ W, Go.RowKit.Below w.heap.size w W → (∃ g, Cells5 W sb off g) ∧ (∀ x, W.frozen? ⟨sb, x, none⟩ = false) ∧ PF (set5 W sb off s))) :
    Calls Try.prog 38 #[aP T, vG s] w fun e w' => e = .returned (.int .i64 0) ∧ PF w' := by
  have mx := mixed
  have hN := pv_new w s
  have HN := Lib.hid hN
  obtain ⟨g0', g1', g2', g3', g4'⟩ := five_cells (show ((w.alloc (oG s)).alloc (.cells #[.int .i64 s.ls, .int .i64 s.la] 34)).heap[w.heap.size]? = some (oG s) from hN.sb)
  simp only [Nat.zero_add] at g1' g2' g3' g4'
  obtain ⟨d1, d2, _, _⟩ := two_cells hN.kb
  clear hN
  go_enter Try.func38, Try.ntmps38
  go_wp2_with fail
  refine (HMY.out _).mono ?_
  rintro e y1 ⟨rfl, hb⟩
  have HY1 := Lib.hid (HN.out.on hb)
  clear hb g0' g1' g2' g3' g4' d1 d2
  obtain ⟨k1, k2, _, _⟩ := two_cells HY1.out.kb
  go_wp2_with fail
  refine (bbelow_b s.ls s.la _).mono ?_
  rintro e y2 ⟨c, ⟨rfl, hc⟩, hb⟩
  have HC := Lib.hid hc
  have HY2 := Lib.hid (HY1.out.on hb)
  clear hb hc k1 k2
  go_wp2_with fail
  refine (HW.out _ c HY2.out.be HC.out).mono ?_
  rintro e y3 ⟨ap, n, cap, ⟨rfl, hp⟩, hb⟩
  have HP := Lib.hid hp
  have HY3 := Lib.hid (HY2.out.on hb)
  clear hb hp
  obtain ⟨k1, k2, _, _⟩ := two_cells HY3.out.kb
  go_wp2_with fail
  refine (HA.out ap n cap _ HP.out HY3.out.be).mono ?_
  rintro e y4 ⟨rfl, hb⟩
  have HP4 := Lib.hid (HPW.out _ _ _ _ _ HP.out hb)
  have HY4 := Lib.hid (HY3.out.on hb)
  clear hb k1 k2
  obtain ⟨⟨g, f0, f1, f2, f3, f4⟩, fz, hpf⟩ := HO.out _ HY4.out.be
  have HPF := Lib.hid hpf
  have z0 := fz off
  have z1 := fz (off + 1)
  have z2 := fz (off + 2)
  have z3 := fz (off + 3)
  have z4 := fz (off + 4)
  obtain ⟨q0, q1, q2, q3, q4⟩ := five_cells HY4.out.sb
  simp only [Nat.zero_add] at q1 q2 q3 q4
  clear fz hpf
  go_wp2_with fail
  go_ret
  exact ⟨rfl, HPF.out⟩
set_option maxHeartbeats 4000000 in
theorem bput_full (T : Nat) (many room : Int) (hfull : room ≤ many) (PW : Option Addr → Nat → Nat → World → Prop) (s : G5) (w : World) (HMY : Hid (∀ W, Calls Try.prog 67 #[.agg #[.int .i64 s.ls, .int .i64 s.la]] W fun e w' => e = .returned (.bool true) ∧ Go.RowKit.Below W.heap.size W w'))
    (HPW : Hid (∀ ap n cap W W', PW ap n cap W → Go.RowKit.Below W.heap.size W W' → PW ap n cap W'))
    (HW : Hid (∀ W c, Go.RowKit.Below w.heap.size w W → W.heap[c]? = some (.cells #[.int .i64 s.ls, .int .i64 s.la] 34) → Calls Try.prog 54 #[aP T, .func (.func 84) #[] #[.pointer (some ⟨c, 0, none⟩)]] W fun e w' => ∃ ap n cap, (e = .returned (.slice ap n cap) ∧ PW ap n cap w') ∧ Go.RowKit.Below W.heap.size W w'))
    (HA : Hid (∀ ap n cap W, PW ap n cap W → Go.RowKit.Below w.heap.size w W → Calls Try.prog 59 #[aP T, .slice ap n cap, .agg #[.int .i64 s.ls, .int .i64 s.la]] W fun e w' => e = .returned (.pointer none) ∧ Go.RowKit.Below W.heap.size W w'))
    (HLN : Hid (∀ W, Go.RowKit.Below w.heap.size w W → Calls Try.prog 18 #[aP T] W fun e w' => e = .returned (.int .i64 many) ∧ W = w'))
    (HRM : Hid (∀ W, Go.RowKit.Below w.heap.size w W → Calls Try.prog 12 #[aP T] W fun e w' => e = .returned (.int .i64 room) ∧ W = w')) :
    Calls Try.prog 38 #[aP T, vG s] w fun e w' => e = .returned (.int .i64 50) ∧ Go.RowKit.Below w.heap.size w w' := by
  have HFU := Lib.hid hfull
  clear hfull
  have mx := mixed
  have hN := pv_new w s
  have HN := Lib.hid hN
  obtain ⟨g0', g1', g2', g3', g4'⟩ := five_cells (show ((w.alloc (oG s)).alloc (.cells #[.int .i64 s.ls, .int .i64 s.la] 34)).heap[w.heap.size]? = some (oG s) from hN.sb)
  simp only [Nat.zero_add] at g1' g2' g3' g4'
  obtain ⟨d1, d2, _, _⟩ := two_cells hN.kb
  clear hN
  go_enter Try.func38, Try.ntmps38
  go_wp2_with fail
  refine (HMY.out _).mono ?_
  rintro e y1 ⟨rfl, hb⟩
  have HY1 := Lib.hid (HN.out.on hb)
  clear hb g0' g1' g2' g3' g4' d1 d2
  obtain ⟨k1, k2, _, _⟩ := two_cells HY1.out.kb
  go_wp2_with fail
  refine (bbelow_b s.ls s.la _).mono ?_
  rintro e y2 ⟨c, ⟨rfl, hc⟩, hb⟩
  have HC := Lib.hid hc
  have HY2 := Lib.hid (HY1.out.on hb)
  clear hb hc k1 k2
  go_wp2_with fail
  refine (HW.out _ c HY2.out.be HC.out).mono ?_
  rintro e y3 ⟨ap, n, cap, ⟨rfl, hp⟩, hb⟩
  have HP := Lib.hid hp
  have HY3 := Lib.hid (HY2.out.on hb)
  clear hb hp
  obtain ⟨k1, k2, _, _⟩ := two_cells HY3.out.kb
  go_wp2_with fail
  refine (HA.out ap n cap _ HP.out HY3.out.be).mono ?_
  rintro e y4 ⟨rfl, hb⟩
  have HP4 := Lib.hid (HPW.out _ _ _ _ _ HP.out hb)
  have HY4 := Lib.hid (HY3.out.on hb)
  clear hb k1 k2
  go_wp2_with fail
  refine (HLN.out _ HY4.out.be).mono ?_
  rintro e y5 ⟨rfl, rfl⟩
  go_wp2_with fail
  refine (HRM.out _ HY4.out.be).mono ?_
  rintro e y6 ⟨rfl, rfl⟩
  have t1 : room ≤ many := HFU.out
  go_wp2_with fail
  go_ret
  exact ⟨rfl, HY4.out.be⟩
set_option maxHeartbeats 4000000 in
theorem bput_new (T : Nat) (many room : Int) (hfull : many < room) (hm : 0 ≤ many ∧ many ≤ 1000000) (PW : Option Addr → Nat → Nat → World → Prop) (s : G5) (w : World) (HMY : Hid (∀ W, Calls Try.prog 67 #[.agg #[.int .i64 s.ls, .int .i64 s.la]] W fun e w' => e = .returned (.bool true) ∧ Go.RowKit.Below W.heap.size W w'))
    (HPW : Hid (∀ ap n cap W W', PW ap n cap W → Go.RowKit.Below W.heap.size W W' → PW ap n cap W'))
    (HW : Hid (∀ W c, Go.RowKit.Below w.heap.size w W → W.heap[c]? = some (.cells #[.int .i64 s.ls, .int .i64 s.la] 34) → Calls Try.prog 54 #[aP T, .func (.func 84) #[] #[.pointer (some ⟨c, 0, none⟩)]] W fun e w' => ∃ ap n cap, (e = .returned (.slice ap n cap) ∧ PW ap n cap w') ∧ Go.RowKit.Below W.heap.size W w'))
    (HA : Hid (∀ ap n cap W, PW ap n cap W → Go.RowKit.Below w.heap.size w W → Calls Try.prog 59 #[aP T, .slice ap n cap, .agg #[.int .i64 s.ls, .int .i64 s.la]] W fun e w' => e = .returned (.pointer none) ∧ Go.RowKit.Below W.heap.size W w'))
    (HLN : Hid (∀ W, Go.RowKit.Below w.heap.size w W → Calls Try.prog 18 #[aP T] W fun e w' => e = .returned (.int .i64 many) ∧ W = w'))
    (HRM : Hid (∀ W, Go.RowKit.Below w.heap.size w W → Calls Try.prog 12 #[aP T] W fun e w' => e = .returned (.int .i64 room) ∧ W = w'))
    (PN PF : World → Prop) (HL : Hid (∀ ap n cap W, PW ap n cap W → Go.RowKit.Below w.heap.size w W → Calls Try.prog 68 #[aP T, .slice ap n cap, vG s] W fun e w' => e = .returned (.tuple #[]) ∧ PN w'))
    (HN2 : Hid (∀ W, PN W → (W.cell? ⟨T, 3, none⟩ = some (.int .i64 many) ∧ W.frozen? ⟨T, 3, none⟩ = false) ∧ PF (W.setCell ⟨T, 3, none⟩ (.int .i64 (many + 1))))) :
    Calls Try.prog 38 #[aP T, vG s] w fun e w' => e = .returned (.int .i64 0) ∧ PF w' := by
  have HFU := Lib.hid hfull
  clear hfull
  have mx := mixed
  have hN := pv_new w s
  have HN := Lib.hid hN
  obtain ⟨g0', g1', g2', g3', g4'⟩ := five_cells (show ((w.alloc (oG s)).alloc (.cells #[.int .i64 s.ls, .int .i64 s.la] 34)).heap[w.heap.size]? = some (oG s) from hN.sb)
  simp only [Nat.zero_add] at g1' g2' g3' g4'
  obtain ⟨d1, d2, _, _⟩ := two_cells hN.kb
  clear hN
  go_enter Try.func38, Try.ntmps38
  go_wp2_with fail
  refine (HMY.out _).mono ?_
  rintro e y1 ⟨rfl, hb⟩
  have HY1 := Lib.hid (HN.out.on hb)
  clear hb g0' g1' g2' g3' g4' d1 d2
  obtain ⟨k1, k2, _, _⟩ := two_cells HY1.out.kb
  go_wp2_with fail
  refine (bbelow_b s.ls s.la _).mono ?_
  rintro e y2 ⟨c, ⟨rfl, hc⟩, hb⟩
  have HC := Lib.hid hc
  have HY2 := Lib.hid (HY1.out.on hb)
  clear hb hc k1 k2
  go_wp2_with fail
  refine (HW.out _ c HY2.out.be HC.out).mono ?_
  rintro e y3 ⟨ap, n, cap, ⟨rfl, hp⟩, hb⟩
  have HP := Lib.hid hp
  have HY3 := Lib.hid (HY2.out.on hb)
  clear hb hp
  obtain ⟨k1, k2, _, _⟩ := two_cells HY3.out.kb
  go_wp2_with fail
  refine (HA.out ap n cap _ HP.out HY3.out.be).mono ?_
  rintro e y4 ⟨rfl, hb⟩
  have HP4 := Lib.hid (HPW.out _ _ _ _ _ HP.out hb)
  have HY4 := Lib.hid (HY3.out.on hb)
  clear hb k1 k2
  go_wp2_with fail
  refine (HLN.out _ HY4.out.be).mono ?_
  rintro e y5 ⟨rfl, rfl⟩
  go_wp2_with fail
  refine (HRM.out _ HY4.out.be).mono ?_
  rintro e y6 ⟨rfl, rfl⟩
  have t1 : many < room := HFU.out
  have t2 : ¬ room ≤ many := by omega
  obtain ⟨q0, q1, q2, q3, q4⟩ := five_cells HY4.out.sb
  simp only [Nat.zero_add] at q1 q2 q3 q4
  go_wp2_with fail
  refine (HL.out _ _ _ _ HP4.out HY4.out.be).mono ?_
  rintro e y7 ⟨rfl, hpn⟩
  obtain ⟨⟨c1, c2⟩, hpf⟩ := HN2.out _ hpn
  have HPF := Lib.hid hpf
  have i1 : IntKind.i64.wrap (many + 1) = many + 1 := IntWalk.i64_in _ (by omega)
  clear hpn hpf q0 q1 q2 q3 q4
  go_wp2_with fail
  go_ret
  exact ⟨rfl, HPF.out⟩
end Go.Proofs.Ytjgcdmeojjnjlaa
/- Put, by the tree. -/
namespace Go.Proofs.Ytjgcdmeojjnjlaa
open Go.RowKit Go.Sort Go.Proofs.Ytjgcdmeojjnjlaa.Bo Go.Proofs.Ytjgcdmeojjnjlaa.Bb
set_option linter.unusedVariables false
set_option maxRecDepth 100000
/-- A tree of the row L, its degree d, its room R: what turning calls leave. -/
def BtT (w0 : World) (S B : Nat → Prop) (base T A d : Nat) (R : Int) (L : List G5) (W : World) : Prop := ∃ t, BtH w0 S B base T A t W ∧ BtOk t d L ∧ t.room = R
section
variable {w : World} {base T A d : Nat} {t : Bx} {a : Ag Rn} {S0 : Nat → Prop} {L : List G5}
theorem fnd_beh {f : Int → Option Kn} {k : Int} {l : List (Int × Int)} {x : Int × Nat} (h : fndI f k l = some x) : behI f l = some x := by
  unfold fndI at h
  split at h
  · split at h
    · exact h
    · cases h
  · cases h
/-- A segment is written over a node's. -/
theorem BtW.over (h : BtW w base T A t a S0) (p : Nat) (m : Kn) (hp : t.f (p : Int) = some m) (i : Nat) (hi : i < m.segs.length) (sb : Nat) (hsb : (a.l.getD p bnZ).s.a = some ⟨sb, 0, none⟩) (s : G5) {w0 : World} {S : Nat → Prop} (hk : Kp S w0 w) (hS : ∀ b, btS T t a S0 b → S b ∨ w0.heap.size ≤ b) :
    BtH w0 S (fun _ => False) base T A { t with f := updK t.f (p : Int) (some ⟨m.segs.set i s, m.kids⟩) } (set5 w sb (i * 5) s) := by
  have hnd := h.node p m hp
  obtain ⟨en, ek⟩ := hnd.nums
  have es : (a.l.getD p bnZ).s.v = .slice (some ⟨sb, 0, none⟩) m.segs.length (a.l.getD p bnZ).s.c := by rw [← en, ← hsb]
  have hrow : rowB (a.l.getD p bnZ) sb := .inl (by rw [es]; rfl)
  have hs := hnd.s
  rw [es] at hs
  have hkp : Kp (rowB (a.l.getD p bnZ)) w (set5 w sb (i * 5) s) :=
    ((((((Kp.refl _ w).setCell ⟨sb, i * 5, none⟩ (.inl hrow) _).setCell ⟨sb, i * 5 + 1, none⟩ (.inl hrow) _).setCell ⟨sb, i * 5 + 2, none⟩ (.inl hrow) _).setCell ⟨sb, i * 5 + 3, none⟩ (.inl hrow) _).setCell ⟨sb, i * 5 + 4, none⟩ (.inl hrow) _)
  have hkid : (set5 w sb (i * 5) s).ownsRow base 3 1 (a.l.getD p bnZ).k.v m.kids.length (m.kids.map nv) := by
    refine own_kp hnd.k (S := fun b => b = sb) ((((((Kp.refl (fun b => b = sb) w).setCell ⟨sb, i * 5, none⟩ (.inl rfl) _).setCell ⟨sb, i * 5 + 1, none⟩ (.inl rfl) _).setCell ⟨sb, i * 5 + 2, none⟩ (.inl rfl) _).setCell ⟨sb, i * 5 + 3, none⟩ (.inl rfl) _).setCell ⟨sb, i * 5 + 4, none⟩ (.inl rfl) _) (fun b hb e => ?_)
    subst e
    obtain ⟨c1, q1⟩ := own_type hs (b := b) rfl
    obtain ⟨c2, q2⟩ := own_type hnd.k hb
    exact type_ne q1 q2 (by decide) rfl
  obtain ⟨k1, k2⟩ := h.inRow p m ⟨m.segs.set i s, m.kids⟩ hp hkp ⟨by
    show (set5 w sb (i * 5) s).ownsRow base 38 5 (a.l.getD p bnZ).s.v (m.segs.set i s).length (flatG (m.segs.set i s))
    rw [List.length_set, es]
    exact own_setG hs i hi s, hkid⟩
  refine ⟨a, S0, k1, hk.trans k2 (fun b hb hs => (hS b hs).resolve_right (by omega)), fun b hb => hS b ?_, fun b hb => hb.elim⟩
  rcases hb with hb | hb | ⟨q, hq, hb⟩
  · exact .inl hb
  · exact .inr (.inl hb)
  · refine .inr (.inr ⟨q, ?_, hb⟩)
    have hq : updK t.f (p : Int) (some ⟨m.segs.set i s, m.kids⟩) (q : Int) ≠ none := hq
    by_cases e : q = p
    · subst e; rw [hp]; simp
    · rwa [updK_nat _ _ _ _ e] at hq
/-- The rows of a way, in a block that came since. -/
def WayRowB (w : World) (xs : List (Int × Int)) (ap : Option Addr) (n cap : Nat) (W : World) : Prop := n = xs.length ∧ W.ownsRow w.heap.size 125 2 (.slice ap n cap) n (flat2 xs)
set_option maxHeartbeats 1000000 in
theorem btput_any (h : BtW w base T A t a S0) (ok : BtOk t d L) (s : G5) (hs : s.ok) :
    Calls Try.prog 38 #[aP T, vG s] w fun e w' => e = .returned (.int .i64 (putG L t.room s).2) ∧ BtT w (btS T t a S0) (fun _ => False) base T A d t.room (putG L t.room s).1 w' := by
  have hB0 := btH_of h
  have hpl : (L.length : Int) ≤ t.room := ok.le
  have hky : Ky s.key := s.ky hs
  have HMY : ∀ W, Calls Try.prog 67 #[.agg #[.int .i64 s.ls, .int .i64 s.la]] W fun e w' => e = .returned (.bool s.may) ∧ Go.RowKit.Below W.heap.size W w' := bmay_any s hs
  cases hm : s.may with
  | false =>
    rw [hm] at HMY
    rw [putG_bad _ _ _ hm]
    exact (bput_bad T s w (Lib.hid HMY)).mono fun e w' ⟨he, hw⟩ => ⟨he, t, hB0.below hw, ok, rfl⟩
  | true =>
    rw [hm] at HMY
    obtain ⟨xs, hw, hN, HW⟩ := bway_ltR h ok s.ls s.la hs.1
    have hkey : key s.ls s.la = s.key := rfl
    rw [hkey] at hw
    have HPW : ∀ ap n cap W W', WayRowB w xs ap n cap W → Go.RowKit.Below W.heap.size W W' → WayRowB w xs ap n cap W' := fun ap n cap W W' q hb => ⟨q.1, own_on q.2 hb⟩
    have HW2 : ∀ W c, Go.RowKit.Below w.heap.size w W → W.heap[c]? = some (.cells #[.int .i64 s.ls, .int .i64 s.la] 34) → Calls Try.prog 54 #[aP T, .func (.func 84) #[] #[.pointer (some ⟨c, 0, none⟩)]] W fun e w' => ∃ ap n cap, (e = .returned (.slice ap n cap) ∧ WayRowB w xs ap n cap w') ∧ Go.RowKit.Below W.heap.size W w' := fun W c hW hc =>
      (HW W c hW hc).mono fun e w' ⟨ap, n, cap, ⟨h1, h2, h3⟩, h4⟩ => ⟨ap, n, cap, ⟨h1, h2, own_base h3 hW.size⟩, h4⟩
    have HA : ∀ ap n cap W, WayRowB w xs ap n cap W → Go.RowKit.Below w.heap.size w W → Calls Try.prog 59 #[aP T, .slice ap n cap, .agg #[.int .i64 s.ls, .int .i64 s.la]] W fun e w' => e = .returned (.pointer (ptO a (fndI t.f s.key xs.reverse))) ∧ Go.RowKit.Below W.heap.size W w' := by
      rintro ap n cap W ⟨rfl, ho⟩ hW
      exact bfound_any (h.below hW) ok hw hN ap cap _ ho s.ls s.la hs.1 rfl
    have hmany : t.many = (L.length : Int) := ok.many
    rcases fnd_cases hw with e | ⟨p, i, m, g, e, hp, hg, hk⟩
    · -- there is none of the key
      rw [e] at HA
      have HLN : ∀ W, Go.RowKit.Below w.heap.size w W → Calls Try.prog 18 #[aP T] W fun e w' => e = .returned (.int .i64 t.many) ∧ W = w' := fun W hW => bmany_any (h.below hW)
      have HRM : ∀ W, Go.RowKit.Below w.heap.size w W → Calls Try.prog 12 #[aP T] W fun e w' => e = .returned (.int .i64 t.room) ∧ W = w' := fun W hW => broom_any (h.below hW)
      have hput : ∃ L', putG L t.room s = (if t.room ≤ (L.length : Int) then (L, 50) else (L', 0)) ∧ L'.length = L.length + 1 ∧
          ((L = [] ∧ t.n = 0 ∧ t.root = -1 ∧ xs = [] ∧ L' = [s]) ∨ ∃ cx tl, Leaf d t.f t.n t.root L (fun g => decide (g.key < s.key)) cx tl ∧ xs = wayRow (fun g => decide (g.key < s.key)) (cx, tl) ∧ L' = aheadR (fun g => decide (g.key < s.key)) (cx, tl) ++ s :: behindR (fun g => decide (g.key < s.key)) (cx, tl)) := by
        rcases hw with ⟨e1, e2, e3⟩ | ⟨cx, tl, l, e2⟩
        · have htr : t.n = 0 ∧ t.root = -1 := by
            rcases ok.tree with ⟨_, k1, k2, _⟩ | ⟨H, x, z, _, _⟩
            · exact ⟨k1, k2⟩
            · have := z.tree.node
              unfold nodeAt at this
              rw [e3] at this; cases this
          refine ⟨[s], ?_, by rw [e1]; rfl, .inl ⟨e1, htr.1, htr.2, e2, rfl⟩⟩
          subst e1
          unfold putG
          rw [if_neg (by rw [hm]; simp), if_neg (show ¬ findG [] s.key < ([] : List G5).length from Nat.not_lt_zero _)]
          rfl
        · refine ⟨_, ?_, ?_, .inr ⟨cx, tl, l, e2, rfl⟩⟩
          · refine l.put_new ok.row t.room hm hky ?_
            rw [← fnd_leaf l, wayRev_eq, ← e2, e]; rfl
          · have := congrArg List.length l.row
            simp only [List.length_append, List.length_cons] at this ⊢
            omega
      obtain ⟨L', hL1, hL2, hL3⟩ := hput
      by_cases hfull : t.room ≤ t.many
      · rw [hL1, if_pos (by omega)]
        exact (bput_full T t.many t.room hfull (WayRowB w xs) s w (Lib.hid HMY) (Lib.hid HPW) (Lib.hid HW2) (Lib.hid HA) (Lib.hid HLN) (Lib.hid HRM)).mono fun e w' ⟨he, hw⟩ => ⟨he, t, hB0.below hw, ok, rfl⟩
      · have hrow2 : RowOk L' := by
          have := putG_ok L t.room s ok.row hky
          rw [hL1, if_neg (by omega)] at this; exact this
        have hall2 : ∀ g ∈ L', g.ok := by
          have := putG_all L t.room s hs ok.ok
          rw [hL1, if_neg (by omega)] at this; exact this
        rw [hL1, if_neg (by omega)]
        have hroom := ok.room
        refine bput_new T t.many t.room (by omega) ⟨by omega, by omega⟩ (WayRowB w xs) s w (Lib.hid HMY) (Lib.hid HPW) (Lib.hid HW2) (Lib.hid HA) (Lib.hid HLN) (Lib.hid HRM) (fun w' => ∃ f n r, TreeAt d f n r L' ∧ BtH w (btS T t a S0) (fun _ => False) base T A { t with f := f, n := n, root := r } w')
          (fun w' => BtT w (btS T t a S0) (fun _ => False) base T A d t.room L' w') (Lib.hid ?_) (Lib.hid ?_)
        · rintro ap n cap W ⟨rfl, ho⟩ hW
          refine ((hB0.keep (C := fun b => (Value.slice ap xs.length cap).ownBlock = some b) hW (fun b hb => .inr (ho.lt b hb))).layIn d ok.dg ok.d2 ok.d64 xs ap cap _ s L L' _ hw hL3 ho (fun b hb => hb) hN (by omega)).mono ?_
          rintro e w' ⟨rfl, f, n, r, k1, k2, _⟩
          exact ⟨rfl, f, n, r, k1, k2.less (fun b hb => hb.elim)⟩
        · rintro W ⟨f, n, r, k1, k2⟩
          have htop := k2.top
          refine ⟨⟨(cell_of_row _ _ 3 _ _ _ htop).trans rfl, frozen_of_row _ _ 3 _ _ htop⟩, _, (k2.setMany (t.many + 1)).1, ⟨ok.dg, ok.d2, ok.d64, k1, by show t.many + 1 = _; omega, ok.room, by show (L'.length : Int) ≤ t.room; omega, hrow2, hall2⟩, rfl⟩
    · -- it is written over
      rcases hw with ⟨_, e2, _⟩ | ⟨cx, tl, l, e2⟩
      · rw [e2] at e; cases e
      · have hfs : foundS s.key (stepsB (fun g => decide (g.key < s.key)) (cx, tl)) = some g := by
          rw [← fnd_leaf l, wayRev_eq, ← e2, e]
          exact gAt_some hp hg
        obtain ⟨Bh, hB, hgk, hput⟩ := l.put_old ok.row t.room hm hky g hfs
        obtain ⟨p', i', m', k1, k2, k3, k4⟩ := l.oldAt g Bh hB
        have hbe := fnd_beh e
        rw [e2, ← wayRev_eq, k1] at hbe
        injection hbe with hbe
        injection hbe with e5 e6
        obtain rfl : p' = p := by omega
        subst e6
        obtain rfl : m' = m := by rw [hp] at k2; injection k2 with k2; exact k2.symm
        obtain ⟨hi, hgi⟩ := List.getElem?_eq_some_iff.1 hg
        obtain ⟨_, _, _, hmem⟩ := step_mem h p' m' hp
        obtain ⟨sb, hsb, _, _⟩ := hmem i' hi
        rw [e, show ptO a (some ((p' : Int), i')) = some ⟨sb, i' * 5, none⟩ from ptA_nat a p' i' sb hsb] at HA
        have hrow2 : RowOk (aheadR (fun g => decide (g.key < s.key)) (cx, tl) ++ s :: Bh) := by
          have := putG_ok L t.room s ok.row hky
          rw [hput] at this; exact this
        have hall2 : ∀ g ∈ aheadR (fun g => decide (g.key < s.key)) (cx, tl) ++ s :: Bh, g.ok := by
          have := putG_all L t.room s hs ok.ok
          rw [hput] at this; exact this
        have hlen2 : (aheadR (fun g => decide (g.key < s.key)) (cx, tl) ++ s :: Bh).length = L.length := by
          have := congrArg List.length l.row
          rw [hB] at this
          simp only [List.length_append, List.length_cons] at this ⊢
          omega
        rw [hput]
        refine bput_old T sb (i' * 5) (WayRowB w xs) s w (Lib.hid HMY) (Lib.hid HPW) (Lib.hid HW2) (Lib.hid HA) (fun w' => BtT w (btS T t a S0) (fun _ => False) base T A d t.room (aheadR (fun g => decide (g.key < s.key)) (cx, tl) ++ s :: Bh) w') (Lib.hid fun W hW => ?_)
        have hWb := h.below hW
        obtain ⟨_, _, _, hmem2⟩ := step_mem hWb p' m' hp
        obtain ⟨sb2, hsb2, hc5, hfz⟩ := hmem2 i' hi
        rw [hsb] at hsb2
        obtain rfl : sb = sb2 := by injection hsb2 with q; injection q
        refine ⟨⟨_, hc5⟩, hfz, _, hWb.over p' m' hp i' hi sb hsb s (Kp.of_below _ hW) (fun b hb => .inl hb), ⟨ok.dg, ok.d2, ok.d64, k4 s, by show t.many = _; rw [hmany, hlen2], ok.room, by show (_ : Int) ≤ t.room; rw [hlen2]; exact ok.le, hrow2, hall2⟩, rfl⟩
end
end Go.Proofs.Ytjgcdmeojjnjlaa
/- turnBack: the child ahead gives a segment. -/
namespace Go.Proofs.Ytjgcdmeojjnjlaa
open Go.RowKit Go.Sort Go.Proofs.Ytjgcdmeojjnjlaa.Bo Go.Proofs.Ytjgcdmeojjnjlaa.Bb Go.Proofs.Ytjgcdmeojjnjlaa.Rf
set_option linter.unusedVariables false
set_option linter.unusedSimpArgs false
set_option maxRecDepth 100000
/-- A segment is written over a node's, in a state of turning calls. -/
theorem BtH.over {w0 W : World} {S B : Nat → Prop} {base T A g : Nat} {t : Bx} (h : BtH w0 S B base T A t W) (hg : PlG W A g) (p : Nat) (m : Kn) (hp : t.f (p : Int) = some m) (i : Nat) (hi : i < m.segs.length) (sb sc : Nat) (hc : W.cell? ⟨g, p * 3, none⟩ = some (.slice (some ⟨sb, 0, none⟩) m.segs.length sc)) (s : G5) :
    BtH w0 S B base T A { t with f := updK t.f (p : Int) (some ⟨m.segs.set i s, m.kids⟩) } (set5 W sb (i * 5) s) ∧ PlG (set5 W sb (i * 5) s) A g := by
  obtain ⟨S1, h5, h6⟩ := h.rebase
  obtain ⟨a, S0, h1, h2, h3, h4⟩ := h
  obtain ⟨g', _, _, hcs, _, _, _, hpl, hgA, hSA, _⟩ := h1.turnRow p m hp
  obtain rfl := hg.uniq hpl
  rw [hc] at hcs
  have hsb : (a.l.getD p bnZ).s.a = some ⟨sb, 0, none⟩ := by injection hcs with e; injection e with e1 _ _; exact e1.symm
  have hnd := h1.node p m hp
  have hrow : rowB (a.l.getD p bnZ) sb := .inl (by show (Value.slice (a.l.getD p bnZ).s.a _ _).ownBlock = _; rw [hsb]; rfl)
  have hk := h1.over p m hp i hi sb hsb s (w0 := w0) (S := S) h2 h3
  have hBl : ∀ b, B b → b ≠ sb := fun b hb e => (h4 b hb).2.2 (.inr (.inr ⟨p, by rw [hp]; simp, e ▸ hrow⟩))
  have hsz : (set5 W sb (i * 5) s).heap.size = W.heap.size := by unfold set5; simp only [World.size_setCell]
  obtain ⟨a', S0', k1, k2, k3, _⟩ := hk
  have hst : ∀ b, b ≠ sb → (set5 W sb (i * 5) s).heap[b]? = W.heap[b]? := fun b e => by
    have f : ∀ (X : World) (c i : Nat) (v : Value), b ≠ c → (X.setCell ⟨c, i, none⟩ v).heap[b]? = X.heap[b]? := fun X c i v hne => heap_setCell_other _ _ _ _ (by simpa using hne)
    unfold set5
    rw [f _ _ _ _ e, f _ _ _ _ e, f _ _ _ _ e, f _ _ _ _ e, f _ _ _ _ e]
  have hA : A ≠ sb := fun e => h1.far p (by rw [hp]; simp) sb hrow (e ▸ hSA)
  refine ⟨?_, ?_⟩
  · have hov := h1.over p m hp i hi sb hsb s (w0 := W) (S := btS T t a S0) (Kp.refl _ _) (fun b hb => .inl hb)
    obtain ⟨a2, S2, q1, q2, q3, _⟩ := hov
    refine ⟨a2, S2, q1, h2.trans q2 (fun b hb hs => (h3 b hs).resolve_right (by omega)), fun b hb => ?_, fun b hb => ⟨(h4 b hb).1, by rw [hsz]; exact (h4 b hb).2.1, fun q => ?_⟩⟩
    · rcases q3 b hb with q | q
      · exact h3 b q
      · exact .inr (Nat.le_trans h2.size q)
    · rcases q3 b q with q | q
      · exact (h4 b hb).2.2 q
      · have := (h4 b hb).2.1; omega
  · obtain ⟨nn, cc, hpc⟩ := hg
    have e := hst A hA
    generalize set5 W sb (i * 5) s = X at e ⊢
    exact ⟨nn, cc, (World.cell?_of_block e).trans hpc⟩
set_option maxHeartbeats 8000000 in
theorem BtH.turnBackL {w0 W : World} {S B : Nat → Prop} {base T A g : Nat} {t : Bx} (h : BtH w0 S B base T A t W) (hg : PlG W A g) (y p q : Nat) (ny np nq : Kn) (fy : t.f (y : Int) = some ny) (fp : t.f (p : Int) = some np) (fq : t.f (q : Int) = some nq) (hyp : y ≠ p) (hyq : y ≠ q) (hpq : p ≠ q)
    (k : Nat) (x m : G5) (ps : List G5) (k1 : ny.kids[k]? = some (p : Int)) (k2 : ny.kids[k + 1]? = some (q : Int)) (hx : ny.segs[k]? = some x) (hm : np.segs = ps ++ [m]) (hkk : np.kids = []) (l1 : ny.segs.length ≤ 1000 ∧ ny.kids.length ≤ 1000) (l2 : np.segs.length ≤ 1000 ∧ np.kids.length ≤ 1000) (l3 : nq.segs.length ≤ 1000 ∧ nq.kids.length ≤ 1000) :
    Calls Try.prog 110 #[aP T, .pointer (some ⟨g, y * 3, none⟩), .int .i64 (k : Int)] W fun e w' => e = .returned (.tuple #[]) ∧ ∃ F, BtH w0 S B base T A { t with f := F } w' ∧ F (y : Int) = some ⟨ny.segs.set k m, ny.kids⟩ ∧ F (p : Int) = some ⟨ps, np.kids⟩ ∧ F (q : Int) = some ⟨x :: nq.segs, nq.kids⟩ ∧ (∀ j : Int, j ≠ (y : Int) → j ≠ (p : Int) → j ≠ (q : Int) → F j = t.f j) ∧ ∀ b, B b → w'.heap[b]? = W.heap[b]? := by
  have mx := mixed
  obtain ⟨hk1, e1⟩ := List.getElem?_eq_some_iff.1 k1
  obtain ⟨hk2, e2⟩ := List.getElem?_eq_some_iff.1 k2
  obtain ⟨hxl, ex⟩ := List.getElem?_eq_some_iff.1 hx
  obtain ⟨S1, h5, h6⟩ := h.rebase
  have HRB := Lib.hid h6
  have HH := Lib.hid h5
  have HG := Lib.hid hg
  clear h6
  obtain ⟨say, kay, scy, kcy, vy⟩ := h5.node hg y ny fy
  obtain ⟨sap, kap, scp, kcp, vp⟩ := h5.node hg p np fp
  obtain ⟨saq, kaq, scq, kcq, vq⟩ := h5.node hg q nq fq
  have HAP := Lib.hid vp.at_
  have HAQ := Lib.hid vq.at_
  have cky := vy.ck
  obtain ⟨kb, rfl, _, q1, _⟩ := own_at vy.ok rfl k hk1
  obtain ⟨kb2, e3, _, q2, _⟩ := own_at vy.ok rfl (k + 1) hk2
  obtain rfl : kb = kb2 := by injection e3 with e3; injection e3
  rw [e1] at q1
  rw [e2] at q2
  have p1 := cell_regrown ((cell_of_row _ _ 1 _ _ _ h.top).trans rfl : W.cell? ⟨T, 1, none⟩ = some (aP A))
  have p2 := cell_regrown cky
  have p3 := cell_regrown q1
  have p4 := cell_regrown q2
  have i1 : IntKind.i64.wrap ((k : Int) + 1) = (k : Int) + 1 := IntWalk.i64_in _ (by omega)
  have i2 : (0 : Int) ≤ (k : Int) := by omega
  have i3 : (k : Int) < (ny.kids.length : Int) := by omega
  have i4 : (0 : Int) ≤ (k : Int) + 1 := by omega
  have i5 : (k : Int) + 1 < (ny.kids.length : Int) := by omega
  have HX := Lib.hid hx
  have HXL := Lib.hid hxl
  have HM := Lib.hid hm
  have HFY := Lib.hid fy
  have HFP := Lib.hid fp
  have HFQ := Lib.hid fq
  have HN1 := Lib.hid hyp
  have HN2 := Lib.hid hyq
  have HN3 := Lib.hid hpq
  have HKK := Lib.hid hkk
  clear vy vp vq cky q1 q2 e1 e2 e3 k1 k2 hx hm hk1 hk2 hxl ex fy fp fq hyp hyq hpq hkk h h5 hg 
  go_enter Try.func110, Try.ntmps110
  go_upto_region 0 with fail
  refine wp_region_quiet_below (by assumption) (by kernel_rfl) ?_
  repeat (go_big_quiet_step (first
    | (go_at_call 50; with_reducible exact Calls.regrown_of ((HAP.out _ (below_regrown _ _ _)).mono fun e w' h => ⟨h.1, h.2 ▸ Go.RowKit.Below.refl _ _⟩))
    | (go_at_call 50; with_reducible exact Calls.regrown_of ((HAQ.out _ (below_regrown _ _ _)).mono fun e w' h => ⟨h.1, h.2 ▸ Go.RowKit.Below.refl _ _⟩))))
  refine wpQuiet_nil ?_
  intro _ hw'
  obtain ⟨⟨nq0, osq⟩, hw''⟩ := hw'
  subst hw''
  have hb0 := below_regrown W nq0 osq
  generalize grow (redrawn W nq0) osq = Y at *
  clear p1 p2 p3 p4 i3 i4 i5
  have HY := Lib.hid (HH.out.below hb0)
  have HGY := Lib.hid (HG.out.below hb0)
  clear hb0 HAP HAQ HH HG
  -- last
  obtain ⟨n1, hn1⟩ : ∃ n1, n1 = np.segs.length := ⟨_, rfl⟩
  have hnl : n1 = ps.length + 1 := by rw [hn1, HM.out]; simp
  have HN1L := Lib.hid hn1
  have HNL := Lib.hid hnl
  obtain ⟨sap, kap, scp, kcp, vp⟩ := HY.out.node HGY.out p np HFP.out
  have c1 := vp.cs
  rw [← hn1] at c1
  have i6 : IntKind.i64.wrap ((n1 : Int) - 1) = (ps.length : Int) := by rw [show (n1 : Int) - 1 = (ps.length : Int) by omega]; exact IntWalk.i64_in _ (by omega)
  clear vp hn1 hnl
  go_upto_region 2 with fail
  clear c1 i6
  -- the one between goes down
  have HD := Lib.hid (HY.out.below (Go.RowKit.Below.refl _ _).drew)
  have HGD := Lib.hid (HGY.out.below (Go.RowKit.Below.refl _ _).drew)
  obtain ⟨say, kay, scy, kcy, vy⟩ := HD.out.node HGD.out y ny HFY.out
  obtain ⟨saq, kaq, scq, kcq, vq⟩ := HD.out.node HGD.out q nq HFQ.out
  obtain ⟨n2, hn2⟩ : ∃ n2, n2 = nq.segs.length := ⟨_, rfl⟩
  obtain ⟨n3, hn3⟩ : ∃ n3, n3 = ny.segs.length := ⟨_, rfl⟩
  have HN2L := Lib.hid hn2
  have HN3L := Lib.hid hn3
  have c1 := vq.cs
  rw [← hn2] at c1
  have c2 := vy.cs
  rw [← hn3] at c2
  obtain ⟨yb, rfl, _, hc5, _⟩ := own_atG vy.os rfl k HXL.out
  rw [show ny.segs[k]'HXL.out = x from (List.getElem?_eq_some_iff.1 HX.out).2] at hc5
  obtain ⟨d1, d2, d3, d4, d5⟩ := hc5
  have HLG := Lib.hid (laidG_any (i := 0) (s := x) vq.os rfl (Nat.zero_le _) (by omega) vq.le)
  rw [← hn2, show ((0 : Nat) : Int) = 0 from rfl] at HLG
  have HV := Lib.hid vq
  have HGF : Hid (∀ y1, Y.drew.grownBy y1 (Value.slice saq n2 scq).ownBlock → y1.cell? ⟨g, q * 3, none⟩ = some (.slice saq n2 scq) ∧ y1.frozen? ⟨g, q * 3, none⟩ = false) := fun y1 hy => by
    have hne : some g ≠ (Value.slice saq n2 scq).ownBlock := fun e => vq.gs g ((ownBlk _ _ _ _ _).trans e.symm) rfl
    exact ⟨(hy.cell_far ⟨g, q * 3, none⟩ vq.gb hne).trans c1, (hy.frozen_far ⟨g, q * 3, none⟩ vq.gb hne).trans (vq.fz _)⟩
  have i3 : (k : Int) < (n3 : Int) := by have := HXL.out; omega
  obtain ⟨S5, hS5⟩ : ∃ S5 : World → Prop, S5 = fun w' => w'.cell? ⟨g, q * 3, none⟩ = some (.slice saq n2 scq) ∧ w'.cell? ⟨g, y * 3, none⟩ = some (.slice (some ⟨yb, 0, none⟩) n3 scy) ∧ w'.cell? ⟨yb, k * 5, none⟩ = some (.int .i64 x.ls) ∧ w'.cell? ⟨yb, k * 5 + 1, none⟩ = some (.int .i64 x.la) ∧ w'.cell? ⟨yb, k * 5 + 2, none⟩ = some (.int .i64 x.hs) ∧ w'.cell? ⟨yb, k * 5 + 3, none⟩ = some (.int .i64 x.ha) ∧ w'.cell? ⟨yb, k * 5 + 4, none⟩ = some (.int .i64 x.v) := ⟨_, rfl⟩
  have HS1 : Hid (S5 Y.drew) := by show S5 _; rw [hS5]; exact ⟨c1, c2, d1, d2, d3, d4, d5⟩
  clear vy vq c1 c2 d1 d2 d3 d4 d5 hn2 hn3
  refine wp_plain_T S5 12 mx HS1.out (fun _ _ h => h) (fun hHeld => ?_)
  subst hS5
  refine wpAnyT_pure (i := 0) (v := ?_) (by kernel_rfl) rfl (by kernel_rfl) (by kernel_rfl) (by kernel_rfl) (fun _ _ _ h => h) (Or.inl ⟨by rfl, ?_⟩) (by assumption) ?_
  rotate_left
  · intro w0; go_simp; all_goals (with_reducible rfl)
  try simp only [Act.put, List.setIfInBounds_toArray, List.set_cons_zero, List.set_cons_succ]
  refine wpAnyT_pure (i := 1) (v := ?_) (by kernel_rfl) rfl (by kernel_rfl) (by kernel_rfl) (by kernel_rfl) (fun _ _ _ h => h) (Or.inl ⟨by rfl, ?_⟩) (by assumption) ?_
  rotate_left
  · intro w0; go_simp; all_goals (with_reducible rfl)
  try simp only [Act.put, List.setIfInBounds_toArray, List.set_cons_zero, List.set_cons_succ]
  refine wpAnyT_pure (i := 2) (v := ?_) (by kernel_rfl) rfl (by kernel_rfl) (by kernel_rfl) (by kernel_rfl) (fun _ _ _ h => h) (Or.inl ⟨by rfl, ?_⟩) (by assumption) ?_
  rotate_left
  · intro w0; go_simp; all_goals (with_reducible rfl)
  try simp only [Act.put, List.setIfInBounds_toArray, List.set_cons_zero, List.set_cons_succ]
  refine wpAnyT_pure (i := 3) (v := ?_) (by kernel_rfl) rfl (by kernel_rfl) (by kernel_rfl) (by kernel_rfl) (fun _ _ _ h => h) (Or.inl ⟨by rfl, ?_⟩) (by assumption) ?_
  rotate_left
  · intro w0; go_simp; all_goals (with_reducible rfl)
  try simp only [Act.put, List.setIfInBounds_toArray, List.set_cons_zero, List.set_cons_succ]
  refine wpAnyT_take (i := 4) (v := ?_) [12, 13, 14, 15] (by kernel_rfl) (by kernel_rfl) (by kernel_rfl) rfl (by kernel_rfl) (by kernel_rfl) (by kernel_rfl) (fun _ _ _ h => h) (Or.inl ⟨by rfl, ?_⟩) (by assumption) ?_
  rotate_left
  · intro w0 hSw; (try dsimp only at hSw); go_simp; all_goals (with_reducible rfl)
  try simp only [Act.put, List.setIfInBounds_toArray, List.set_cons_zero, List.set_cons_succ]
  refine wpAnyT_pure (i := 5) (v := ?_) (by kernel_rfl) rfl (by kernel_rfl) (by kernel_rfl) (by kernel_rfl) (fun _ _ _ h => h) (Or.inl ⟨by rfl, ?_⟩) (by assumption) ?_
  rotate_left
  · intro w0; go_simp; all_goals (with_reducible rfl)
  try simp only [Act.put, List.setIfInBounds_toArray, List.set_cons_zero, List.set_cons_succ]
  refine wpAnyT_pure (i := 6) (v := ?_) (by kernel_rfl) rfl (by kernel_rfl) (by kernel_rfl) (by kernel_rfl) (fun _ _ _ h => h) (Or.inl ⟨by rfl, ?_⟩) (by assumption) ?_
  rotate_left
  · intro w0; go_simp; all_goals (with_reducible rfl)
  try simp only [Act.put, List.setIfInBounds_toArray, List.set_cons_zero, List.set_cons_succ]
  refine wpAnyT_pure (i := 7) (v := ?_) (by kernel_rfl) rfl (by kernel_rfl) (by kernel_rfl) (by kernel_rfl) (fun _ _ _ h => h) (Or.inl ⟨by rfl, ?_⟩) (by assumption) ?_
  rotate_left
  · intro w0; go_simp; all_goals (with_reducible rfl)
  try simp only [Act.put, List.setIfInBounds_toArray, List.set_cons_zero, List.set_cons_succ]
  refine wpAnyT_take (i := 8) (v := ?_) [10, 11, 12, 13, 14, 15] (by kernel_rfl) (by kernel_rfl) (by kernel_rfl) rfl (by kernel_rfl) (by kernel_rfl) (by kernel_rfl) (fun _ _ _ h => h) (Or.inl ⟨by rfl, ?_⟩) (by assumption) ?_
  rotate_left
  · intro w0 hSw; (try dsimp only at hSw); go_simp; all_goals (with_reducible rfl)
  try simp only [Act.put, List.setIfInBounds_toArray, List.set_cons_zero, List.set_cons_succ]
  refine wpAnyT_pure (i := 9) (v := ?_) (by kernel_rfl) rfl (by kernel_rfl) (by kernel_rfl) (by kernel_rfl) (fun _ _ _ h => h) (Or.inl ⟨by rfl, ?_⟩) (by assumption) ?_
  rotate_left
  · intro w0; go_simp; all_goals (with_reducible rfl)
  try simp only [Act.put, List.setIfInBounds_toArray, List.set_cons_zero, List.set_cons_succ]
  refine wpAnyT_pure (i := 10) (v := ?_) (by kernel_rfl) rfl (by kernel_rfl) (by kernel_rfl) (by kernel_rfl) (fun _ _ _ h => h) (Or.inl ⟨by rfl, ?_⟩) (by assumption) ?_
  rotate_left
  · intro w0; go_simp; all_goals (with_reducible rfl)
  try simp only [Act.put, List.setIfInBounds_toArray, List.set_cons_zero, List.set_cons_succ]
  refine wpAnyT_take (i := 11) (v := ?_) [12, 13, 14, 15] (by kernel_rfl) (by kernel_rfl) (by kernel_rfl) rfl (by kernel_rfl) (by kernel_rfl) (by kernel_rfl) (fun _ _ _ h => h) (Or.inl ⟨by rfl, ?_⟩) (by assumption) ?_
  rotate_left
  · intro w0 hSw; (try dsimp only at hSw); go_simp; all_goals (with_reducible rfl)
  try simp only [Act.put, List.setIfInBounds_toArray, List.set_cons_zero, List.set_cons_succ]
  refine wpAnyT_stop (by kernel_rfl) rfl (fun K0 hK0 => ?_)
  go_simp
  refine HLG.out.mono ?_
  rintro e y1 ⟨a1, c1, ⟨rfl, ho1⟩, hg1, hn1'⟩
  obtain ⟨y5, y6⟩ := HGF.out y1 hg1
  have HO1 := Lib.hid ho1
  have HG1 := Lib.hid hg1
  have HN1' := Lib.hid hn1'
  clear ho1 hg1 hn1'
  try dsimp only
  refine hK0.out _ _ ?_
  clear hK0 K0
  try simp only [Act.put, List.setIfInBounds_toArray, List.set_cons_zero, List.set_cons_succ]
  refine wpAny_take (i := 13) (v := ?_) rfl (by kernel_rfl) (by kernel_rfl) (by kernel_rfl) (fun _ _ _ h => h) (Or.inl ⟨by rfl, ?_⟩) ?_
  rotate_left
  · intro w0; go_simp; all_goals (with_reducible rfl)
  try simp only [Act.put, List.setIfInBounds_toArray, List.set_cons_zero, List.set_cons_succ]
  refine wpAny_take (i := 14) (v := ?_) rfl (by kernel_rfl) (by kernel_rfl) (by kernel_rfl) (fun _ _ _ h => h) (Or.inl ⟨by rfl, ?_⟩) ?_
  rotate_left
  · intro w0; go_simp; all_goals (with_reducible rfl)
  try simp only [Act.put, List.setIfInBounds_toArray, List.set_cons_zero, List.set_cons_succ]
  refine wpAny_one (i := 15) (by kernel_rfl) rfl (fun K0 hK0 => ?_)
  go_simp
  refine hK0.out _ _ ?_
  clear hK0 K0
  try simp only [Act.put, List.setIfInBounds_toArray, List.set_cons_zero, List.set_cons_succ]
  refine wpAny_end (by kernel_rfl) ?_ _
  simp only [onlyN]
  have hset := HV.out.setS y1 a1 c1 (x :: nq.segs) (by rw [show (Value.slice saq nq.segs.length scq).ownBlock = (Value.slice saq n2 scq).ownBlock from ownBlk _ _ _ _ _]; exact HG1.out) (by rw [List.length_cons, ← HN2L.out]; exact HO1.out) (fun b hb => by
    have hb' : (Value.slice a1 (n2 + 1) c1).ownBlock = some b := by rw [← hb]; exact ownBlk _ _ _ _ _
    rcases HN1'.out b hb' with q | q
    · exact .inl (by rw [← q]; exact ownBlk _ _ _ _ _)
    · exact .inr ⟨q, (HO1.out.lt b hb').2, id⟩)
  rw [List.length_cons, ← HN2L.out] at hset
  obtain ⟨h7, h8, _⟩ := hset
  have H2 := Lib.hid h7
  have HG2 := Lib.hid h8
  clear h7 h8 hHeld HS1 HGF HLG HO1 HG1 HN1' HV HD HGD y5 y6 HY HGY i3
  generalize y1.setCell ⟨g, q * 3, none⟩ (.slice a1 (n2 + 1) c1) = Y2 at *
  go_upto_region 3 with fail
  -- the last one goes up
  have HD := Lib.hid (H2.out.below (Go.RowKit.Below.refl _ _).drew)
  have HGD := Lib.hid (HG2.out.below (Go.RowKit.Below.refl _ _).drew)
  obtain ⟨say, kay, scy, kcy, vy⟩ := HD.out.node HGD.out y ny ((updK_nat _ _ _ _ HN2.out).trans HFY.out)
  obtain ⟨sap, kap, scp, kcp, vp⟩ := HD.out.node HGD.out p np ((updK_nat _ _ _ _ HN3.out).trans HFP.out)
  have c2 := vy.cs
  obtain ⟨yb, rfl, _, hy5, hyf⟩ := own_atG vy.os rfl k HXL.out
  have c2' := vy.cs
  rw [← HN3L.out] at c2'
  have c3 := vp.cs
  have hpl : ps.length < np.segs.length := by have := HN1L.out; have := HNL.out; omega
  obtain ⟨pb, rfl, _, hp5, _⟩ := own_atG vp.os rfl ps.length hpl
  have hmm : np.segs[ps.length]'hpl = m := by
    have : np.segs[ps.length]? = some m := by rw [HM.out]; simp
    exact (List.getElem?_eq_some_iff.1 this).2
  rw [hmm] at hp5
  have c3' := vp.cs
  rw [← HN1L.out] at c3'
  obtain ⟨d1, d2, d3, d4, d5⟩ := hp5
  obtain ⟨f1, f2, f3, f4, f5⟩ := hy5
  have z1 := hyf (k * 5)
  have z2 := hyf (k * 5 + 1)
  have z3 := hyf (k * 5 + 2)
  have z4 := hyf (k * 5 + 3)
  have z5 := hyf (k * 5 + 4)
  have HOV := Lib.hid (HD.out.over HGD.out y ny ((updK_nat _ _ _ _ HN2.out).trans HFY.out) k HXL.out yb scy c2 m)
  have i3 : (k : Int) < (n3 : Int) := by have := HXL.out; have := HN3L.out; omega
  have i7 : (0 : Int) ≤ (ps.length : Int) := by omega
  have i8 : (ps.length : Int) < (n1 : Int) := by have := HNL.out; omega
  obtain ⟨S5, hS5⟩ : ∃ S5 : World → Prop, S5 = fun w' => w'.cell? ⟨g, y * 3, none⟩ = some (.slice (some ⟨yb, 0, none⟩) n3 scy) ∧ w'.cell? ⟨g, p * 3, none⟩ = some (.slice (some ⟨pb, 0, none⟩) n1 scp) ∧ w'.cell? ⟨pb, ps.length * 5, none⟩ = some (.int .i64 m.ls) ∧ w'.cell? ⟨pb, ps.length * 5 + 1, none⟩ = some (.int .i64 m.la) ∧ w'.cell? ⟨pb, ps.length * 5 + 2, none⟩ = some (.int .i64 m.hs) ∧ w'.cell? ⟨pb, ps.length * 5 + 3, none⟩ = some (.int .i64 m.ha) ∧ w'.cell? ⟨pb, ps.length * 5 + 4, none⟩ = some (.int .i64 m.v) := ⟨_, rfl⟩
  have HS1 : Hid (S5 Y2.drew) := by show S5 _; rw [hS5]; exact ⟨c2', c3', d1, d2, d3, d4, d5⟩
  clear vy vp c2 c3 c2' c3' d1 d2 d3 d4 d5 hmm hpl hyf
  refine wp_plain_T S5 13 mx HS1.out (fun _ _ h => h) (fun hHeld => ?_)
  subst hS5
  generalize Y2.drew = Z at *
  refine wpAnyT_pure (i := 0) (v := ?_) (by kernel_rfl) rfl (by kernel_rfl) (by kernel_rfl) (by kernel_rfl) (fun _ _ _ h => h) (Or.inl ⟨by rfl, ?_⟩) (by assumption) ?_
  rotate_left
  · intro w0; go_simp; all_goals (with_reducible rfl)
  try simp only [Act.put, List.setIfInBounds_toArray, List.set_cons_zero, List.set_cons_succ]
  refine wpAnyT_pure (i := 1) (v := ?_) (by kernel_rfl) rfl (by kernel_rfl) (by kernel_rfl) (by kernel_rfl) (fun _ _ _ h => h) (Or.inl ⟨by rfl, ?_⟩) (by assumption) ?_
  rotate_left
  · intro w0; go_simp; all_goals (with_reducible rfl)
  try simp only [Act.put, List.setIfInBounds_toArray, List.set_cons_zero, List.set_cons_succ]
  refine wpAnyT_pure (i := 2) (v := ?_) (by kernel_rfl) rfl (by kernel_rfl) (by kernel_rfl) (by kernel_rfl) (fun _ _ _ h => h) (Or.inl ⟨by rfl, ?_⟩) (by assumption) ?_
  rotate_left
  · intro w0; go_simp; all_goals (with_reducible rfl)
  try simp only [Act.put, List.setIfInBounds_toArray, List.set_cons_zero, List.set_cons_succ]
  refine wpAnyT_take (i := 3) (v := ?_) [12, 13] (by kernel_rfl) (by kernel_rfl) (by kernel_rfl) rfl (by kernel_rfl) (by kernel_rfl) (by kernel_rfl) (fun _ _ _ h => h) (Or.inl ⟨by rfl, ?_⟩) (by assumption) ?_
  rotate_left
  · intro w0 hSw; (try dsimp only at hSw); go_simp; all_goals (with_reducible rfl)
  try simp only [Act.put, List.setIfInBounds_toArray, List.set_cons_zero, List.set_cons_succ]
  refine wpAnyT_pure (i := 4) (v := ?_) (by kernel_rfl) rfl (by kernel_rfl) (by kernel_rfl) (by kernel_rfl) (fun _ _ _ h => h) (Or.inl ⟨by rfl, ?_⟩) (by assumption) ?_
  rotate_left
  · intro w0; go_simp; all_goals (with_reducible rfl)
  try simp only [Act.put, List.setIfInBounds_toArray, List.set_cons_zero, List.set_cons_succ]
  refine wpAnyT_pure (i := 5) (v := ?_) (by kernel_rfl) rfl (by kernel_rfl) (by kernel_rfl) (by kernel_rfl) (fun _ _ _ h => h) (Or.inl ⟨by rfl, ?_⟩) (by assumption) ?_
  rotate_left
  · intro w0; go_simp; all_goals (with_reducible rfl)
  try simp only [Act.put, List.setIfInBounds_toArray, List.set_cons_zero, List.set_cons_succ]
  refine wpAnyT_pure (i := 6) (v := ?_) (by kernel_rfl) rfl (by kernel_rfl) (by kernel_rfl) (by kernel_rfl) (fun _ _ _ h => h) (Or.inl ⟨by rfl, ?_⟩) (by assumption) ?_
  rotate_left
  · intro w0; go_simp; all_goals (with_reducible rfl)
  try simp only [Act.put, List.setIfInBounds_toArray, List.set_cons_zero, List.set_cons_succ]
  refine wpAnyT_pure (i := 7) (v := ?_) (by kernel_rfl) rfl (by kernel_rfl) (by kernel_rfl) (by kernel_rfl) (fun _ _ _ h => h) (Or.inl ⟨by rfl, ?_⟩) (by assumption) ?_
  rotate_left
  · intro w0; go_simp; all_goals (with_reducible rfl)
  try simp only [Act.put, List.setIfInBounds_toArray, List.set_cons_zero, List.set_cons_succ]
  refine wpAnyT_take (i := 8) (v := ?_) [10, 11, 12, 13] (by kernel_rfl) (by kernel_rfl) (by kernel_rfl) rfl (by kernel_rfl) (by kernel_rfl) (by kernel_rfl) (fun _ _ _ h => h) (Or.inl ⟨by rfl, ?_⟩) (by assumption) ?_
  rotate_left
  · intro w0 hSw; (try dsimp only at hSw); go_simp; all_goals (with_reducible rfl)
  try simp only [Act.put, List.setIfInBounds_toArray, List.set_cons_zero, List.set_cons_succ]
  refine wpAnyT_pure (i := 9) (v := ?_) (by kernel_rfl) rfl (by kernel_rfl) (by kernel_rfl) (by kernel_rfl) (fun _ _ _ h => h) (Or.inl ⟨by rfl, ?_⟩) (by assumption) ?_
  rotate_left
  · intro w0; go_simp; all_goals (with_reducible rfl)
  try simp only [Act.put, List.setIfInBounds_toArray, List.set_cons_zero, List.set_cons_succ]
  refine wpAnyT_pure (i := 10) (v := ?_) (by kernel_rfl) rfl (by kernel_rfl) (by kernel_rfl) (by kernel_rfl) (fun _ _ _ h => h) (Or.inl ⟨by rfl, ?_⟩) (by assumption) ?_
  rotate_left
  · intro w0; go_simp; all_goals (with_reducible rfl)
  try simp only [Act.put, List.setIfInBounds_toArray, List.set_cons_zero, List.set_cons_succ]
  refine wpAnyT_take (i := 11) (v := ?_) [12, 13] (by kernel_rfl) (by kernel_rfl) (by kernel_rfl) rfl (by kernel_rfl) (by kernel_rfl) (by kernel_rfl) (fun _ _ _ h => h) (Or.inl ⟨by rfl, ?_⟩) (by assumption) ?_
  rotate_left
  · intro w0 hSw; (try dsimp only at hSw); go_simp; all_goals (with_reducible rfl)
  try simp only [Act.put, List.setIfInBounds_toArray, List.set_cons_zero, List.set_cons_succ]
  refine wpAnyT_pure (i := 12) (v := ?_) (by kernel_rfl) rfl (by kernel_rfl) (by kernel_rfl) (by kernel_rfl) (fun _ _ _ h => h) (Or.inl ⟨by rfl, ?_⟩) (by assumption) ?_
  rotate_left
  · intro w0; go_simp; all_goals (with_reducible rfl)
  try simp only [Act.put, List.setIfInBounds_toArray, List.set_cons_zero, List.set_cons_succ]
  refine wpAnyT_stop (by kernel_rfl) rfl (fun K0 hK0 => ?_)
  go_simp
  skip
  refine hK0.out _ _ ?_
  clear hK0 K0
  try simp only [Act.put, List.setIfInBounds_toArray, List.set_cons_zero, List.set_cons_succ]
  refine wpAny_end (by kernel_rfl) ?_ _
  simp only [onlyN]
  obtain ⟨h7, h8⟩ := HOV.out
  have H3 := Lib.hid h7
  have HG3 := Lib.hid h8
  clear h7 h8 hHeld HS1 HOV HD HGD H2 HG2 i3 i7 i8 f1 f2 f3 f4 f5 z1 z2 z3 z4 z5
  change Exit.then _ _ Exit.normal _ (set5 Z yb (k * 5) m)
  generalize set5 Z yb (k * 5) m = Y3 at *
  -- it leaves the child ahead
  obtain ⟨sap, kap, scp, kcp, vp⟩ := H3.out.node HG3.out p np ((updK_nat _ _ _ _ HN1.out.symm).trans ((updK_nat _ _ _ _ HN3.out).trans HFP.out))
  have c1 := vp.cs
  rw [← HN1L.out] at c1
  have f1 := vp.fz (p * 3)
  have hcl : ps.length ≤ scp := by
    have := HN1L.out
    have := HNL.out
    rcases vp.os.2 with ⟨q, q2⟩ | ⟨g', c', cur, q, _, _, q2, _⟩
    · omega
    · injection q with _ _ q; omega
  have htk : np.segs.take ps.length = ps := by rw [HM.out, List.take_left']; rfl
  have hot := own_take5 vp.os rfl ps.length (by have := HN1L.out; have := HNL.out; omega)
  rw [htk] at hot
  have hset := vp.setS Y3 sap scp ps (grown_refl _ _) hot (fun b hb => .inl (by rw [← hb]; exact ownBlk _ _ _ _ _))
  have i7 : (0 : Int) ≤ (ps.length : Int) := by omega
  have i8 : (ps.length : Int) ≤ (scp : Int) := by omega
  obtain ⟨h7, h8, _⟩ := hset
  have H4 := Lib.hid h7
  have HG4 := Lib.hid h8
  clear vp hot htk hcl h7 h8
  go_upto_region 5 with fail
  clear c1 f1 i7 i8 H3 HG3
  generalize Y3.setCell ⟨g, p * 3, none⟩ (.slice sap ps.length scp) = Y4 at *
  obtain ⟨sap, kap, scp, kcp, vp⟩ := H4.out.node HG4.out p _ (updK_self _ _ _)
  have c1 := vp.ck
  rw [show (⟨ps, np.kids⟩ : Kn).kids.length = 0 by show np.kids.length = 0; rw [HKK.out]; rfl] at c1
  clear vp
  go_wp2_with fail
  go_end0
  have r := HRB.out _ _ H4.out
  refine ⟨rfl, _, r.1, (updK_nat _ _ _ _ HN1.out).trans (updK_self _ _ _), updK_self _ _ _, (updK_nat _ _ _ _ HN3.out.symm).trans ((updK_nat _ _ _ _ HN2.out.symm).trans (updK_self _ _ _)), fun j j1 j2 j3 => (updK_ne _ _ _ _ j2).trans ((updK_ne _ _ _ _ j1).trans (updK_ne _ _ _ _ j3)), r.2.2⟩
set_option maxHeartbeats 8000000 in
theorem BtH.turnBackK {w0 W : World} {S B : Nat → Prop} {base T A g : Nat} {t : Bx} (h : BtH w0 S B base T A t W) (hg : PlG W A g) (y p q : Nat) (ny np nq : Kn) (fy : t.f (y : Int) = some ny) (fp : t.f (p : Int) = some np) (fq : t.f (q : Int) = some nq) (hyp : y ≠ p) (hyq : y ≠ q) (hpq : p ≠ q)
    (k : Nat) (x m : G5) (ps : List G5) (k1 : ny.kids[k]? = some (p : Int)) (k2 : ny.kids[k + 1]? = some (q : Int)) (hx : ny.segs[k]? = some x) (hm : np.segs = ps ++ [m]) (pk : List Int) (c : Int) (hkk : np.kids = pk ++ [c]) (hkl : pk.length = ps.length + 1) (l1 : ny.segs.length ≤ 1000 ∧ ny.kids.length ≤ 1000) (l2 : np.segs.length ≤ 1000 ∧ np.kids.length ≤ 1000) (l3 : nq.segs.length ≤ 1000 ∧ nq.kids.length ≤ 1000) :
    Calls Try.prog 110 #[aP T, .pointer (some ⟨g, y * 3, none⟩), .int .i64 (k : Int)] W fun e w' => e = .returned (.tuple #[]) ∧ ∃ F, BtH w0 S B base T A { t with f := F } w' ∧ F (y : Int) = some ⟨ny.segs.set k m, ny.kids⟩ ∧ F (p : Int) = some ⟨ps, pk⟩ ∧ F (q : Int) = some ⟨x :: nq.segs, c :: nq.kids⟩ ∧ (∀ j : Int, j ≠ (y : Int) → j ≠ (p : Int) → j ≠ (q : Int) → F j = t.f j) ∧ ∀ b, B b → w'.heap[b]? = W.heap[b]? := by
  have mx := mixed
  obtain ⟨hk1, e1⟩ := List.getElem?_eq_some_iff.1 k1
  obtain ⟨hk2, e2⟩ := List.getElem?_eq_some_iff.1 k2
  obtain ⟨hxl, ex⟩ := List.getElem?_eq_some_iff.1 hx
  obtain ⟨S1, h5, h6⟩ := h.rebase
  have HRB := Lib.hid h6
  have HH := Lib.hid h5
  have HG := Lib.hid hg
  clear h6
  obtain ⟨say, kay, scy, kcy, vy⟩ := h5.node hg y ny fy
  obtain ⟨sap, kap, scp, kcp, vp⟩ := h5.node hg p np fp
  obtain ⟨saq, kaq, scq, kcq, vq⟩ := h5.node hg q nq fq
  have HAP := Lib.hid vp.at_
  have HAQ := Lib.hid vq.at_
  have cky := vy.ck
  obtain ⟨kb, rfl, _, q1, _⟩ := own_at vy.ok rfl k hk1
  obtain ⟨kb2, e3, _, q2, _⟩ := own_at vy.ok rfl (k + 1) hk2
  obtain rfl : kb = kb2 := by injection e3 with e3; injection e3
  rw [e1] at q1
  rw [e2] at q2
  have p1 := cell_regrown ((cell_of_row _ _ 1 _ _ _ h.top).trans rfl : W.cell? ⟨T, 1, none⟩ = some (aP A))
  have p2 := cell_regrown cky
  have p3 := cell_regrown q1
  have p4 := cell_regrown q2
  have i1 : IntKind.i64.wrap ((k : Int) + 1) = (k : Int) + 1 := IntWalk.i64_in _ (by omega)
  have i2 : (0 : Int) ≤ (k : Int) := by omega
  have i3 : (k : Int) < (ny.kids.length : Int) := by omega
  have i4 : (0 : Int) ≤ (k : Int) + 1 := by omega
  have i5 : (k : Int) + 1 < (ny.kids.length : Int) := by omega
  have HX := Lib.hid hx
  have HXL := Lib.hid hxl
  have HM := Lib.hid hm
  have HFY := Lib.hid fy
  have HFP := Lib.hid fp
  have HFQ := Lib.hid fq
  have HN1 := Lib.hid hyp
  have HN2 := Lib.hid hyq
  have HN3 := Lib.hid hpq
  have HKK := Lib.hid hkk
  have HKL := Lib.hid hkl
  clear vy vp vq cky q1 q2 e1 e2 e3 k1 k2 hx hm hk1 hk2 hxl ex fy fp fq hyp hyq hpq hkk h h5 hg hkl
  go_enter Try.func110, Try.ntmps110
  go_upto_region 0 with fail
  refine wp_region_quiet_below (by assumption) (by kernel_rfl) ?_
  repeat (go_big_quiet_step (first
    | (go_at_call 50; with_reducible exact Calls.regrown_of ((HAP.out _ (below_regrown _ _ _)).mono fun e w' h => ⟨h.1, h.2 ▸ Go.RowKit.Below.refl _ _⟩))
    | (go_at_call 50; with_reducible exact Calls.regrown_of ((HAQ.out _ (below_regrown _ _ _)).mono fun e w' h => ⟨h.1, h.2 ▸ Go.RowKit.Below.refl _ _⟩))))
  refine wpQuiet_nil ?_
  intro _ hw'
  obtain ⟨⟨nq0, osq⟩, hw''⟩ := hw'
  subst hw''
  have hb0 := below_regrown W nq0 osq
  generalize grow (redrawn W nq0) osq = Y at *
  clear p1 p2 p3 p4 i3 i4 i5
  have HY := Lib.hid (HH.out.below hb0)
  have HGY := Lib.hid (HG.out.below hb0)
  clear hb0 HAP HAQ HH HG
  -- last
  obtain ⟨n1, hn1⟩ : ∃ n1, n1 = np.segs.length := ⟨_, rfl⟩
  have hnl : n1 = ps.length + 1 := by rw [hn1, HM.out]; simp
  have HN1L := Lib.hid hn1
  have HNL := Lib.hid hnl
  obtain ⟨sap, kap, scp, kcp, vp⟩ := HY.out.node HGY.out p np HFP.out
  have c1 := vp.cs
  rw [← hn1] at c1
  have i6 : IntKind.i64.wrap ((n1 : Int) - 1) = (ps.length : Int) := by rw [show (n1 : Int) - 1 = (ps.length : Int) by omega]; exact IntWalk.i64_in _ (by omega)
  clear vp hn1 hnl
  go_upto_region 2 with fail
  clear c1 i6
  -- the one between goes down
  have HD := Lib.hid (HY.out.below (Go.RowKit.Below.refl _ _).drew)
  have HGD := Lib.hid (HGY.out.below (Go.RowKit.Below.refl _ _).drew)
  obtain ⟨say, kay, scy, kcy, vy⟩ := HD.out.node HGD.out y ny HFY.out
  obtain ⟨saq, kaq, scq, kcq, vq⟩ := HD.out.node HGD.out q nq HFQ.out
  obtain ⟨n2, hn2⟩ : ∃ n2, n2 = nq.segs.length := ⟨_, rfl⟩
  obtain ⟨n3, hn3⟩ : ∃ n3, n3 = ny.segs.length := ⟨_, rfl⟩
  have HN2L := Lib.hid hn2
  have HN3L := Lib.hid hn3
  have c1 := vq.cs
  rw [← hn2] at c1
  have c2 := vy.cs
  rw [← hn3] at c2
  obtain ⟨yb, rfl, _, hc5, _⟩ := own_atG vy.os rfl k HXL.out
  rw [show ny.segs[k]'HXL.out = x from (List.getElem?_eq_some_iff.1 HX.out).2] at hc5
  obtain ⟨d1, d2, d3, d4, d5⟩ := hc5
  have HLG := Lib.hid (laidG_any (i := 0) (s := x) vq.os rfl (Nat.zero_le _) (by omega) vq.le)
  rw [← hn2, show ((0 : Nat) : Int) = 0 from rfl] at HLG
  have HV := Lib.hid vq
  have HGF : Hid (∀ y1, Y.drew.grownBy y1 (Value.slice saq n2 scq).ownBlock → y1.cell? ⟨g, q * 3, none⟩ = some (.slice saq n2 scq) ∧ y1.frozen? ⟨g, q * 3, none⟩ = false) := fun y1 hy => by
    have hne : some g ≠ (Value.slice saq n2 scq).ownBlock := fun e => vq.gs g ((ownBlk _ _ _ _ _).trans e.symm) rfl
    exact ⟨(hy.cell_far ⟨g, q * 3, none⟩ vq.gb hne).trans c1, (hy.frozen_far ⟨g, q * 3, none⟩ vq.gb hne).trans (vq.fz _)⟩
  have i3 : (k : Int) < (n3 : Int) := by have := HXL.out; omega
  obtain ⟨S5, hS5⟩ : ∃ S5 : World → Prop, S5 = fun w' => w'.cell? ⟨g, q * 3, none⟩ = some (.slice saq n2 scq) ∧ w'.cell? ⟨g, y * 3, none⟩ = some (.slice (some ⟨yb, 0, none⟩) n3 scy) ∧ w'.cell? ⟨yb, k * 5, none⟩ = some (.int .i64 x.ls) ∧ w'.cell? ⟨yb, k * 5 + 1, none⟩ = some (.int .i64 x.la) ∧ w'.cell? ⟨yb, k * 5 + 2, none⟩ = some (.int .i64 x.hs) ∧ w'.cell? ⟨yb, k * 5 + 3, none⟩ = some (.int .i64 x.ha) ∧ w'.cell? ⟨yb, k * 5 + 4, none⟩ = some (.int .i64 x.v) := ⟨_, rfl⟩
  have HS1 : Hid (S5 Y.drew) := by show S5 _; rw [hS5]; exact ⟨c1, c2, d1, d2, d3, d4, d5⟩
  clear vy vq c1 c2 d1 d2 d3 d4 d5 hn2 hn3
  refine wp_plain_T S5 12 mx HS1.out (fun _ _ h => h) (fun hHeld => ?_)
  subst hS5
  refine wpAnyT_pure (i := 0) (v := ?_) (by kernel_rfl) rfl (by kernel_rfl) (by kernel_rfl) (by kernel_rfl) (fun _ _ _ h => h) (Or.inl ⟨by rfl, ?_⟩) (by assumption) ?_
  rotate_left
  · intro w0; go_simp; all_goals (with_reducible rfl)
  try simp only [Act.put, List.setIfInBounds_toArray, List.set_cons_zero, List.set_cons_succ]
  refine wpAnyT_pure (i := 1) (v := ?_) (by kernel_rfl) rfl (by kernel_rfl) (by kernel_rfl) (by kernel_rfl) (fun _ _ _ h => h) (Or.inl ⟨by rfl, ?_⟩) (by assumption) ?_
  rotate_left
  · intro w0; go_simp; all_goals (with_reducible rfl)
  try simp only [Act.put, List.setIfInBounds_toArray, List.set_cons_zero, List.set_cons_succ]
  refine wpAnyT_pure (i := 2) (v := ?_) (by kernel_rfl) rfl (by kernel_rfl) (by kernel_rfl) (by kernel_rfl) (fun _ _ _ h => h) (Or.inl ⟨by rfl, ?_⟩) (by assumption) ?_
  rotate_left
  · intro w0; go_simp; all_goals (with_reducible rfl)
  try simp only [Act.put, List.setIfInBounds_toArray, List.set_cons_zero, List.set_cons_succ]
  refine wpAnyT_pure (i := 3) (v := ?_) (by kernel_rfl) rfl (by kernel_rfl) (by kernel_rfl) (by kernel_rfl) (fun _ _ _ h => h) (Or.inl ⟨by rfl, ?_⟩) (by assumption) ?_
  rotate_left
  · intro w0; go_simp; all_goals (with_reducible rfl)
  try simp only [Act.put, List.setIfInBounds_toArray, List.set_cons_zero, List.set_cons_succ]
  refine wpAnyT_take (i := 4) (v := ?_) [12, 13, 14, 15] (by kernel_rfl) (by kernel_rfl) (by kernel_rfl) rfl (by kernel_rfl) (by kernel_rfl) (by kernel_rfl) (fun _ _ _ h => h) (Or.inl ⟨by rfl, ?_⟩) (by assumption) ?_
  rotate_left
  · intro w0 hSw; (try dsimp only at hSw); go_simp; all_goals (with_reducible rfl)
  try simp only [Act.put, List.setIfInBounds_toArray, List.set_cons_zero, List.set_cons_succ]
  refine wpAnyT_pure (i := 5) (v := ?_) (by kernel_rfl) rfl (by kernel_rfl) (by kernel_rfl) (by kernel_rfl) (fun _ _ _ h => h) (Or.inl ⟨by rfl, ?_⟩) (by assumption) ?_
  rotate_left
  · intro w0; go_simp; all_goals (with_reducible rfl)
  try simp only [Act.put, List.setIfInBounds_toArray, List.set_cons_zero, List.set_cons_succ]
  refine wpAnyT_pure (i := 6) (v := ?_) (by kernel_rfl) rfl (by kernel_rfl) (by kernel_rfl) (by kernel_rfl) (fun _ _ _ h => h) (Or.inl ⟨by rfl, ?_⟩) (by assumption) ?_
  rotate_left
  · intro w0; go_simp; all_goals (with_reducible rfl)
  try simp only [Act.put, List.setIfInBounds_toArray, List.set_cons_zero, List.set_cons_succ]
  refine wpAnyT_pure (i := 7) (v := ?_) (by kernel_rfl) rfl (by kernel_rfl) (by kernel_rfl) (by kernel_rfl) (fun _ _ _ h => h) (Or.inl ⟨by rfl, ?_⟩) (by assumption) ?_
  rotate_left
  · intro w0; go_simp; all_goals (with_reducible rfl)
  try simp only [Act.put, List.setIfInBounds_toArray, List.set_cons_zero, List.set_cons_succ]
  refine wpAnyT_take (i := 8) (v := ?_) [10, 11, 12, 13, 14, 15] (by kernel_rfl) (by kernel_rfl) (by kernel_rfl) rfl (by kernel_rfl) (by kernel_rfl) (by kernel_rfl) (fun _ _ _ h => h) (Or.inl ⟨by rfl, ?_⟩) (by assumption) ?_
  rotate_left
  · intro w0 hSw; (try dsimp only at hSw); go_simp; all_goals (with_reducible rfl)
  try simp only [Act.put, List.setIfInBounds_toArray, List.set_cons_zero, List.set_cons_succ]
  refine wpAnyT_pure (i := 9) (v := ?_) (by kernel_rfl) rfl (by kernel_rfl) (by kernel_rfl) (by kernel_rfl) (fun _ _ _ h => h) (Or.inl ⟨by rfl, ?_⟩) (by assumption) ?_
  rotate_left
  · intro w0; go_simp; all_goals (with_reducible rfl)
  try simp only [Act.put, List.setIfInBounds_toArray, List.set_cons_zero, List.set_cons_succ]
  refine wpAnyT_pure (i := 10) (v := ?_) (by kernel_rfl) rfl (by kernel_rfl) (by kernel_rfl) (by kernel_rfl) (fun _ _ _ h => h) (Or.inl ⟨by rfl, ?_⟩) (by assumption) ?_
  rotate_left
  · intro w0; go_simp; all_goals (with_reducible rfl)
  try simp only [Act.put, List.setIfInBounds_toArray, List.set_cons_zero, List.set_cons_succ]
  refine wpAnyT_take (i := 11) (v := ?_) [12, 13, 14, 15] (by kernel_rfl) (by kernel_rfl) (by kernel_rfl) rfl (by kernel_rfl) (by kernel_rfl) (by kernel_rfl) (fun _ _ _ h => h) (Or.inl ⟨by rfl, ?_⟩) (by assumption) ?_
  rotate_left
  · intro w0 hSw; (try dsimp only at hSw); go_simp; all_goals (with_reducible rfl)
  try simp only [Act.put, List.setIfInBounds_toArray, List.set_cons_zero, List.set_cons_succ]
  refine wpAnyT_stop (by kernel_rfl) rfl (fun K0 hK0 => ?_)
  go_simp
  refine HLG.out.mono ?_
  rintro e y1 ⟨a1, c1, ⟨rfl, ho1⟩, hg1, hn1'⟩
  obtain ⟨y5, y6⟩ := HGF.out y1 hg1
  have HO1 := Lib.hid ho1
  have HG1 := Lib.hid hg1
  have HN1' := Lib.hid hn1'
  clear ho1 hg1 hn1'
  try dsimp only
  refine hK0.out _ _ ?_
  clear hK0 K0
  try simp only [Act.put, List.setIfInBounds_toArray, List.set_cons_zero, List.set_cons_succ]
  refine wpAny_take (i := 13) (v := ?_) rfl (by kernel_rfl) (by kernel_rfl) (by kernel_rfl) (fun _ _ _ h => h) (Or.inl ⟨by rfl, ?_⟩) ?_
  rotate_left
  · intro w0; go_simp; all_goals (with_reducible rfl)
  try simp only [Act.put, List.setIfInBounds_toArray, List.set_cons_zero, List.set_cons_succ]
  refine wpAny_take (i := 14) (v := ?_) rfl (by kernel_rfl) (by kernel_rfl) (by kernel_rfl) (fun _ _ _ h => h) (Or.inl ⟨by rfl, ?_⟩) ?_
  rotate_left
  · intro w0; go_simp; all_goals (with_reducible rfl)
  try simp only [Act.put, List.setIfInBounds_toArray, List.set_cons_zero, List.set_cons_succ]
  refine wpAny_one (i := 15) (by kernel_rfl) rfl (fun K0 hK0 => ?_)
  go_simp
  refine hK0.out _ _ ?_
  clear hK0 K0
  try simp only [Act.put, List.setIfInBounds_toArray, List.set_cons_zero, List.set_cons_succ]
  refine wpAny_end (by kernel_rfl) ?_ _
  simp only [onlyN]
  have hset := HV.out.setS y1 a1 c1 (x :: nq.segs) (by rw [show (Value.slice saq nq.segs.length scq).ownBlock = (Value.slice saq n2 scq).ownBlock from ownBlk _ _ _ _ _]; exact HG1.out) (by rw [List.length_cons, ← HN2L.out]; exact HO1.out) (fun b hb => by
    have hb' : (Value.slice a1 (n2 + 1) c1).ownBlock = some b := by rw [← hb]; exact ownBlk _ _ _ _ _
    rcases HN1'.out b hb' with q | q
    · exact .inl (by rw [← q]; exact ownBlk _ _ _ _ _)
    · exact .inr ⟨q, (HO1.out.lt b hb').2, id⟩)
  rw [List.length_cons, ← HN2L.out] at hset
  obtain ⟨h7, h8, _⟩ := hset
  have H2 := Lib.hid h7
  have HG2 := Lib.hid h8
  clear h7 h8 hHeld HS1 HGF HLG HO1 HG1 HN1' HV HD HGD y5 y6 HY HGY i3
  generalize y1.setCell ⟨g, q * 3, none⟩ (.slice a1 (n2 + 1) c1) = Y2 at *
  go_upto_region 3 with fail
  -- the last one goes up
  have HD := Lib.hid (H2.out.below (Go.RowKit.Below.refl _ _).drew)
  have HGD := Lib.hid (HG2.out.below (Go.RowKit.Below.refl _ _).drew)
  obtain ⟨say, kay, scy, kcy, vy⟩ := HD.out.node HGD.out y ny ((updK_nat _ _ _ _ HN2.out).trans HFY.out)
  obtain ⟨sap, kap, scp, kcp, vp⟩ := HD.out.node HGD.out p np ((updK_nat _ _ _ _ HN3.out).trans HFP.out)
  have c2 := vy.cs
  obtain ⟨yb, rfl, _, hy5, hyf⟩ := own_atG vy.os rfl k HXL.out
  have c2' := vy.cs
  rw [← HN3L.out] at c2'
  have c3 := vp.cs
  have hpl : ps.length < np.segs.length := by have := HN1L.out; have := HNL.out; omega
  obtain ⟨pb, rfl, _, hp5, _⟩ := own_atG vp.os rfl ps.length hpl
  have hmm : np.segs[ps.length]'hpl = m := by
    have : np.segs[ps.length]? = some m := by rw [HM.out]; simp
    exact (List.getElem?_eq_some_iff.1 this).2
  rw [hmm] at hp5
  have c3' := vp.cs
  rw [← HN1L.out] at c3'
  obtain ⟨d1, d2, d3, d4, d5⟩ := hp5
  obtain ⟨f1, f2, f3, f4, f5⟩ := hy5
  have z1 := hyf (k * 5)
  have z2 := hyf (k * 5 + 1)
  have z3 := hyf (k * 5 + 2)
  have z4 := hyf (k * 5 + 3)
  have z5 := hyf (k * 5 + 4)
  have HOV := Lib.hid (HD.out.over HGD.out y ny ((updK_nat _ _ _ _ HN2.out).trans HFY.out) k HXL.out yb scy c2 m)
  have i3 : (k : Int) < (n3 : Int) := by have := HXL.out; have := HN3L.out; omega
  have i7 : (0 : Int) ≤ (ps.length : Int) := by omega
  have i8 : (ps.length : Int) < (n1 : Int) := by have := HNL.out; omega
  obtain ⟨S5, hS5⟩ : ∃ S5 : World → Prop, S5 = fun w' => w'.cell? ⟨g, y * 3, none⟩ = some (.slice (some ⟨yb, 0, none⟩) n3 scy) ∧ w'.cell? ⟨g, p * 3, none⟩ = some (.slice (some ⟨pb, 0, none⟩) n1 scp) ∧ w'.cell? ⟨pb, ps.length * 5, none⟩ = some (.int .i64 m.ls) ∧ w'.cell? ⟨pb, ps.length * 5 + 1, none⟩ = some (.int .i64 m.la) ∧ w'.cell? ⟨pb, ps.length * 5 + 2, none⟩ = some (.int .i64 m.hs) ∧ w'.cell? ⟨pb, ps.length * 5 + 3, none⟩ = some (.int .i64 m.ha) ∧ w'.cell? ⟨pb, ps.length * 5 + 4, none⟩ = some (.int .i64 m.v) := ⟨_, rfl⟩
  have HS1 : Hid (S5 Y2.drew) := by show S5 _; rw [hS5]; exact ⟨c2', c3', d1, d2, d3, d4, d5⟩
  clear vy vp c2 c3 c2' c3' d1 d2 d3 d4 d5 hmm hpl hyf
  refine wp_plain_T S5 13 mx HS1.out (fun _ _ h => h) (fun hHeld => ?_)
  subst hS5
  generalize Y2.drew = Z at *
  refine wpAnyT_pure (i := 0) (v := ?_) (by kernel_rfl) rfl (by kernel_rfl) (by kernel_rfl) (by kernel_rfl) (fun _ _ _ h => h) (Or.inl ⟨by rfl, ?_⟩) (by assumption) ?_
  rotate_left
  · intro w0; go_simp; all_goals (with_reducible rfl)
  try simp only [Act.put, List.setIfInBounds_toArray, List.set_cons_zero, List.set_cons_succ]
  refine wpAnyT_pure (i := 1) (v := ?_) (by kernel_rfl) rfl (by kernel_rfl) (by kernel_rfl) (by kernel_rfl) (fun _ _ _ h => h) (Or.inl ⟨by rfl, ?_⟩) (by assumption) ?_
  rotate_left
  · intro w0; go_simp; all_goals (with_reducible rfl)
  try simp only [Act.put, List.setIfInBounds_toArray, List.set_cons_zero, List.set_cons_succ]
  refine wpAnyT_pure (i := 2) (v := ?_) (by kernel_rfl) rfl (by kernel_rfl) (by kernel_rfl) (by kernel_rfl) (fun _ _ _ h => h) (Or.inl ⟨by rfl, ?_⟩) (by assumption) ?_
  rotate_left
  · intro w0; go_simp; all_goals (with_reducible rfl)
  try simp only [Act.put, List.setIfInBounds_toArray, List.set_cons_zero, List.set_cons_succ]
  refine wpAnyT_take (i := 3) (v := ?_) [12, 13] (by kernel_rfl) (by kernel_rfl) (by kernel_rfl) rfl (by kernel_rfl) (by kernel_rfl) (by kernel_rfl) (fun _ _ _ h => h) (Or.inl ⟨by rfl, ?_⟩) (by assumption) ?_
  rotate_left
  · intro w0 hSw; (try dsimp only at hSw); go_simp; all_goals (with_reducible rfl)
  try simp only [Act.put, List.setIfInBounds_toArray, List.set_cons_zero, List.set_cons_succ]
  refine wpAnyT_pure (i := 4) (v := ?_) (by kernel_rfl) rfl (by kernel_rfl) (by kernel_rfl) (by kernel_rfl) (fun _ _ _ h => h) (Or.inl ⟨by rfl, ?_⟩) (by assumption) ?_
  rotate_left
  · intro w0; go_simp; all_goals (with_reducible rfl)
  try simp only [Act.put, List.setIfInBounds_toArray, List.set_cons_zero, List.set_cons_succ]
  refine wpAnyT_pure (i := 5) (v := ?_) (by kernel_rfl) rfl (by kernel_rfl) (by kernel_rfl) (by kernel_rfl) (fun _ _ _ h => h) (Or.inl ⟨by rfl, ?_⟩) (by assumption) ?_
  rotate_left
  · intro w0; go_simp; all_goals (with_reducible rfl)
  try simp only [Act.put, List.setIfInBounds_toArray, List.set_cons_zero, List.set_cons_succ]
  refine wpAnyT_pure (i := 6) (v := ?_) (by kernel_rfl) rfl (by kernel_rfl) (by kernel_rfl) (by kernel_rfl) (fun _ _ _ h => h) (Or.inl ⟨by rfl, ?_⟩) (by assumption) ?_
  rotate_left
  · intro w0; go_simp; all_goals (with_reducible rfl)
  try simp only [Act.put, List.setIfInBounds_toArray, List.set_cons_zero, List.set_cons_succ]
  refine wpAnyT_pure (i := 7) (v := ?_) (by kernel_rfl) rfl (by kernel_rfl) (by kernel_rfl) (by kernel_rfl) (fun _ _ _ h => h) (Or.inl ⟨by rfl, ?_⟩) (by assumption) ?_
  rotate_left
  · intro w0; go_simp; all_goals (with_reducible rfl)
  try simp only [Act.put, List.setIfInBounds_toArray, List.set_cons_zero, List.set_cons_succ]
  refine wpAnyT_take (i := 8) (v := ?_) [10, 11, 12, 13] (by kernel_rfl) (by kernel_rfl) (by kernel_rfl) rfl (by kernel_rfl) (by kernel_rfl) (by kernel_rfl) (fun _ _ _ h => h) (Or.inl ⟨by rfl, ?_⟩) (by assumption) ?_
  rotate_left
  · intro w0 hSw; (try dsimp only at hSw); go_simp; all_goals (with_reducible rfl)
  try simp only [Act.put, List.setIfInBounds_toArray, List.set_cons_zero, List.set_cons_succ]
  refine wpAnyT_pure (i := 9) (v := ?_) (by kernel_rfl) rfl (by kernel_rfl) (by kernel_rfl) (by kernel_rfl) (fun _ _ _ h => h) (Or.inl ⟨by rfl, ?_⟩) (by assumption) ?_
  rotate_left
  · intro w0; go_simp; all_goals (with_reducible rfl)
  try simp only [Act.put, List.setIfInBounds_toArray, List.set_cons_zero, List.set_cons_succ]
  refine wpAnyT_pure (i := 10) (v := ?_) (by kernel_rfl) rfl (by kernel_rfl) (by kernel_rfl) (by kernel_rfl) (fun _ _ _ h => h) (Or.inl ⟨by rfl, ?_⟩) (by assumption) ?_
  rotate_left
  · intro w0; go_simp; all_goals (with_reducible rfl)
  try simp only [Act.put, List.setIfInBounds_toArray, List.set_cons_zero, List.set_cons_succ]
  refine wpAnyT_take (i := 11) (v := ?_) [12, 13] (by kernel_rfl) (by kernel_rfl) (by kernel_rfl) rfl (by kernel_rfl) (by kernel_rfl) (by kernel_rfl) (fun _ _ _ h => h) (Or.inl ⟨by rfl, ?_⟩) (by assumption) ?_
  rotate_left
  · intro w0 hSw; (try dsimp only at hSw); go_simp; all_goals (with_reducible rfl)
  try simp only [Act.put, List.setIfInBounds_toArray, List.set_cons_zero, List.set_cons_succ]
  refine wpAnyT_pure (i := 12) (v := ?_) (by kernel_rfl) rfl (by kernel_rfl) (by kernel_rfl) (by kernel_rfl) (fun _ _ _ h => h) (Or.inl ⟨by rfl, ?_⟩) (by assumption) ?_
  rotate_left
  · intro w0; go_simp; all_goals (with_reducible rfl)
  try simp only [Act.put, List.setIfInBounds_toArray, List.set_cons_zero, List.set_cons_succ]
  refine wpAnyT_stop (by kernel_rfl) rfl (fun K0 hK0 => ?_)
  go_simp
  skip
  refine hK0.out _ _ ?_
  clear hK0 K0
  try simp only [Act.put, List.setIfInBounds_toArray, List.set_cons_zero, List.set_cons_succ]
  refine wpAny_end (by kernel_rfl) ?_ _
  simp only [onlyN]
  obtain ⟨h7, h8⟩ := HOV.out
  have H3 := Lib.hid h7
  have HG3 := Lib.hid h8
  clear h7 h8 hHeld HS1 HOV HD HGD H2 HG2 i3 i7 i8 f1 f2 f3 f4 f5 z1 z2 z3 z4 z5
  change Exit.then _ _ Exit.normal _ (set5 Z yb (k * 5) m)
  generalize set5 Z yb (k * 5) m = Y3 at *
  -- it leaves the child ahead
  obtain ⟨sap, kap, scp, kcp, vp⟩ := H3.out.node HG3.out p np ((updK_nat _ _ _ _ HN1.out.symm).trans ((updK_nat _ _ _ _ HN3.out).trans HFP.out))
  have c1 := vp.cs
  rw [← HN1L.out] at c1
  have f1 := vp.fz (p * 3)
  have hcl : ps.length ≤ scp := by
    have := HN1L.out
    have := HNL.out
    rcases vp.os.2 with ⟨q, q2⟩ | ⟨g', c', cur, q, _, _, q2, _⟩
    · omega
    · injection q with _ _ q; omega
  have htk : np.segs.take ps.length = ps := by rw [HM.out, List.take_left']; rfl
  have hot := own_take5 vp.os rfl ps.length (by have := HN1L.out; have := HNL.out; omega)
  rw [htk] at hot
  have hset := vp.setS Y3 sap scp ps (grown_refl _ _) hot (fun b hb => .inl (by rw [← hb]; exact ownBlk _ _ _ _ _))
  have i7 : (0 : Int) ≤ (ps.length : Int) := by omega
  have i8 : (ps.length : Int) ≤ (scp : Int) := by omega
  obtain ⟨h7, h8, _⟩ := hset
  have H4 := Lib.hid h7
  have HG4 := Lib.hid h8
  clear vp hot htk hcl h7 h8
  go_upto_region 5 with fail
  clear c1 f1 i7 i8 H3 HG3
  generalize Y3.setCell ⟨g, p * 3, none⟩ (.slice sap ps.length scp) = Y4 at *
  obtain ⟨n4, hn4⟩ : ∃ n4, n4 = np.kids.length := ⟨_, rfl⟩
  have hn4l : n4 = ps.length + 2 := by rw [hn4, HKK.out]; simp [HKL.out]
  have HN4 := Lib.hid hn4
  have HN4L := Lib.hid hn4l
  obtain ⟨sap, kap, scp, kcp, vp⟩ := H4.out.node HG4.out p _ (updK_self _ _ _)
  have c1 := vp.ck
  dsimp only at c1
  rw [← hn4] at c1
  have t1 : (0 : Int) < (n4 : Int) := by omega
  clear vp hn4 hn4l
  go_upto_region 6 with fail
  clear c1 t1
  -- the last child goes on
  have HD := Lib.hid (H4.out.below (Go.RowKit.Below.refl _ _).drew)
  have HGD := Lib.hid (HG4.out.below (Go.RowKit.Below.refl _ _).drew)
  obtain ⟨sap, kap, scp, kcp, vp⟩ := HD.out.node HGD.out p _ (updK_self _ _ _)
  obtain ⟨saq, kaq, scq, kcq, vq⟩ := HD.out.node HGD.out q ⟨x :: nq.segs, nq.kids⟩ ((updK_nat _ _ _ _ HN3.out.symm).trans ((updK_nat _ _ _ _ HN2.out.symm).trans (updK_self _ _ _)))
  obtain ⟨n5, hn5⟩ : ∃ n5, n5 = nq.kids.length := ⟨_, rfl⟩
  have HN5L := Lib.hid hn5
  have c1 := vq.ck
  dsimp only at c1
  rw [← hn5] at c1
  have hcl : ps.length + 1 < np.kids.length := by have := HN4.out; have := HN4L.out; omega
  have hcc : np.kids[ps.length + 1]'hcl = c := by
    have : np.kids[ps.length + 1]? = some c := by rw [HKK.out, ← HKL.out]; simp
    exact (List.getElem?_eq_some_iff.1 this).2
  obtain ⟨pb, rfl, _, q1, _⟩ := own_at vp.ok rfl (ps.length + 1) hcl
  dsimp only at q1
  rw [hcc] at q1
  have c2 := vp.ck
  dsimp only at c2
  rw [← HN4.out] at c2
  have HLG := Lib.hid (laidI_any (i := 0) (s := c) vq.ok rfl (Nat.zero_le _) (show nq.kids.length ≤ 100000 by omega) vq.le)
  dsimp only at HLG
  rw [← hn5, show ((0 : Nat) : Int) = 0 from rfl] at HLG
  have HV := Lib.hid vq
  have HGF : Hid (∀ y1, Y4.drew.grownBy y1 (Value.slice kaq n5 kcq).ownBlock → y1.cell? ⟨g, q * 3 + 1, none⟩ = some (.slice kaq n5 kcq) ∧ y1.frozen? ⟨g, q * 3 + 1, none⟩ = false) := fun y1 hy => by
    have hne : some g ≠ (Value.slice kaq n5 kcq).ownBlock := fun e => vq.gk g ((ownBlk _ _ _ _ _).trans e.symm) rfl
    exact ⟨(hy.cell_far ⟨g, q * 3 + 1, none⟩ vq.gb hne).trans c1, (hy.frozen_far ⟨g, q * 3 + 1, none⟩ vq.gb hne).trans (vq.fz _)⟩
  have i6 : IntKind.i64.wrap ((ps.length : Int) + 1) = (ps.length : Int) + 1 := IntWalk.i64_in _ (by have := HN4.out; have := HN4L.out; omega)
  have i7 : (0 : Int) ≤ (ps.length : Int) + 1 := by omega
  have i8 : (ps.length : Int) + 1 < (n4 : Int) := by have := HN4L.out; omega
  obtain ⟨S5, hS5⟩ : ∃ S5 : World → Prop, S5 = fun w' => w'.cell? ⟨g, q * 3 + 1, none⟩ = some (.slice kaq n5 kcq) ∧ w'.cell? ⟨g, p * 3 + 1, none⟩ = some (.slice (some ⟨pb, 0, none⟩) n4 kcp) ∧ w'.cell? ⟨pb, ps.length + 1, none⟩ = some (.int .i64 c) := ⟨_, rfl⟩
  have HS1 : Hid (S5 Y4.drew) := by show S5 _; rw [hS5]; exact ⟨c1, c2, q1⟩
  clear vp vq c1 c2 q1 hn5 hcl hcc
  refine wp_plain_T S5 13 mx HS1.out (fun _ _ h => h) (fun hHeld => ?_)
  subst hS5
  refine wpAnyT_pure (i := 0) (v := ?_) (by kernel_rfl) rfl (by kernel_rfl) (by kernel_rfl) (by kernel_rfl) (fun _ _ _ h => h) (Or.inl ⟨by rfl, ?_⟩) (by assumption) ?_
  rotate_left
  · intro w0; go_simp; all_goals (with_reducible rfl)
  try simp only [Act.put, List.setIfInBounds_toArray, List.set_cons_zero, List.set_cons_succ]
  refine wpAnyT_pure (i := 1) (v := ?_) (by kernel_rfl) rfl (by kernel_rfl) (by kernel_rfl) (by kernel_rfl) (fun _ _ _ h => h) (Or.inl ⟨by rfl, ?_⟩) (by assumption) ?_
  rotate_left
  · intro w0; go_simp; all_goals (with_reducible rfl)
  try simp only [Act.put, List.setIfInBounds_toArray, List.set_cons_zero, List.set_cons_succ]
  refine wpAnyT_pure (i := 2) (v := ?_) (by kernel_rfl) rfl (by kernel_rfl) (by kernel_rfl) (by kernel_rfl) (fun _ _ _ h => h) (Or.inl ⟨by rfl, ?_⟩) (by assumption) ?_
  rotate_left
  · intro w0; go_simp; all_goals (with_reducible rfl)
  try simp only [Act.put, List.setIfInBounds_toArray, List.set_cons_zero, List.set_cons_succ]
  refine wpAnyT_pure (i := 3) (v := ?_) (by kernel_rfl) rfl (by kernel_rfl) (by kernel_rfl) (by kernel_rfl) (fun _ _ _ h => h) (Or.inl ⟨by rfl, ?_⟩) (by assumption) ?_
  rotate_left
  · intro w0; go_simp; all_goals (with_reducible rfl)
  try simp only [Act.put, List.setIfInBounds_toArray, List.set_cons_zero, List.set_cons_succ]
  refine wpAnyT_take (i := 4) (v := ?_) [13, 14, 15, 16] (by kernel_rfl) (by kernel_rfl) (by kernel_rfl) rfl (by kernel_rfl) (by kernel_rfl) (by kernel_rfl) (fun _ _ _ h => h) (Or.inl ⟨by rfl, ?_⟩) (by assumption) ?_
  rotate_left
  · intro w0 hSw; (try dsimp only at hSw); go_simp; all_goals (with_reducible rfl)
  try simp only [Act.put, List.setIfInBounds_toArray, List.set_cons_zero, List.set_cons_succ]
  refine wpAnyT_pure (i := 5) (v := ?_) (by kernel_rfl) rfl (by kernel_rfl) (by kernel_rfl) (by kernel_rfl) (fun _ _ _ h => h) (Or.inl ⟨by rfl, ?_⟩) (by assumption) ?_
  rotate_left
  · intro w0; go_simp; all_goals (with_reducible rfl)
  try simp only [Act.put, List.setIfInBounds_toArray, List.set_cons_zero, List.set_cons_succ]
  refine wpAnyT_pure (i := 6) (v := ?_) (by kernel_rfl) rfl (by kernel_rfl) (by kernel_rfl) (by kernel_rfl) (fun _ _ _ h => h) (Or.inl ⟨by rfl, ?_⟩) (by assumption) ?_
  rotate_left
  · intro w0; go_simp; all_goals (with_reducible rfl)
  try simp only [Act.put, List.setIfInBounds_toArray, List.set_cons_zero, List.set_cons_succ]
  refine wpAnyT_pure (i := 7) (v := ?_) (by kernel_rfl) rfl (by kernel_rfl) (by kernel_rfl) (by kernel_rfl) (fun _ _ _ h => h) (Or.inl ⟨by rfl, ?_⟩) (by assumption) ?_
  rotate_left
  · intro w0; go_simp; all_goals (with_reducible rfl)
  try simp only [Act.put, List.setIfInBounds_toArray, List.set_cons_zero, List.set_cons_succ]
  refine wpAnyT_take (i := 8) (v := ?_) [11, 12, 13, 14, 15, 16] (by kernel_rfl) (by kernel_rfl) (by kernel_rfl) rfl (by kernel_rfl) (by kernel_rfl) (by kernel_rfl) (fun _ _ _ h => h) (Or.inl ⟨by rfl, ?_⟩) (by assumption) ?_
  rotate_left
  · intro w0 hSw; (try dsimp only at hSw); go_simp; all_goals (with_reducible rfl)
  try simp only [Act.put, List.setIfInBounds_toArray, List.set_cons_zero, List.set_cons_succ]
  refine wpAnyT_pure (i := 9) (v := ?_) (by kernel_rfl) rfl (by kernel_rfl) (by kernel_rfl) (by kernel_rfl) (fun _ _ _ h => h) (Or.inl ⟨by rfl, ?_⟩) (by assumption) ?_
  rotate_left
  · intro w0; go_simp; all_goals (with_reducible rfl)
  try simp only [Act.put, List.setIfInBounds_toArray, List.set_cons_zero, List.set_cons_succ]
  refine wpAnyT_pure (i := 10) (v := ?_) (by kernel_rfl) rfl (by kernel_rfl) (by kernel_rfl) (by kernel_rfl) (fun _ _ _ h => h) (Or.inl ⟨by rfl, ?_⟩) (by assumption) ?_
  rotate_left
  · intro w0; go_simp; all_goals (with_reducible rfl)
  try simp only [Act.put, List.setIfInBounds_toArray, List.set_cons_zero, List.set_cons_succ]
  refine wpAnyT_pure (i := 11) (v := ?_) (by kernel_rfl) rfl (by kernel_rfl) (by kernel_rfl) (by kernel_rfl) (fun _ _ _ h => h) (Or.inl ⟨by rfl, ?_⟩) (by assumption) ?_
  rotate_left
  · intro w0; go_simp; all_goals (with_reducible rfl)
  try simp only [Act.put, List.setIfInBounds_toArray, List.set_cons_zero, List.set_cons_succ]
  refine wpAnyT_take (i := 12) (v := ?_) [13, 14, 15, 16] (by kernel_rfl) (by kernel_rfl) (by kernel_rfl) rfl (by kernel_rfl) (by kernel_rfl) (by kernel_rfl) (fun _ _ _ h => h) (Or.inl ⟨by rfl, ?_⟩) (by assumption) ?_
  rotate_left
  · intro w0 hSw; (try dsimp only at hSw); go_simp; all_goals (with_reducible rfl)
  try simp only [Act.put, List.setIfInBounds_toArray, List.set_cons_zero, List.set_cons_succ]
  refine wpAnyT_stop (by kernel_rfl) rfl (fun K0 hK0 => ?_)
  go_simp
  refine HLG.out.mono ?_
  rintro e y1 ⟨a1, c1, ⟨rfl, ho1⟩, hg1, hn1'⟩
  obtain ⟨y5, y6⟩ := HGF.out y1 hg1
  have HO1 := Lib.hid ho1
  have HG1 := Lib.hid hg1
  have HN1' := Lib.hid hn1'
  clear ho1 hg1 hn1'
  try dsimp only
  refine hK0.out _ _ ?_
  clear hK0 K0
  try simp only [Act.put, List.setIfInBounds_toArray, List.set_cons_zero, List.set_cons_succ]
  refine wpAny_take (i := 14) (v := ?_) rfl (by kernel_rfl) (by kernel_rfl) (by kernel_rfl) (fun _ _ _ h => h) (Or.inl ⟨by rfl, ?_⟩) ?_
  rotate_left
  · intro w0; go_simp; all_goals (with_reducible rfl)
  try simp only [Act.put, List.setIfInBounds_toArray, List.set_cons_zero, List.set_cons_succ]
  refine wpAny_take (i := 15) (v := ?_) rfl (by kernel_rfl) (by kernel_rfl) (by kernel_rfl) (fun _ _ _ h => h) (Or.inl ⟨by rfl, ?_⟩) ?_
  rotate_left
  · intro w0; go_simp; all_goals (with_reducible rfl)
  try simp only [Act.put, List.setIfInBounds_toArray, List.set_cons_zero, List.set_cons_succ]
  refine wpAny_one (i := 16) (by kernel_rfl) rfl (fun K0 hK0 => ?_)
  go_simp
  refine hK0.out _ _ ?_
  clear hK0 K0
  try simp only [Act.put, List.setIfInBounds_toArray, List.set_cons_zero, List.set_cons_succ]
  refine wpAny_end (by kernel_rfl) ?_ _
  simp only [onlyN]
  have hset := HV.out.setK y1 a1 c1 (c :: nq.kids) (by
    have e : (Value.slice kaq (⟨x :: nq.segs, nq.kids⟩ : Kn).kids.length kcq).ownBlock = (Value.slice kaq n5 kcq).ownBlock := ownBlk _ _ _ _ _
    rw [e]; exact HG1.out) (by rw [List.length_cons, ← HN5L.out]; exact HO1.out) (fun b hb => by
    have hb' : (Value.slice a1 (n5 + 1) c1).ownBlock = some b := by rw [← hb]; exact ownBlk _ _ _ _ _
    rcases HN1'.out b hb' with q | q
    · exact .inl (by rw [← q]; exact ownBlk _ _ _ _ _)
    · exact .inr ⟨q, (HO1.out.lt b hb').2, id⟩)
  rw [List.length_cons, ← HN5L.out] at hset
  obtain ⟨h7, h8, _⟩ := hset
  have H5 := Lib.hid h7
  have HG5 := Lib.hid h8
  clear h7 h8 hHeld HS1 HGF HLG HO1 HG1 HN1' HV HD HGD y5 y6 H4 HG4 i8
  generalize y1.setCell ⟨g, q * 3 + 1, none⟩ (.slice a1 (n5 + 1) c1) = Y5 at *
  -- it leaves the child ahead
  obtain ⟨sap, kap, scp, kcp, vp⟩ := H5.out.node HG5.out p _ ((updK_nat _ _ _ _ HN3.out).trans (updK_self _ _ _))
  have c1 := vp.ck
  dsimp only at c1
  rw [← HN4.out] at c1
  have f1 := vp.fz (p * 3 + 1)
  have hcl : ps.length + 1 ≤ kcp := by
    have := HN4.out
    have := HN4L.out
    rcases vp.ok.2 with ⟨q, q2⟩ | ⟨g', c', cur, q, _, _, q2, _⟩
    · have q3 : np.kids.length = 0 := q2
      omega
    · injection q with _ _ q
      have q3 : np.kids.length ≤ c' := q2
      omega
  have htk : np.kids.take (ps.length + 1) = pk := by rw [HKK.out, ← HKL.out, List.take_left']; rfl
  have hot := own_take1 vp.ok rfl (ps.length + 1) (show ps.length + 1 ≤ np.kids.length by have := HN4.out; have := HN4L.out; omega)
  dsimp only at hot
  rw [htk] at hot
  have hset := vp.setK Y5 kap kcp pk (grown_refl _ _) hot (fun b hb => .inl (by rw [← hb]; exact ownBlk _ _ _ _ _))
  rw [HKL.out] at hset
  obtain ⟨h7, h8, _⟩ := hset
  have H6 := Lib.hid h7
  clear vp hot htk h7 h8 H5 HG5
  have i8 : (ps.length : Int) + 1 ≤ (kcp : Int) := by omega
  clear hcl
  go_wp2_with fail
  go_end0
  have r := HRB.out _ _ H6.out
  refine ⟨rfl, _, r.1, ?_, updK_self _ _ _, ?_, fun j j1 j2 j3 => ?_, r.2.2⟩
  · exact (updK_nat _ _ _ _ HN1.out).trans ((updK_nat _ _ _ _ HN2.out).trans ((updK_nat _ _ _ _ HN1.out).trans (updK_self _ _ _)))
  · exact (updK_nat _ _ _ _ HN3.out.symm).trans (updK_self _ _ _)
  · exact (updK_ne _ _ _ _ j2).trans ((updK_ne _ _ _ _ j3).trans ((updK_ne _ _ _ _ j2).trans ((updK_ne _ _ _ _ j1).trans (updK_ne _ _ _ _ j3))))
end Go.Proofs.Ytjgcdmeojjnjlaa
/- Beside the loads that feed one call: an operation that comes up alone ahead of it. -/
namespace Go.Proofs.Ytjgcdmeojjnjlaa.Rf
open Go.RowKit Go.Sort
set_option linter.unusedVariables false
variable {P : Program} {ops : Array Oper} {Q : Exit → Act → World → Prop} {md : Region.Mode} {S : World → Prop} {stop : Nat}
theorem wpAnyT_one {i : Nat} {o : Oper} {fuel : Nat} {listed : Array Bool} {a : Act} {w : World} (his : (i == stop) = false) (hr : Region.ready md ops listed = [i]) (ho : ops[i]? = some o)
    (h : ∀ K' : Act → World → Prop, Shut (∀ a w, S w ∧ wpAnyT P md ops Q S stop fuel (listed.setIfInBounds i true) a w → K' a w) → if Region.wanted o (yielded ops a.tmps) = true then Oper.wp P o a w K' Q else K' (a.put o.dst undef) w) :
    wpAnyT P md ops Q S stop (fuel + 1) listed a w := by
  refine ⟨fun e => (by rw [hr] at e; cases e), fun j hj => ?_⟩
  rw [hr] at hj
  obtain rfl : j = i := by simpa using hj
  have hne : ¬ j = stop := by simpa using his
  simp only [if_neg hne]
  exact wpOp_step ho (fun K' hK => h K' (fun a w hW => hK a w hW))
end Go.Proofs.Ytjgcdmeojjnjlaa.Rf
