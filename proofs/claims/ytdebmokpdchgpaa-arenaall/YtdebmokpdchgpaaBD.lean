/- A part of the proof: contracts of the functions that the statements reach. -/
import Derived.Test.YtdebmokpdchgpaaRows
import Derived.Test.YtdebmokpdchgpaaBA
import Derived.Test.YtdebmokpdchgpaaBB
import Derived.Test.YtdebmokpdchgpaaBC

/- Contract of the reference's Do: the other calls. -/
namespace Go.Proofs.Ytdebmokpdchgpaa
open Go.RowKit Go.Sort Go.Proofs.Ytdebmokpdchgpaa.Bo
set_option linter.unusedVariables false

set_option maxRecDepth 100000 in
set_option maxHeartbeats 2000000 in
theorem rardo_reset (room ever i v : Int) (F L : List Int) (fa : Option Addr) (fc : Nat) (la : Option Addr) (lc : Nat) (w : World) (HF : Hid (NRow w 3 fa F ∧ F.length ≤ fc)) (HL : Hid (NRow w 2 la L ∧ L.length ≤ lc)) :
    Calls Try.prog 13 #[.agg #[.int .i64 room, .int .i64 ever, .slice fa F.length fc, .slice la L.length lc], opV 4 i v] w (DoPost w fa room 0 [] [] 0 0 false 0) := by
  have HX0 := Lib.hid (ar4_new w room ever fa F.length fc la L.length lc 4 i v)
  go_enter Try.func13, Try.ntmps13
  go_upto_region 1 with fail
  generalize ((((w.alloc (.cells #[.int .i64 room, .int .i64 ever, .slice fa F.length fc, .slice la L.length lc] 31)).alloc (opB 4 i v)).alloc arZ).alloc anZ) = X0 at *
  obtain ⟨⟨c1, c2, c3, c4⟩, _⟩ := four_cells HX0.out.bx
  obtain ⟨o1, o2, o3⟩ := three_cells HX0.out.op
  obtain ⟨⟨d1, d2, d3, d4⟩, e1, e2, e3, e4⟩ := four_cells HX0.out.ra
  obtain ⟨⟨hf1, hf2⟩, hf3, hf4⟩ := HX0.out.done (.int .i64 room) (.int .i64 0) (.slice none 0 0) (.slice none 0 0) (.int .i64 0) (.int .i64 0) (.bool false) (.int .i64 0)
  obtain ⟨⟨m1, m2, m3, m4⟩, n1, n2, n3, n4⟩ := four_cells hf3
  obtain ⟨⟨f1, f2, f3, f4⟩, _⟩ := four_cells hf1
  obtain ⟨⟨g1, g2, g3, g4⟩, _⟩ := four_cells hf2
  have HHF := Lib.hid hf4
  clear hf1 hf2 hf3 hf4
  go_wp2_with fail
  refine bodyPost_ret (v := .tuple #[.agg #[.int .i64 room, .int .i64 0, .slice none 0 0, .slice none 0 0], .agg #[.int .i64 0, .int .i64 0, .bool false, .int .i64 0]]) (by simp [results, Try.results13, go_sem, f1, f2, f3, f4, g1, g2, g3, g4]) rfl ?_
  exact ⟨none, 0, none, 0, ⟨rfl, ⟨nrow_nil _ _ _, Nat.le_refl _⟩, nrow_nil _ _ _, Nat.le_refl _⟩, HHF.out, frm_none _ _ _⟩
set_option maxRecDepth 100000 in
set_option maxHeartbeats 2000000 in
theorem rardo_lo (k : Int) (room ever i v : Int) (F L : List Int) (fa : Option Addr) (fc : Nat) (la : Option Addr) (lc : Nat) (w : World) (HF : Hid (NRow w 3 fa F ∧ F.length ≤ fc)) (HL : Hid (NRow w 2 la L ∧ L.length ≤ lc)) (hk : k < 0) :
    Calls Try.prog 13 #[.agg #[.int .i64 room, .int .i64 ever, .slice fa F.length fc, .slice la L.length lc], opV k i v] w (DoPost w fa room ever F L 0 0 false 0) := by
  have t1 : decide (k < 0) = true := decide_eq_true hk
  have t2 : (k == 0) = false := beq_eq_false_iff_ne.2 (by omega)
  have t3 : (k == 4) = false := beq_eq_false_iff_ne.2 (by omega)
  clear hk
  have HX0 := Lib.hid (ar4_new w room ever fa F.length fc la L.length lc k i v)
  go_enter Try.func13, Try.ntmps13
  go_upto_region 1 with fail
  generalize ((((w.alloc (.cells #[.int .i64 room, .int .i64 ever, .slice fa F.length fc, .slice la L.length lc] 31)).alloc (opB k i v)).alloc arZ).alloc anZ) = X0 at *
  obtain ⟨⟨c1, c2, c3, c4⟩, _⟩ := four_cells HX0.out.bx
  obtain ⟨o1, o2, o3⟩ := three_cells HX0.out.op
  obtain ⟨⟨d1, d2, d3, d4⟩, e1, e2, e3, e4⟩ := four_cells HX0.out.ra
  obtain ⟨⟨hf1, hf2⟩, hf3, hf4⟩ := HX0.out.done (.int .i64 room) (.int .i64 ever) (.slice fa F.length fc) (.slice la L.length lc) (.int .i64 0) (.int .i64 0) (.bool false) (.int .i64 0)
  obtain ⟨⟨m1, m2, m3, m4⟩, n1, n2, n3, n4⟩ := four_cells hf3
  obtain ⟨⟨f1, f2, f3, f4⟩, _⟩ := four_cells hf1
  obtain ⟨⟨g1, g2, g3, g4⟩, _⟩ := four_cells hf2
  have HHF := Lib.hid hf4
  clear hf1 hf2 hf3 hf4
  go_wp2_with fail
  refine bodyPost_ret (v := .tuple #[.agg #[.int .i64 room, .int .i64 ever, .slice fa F.length fc, .slice la L.length lc], .agg #[.int .i64 0, .int .i64 0, .bool false, .int .i64 0]]) (by simp [results, Try.results13, go_sem, f1, f2, f3, f4, g1, g2, g3, g4]) rfl ?_
  exact ⟨fa, fc, la, lc, ⟨rfl, ⟨HF.out.1.below HHF.out, HF.out.2⟩, HL.out.1.below HHF.out, HL.out.2⟩, HHF.out, frm_same _ _ _⟩
set_option maxRecDepth 100000 in
set_option maxHeartbeats 2000000 in
theorem rardo_hi (k : Int) (room ever i v : Int) (F L : List Int) (fa : Option Addr) (fc : Nat) (la : Option Addr) (lc : Nat) (w : World) (HF : Hid (NRow w 3 fa F ∧ F.length ≤ fc)) (HL : Hid (NRow w 2 la L ∧ L.length ≤ lc)) (hk : 4 < k) :
    Calls Try.prog 13 #[.agg #[.int .i64 room, .int .i64 ever, .slice fa F.length fc, .slice la L.length lc], opV k i v] w (DoPost w fa room ever F L 0 0 false 0) := by
  have t1 : decide (k < 0) = false := decide_eq_false (by omega)
  have t4 : decide (4 < k) = true := decide_eq_true hk
  have t2 : (k == 0) = false := beq_eq_false_iff_ne.2 (by omega)
  have t3 : (k == 4) = false := beq_eq_false_iff_ne.2 (by omega)
  clear hk
  have HX0 := Lib.hid (ar4_new w room ever fa F.length fc la L.length lc k i v)
  go_enter Try.func13, Try.ntmps13
  go_upto_region 1 with fail
  generalize ((((w.alloc (.cells #[.int .i64 room, .int .i64 ever, .slice fa F.length fc, .slice la L.length lc] 31)).alloc (opB k i v)).alloc arZ).alloc anZ) = X0 at *
  obtain ⟨⟨c1, c2, c3, c4⟩, _⟩ := four_cells HX0.out.bx
  obtain ⟨o1, o2, o3⟩ := three_cells HX0.out.op
  obtain ⟨⟨d1, d2, d3, d4⟩, e1, e2, e3, e4⟩ := four_cells HX0.out.ra
  obtain ⟨⟨hf1, hf2⟩, hf3, hf4⟩ := HX0.out.done (.int .i64 room) (.int .i64 ever) (.slice fa F.length fc) (.slice la L.length lc) (.int .i64 0) (.int .i64 0) (.bool false) (.int .i64 0)
  obtain ⟨⟨m1, m2, m3, m4⟩, n1, n2, n3, n4⟩ := four_cells hf3
  obtain ⟨⟨f1, f2, f3, f4⟩, _⟩ := four_cells hf1
  obtain ⟨⟨g1, g2, g3, g4⟩, _⟩ := four_cells hf2
  have HHF := Lib.hid hf4
  clear hf1 hf2 hf3 hf4
  go_wp2_with fail
  refine bodyPost_ret (v := .tuple #[.agg #[.int .i64 room, .int .i64 ever, .slice fa F.length fc, .slice la L.length lc], .agg #[.int .i64 0, .int .i64 0, .bool false, .int .i64 0]]) (by simp [results, Try.results13, go_sem, f1, f2, f3, f4, g1, g2, g3, g4]) rfl ?_
  exact ⟨fa, fc, la, lc, ⟨rfl, ⟨HF.out.1.below HHF.out, HF.out.2⟩, HL.out.1.below HHF.out, HL.out.2⟩, HHF.out, frm_same _ _ _⟩
set_option maxRecDepth 100000 in
set_option maxHeartbeats 2000000 in
theorem rardo_no1 (room ever i v : Int) (F L : List Int) (fa : Option Addr) (fc : Nat) (la : Option Addr) (lc : Nat) (w : World) (HF : Hid (NRow w 3 fa F ∧ F.length ≤ fc)) (HL : Hid (NRow w 2 la L ∧ L.length ≤ lc)) (HIS : Hid (∀ W, Go.RowKit.Below w.heap.size w W → Calls Try.prog 20 #[.agg #[.int .i64 room, .int .i64 ever, .slice fa F.length fc, .slice la L.length lc], .int .i64 i] W fun e w' => e = .returned (.bool false) ∧ Go.RowKit.Below W.heap.size W w')) :
    Calls Try.prog 13 #[.agg #[.int .i64 room, .int .i64 ever, .slice fa F.length fc, .slice la L.length lc], opV 1 i v] w (DoPost w fa room ever F L 0 0 false 0) := by
  have HX0 := Lib.hid (ar4_new w room ever fa F.length fc la L.length lc 1 i v)
  go_enter Try.func13, Try.ntmps13
  go_upto_region 1 with fail
  generalize ((((w.alloc (.cells #[.int .i64 room, .int .i64 ever, .slice fa F.length fc, .slice la L.length lc] 31)).alloc (opB 1 i v)).alloc arZ).alloc anZ) = X0 at *
  obtain ⟨⟨c1, c2, c3, c4⟩, _⟩ := four_cells HX0.out.bx
  obtain ⟨o1, o2, o3⟩ := three_cells HX0.out.op
  go_wp2_with fail
  clear c1 c2 c3 c4 o1 o2 o3
  refine (HIS.out _ HX0.out.be).mono ?_
  rintro e y1 ⟨rfl, hB1⟩
  have HX1 := Lib.hid (HX0.out.on hB1)
  clear hB1 HX0 HIS
  obtain ⟨⟨c1, c2, c3, c4⟩, _⟩ := four_cells HX1.out.bx
  obtain ⟨o1, o2, o3⟩ := three_cells HX1.out.op
  obtain ⟨⟨d1, d2, d3, d4⟩, e1, e2, e3, e4⟩ := four_cells HX1.out.ra
  obtain ⟨⟨hf1, hf2⟩, hf3, hf4⟩ := HX1.out.done (.int .i64 room) (.int .i64 ever) (.slice fa F.length fc) (.slice la L.length lc) (.int .i64 0) (.int .i64 0) (.bool false) (.int .i64 0)
  obtain ⟨⟨m1, m2, m3, m4⟩, n1, n2, n3, n4⟩ := four_cells hf3
  obtain ⟨⟨f1, f2, f3, f4⟩, _⟩ := four_cells hf1
  obtain ⟨⟨g1, g2, g3, g4⟩, _⟩ := four_cells hf2
  have HHF := Lib.hid hf4
  clear hf1 hf2 hf3 hf4
  go_wp2_with fail
  refine bodyPost_ret (v := .tuple #[.agg #[.int .i64 room, .int .i64 ever, .slice fa F.length fc, .slice la L.length lc], .agg #[.int .i64 0, .int .i64 0, .bool false, .int .i64 0]]) (by simp [results, Try.results13, go_sem, f1, f2, f3, f4, g1, g2, g3, g4]) rfl ?_
  exact ⟨fa, fc, la, lc, ⟨rfl, ⟨HF.out.1.below HHF.out, HF.out.2⟩, HL.out.1.below HHF.out, HL.out.2⟩, HHF.out, frm_same _ _ _⟩
set_option maxRecDepth 100000 in
set_option maxHeartbeats 2000000 in
theorem rardo_no2 (room ever i v : Int) (F L : List Int) (fa : Option Addr) (fc : Nat) (la : Option Addr) (lc : Nat) (w : World) (HF : Hid (NRow w 3 fa F ∧ F.length ≤ fc)) (HL : Hid (NRow w 2 la L ∧ L.length ≤ lc)) (HIS : Hid (∀ W, Go.RowKit.Below w.heap.size w W → Calls Try.prog 20 #[.agg #[.int .i64 room, .int .i64 ever, .slice fa F.length fc, .slice la L.length lc], .int .i64 i] W fun e w' => e = .returned (.bool false) ∧ Go.RowKit.Below W.heap.size W w')) :
    Calls Try.prog 13 #[.agg #[.int .i64 room, .int .i64 ever, .slice fa F.length fc, .slice la L.length lc], opV 2 i v] w (DoPost w fa room ever F L 0 0 false 0) := by
  have HX0 := Lib.hid (ar4_new w room ever fa F.length fc la L.length lc 2 i v)
  go_enter Try.func13, Try.ntmps13
  go_upto_region 1 with fail
  generalize ((((w.alloc (.cells #[.int .i64 room, .int .i64 ever, .slice fa F.length fc, .slice la L.length lc] 31)).alloc (opB 2 i v)).alloc arZ).alloc anZ) = X0 at *
  obtain ⟨⟨c1, c2, c3, c4⟩, _⟩ := four_cells HX0.out.bx
  obtain ⟨o1, o2, o3⟩ := three_cells HX0.out.op
  go_wp2_with fail
  clear c1 c2 c3 c4 o1 o2 o3
  refine (HIS.out _ HX0.out.be).mono ?_
  rintro e y1 ⟨rfl, hB1⟩
  have HX1 := Lib.hid (HX0.out.on hB1)
  clear hB1 HX0 HIS
  obtain ⟨⟨c1, c2, c3, c4⟩, _⟩ := four_cells HX1.out.bx
  obtain ⟨o1, o2, o3⟩ := three_cells HX1.out.op
  obtain ⟨⟨d1, d2, d3, d4⟩, e1, e2, e3, e4⟩ := four_cells HX1.out.ra
  obtain ⟨⟨hf1, hf2⟩, hf3, hf4⟩ := HX1.out.done (.int .i64 room) (.int .i64 ever) (.slice fa F.length fc) (.slice la L.length lc) (.int .i64 0) (.int .i64 0) (.bool false) (.int .i64 0)
  obtain ⟨⟨m1, m2, m3, m4⟩, n1, n2, n3, n4⟩ := four_cells hf3
  obtain ⟨⟨f1, f2, f3, f4⟩, _⟩ := four_cells hf1
  obtain ⟨⟨g1, g2, g3, g4⟩, _⟩ := four_cells hf2
  have HHF := Lib.hid hf4
  clear hf1 hf2 hf3 hf4
  go_wp2_with fail
  refine bodyPost_ret (v := .tuple #[.agg #[.int .i64 room, .int .i64 ever, .slice fa F.length fc, .slice la L.length lc], .agg #[.int .i64 0, .int .i64 0, .bool false, .int .i64 0]]) (by simp [results, Try.results13, go_sem, f1, f2, f3, f4, g1, g2, g3, g4]) rfl ?_
  exact ⟨fa, fc, la, lc, ⟨rfl, ⟨HF.out.1.below HHF.out, HF.out.2⟩, HL.out.1.below HHF.out, HL.out.2⟩, HHF.out, frm_same _ _ _⟩
set_option maxRecDepth 100000 in
set_option maxHeartbeats 2000000 in
theorem rardo_no3 (room ever i v : Int) (F L : List Int) (fa : Option Addr) (fc : Nat) (la : Option Addr) (lc : Nat) (w : World) (HF : Hid (NRow w 3 fa F ∧ F.length ≤ fc)) (HL : Hid (NRow w 2 la L ∧ L.length ≤ lc)) (HIS : Hid (∀ W, Go.RowKit.Below w.heap.size w W → Calls Try.prog 20 #[.agg #[.int .i64 room, .int .i64 ever, .slice fa F.length fc, .slice la L.length lc], .int .i64 i] W fun e w' => e = .returned (.bool false) ∧ Go.RowKit.Below W.heap.size W w')) :
    Calls Try.prog 13 #[.agg #[.int .i64 room, .int .i64 ever, .slice fa F.length fc, .slice la L.length lc], opV 3 i v] w (DoPost w fa room ever F L 0 0 false 0) := by
  have HX0 := Lib.hid (ar4_new w room ever fa F.length fc la L.length lc 3 i v)
  go_enter Try.func13, Try.ntmps13
  go_upto_region 1 with fail
  generalize ((((w.alloc (.cells #[.int .i64 room, .int .i64 ever, .slice fa F.length fc, .slice la L.length lc] 31)).alloc (opB 3 i v)).alloc arZ).alloc anZ) = X0 at *
  obtain ⟨⟨c1, c2, c3, c4⟩, _⟩ := four_cells HX0.out.bx
  obtain ⟨o1, o2, o3⟩ := three_cells HX0.out.op
  go_wp2_with fail
  clear c1 c2 c3 c4 o1 o2 o3
  refine (HIS.out _ HX0.out.be).mono ?_
  rintro e y1 ⟨rfl, hB1⟩
  have HX1 := Lib.hid (HX0.out.on hB1)
  clear hB1 HX0 HIS
  obtain ⟨⟨c1, c2, c3, c4⟩, _⟩ := four_cells HX1.out.bx
  obtain ⟨o1, o2, o3⟩ := three_cells HX1.out.op
  obtain ⟨⟨d1, d2, d3, d4⟩, e1, e2, e3, e4⟩ := four_cells HX1.out.ra
  obtain ⟨⟨hf1, hf2⟩, hf3, hf4⟩ := HX1.out.done (.int .i64 room) (.int .i64 ever) (.slice fa F.length fc) (.slice la L.length lc) (.int .i64 0) (.int .i64 0) (.bool false) (.int .i64 0)
  obtain ⟨⟨m1, m2, m3, m4⟩, n1, n2, n3, n4⟩ := four_cells hf3
  obtain ⟨⟨f1, f2, f3, f4⟩, _⟩ := four_cells hf1
  obtain ⟨⟨g1, g2, g3, g4⟩, _⟩ := four_cells hf2
  have HHF := Lib.hid hf4
  clear hf1 hf2 hf3 hf4
  go_wp2_with fail
  refine bodyPost_ret (v := .tuple #[.agg #[.int .i64 room, .int .i64 ever, .slice fa F.length fc, .slice la L.length lc], .agg #[.int .i64 0, .int .i64 0, .bool false, .int .i64 0]]) (by simp [results, Try.results13, go_sem, f1, f2, f3, f4, g1, g2, g3, g4]) rfl ?_
  exact ⟨fa, fc, la, lc, ⟨rfl, ⟨HF.out.1.below HHF.out, HF.out.2⟩, HL.out.1.below HHF.out, HL.out.2⟩, HHF.out, frm_same _ _ _⟩
theorem get_keep' {W : World} {P lb x : Nat} {r e f l k i v u : Value} {t t' : TypeId} (hb : W.heap[P]? = some (.cells #[r, e, f, l] t (0, 0))) (ho : W.heap[P + 1]? = some (.cells #[k, i, v] t' (0, 0))) (hc : W.cell? ⟨lb, x, none⟩ = some u) :
    (W.drew.cell? ⟨P, 0, none⟩ = some r ∧ W.drew.cell? ⟨P, 1, none⟩ = some e ∧ W.drew.cell? ⟨P, 2, none⟩ = some f ∧ W.drew.cell? ⟨P, 3, none⟩ = some l) ∧ (W.drew.cell? ⟨P + 1, 0, none⟩ = some k ∧ W.drew.cell? ⟨P + 1, 1, none⟩ = some i ∧ W.drew.cell? ⟨P + 1, 2, none⟩ = some v) ∧ W.drew.cell? ⟨lb, x, none⟩ = some u :=
  ⟨(four_cells hb).1, three_cells ho, hc⟩
theorem cell_far4 {W : World} {b i c : Nat} {u : Value} (h : W.cell? ⟨b, i, none⟩ = some u) (hne : b ≠ c) (y0 y1 y2 y3 : Value) : (set4 W c y0 y1 y2 y3).cell? ⟨b, i, none⟩ = some u := cell_far (cell_far (cell_far (cell_far h hne) hne) hne) hne
set_option maxRecDepth 100000 in
set_option maxHeartbeats 2000000 in
theorem rardo_get (room ever v : Int) (iN : Nat) (F L : List Int) (fa : Option Addr) (fc : Nat) (la : Option Addr) (lc : Nat) (w : World) (HF : Hid (NRow w 3 fa F ∧ F.length ≤ fc)) (HL : Hid (NRow w 2 la L ∧ L.length ≤ lc)) (hi : iN < L.length) (hl : L.length ≤ 100000) (HIS : Hid (∀ W, Go.RowKit.Below w.heap.size w W → Calls Try.prog 20 #[.agg #[.int .i64 room, .int .i64 ever, .slice fa F.length fc, .slice la L.length lc], .int .i64 (iN : Int)] W fun e w' => e = .returned (.bool true) ∧ Go.RowKit.Below W.heap.size W w')) :
    Calls Try.prog 13 #[.agg #[.int .i64 room, .int .i64 ever, .slice fa F.length fc, .slice la L.length lc], opV 1 (iN : Int) v] w (DoPost w fa room ever F L 0 L[iN] true 0) := by
  have mx := mixed
  obtain ⟨lb, loff, rfl, _, hlc⟩ := HL.out.1 (by omega)
  have HC := Lib.hid (hlc iN hi)
  have hlb : lb < w.heap.size := World.block_lt_of_cell? w _ HC.out
  clear hlc
  generalize L[iN] = z at *
  have i1 : (0 : Int) ≤ (iN : Int) := by omega
  have i2 : (iN : Int) < (L.length : Int) := by omega
  have HX0 := Lib.hid (ar4_new w room ever fa F.length fc (some ⟨lb, loff, none⟩) L.length lc 1 (iN : Int) v)
  go_enter Try.func13, Try.ntmps13
  go_upto_region 1 with fail
  generalize ((((w.alloc (.cells #[.int .i64 room, .int .i64 ever, .slice fa F.length fc, .slice (some ⟨lb, loff, none⟩) L.length lc] 31)).alloc (opB 1 (iN : Int) v)).alloc arZ).alloc anZ) = X0 at *
  obtain ⟨⟨c1, c2, c3, c4⟩, _⟩ := four_cells HX0.out.bx
  obtain ⟨o1, o2, o3⟩ := three_cells HX0.out.op
  go_wp2_with fail
  clear c1 c2 c3 c4 o1 o2 o3
  refine (HIS.out _ HX0.out.be).mono ?_
  rintro e y1 ⟨rfl, hB1⟩
  have HX1 := Lib.hid (HX0.out.on hB1)
  clear hB1 HX0 HIS
  obtain ⟨⟨c1, c2, c3, c4⟩, _⟩ := four_cells HX1.out.bx
  obtain ⟨o1, o2, o3⟩ := three_cells HX1.out.op
  have HC1 := Lib.hid ((HX1.out.be.cell (p := ⟨lb, loff + iN, none⟩) hlb).trans HC.out)
  go_upto_region 10 with fail
  obtain ⟨⟨d1, d2, d3, d4⟩, e1, e2, e3, e4⟩ := four_cells HX1.out.ra
  obtain ⟨⟨hf1, hf2⟩, hf3, hf4⟩ := HX1.out.done (.int .i64 room) (.int .i64 ever) (.slice fa F.length fc) (.slice (some ⟨lb, loff, none⟩) L.length lc) (.int .i64 0) (.int .i64 z) (.bool true) (.int .i64 0)
  obtain ⟨⟨m1, m2, m3, m4⟩, n1, n2, n3, n4⟩ := four_cells hf3
  obtain ⟨⟨f1, f2, f3, f4⟩, _⟩ := four_cells (four_drew hf1)
  obtain ⟨⟨g1, g2, g3, g4⟩, _⟩ := four_cells (four_drew hf2)
  have HHF := Lib.hid hf4.drew
  clear hf1 hf2 hf3 hf4
  have hc1 := HC1.out
  go_region_held3 (fun w' => (w'.cell? ⟨w.heap.size, 0, none⟩ = some (.int .i64 room) ∧ w'.cell? ⟨w.heap.size, 1, none⟩ = some (.int .i64 ever) ∧ w'.cell? ⟨w.heap.size, 2, none⟩ = some (.slice fa F.length fc) ∧ w'.cell? ⟨w.heap.size, 3, none⟩ = some (.slice (some ⟨lb, loff, none⟩) L.length lc)) ∧ (w'.cell? ⟨w.heap.size + 1, 0, none⟩ = some (.int .i64 1) ∧ w'.cell? ⟨w.heap.size + 1, 1, none⟩ = some (.int .i64 (iN : Int)) ∧ w'.cell? ⟨w.heap.size + 1, 2, none⟩ = some (.int .i64 v)) ∧ w'.cell? ⟨lb, loff + iN, none⟩ = some (.int .i64 z))
    (with_reducible first
      | exact get_keep' HX1.out.bx HX1.out.op HC1.out
      | exact get_keep' (four_far HX1.out.bx (by omega) _ _ _ _) (four_far HX1.out.op (by omega) _ _ _ _) (cell_far4 HC1.out (by omega) _ _ _ _)
      | exact get_keep' (four_far (four_far HX1.out.bx (by omega) _ _ _ _) (by omega) _ _ _ _) (four_far (four_far HX1.out.op (by omega) _ _ _ _) (by omega) _ _ _ _) (cell_far4 (cell_far4 HC1.out (by omega) _ _ _ _) (by omega) _ _ _ _))
    (fail)
  all_goals
    go_wp2_with fail
    refine bodyPost_ret (v := .tuple #[.agg #[.int .i64 room, .int .i64 ever, .slice fa F.length fc, .slice (some ⟨lb, loff, none⟩) L.length lc], .agg #[.int .i64 0, .int .i64 z, .bool true, .int .i64 0]]) (by simp [results, Try.results13, go_sem, f1, f2, f3, f4, g1, g2, g3, g4]) rfl ?_
    exact ⟨fa, fc, some ⟨lb, loff, none⟩, lc, ⟨rfl, ⟨HF.out.1.below HHF.out, HF.out.2⟩, HL.out.1.below HHF.out, HL.out.2⟩, HHF.out, frm_same _ _ _⟩
set_option maxRecDepth 100000 in
set_option maxHeartbeats 2000000 in
theorem rardo_set (room ever v : Int) (iN : Nat) (F L : List Int) (fa : Option Addr) (fc : Nat) (la : Option Addr) (lc : Nat) (w : World) (HF : Hid (NRow w 3 fa F ∧ F.length ≤ fc)) (HL : Hid (NRow w 2 la L ∧ L.length ≤ lc)) (hi : iN < L.length) (hl : L.length ≤ 100000) (HIS : Hid (∀ W, Go.RowKit.Below w.heap.size w W → Calls Try.prog 20 #[.agg #[.int .i64 room, .int .i64 ever, .slice fa F.length fc, .slice la L.length lc], .int .i64 (iN : Int)] W fun e w' => e = .returned (.bool true) ∧ Go.RowKit.Below W.heap.size W w')) :
    Calls Try.prog 13 #[.agg #[.int .i64 room, .int .i64 ever, .slice fa F.length fc, .slice la L.length lc], opV 2 (iN : Int) v] w (DoPost w fa room ever F (L.set iN v) 0 0 true 0) := by
  obtain ⟨i0, hi0, hz0, hz1, hz2⟩ := info_parts Try.infoI64
  have i1 : (0 : Int) ≤ (iN : Int) := by omega
  have i2 : (iN : Int) < (L.length : Int) := by omega
  have HX0 := Lib.hid (ar4_new w room ever fa F.length fc la L.length lc 2 (iN : Int) v)
  go_enter Try.func13, Try.ntmps13
  go_upto_region 1 with fail
  generalize ((((w.alloc (.cells #[.int .i64 room, .int .i64 ever, .slice fa F.length fc, .slice la L.length lc] 31)).alloc (opB 2 (iN : Int) v)).alloc arZ).alloc anZ) = X0 at *
  obtain ⟨⟨c1, c2, c3, c4⟩, _⟩ := four_cells HX0.out.bx
  obtain ⟨o1, o2, o3⟩ := three_cells HX0.out.op
  go_wp2_with fail
  clear c1 c2 c3 c4 o1 o2 o3
  refine (HIS.out _ HX0.out.be).mono ?_
  rintro e y1 ⟨rfl, hB1⟩
  have HX1 := Lib.hid (HX0.out.on hB1)
  clear hB1 HX0 HIS
  obtain ⟨⟨c1, c2, c3, c4⟩, _⟩ := four_cells HX1.out.bx
  obtain ⟨o1, o2, o3⟩ := three_cells HX1.out.op
  go_upto_region 12 with fail
  have hB0 := below_new y1 (.cells #[] 2)
  obtain ⟨⟨b1, b2, b3, b4⟩, _⟩ := four_cells (box_on HX1.out.bx hB0)
  have HO0 := Lib.hid (own_empty y1 2)
  have HL0 := Lib.hid ((HL.out.1.below HX1.out.be).below hB0)
  have hX0l := HX1.out.lt
  go_upto_region 13 with (at_builtin; refine wpList_append_nums _ rfl _ _ 29 rfl y1.heap.size 2 i0 Try.underlying29 hi0 hz0 hz1 hz2 _ 0 [] (by rfl) HO0.out la lc L _ (by rfl) HL0.out (by omega) (by simp) ?_; intro a1 cap1 w1 hown1 hgrow1; rw [Nat.zero_add, List.nil_append] at hown1; have hB1 : Go.RowKit.Below y1.heap.size y1 w1 := hB0.grown hgrow1 (by simp) (fun k hk => (HO0.out.lt k hk).1); have HO1 := Lib.hid hown1; clear hown1 hgrow1)
  clear c1 c2 c3 c4 o1 o2 o3 b1 b2 b3 b4 hB0 HL0 HO0
  have HA1 := Lib.hid (HX1.out.on hB1)
  have HF1 := Lib.hid (HF.out.1.below HA1.out.be)
  obtain ⟨g, rfl, hg, hcg, hfg⟩ := own_at HO1.out rfl iN hi
  have HA2 := Lib.hid (HA1.out.far g iN (.int .i64 v) (by omega))
  have HO2 := Lib.hid (own_set HO1.out iN v)
  have HA3 := Lib.hid (HA2.out.put3 (.slice (some ⟨g, 0, none⟩) L.length cap1))
  have HO3 := Lib.hid (own_far HO2.out w.heap.size 3 (.slice (some ⟨g, 0, none⟩) L.length cap1) (fun k hk => by have := (HO2.out.lt k hk).1; omega))
  have HCAP := Lib.hid (own_cap HO1.out)
  generalize L[iN] = old at *
  obtain ⟨o1, o2, o3⟩ := three_cells HA1.out.op
  obtain ⟨⟨_, _, _, k4⟩, _, _, _, k5⟩ := four_cells HA2.out.bx
  obtain ⟨o4, o5, o6⟩ := three_cells HA3.out.op
  obtain ⟨⟨c1, c2, c3, c4⟩, _⟩ := four_cells HA3.out.bx
  clear hB1 HX1
  obtain ⟨⟨d1, d2, d3, d4⟩, e1, e2, e3, e4⟩ := four_cells HA3.out.ra
  obtain ⟨⟨hf1, hf2⟩, hf3, hf4⟩ := HA3.out.done (.int .i64 room) (.int .i64 ever) (.slice fa F.length fc) (.slice (some ⟨g, 0, none⟩) L.length cap1) (.int .i64 0) (.int .i64 0) (.bool true) (.int .i64 0)
  obtain ⟨⟨m1, m2, m3, m4⟩, n1, n2, n3, n4⟩ := four_cells hf3
  obtain ⟨⟨f1, f2, f3, f4⟩, _⟩ := four_cells hf1
  obtain ⟨⟨g1, g2, g3, g4⟩, _⟩ := four_cells hf2
  have HHF := Lib.hid hf4
  clear hf1 hf2 hf3 hf4
  go_wp2_with fail
  refine bodyPost_ret (v := .tuple #[.agg #[.int .i64 room, .int .i64 ever, .slice fa F.length fc, .slice (some ⟨g, 0, none⟩) L.length cap1], .agg #[.int .i64 0, .int .i64 0, .bool true, .int .i64 0]]) (by simp [results, Try.results13, go_sem, f1, f2, f3, f4, g1, g2, g3, g4]) rfl ?_
  refine ⟨fa, fc, some ⟨g, 0, none⟩, cap1, ⟨by rw [List.length_set], ⟨HF.out.1.below HHF.out, HF.out.2⟩, ?_, by rw [List.length_set]; exact HCAP.out⟩, HHF.out, frm_same _ _ _⟩
  exact nrow_end4 (own_nrow HO3.out (by simp)) HA3.out (by decide) (by decide) _ _ _ _ _ _ _ _
set_option maxRecDepth 100000 in
set_option maxHeartbeats 2000000 in
theorem rardo_free (room ever i v : Int) (F L : List Int) (fa : Option Addr) (fc : Nat) (la : Option Addr) (lc : Nat) (w : World) (HF : Hid (NRow w 3 fa F ∧ F.length ≤ fc)) (HL : Hid (NRow w 2 la L ∧ L.length ≤ lc)) (hfl : F.length ≤ 100000) (HIS : Hid (∀ W, Go.RowKit.Below w.heap.size w W → Calls Try.prog 20 #[.agg #[.int .i64 room, .int .i64 ever, .slice fa F.length fc, .slice la L.length lc], .int .i64 i] W fun e w' => e = .returned (.bool true) ∧ Go.RowKit.Below W.heap.size W w')) :
    Calls Try.prog 13 #[.agg #[.int .i64 room, .int .i64 ever, .slice fa F.length fc, .slice la L.length lc], opV 3 i v] w (DoPost w fa room ever (F ++ [i]) L 0 0 true 0) := by
  obtain ⟨i0, hi0, hz0, hz1, hz2⟩ := info_parts Try.infoInt
  have HX0 := Lib.hid (ar4_new w room ever fa F.length fc la L.length lc 3 i v)
  go_enter Try.func13, Try.ntmps13
  go_upto_region 1 with fail
  generalize ((((w.alloc (.cells #[.int .i64 room, .int .i64 ever, .slice fa F.length fc, .slice la L.length lc] 31)).alloc (opB 3 i v)).alloc arZ).alloc anZ) = X0 at *
  obtain ⟨⟨c1, c2, c3, c4⟩, _⟩ := four_cells HX0.out.bx
  obtain ⟨o1, o2, o3⟩ := three_cells HX0.out.op
  go_wp2_with fail
  clear c1 c2 c3 c4 o1 o2 o3
  refine (HIS.out _ HX0.out.be).mono ?_
  rintro e y1 ⟨rfl, hB1⟩
  have HX1 := Lib.hid (HX0.out.on hB1)
  clear hB1 HX0 HIS
  obtain ⟨⟨c1, c2, c3, c4⟩, _⟩ := four_cells HX1.out.bx
  obtain ⟨o1, o2, o3⟩ := three_cells HX1.out.op
  go_upto_region 16 with fail
  have hB0 := below_new y1 (.cells #[] 3)
  obtain ⟨⟨b1, b2, b3, b4⟩, _⟩ := four_cells (box_on HX1.out.bx hB0)
  have HO0 := Lib.hid (own_empty y1 3)
  have HL0 := Lib.hid ((HF.out.1.below HX1.out.be).below hB0)
  have hX0l := HX1.out.lt
  go_upto_region 17 with (at_builtin; refine wpList_append_nums _ rfl _ _ 28 rfl y1.heap.size 3 i0 Try.underlying28 hi0 hz0 hz1 hz2 _ 0 [] (by rfl) HO0.out fa fc F _ (by rfl) HL0.out (by omega) (by simp) ?_; intro a1 cap1 w1 hown1 hgrow1; rw [Nat.zero_add, List.nil_append] at hown1; have hB1 : Go.RowKit.Below y1.heap.size y1 w1 := hB0.grown hgrow1 (by simp) (fun k hk => (HO0.out.lt k hk).1); have HO1 := Lib.hid hown1; clear hown1 hgrow1)
  clear c1 c2 c3 c4 o1 o2 o3 b1 b2 b3 b4 hB0 HL0 HO0
  have HA1 := Lib.hid (HX1.out.on hB1)
  have hsz1 := hB1.size
  obtain ⟨o1, o2, o3⟩ := three_cells HA1.out.op
  have hBn := below_new w1 (.cells #[.int .i64 i] 3)
  have HO1b := Lib.hid (own_on HO1.out hBn)
  have HN1 : Hid (NRow (w1.alloc (.cells #[.int .i64 i] 3)) 3 (some ⟨w1.heap.size, 0, none⟩) [i]) := by
    intro _
    refine ⟨w1.heap.size, 0, rfl, ⟨_, heap_alloc_new w1 _⟩, fun j hj => ?_⟩
    have : j = 0 := by simp at hj; exact hj
    subst this
    exact (cell_of_row _ _ 0 _ _ _ (heap_alloc_new w1 _)).trans rfl
  go_upto_region 18 with (at_builtin; refine wpList_append_nums _ rfl _ _ 28 rfl y1.heap.size 3 i0 Try.underlying28 hi0 hz0 hz1 hz2 _ F.length (F.map nv) (by rfl) HO1b.out (some ⟨w1.heap.size, 0, none⟩) 1 [i] 3 (by rfl) HN1.out (by simp; omega) (by simp; omega) ?_; intro a2 cap2 w2 hown2 hgrow2; have hB2 : Go.RowKit.Below y1.heap.size y1 w2 := (hB1.alloc (by omega) _).grown hgrow2 (by simp; omega) (fun k hk => (HO1b.out.lt k hk).1); have HO2 := Lib.hid hown2; have HA2 := Lib.hid (HX1.out.on hB2); obtain ⟨⟨_, _, k3, _⟩, _, _, k5, _⟩ := four_cells HA2.out.bx; clear hown2 hgrow2)
  have HOW : Hid (w2.ownsRow y1.heap.size 3 1 (.slice a2 (F ++ [i]).length cap2) (F ++ [i]).length ((F ++ [i]).map nv)) := by
    have h := HO2.out
    rw [List.map_append, List.length_append]
    exact h
  obtain ⟨g, rfl, hg, _, _⟩ := own_at HOW.out rfl 0 (by simp)
  have HCAP := Lib.hid (own_cap HOW.out)
  have HA3 := Lib.hid (HA2.out.put2 (.slice (some ⟨g, 0, none⟩) (F.length + 1) cap2))
  have HNR := Lib.hid (nrow_far (own_nrow HOW.out rfl) (c := w.heap.size) (j := 2) (v := .slice (some ⟨g, 0, none⟩) (F.length + 1) cap2) (fun _ b off e => by injection e with e; injection e with e1; omega))
  clear k3 k5 HO2 HOW HN1 HO1b HO1 HA1 HA2 hB1 hB2 hBn HX1 hsz1 o1 o2 o3
  generalize w2.setCell ⟨w.heap.size, 2, none⟩ (.slice (some ⟨g, 0, none⟩) (F.length + 1) cap2) = X3 at *
  obtain ⟨⟨c1, c2, c3, c4⟩, _⟩ := four_cells HA3.out.bx
  obtain ⟨⟨d1, d2, d3, d4⟩, e1, e2, e3, e4⟩ := four_cells HA3.out.ra
  obtain ⟨⟨hf1, hf2⟩, hf3, hf4⟩ := HA3.out.done (.int .i64 room) (.int .i64 ever) (.slice (some ⟨g, 0, none⟩) (F.length + 1) cap2) (.slice la L.length lc) (.int .i64 0) (.int .i64 0) (.bool true) (.int .i64 0)
  obtain ⟨⟨m1, m2, m3, m4⟩, n1, n2, n3, n4⟩ := four_cells hf3
  obtain ⟨⟨f1, f2, f3, f4⟩, _⟩ := four_cells hf1
  obtain ⟨⟨g1, g2, g3, g4⟩, _⟩ := four_cells hf2
  have HHF := Lib.hid hf4
  clear hf1 hf2 hf3 hf4
  go_wp2_with fail
  refine bodyPost_ret (v := .tuple #[.agg #[.int .i64 room, .int .i64 ever, .slice (some ⟨g, 0, none⟩) (F.length + 1) cap2, .slice la L.length lc], .agg #[.int .i64 0, .int .i64 0, .bool true, .int .i64 0]]) (by simp [results, Try.results13, go_sem, f1, f2, f3, f4, g1, g2, g3, g4]) rfl ?_
  refine ⟨some ⟨g, 0, none⟩, cap2, la, lc, ⟨by rw [List.length_append]; rfl, ⟨?_, HCAP.out⟩, HL.out.1.below HHF.out, HL.out.2⟩, HHF.out, frm_new (by omega) (by rw [end4_size]; exact nrow_lt HNR.out (by simp))⟩
  exact nrow_end4 HNR.out HA3.out (by decide) (by decide) _ _ _ _ _ _ _ _
theorem rardo_any (a : Ar) (fa : Option Addr) (fc : Nat) (la : Option Addr) (lc : Nat) (k i v : Int) (w : World) (h : ArAt w a fa fc la lc) (hok : a.ok) (hn1 : a.l.length ≤ 9999) (hn2 : a.free.length ≤ 9999) :
    Calls Try.prog 13 #[arV a fa fc la lc, opV k i v] w (ArPost (a.does k i v) w fa) := by
  have HF : Hid (NRow w 3 fa a.free ∧ a.free.length ≤ fc) := ⟨h.fr, h.fn⟩
  have HL : Hid (NRow w 2 la a.l ∧ a.l.length ≤ lc) := ⟨h.lr, h.ln⟩
  have key : ∀ (x : Ar) (y : An) (e : Ending) (w' : World), DoPost w fa x.room x.ever x.free x.l y.i y.v y.b y.e e w' → ArPost (x, y) w fa e w' := by
    rintro x y e w' ⟨fa', fc', la', lc', ⟨rfl, ⟨p1, p2⟩, p3, p4⟩, p5, p6⟩
    exact ⟨fa', fc', la', lc', ⟨rfl, ⟨p1, p2, p3, p4⟩⟩, p5, p6⟩
  have HIS : Hid (∀ W, Go.RowKit.Below w.heap.size w W → Calls Try.prog 20 #[arV a fa fc la lc, .int .i64 i] W fun e w' => e = .returned (.bool (a.is i)) ∧ Go.RowKit.Below W.heap.size W w') := fun W hb => raris_any a fa fc la lc i W (h.below hb) (by omega)
  unfold Ar.does
  by_cases h0 : k = 0
  · rw [if_pos h0]
    subst h0
    obtain ⟨x, hx⟩ : ∃ x, a.put v = x := ⟨_, rfl⟩
    rw [hx]
    obtain ⟨x, y⟩ := x
    refine (rardo_put a.room a.ever i v x.room x.ever y.i y.v y.e y.b x.free x.l fa a.free.length fc la a.l.length lc w (fun W hb => ?_)).mono (key x y)
    refine (rarput_any a fa fc la lc v W (h.below hb) hok hn1 hn2).mono ?_
    rw [hx]
    rintro e w' ⟨fa', fc', la', lc', ⟨rfl, p⟩, hb', hfr⟩
    exact ⟨fa', fc', la', lc', ⟨rfl, ⟨p.fr, p.fn⟩, p.lr, p.ln⟩, hb', hfr⟩
  · rw [if_neg h0]
    by_cases h4 : k = 4
    · rw [if_pos h4]
      subst h4
      exact (rardo_reset a.room a.ever i v a.free a.l fa fc la lc w HF HL).mono (key ⟨a.room, 0, [], []⟩ an0)
    · rw [if_neg h4]
      by_cases hlo : k < 0
      · rw [if_pos (.inl hlo)]
        exact (rardo_lo k a.room a.ever i v a.free a.l fa fc la lc w HF HL hlo).mono (key a an0)
      · by_cases hhi : 4 < k
        · rw [if_pos (.inr (.inl hhi))]
          exact (rardo_hi k a.room a.ever i v a.free a.l fa fc la lc w HF HL hhi).mono (key a an0)
        · have hk : k = 1 ∨ k = 2 ∨ k = 3 := by omega
          cases hb : a.is i with
          | false =>
            rw [if_pos (.inr (.inr rfl))]
            rw [hb] at HIS
            rcases hk with rfl | rfl | rfl
            · exact (rardo_no1 a.room a.ever i v a.free a.l fa fc la lc w HF HL HIS).mono (key a an0)
            · exact (rardo_no2 a.room a.ever i v a.free a.l fa fc la lc w HF HL HIS).mono (key a an0)
            · exact (rardo_no3 a.room a.ever i v a.free a.l fa fc la lc w HF HL HIS).mono (key a an0)
          | true =>
            rw [if_neg (by rintro (c | c | c); exact hlo c; exact hhi c; cases c)]
            rw [hb] at HIS
            obtain ⟨g1, g2, g3, g4⟩ := a.is_in i hok hb
            obtain ⟨iN, rfl⟩ : ∃ iN : Nat, i = (iN : Int) := ⟨i.toNat, by omega⟩
            rw [Int.toNat_natCast] at g3 ⊢
            rcases hk with rfl | rfl | rfl
            · rw [if_pos rfl]
              have hd : a.l.getD iN 0 = a.l[iN] := by rw [List.getD_eq_getElem?_getD, List.getElem?_eq_getElem g3]; rfl
              rw [hd]
              exact (rardo_get a.room a.ever v iN a.free a.l fa fc la lc w HF HL g3 (by omega) HIS).mono (key a ⟨0, a.l[iN], true, 0⟩)
            · rw [if_neg (by decide), if_pos rfl]
              exact (rardo_set a.room a.ever v iN a.free a.l fa fc la lc w HF HL g3 (by omega) HIS).mono (key { a with l := a.l.set iN v } ⟨0, 0, true, 0⟩)
            · rw [if_neg (by decide), if_neg (by decide)]
              exact (rardo_free a.room a.ever iN v a.free a.l fa fc la lc w HF HL (by omega) HIS).mono (key { a with free := a.free ++ [(iN : Int)] } ⟨0, 0, true, 0⟩)
end Go.Proofs.Ytdebmokpdchgpaa
