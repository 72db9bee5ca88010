/- A part of the proof: contracts of the functions that the statements reach. -/
import Derived.Test.YtkokilbnhhmicaaRows
import Derived.Test.YtkokilbnhhmicaaBA
import Derived.Test.YtkokilbnhhmicaaBB
import Derived.Test.YtkokilbnhhmicaaBC
import Derived.Test.YtkokilbnhhmicaaBD
import Derived.Test.YtkokilbnhhmicaaBE
import Derived.Deep.RegionHeld3

/- Contracts of the reference's spans: Of, Shift. -/
namespace Go.Proofs.Ytkokilbnhhmicaa
open Go.RowKit Go.Sort Go.Proofs.Ytkokilbnhhmicaa.Bo
set_option linter.unusedVariables false

abbrev OfTwo (w X : World) (s a t b : Int) (w' : World) : Prop := w'.cell? ⟨w.heap.size, 0, none⟩ = some (.int .i64 s) ∧ w'.cell? ⟨w.heap.size, 1, none⟩ = some (.int .i64 a) ∧ w'.cell? ⟨w.heap.size + 1, 0, none⟩ = some (.int .i64 t) ∧ w'.cell? ⟨w.heap.size + 1, 1, none⟩ = some (.int .i64 b) ∧ Go.RowKit.Below X.heap.size X w'
theorem OfTwo.call {w X : World} {s a t b : Int} {w' w'' : World} (h : OfTwo w X s a t b w') (hb : Go.RowKit.Below w'.heap.size w' w'') : OfTwo w X s a t b w'' :=
  ⟨(hb.cell (World.block_lt_of_cell? w' _ h.1)).trans h.1, (hb.cell (World.block_lt_of_cell? w' _ h.2.1)).trans h.2.1, (hb.cell (World.block_lt_of_cell? w' _ h.2.2.1)).trans h.2.2.1, (hb.cell (World.block_lt_of_cell? w' _ h.2.2.2.1)).trans h.2.2.2.1, bt h.2.2.2.2 hb⟩
theorem OfTwo.alloc {w X : World} {s a t b : Int} {w' : World} (h : OfTwo w X s a t b w') (o : Obj) : OfTwo w X s a t b (w'.alloc o) := h.call (below_new w' o)
theorem OfTwo.drew {w X : World} {s a t b : Int} {w' : World} (h : OfTwo w X s a t b w') : OfTwo w X s a t b w'.drew := h.call (Go.RowKit.Below.refl _ _).drew
theorem OfTwo.put {w X : World} {s a t b : Int} {w' : World} (h : OfTwo w X s a t b w') (hX : w.heap.size + 1 < X.heap.size) (N : Nat) (hN : X.heap.size ≤ N) (v1 v2 v3 v4 : Value) : OfTwo w X s a t b ((((w'.setCell ⟨N, 0, none⟩ v1).setCell ⟨N, 1, none⟩ v2).setCell ⟨N, 2, none⟩ v3).setCell ⟨N, 3, none⟩ v4) := by
  have far : ∀ B i, B < X.heap.size → ((((w'.setCell ⟨N, 0, none⟩ v1).setCell ⟨N, 1, none⟩ v2).setCell ⟨N, 2, none⟩ v3).setCell ⟨N, 3, none⟩ v4).cell? ⟨B, i, none⟩ = w'.cell? ⟨B, i, none⟩ := by
    intro B i hB
    have hne : N ≠ B := by omega
    rw [World.cell?_setCell_other _ _ _ _ (by simp <;> omega), World.cell?_setCell_other _ _ _ _ (by simp <;> omega), World.cell?_setCell_other _ _ _ _ (by simp <;> omega), World.cell?_setCell_other _ _ _ _ (by simp <;> omega)]
  exact ⟨(far _ _ (by omega)).trans h.1, (far _ _ (by omega)).trans h.2.1, (far _ _ (by omega)).trans h.2.2.1, (far _ _ (by omega)).trans h.2.2.2.1, (((h.2.2.2.2.setCell hN _).setCell hN _).setCell hN _).setCell hN _⟩
abbrev z4 : S4 := ⟨0, 0, 0, 0⟩
theorem Box4.new (w : World) : Box4 (w.alloc (.cells #[.int .i64 0, .int .i64 0, .int .i64 0, .int .i64 0] 25)) w.heap.size z4 := heap_alloc_new _ _
theorem Box4.drew {w : World} {b : Nat} {q : S4} (h : Box4 w b q) : Box4 w.drew b q := h
theorem Box4.zero {w : World} {b : Nat} (h : Box4 w b z4) : (w.cell? ⟨b, 0, none⟩ = some (.int .i64 0) ∧ w.cell? ⟨b, 1, none⟩ = some (.int .i64 0) ∧ w.cell? ⟨b, 2, none⟩ = some (.int .i64 0) ∧ w.cell? ⟨b, 3, none⟩ = some (.int .i64 0)) ∧ w.frozen? ⟨b, 0, none⟩ = false ∧ w.frozen? ⟨b, 1, none⟩ = false ∧ w.frozen? ⟨b, 2, none⟩ = false ∧ w.frozen? ⟨b, 3, none⟩ = false :=
  ⟨h.cells, h.free 0, h.free 1, h.free 2, h.free 3⟩
theorem box_put4 {w : World} {N : Nat} {q : S4} (h : Box4 w N q) (r : S4) : Box4 ((((w.setCell ⟨N, 0, none⟩ (.int .i64 r.ls)).setCell ⟨N, 1, none⟩ (.int .i64 r.la)).setCell ⟨N, 2, none⟩ (.int .i64 r.hs)).setCell ⟨N, 3, none⟩ (.int .i64 r.ha)) N r :=
  heap_setCell_same _ _ _ _ _ _ (heap_setCell_same _ _ _ _ _ _ (heap_setCell_same _ _ _ _ _ _ (heap_setCell_same _ _ _ _ _ _ h)))
theorem box_far4 {w : World} {N M : Nat} {q : S4} (h : Box4 w M q) (hne : M ≠ N) (v1 v2 v3 v4 : Value) : Box4 ((((w.setCell ⟨N, 0, none⟩ v1).setCell ⟨N, 1, none⟩ v2).setCell ⟨N, 2, none⟩ v3).setCell ⟨N, 3, none⟩ v4) M q := by
  unfold Box4
  rw [heap_setCell_other _ _ _ _ (by simpa using hne), heap_setCell_other _ _ _ _ (by simpa using hne), heap_setCell_other _ _ _ _ (by simpa using hne), heap_setCell_other _ _ _ _ (by simpa using hne)]
  exact h
/-- The span stands in its block, nothing yet in the result's. -/
structure CutAt (w : World) (x1 y1 x2 y2 : Int) (N : Nat) (wx : World) : Prop where
  far : w.heap.size + 2 < N
  box : Box4 wx N ⟨x1, y1, x2, y2⟩
  res : Box4 wx (w.heap.size + 1 + 1) z4
  below : Go.RowKit.Below w.heap.size w wx
theorem CutAt.put {w : World} {x1 y1 x2 y2 : Int} {N : Nat} {Y : World} (hN : w.heap.size + 2 < N) (hb : Box4 Y N z4) (hr : Box4 Y (w.heap.size + 1 + 1) z4) (hl : Go.RowKit.Below w.heap.size w Y) :
    CutAt w x1 y1 x2 y2 N ((((Y.setCell ⟨N, 0, none⟩ (.int .i64 x1)).setCell ⟨N, 1, none⟩ (.int .i64 y1)).setCell ⟨N, 2, none⟩ (.int .i64 x2)).setCell ⟨N, 3, none⟩ (.int .i64 y2)) :=
  have h1 : w.heap.size ≤ N := by omega
  ⟨hN, box_put4 hb ⟨x1, y1, x2, y2⟩, box_far4 hr (by omega) _ _ _ _, (((hl.setCell h1 _).setCell h1 _).setCell h1 _).setCell h1 _⟩
/-- What Of answers of two keys. -/
def ofS (k l : Int) : S4 := if k < l then sp (k, l) else ⟨0, 0, 0, 0⟩
def ofE (k l : Int) : Int := if k < l then 0 else 30

set_option maxRecDepth 100000 in
set_option maxHeartbeats 1000000 in
theorem rof_any (s a t b : Int) (w : World) (ha : I64 a) (hb : I64 b) :
    Calls Try.prog 25 #[.agg #[.int .i64 s, .int .i64 a], .agg #[.int .i64 t, .int .i64 b]] w fun e w' => e = .returned (.tuple #[vS (ofS (key s a) (key t b)), .int .i64 (ofE (key s a) (key t b))]) ∧ Go.RowKit.Below w.heap.size w w' := by
  have HC1 := Lib.hid (fun W => rcanon_any s a W ha)
  have HC2 := Lib.hid (fun W => rcanon_any t b W hb)
  have hk := key_ky s a ha
  have hl := key_ky t b hb
  generalize key s a = k at *
  generalize key t b = l at *
  have HRT := Lib.hid (fun W => rright_any (sp (k, l)) W (sp_ok (k, l) hk hl))
  rw [sp_right (k, l) hk hl] at HRT
  have HOS : Hid (decide (k < l) = true → ofS k l = sp (k, l) ∧ ofE k l = 0) := by
    intro h; have := of_decide_eq_true h; unfold ofS ofE; rw [if_pos this, if_pos this]; exact ⟨rfl, rfl⟩
  have HOS2 : Hid (decide (k < l) = false → ofS k l = ⟨0, 0, 0, 0⟩ ∧ ofE k l = 30) := by
    intro h; have := of_decide_eq_false h; unfold ofS ofE; rw [if_neg this, if_neg this]; exact ⟨rfl, rfl⟩
  dsimp only at HRT
  dsimp only [sp] at HRT HOS
  generalize decide (k < l) = D at *
  generalize sd k = x1 at *
  generalize pa k = y1 at *
  generalize sd l = x2 at *
  generalize pa l = y2 at *
  have hR0 : Box4 (((w.alloc (.cells #[.int .i64 s, .int .i64 a] 23)).alloc (.cells #[.int .i64 t, .int .i64 b] 23)).alloc (.cells #[.int .i64 0, .int .i64 0, .int .i64 0, .int .i64 0] 25)) (w.heap.size + 1 + 1) ⟨0, 0, 0, 0⟩ := by
    have h := heap_alloc_new ((w.alloc (.cells #[.int .i64 s, .int .i64 a] 23)).alloc (.cells #[.int .i64 t, .int .i64 b] 23)) (.cells #[.int .i64 0, .int .i64 0, .int .i64 0, .int .i64 0] 25)
    simpa [Box4] using h
  have hT0 : Two w.heap.size s a t b ((w.alloc (.cells #[.int .i64 s, .int .i64 a] 23)).alloc (.cells #[.int .i64 t, .int .i64 b] 23)) := ⟨heap_alloc2_old _ _ _, heap_alloc2_new _ _ _⟩
  have hT1 := hT0.below (below_new _ (.cells #[.int .i64 0, .int .i64 0, .int .i64 0, .int .i64 0] 25))
  have hL0 : Go.RowKit.Below w.heap.size w (((w.alloc (.cells #[.int .i64 s, .int .i64 a] 23)).alloc (.cells #[.int .i64 t, .int .i64 b] 23)).alloc (.cells #[.int .i64 0, .int .i64 0, .int .i64 0, .int .i64 0] 25)) := bt (bt (below_new w _) (below_new _ _)) (below_new _ _)
  have hsX : (((w.alloc (.cells #[.int .i64 s, .int .i64 a] 23)).alloc (.cells #[.int .i64 t, .int .i64 b] 23)).alloc (.cells #[.int .i64 0, .int .i64 0, .int .i64 0, .int .i64 0] 25)).heap.size = w.heap.size + 3 := by simp
  clear hT0
  go_enter Try.func25, Try.ntmps25
  go_upto_region 1 with fail
  generalize (((w.alloc (.cells #[.int .i64 s, .int .i64 a] 23)).alloc (.cells #[.int .i64 t, .int .i64 b] 23)).alloc (.cells #[.int .i64 0, .int .i64 0, .int .i64 0, .int .i64 0] 25)) = X at *
  have hsX2 : w.heap.size + 2 < X.heap.size := by omega
  clear hsX
  have HT := Lib.hid hT1
  have HRB := Lib.hid hR0
  clear hR0
  go_cut [6] from 7 to 16 (fun s6 wx => ∃ N, s6 = .pointer (some ⟨N, 0, none⟩) ∧ CutAt w x1 y1 x2 y2 N wx)
  case first =>
    obtain ⟨p1, p2, p3, p4, _, _, _, _⟩ := hT1.cells
    have HX : Hid (OfTwo w X s a t b X) := ⟨p1, p2, p3, p4, Go.RowKit.Below.refl _ _⟩
    have p0 : Go.RowKit.Below X.heap.size X X := Go.RowKit.Below.refl _ _
    clear hT1
    go_region_held3 (fun w' => w'.cell? ⟨w.heap.size, 0, none⟩ = some (.int .i64 s) ∧ w'.cell? ⟨w.heap.size, 1, none⟩ = some (.int .i64 a) ∧ w'.cell? ⟨w.heap.size + 1, 0, none⟩ = some (.int .i64 t) ∧ w'.cell? ⟨w.heap.size + 1, 1, none⟩ = some (.int .i64 b) ∧ Go.RowKit.Below X.heap.size X w')
      (with_reducible first | exact hS1 | exact hS2 | exact OfTwo.alloc hS2 _ | exact OfTwo.put hS2 (by omega) _ (by omega) _ _ _ _ | exact OfTwo.alloc hS1 _ | exact OfTwo.alloc HX.out _ | exact OfTwo.drew (OfTwo.alloc HX.out _) | exact OfTwo.drew HX.out | exact HX.out)
      (first
        | (go_at_call 47; (with_reducible refine (HC1.out _).mono ?_); rintro e Y1 ⟨rfl, hB1⟩; have hS1 : OfTwo w X s a t b Y1 := (by with_reducible first | exact OfTwo.call HX.out.drew hB1 | exact OfTwo.call (OfTwo.drew (OfTwo.alloc HX.out _)) hB1 | exact OfTwo.call (OfTwo.alloc HX.out.drew _) hB1); have hs1 := hS1.2.2.2.2.size; (try first | (with_reducible have hN1 := Lib.hid (Box4.on (Box4.drew (Box4.new X)) hB1)) | (with_reducible have hN1 := Lib.hid (Box4.on (Box4.new X.drew) hB1))))
        | (go_at_call 47; (with_reducible refine (HC2.out _).mono ?_); rintro e Y2 ⟨rfl, hB2⟩; have hS2 : OfTwo w X s a t b Y2 := (by with_reducible first | exact OfTwo.call hS1 hB2 | exact OfTwo.call (OfTwo.alloc hS1 _) hB2); have hs2 := hS2.2.2.2.2.size; (try first | (with_reducible have hN2 := Box4.on hN1.out hB2; obtain ⟨⟨d1, d2, d3, d4⟩, e1, e2, e3, e4⟩ := Box4.zero hN2) | (with_reducible have hN2 := Box4.on (Box4.new Y1) hB2; obtain ⟨⟨d1, d2, d3, d4⟩, e1, e2, e3, e4⟩ := Box4.zero hN2))))
    · have HR2 := Lib.hid (HRB.out.on hS2.2.2.2.2)
      have HL2 := Lib.hid (bt hL0 hS2.2.2.2.2)
      have HQ : Hid (CutAt w x1 y1 x2 y2 Y2.heap.size (Y2.alloc (.cells #[.int .i64 x1, .int .i64 y1, .int .i64 x2, .int .i64 y2] 25))) := ⟨by omega, heap_alloc_new Y2 (.cells #[.int .i64 x1, .int .i64 y1, .int .i64 x2, .int .i64 y2] 25), HR2.out.on (below_new Y2 (.cells #[.int .i64 x1, .int .i64 y1, .int .i64 x2, .int .i64 y2] 25)), bt HL2.out (below_new Y2 (.cells #[.int .i64 x1, .int .i64 y1, .int .i64 x2, .int .i64 y2] 25))⟩
      go_wp2_with fail
      go_meet
      exact ⟨_, rfl, HQ.out⟩
    · have HR2 := Lib.hid (HRB.out.on hS2.2.2.2.2)
      have HL2 := Lib.hid (bt hL0 hS2.2.2.2.2)
      have HQ : Hid (CutAt w x1 y1 x2 y2 (Y1.heap.size) ((((Y2.setCell ⟨Y1.heap.size, 0, none⟩ (.int .i64 x1)).setCell ⟨Y1.heap.size, 1, none⟩ (.int .i64 y1)).setCell ⟨Y1.heap.size, 2, none⟩ (.int .i64 x2)).setCell ⟨Y1.heap.size, 3, none⟩ (.int .i64 y2))) := CutAt.put (by omega) hN2 HR2.out HL2.out
      go_wp2_with fail
      go_meet
      exact ⟨_, rfl, HQ.out⟩
    · have HR2 := Lib.hid (HRB.out.on hS2.2.2.2.2)
      have HL2 := Lib.hid (bt hL0 hS2.2.2.2.2)
      have HQ : Hid (CutAt w x1 y1 x2 y2 (X.heap.size) ((((Y2.setCell ⟨X.heap.size, 0, none⟩ (.int .i64 x1)).setCell ⟨X.heap.size, 1, none⟩ (.int .i64 y1)).setCell ⟨X.heap.size, 2, none⟩ (.int .i64 x2)).setCell ⟨X.heap.size, 3, none⟩ (.int .i64 y2))) := CutAt.put (by omega) hN2 HR2.out HL2.out
      go_wp2_with fail
      go_meet
      exact ⟨_, rfl, HQ.out⟩
  case rest =>
    obtain ⟨N, rfl, hN, hbox, hres, hL⟩ := hcut
    have HB := Lib.hid hbox
    have HRS := Lib.hid hres
    clear hT1 HT HRB hL0 hsX2 hbox hres HC1 HC2
    obtain ⟨c1, c2, c3, c4⟩ := HB.out.cells
    cases D with
    | false =>
      go_wp2_with fail
      refine (HRT.out _).mono ?_
      rintro e Y3 ⟨rfl, hB3⟩
      have hL3 := bt hL hB3
      have HR3 := Lib.hid (HRS.out.on hB3)
      obtain ⟨⟨d1, d2, d3, d4⟩, e1, e2, e3, e4⟩ := Box4.zero HR3.out
      clear c1 c2 c3 c4
      obtain ⟨f1, f2, f3, f4⟩ := (box_put4 HR3.out ⟨0, 0, 0, 0⟩).cells
      dsimp only at f1 f2 f3 f4
      have hgy : w.heap.size ≤ w.heap.size + 1 + 1 := by omega
      have hL4 := (((hL3.setCell (p := ⟨w.heap.size + 1 + 1, 0, none⟩) hgy (.int .i64 0)).setCell (p := ⟨w.heap.size + 1 + 1, 1, none⟩) hgy (.int .i64 0)).setCell (p := ⟨w.heap.size + 1 + 1, 2, none⟩) hgy (.int .i64 0)).setCell (p := ⟨w.heap.size + 1 + 1, 3, none⟩) hgy (.int .i64 0)
      go_wp2_with fail
      refine bodyPost_ret (v := .tuple #[.agg #[.int .i64 0, .int .i64 0, .int .i64 0, .int .i64 0], .int .i64 30]) (by simp [results, Try.results25, go_sem, f1, f2, f3, f4]) rfl ?_
      refine ⟨?_, hL4⟩
      obtain ⟨g1, g2⟩ := HOS2.out (by trivial)
      rw [g1, g2]
    | true =>
      go_wp2_with fail
      refine (HRT.out _).mono ?_
      rintro e Y3 ⟨rfl, hB3⟩
      have hL3 := bt hL hB3
      have HR3 := Lib.hid (HRS.out.on hB3)
      have HB3 := Lib.hid (HB.out.on hB3)
      obtain ⟨⟨d1, d2, d3, d4⟩, e1, e2, e3, e4⟩ := Box4.zero HR3.out
      clear c1 c2 c3 c4
      obtain ⟨c1, c2, c3, c4⟩ := HB3.out.cells
      obtain ⟨f1, f2, f3, f4⟩ := (box_put4 HR3.out ⟨x1, y1, x2, y2⟩).cells
      dsimp only at f1 f2 f3 f4
      have hgy : w.heap.size ≤ w.heap.size + 1 + 1 := by omega
      have hL4 := (((hL3.setCell (p := ⟨w.heap.size + 1 + 1, 0, none⟩) hgy (.int .i64 x1)).setCell (p := ⟨w.heap.size + 1 + 1, 1, none⟩) hgy (.int .i64 y1)).setCell (p := ⟨w.heap.size + 1 + 1, 2, none⟩) hgy (.int .i64 x2)).setCell (p := ⟨w.heap.size + 1 + 1, 3, none⟩) hgy (.int .i64 y2)
      go_wp2_with fail
      refine bodyPost_ret (v := .tuple #[.agg #[.int .i64 x1, .int .i64 y1, .int .i64 x2, .int .i64 y2], .int .i64 0]) (by simp [results, Try.results25, go_sem, f1, f2, f3, f4]) rfl ?_
      refine ⟨?_, hL4⟩
      obtain ⟨g1, g2⟩ := HOS.out (by trivial)
      rw [g1, g2]
end Go.Proofs.Ytkokilbnhhmicaa

/- Contracts of the reference's spans: Shift. -/
namespace Go.Proofs.Ytkokilbnhhmicaa
open Go.RowKit Go.Sort Go.Proofs.Ytkokilbnhhmicaa.Bo
set_option linter.unusedVariables false

/-- What Shift answers. -/
def shS (q : S4) (d : Int) : S4 := if (q.right && shb q.lo d && shb q.hi d) = true then ⟨sd (shk q.lo d), pa (shk q.lo d), sd (shk q.hi d), pa (shk q.hi d)⟩ else z4

set_option maxRecDepth 100000 in
set_option maxHeartbeats 1000000 in
theorem rsshift_any (q : S4) (d : Int) (w : World) (hq : q.ok) (hd : I64 d) :
    Calls Try.prog 38 #[vS q, .int .i64 d] w fun e w' => e = .returned (.tuple #[vS (shS q d), .bool (q.right && shb q.lo d && shb q.hi d)]) ∧ Go.RowKit.Below w.heap.size w w' := by
  have mx := mixed
  have HC1 := Lib.hid (fun W => rshift_any q.ls q.la d W hq.1 hd)
  have HC2 := Lib.hid (fun W => rshift_any q.hs q.ha d W hq.2 hd)
  have HRT := Lib.hid (fun W => rright_any q W hq)
  rw [show key q.ls q.la = q.lo from rfl] at HC1
  rw [show key q.hs q.ha = q.hi from rfl] at HC2
  have HSH : Hid (∀ B, (q.right && shb q.lo d && shb q.hi d) = B → shS q d = if B = true then ⟨sd (shk q.lo d), pa (shk q.lo d), sd (shk q.hi d), pa (shk q.hi d)⟩ else z4) := by
    intro B hB; unfold shS; rw [hB]
  generalize sd (shk q.lo d) = x1 at *
  generalize pa (shk q.lo d) = y1 at *
  generalize sd (shk q.hi d) = x2 at *
  generalize pa (shk q.hi d) = y2 at *
  generalize shb q.lo d = B1 at *
  generalize shb q.hi d = B2 at *
  generalize q.right = R at *
  generalize shS q d = Z at *
  go_enter Try.func38, Try.ntmps38
  go_wp2_with fail
  have hB0 : Box4 ((w.alloc (.cells #[.int .i64 q.ls, .int .i64 q.la, .int .i64 q.hs, .int .i64 q.ha] 25)).alloc (.cells #[.int .i64 0, .int .i64 0, .int .i64 0, .int .i64 0] 25)) w.heap.size q := Box4.on (heap_alloc_new _ _) (below_new _ _)
  have hR0 : Box4 ((w.alloc (.cells #[.int .i64 q.ls, .int .i64 q.la, .int .i64 q.hs, .int .i64 q.ha] 25)).alloc (.cells #[.int .i64 0, .int .i64 0, .int .i64 0, .int .i64 0] 25)) (w.heap.size + 1) z4 := heap_alloc2_new _ _ _
  have hL0 : Go.RowKit.Below w.heap.size w ((w.alloc (.cells #[.int .i64 q.ls, .int .i64 q.la, .int .i64 q.hs, .int .i64 q.ha] 25)).alloc (.cells #[.int .i64 0, .int .i64 0, .int .i64 0, .int .i64 0] 25)) := bt (below_new w _) (below_new _ _)
  generalize ((w.alloc (.cells #[.int .i64 q.ls, .int .i64 q.la, .int .i64 q.hs, .int .i64 q.ha] 25)).alloc (.cells #[.int .i64 0, .int .i64 0, .int .i64 0, .int .i64 0] 25)) = X at *
  refine (HC1.out _).mono ?_
  rintro e Y1 ⟨rfl, hB1⟩
  have hA1 := bt hB1 (below_new Y1 (.cells #[.int .i64 x1, .int .i64 y1] 23))
  have HB1 := Lib.hid (hB0.on hA1)
  have HR1 := Lib.hid (hR0.on hA1)
  have HL1 := Lib.hid (bt hL0 hA1)
  have HA1 := Lib.hid (heap_alloc_new Y1 (.cells #[.int .i64 x1, .int .i64 y1] 23))
  obtain ⟨c1, c2, c3, c4⟩ := HB1.out.cells
  clear hB0 hR0 hL0 hB1 hA1
  go_wp2_with fail
  clear c1 c2 c3 c4
  generalize Y1.alloc (.cells #[.int .i64 x1, .int .i64 y1] 23) = X1 at *
  generalize Y1.heap.size = N1 at *
  refine (HC2.out _).mono ?_
  rintro e Y2 ⟨rfl, hB2⟩
  have hA2 := bt hB2 (below_new Y2 (.cells #[.int .i64 x2, .int .i64 y2] 23))
  have HB2 := Lib.hid (HB1.out.on hA2)
  have HR2 := Lib.hid (HR1.out.on hA2)
  have HL2 := Lib.hid (bt HL1.out hA2)
  have HA2 := Lib.hid (box_on HA1.out hA2)
  have HA3 := Lib.hid (heap_alloc_new Y2 (.cells #[.int .i64 x2, .int .i64 y2] 23))
  obtain ⟨c1, c2, c3, c4⟩ := HB2.out.cells
  clear hB2 hA2 HB1 HR1 HL1 HA1
  go_wp2_with fail
  clear c1 c2 c3 c4
  generalize hX2 : Y2.alloc (.cells #[.int .i64 x2, .int .i64 y2] 23) = X2 at *
  clear hX2
  generalize Y2.heap.size = N2 at *
  refine (HRT.out _).mono ?_
  rintro e Y3 ⟨rfl, hB3⟩
  have HR3 := Lib.hid (HR2.out.on hB3)
  have HL3 := Lib.hid (bt HL2.out hB3)
  obtain ⟨g1, g2, _, _⟩ := two_cells (box_on HA2.out hB3)
  obtain ⟨g3, g4, _, _⟩ := two_cells (box_on HA3.out hB3)
  clear hB3 HB2 HR2 HL2 HA2 HA3 HC1 HC2 HRT
  cases R with
  | false =>
    obtain ⟨⟨d1, d2, d3, d4⟩, e1, e2, e3, e4⟩ := Box4.zero HR3.out
    obtain ⟨f1, f2, f3, f4⟩ := (box_put4 HR3.out ⟨0, 0, 0, 0⟩).cells
    dsimp only at f1 f2 f3 f4
    have hgy : w.heap.size ≤ w.heap.size + 1 := by omega
    have hL4 := (((HL3.out.setCell (p := ⟨w.heap.size + 1, 0, none⟩) hgy (.int .i64 0)).setCell (p := ⟨w.heap.size + 1, 1, none⟩) hgy (.int .i64 0)).setCell (p := ⟨w.heap.size + 1, 2, none⟩) hgy (.int .i64 0)).setCell (p := ⟨w.heap.size + 1, 3, none⟩) hgy (.int .i64 0)
    go_wp2_with fail
    refine bodyPost_ret (v := .tuple #[.agg #[.int .i64 0, .int .i64 0, .int .i64 0, .int .i64 0], .bool false]) (by simp [results, Try.results38, go_sem, f1, f2, f3, f4]) rfl ?_
    refine ⟨?_, hL4⟩
    have hz := HSH.out _ rfl
    simp at hz
    rw [hz]
    rfl
  | true =>
    cases B1 with
    | false =>
      obtain ⟨⟨d1, d2, d3, d4⟩, e1, e2, e3, e4⟩ := Box4.zero HR3.out
      obtain ⟨f1, f2, f3, f4⟩ := (box_put4 HR3.out ⟨0, 0, 0, 0⟩).cells
      dsimp only at f1 f2 f3 f4
      have hgy : w.heap.size ≤ w.heap.size + 1 := by omega
      have hL4 := (((HL3.out.setCell (p := ⟨w.heap.size + 1, 0, none⟩) hgy (.int .i64 0)).setCell (p := ⟨w.heap.size + 1, 1, none⟩) hgy (.int .i64 0)).setCell (p := ⟨w.heap.size + 1, 2, none⟩) hgy (.int .i64 0)).setCell (p := ⟨w.heap.size + 1, 3, none⟩) hgy (.int .i64 0)
      go_wp2_with fail
      refine bodyPost_ret (v := .tuple #[.agg #[.int .i64 0, .int .i64 0, .int .i64 0, .int .i64 0], .bool false]) (by simp [results, Try.results38, go_sem, f1, f2, f3, f4]) rfl ?_
      refine ⟨?_, hL4⟩
      have hz := HSH.out _ rfl
      simp at hz
      rw [hz]
      rfl
    | true =>
      cases B2 with
      | false =>
        obtain ⟨⟨d1, d2, d3, d4⟩, e1, e2, e3, e4⟩ := Box4.zero HR3.out
        obtain ⟨f1, f2, f3, f4⟩ := (box_put4 HR3.out ⟨0, 0, 0, 0⟩).cells
        dsimp only at f1 f2 f3 f4
        have hgy : w.heap.size ≤ w.heap.size + 1 := by omega
        have hL4 := (((HL3.out.setCell (p := ⟨w.heap.size + 1, 0, none⟩) hgy (.int .i64 0)).setCell (p := ⟨w.heap.size + 1, 1, none⟩) hgy (.int .i64 0)).setCell (p := ⟨w.heap.size + 1, 2, none⟩) hgy (.int .i64 0)).setCell (p := ⟨w.heap.size + 1, 3, none⟩) hgy (.int .i64 0)
        go_wp2_with fail
        refine bodyPost_ret (v := .tuple #[.agg #[.int .i64 0, .int .i64 0, .int .i64 0, .int .i64 0], .bool false]) (by simp [results, Try.results38, go_sem, f1, f2, f3, f4]) rfl ?_
        refine ⟨?_, hL4⟩
        have hz := HSH.out _ rfl
        simp at hz
        rw [hz]
        rfl
      | true =>
        obtain ⟨⟨d1, d2, d3, d4⟩, e1, e2, e3, e4⟩ := Box4.zero HR3.out
        obtain ⟨f1, f2, f3, f4⟩ := (box_put4 HR3.out ⟨x1, y1, x2, y2⟩).cells
        dsimp only at f1 f2 f3 f4
        have hgy : w.heap.size ≤ w.heap.size + 1 := by omega
        have hL4 := (((HL3.out.setCell (p := ⟨w.heap.size + 1, 0, none⟩) hgy (.int .i64 x1)).setCell (p := ⟨w.heap.size + 1, 1, none⟩) hgy (.int .i64 y1)).setCell (p := ⟨w.heap.size + 1, 2, none⟩) hgy (.int .i64 x2)).setCell (p := ⟨w.heap.size + 1, 3, none⟩) hgy (.int .i64 y2)
        go_wp2_with fail
        refine bodyPost_ret (v := .tuple #[.agg #[.int .i64 x1, .int .i64 y1, .int .i64 x2, .int .i64 y2], .bool true]) (by simp [results, Try.results38, go_sem, f1, f2, f3, f4]) rfl ?_
        refine ⟨?_, hL4⟩
        have hz := HSH.out _ rfl
        simp at hz
        rw [hz]
        rfl
end Go.Proofs.Ytkokilbnhhmicaa

/- Contracts of the reference's spans: Count. -/
namespace Go.Proofs.Ytkokilbnhhmicaa
open Go.RowKit Go.Sort Go.Proofs.Ytkokilbnhhmicaa.Bo
set_option linter.unusedVariables false

/-- Has it a count? -/
def cntB (q : S4) : Bool := q.right && !(decide (q.ls < 0) && decide (0 < q.hs))
/-- What Count answers. -/
def cntV (q : S4) : Int := if cntB q = true then q.hi - q.lo else 0
theorem cnt_lim (q : S4) (hq : q.ok) (h : cntB q = true) : q.lo < q.hi ∧ q.lo < 9223372036854775808 ∧ -9223372036854775808 < q.hi ∧ q.hi - q.lo < 18446744073709551616 ∧ I64 q.lo ∧ I64 (q.hi - 1) := by
  unfold cntB at h
  simp at h
  obtain ⟨hr, hb⟩ := h
  obtain ⟨e, hlt⟩ := sp_of_right q hr
  have k1 := q.ky_lo hq
  have k2 := q.ky_hi hq
  have e1 := congrArg S4.ls e
  have e2 := congrArg S4.hs e
  dsimp only [sp] at e1 e2
  rw [e1, e2] at hb
  unfold Ky at k1 k2
  unfold I64
  have h3 : ¬ (q.lo = -9223372036854775808 ∧ q.hi = 9223372036854775808) := by
    rintro ⟨a, b⟩
    rw [a, b, sd_lo, sd_hi] at hb
    omega
  omega

theorem BigAt.far {w : World} {V : Value} {z : Int} {L : Nat} (h : BigAt w V z L) {b : Nat} {cs : Array Value} (hb : w.heap[b]? = some (.cells cs 68 (0, 0))) (i : Nat) (u : Value) : BigAt (w.setCell ⟨b, i, none⟩ u) V z L := by
  obtain ⟨s, v, xs, hV, hs, hd, ok, hl, hz, h0⟩ := h
  exact ⟨s, v, xs, hV, hs, hd.far hb (by decide) i u, ok, hl, hz, h0⟩
/-- The number lies in its block. -/
structure CntAt (q : S4) (w : World) (N : Nat) (s2 : Int) (a2 : Option Addr) (n2 cc2 : Nat) (wx : World) : Prop where
  box : wx.heap[N]? = some (.cells #[.int .i64 s2, .slice a2 n2 cc2] 68 (0, 0))
  big : BigAt wx (.agg #[.int .i64 s2, .slice a2 n2 cc2]) (q.hi - 1 + -q.lo + 1) 62
  below : Go.RowKit.Below w.heap.size w wx
theorem CntAt.put {q : S4} {w z : World} {N : Nat} {s1 s2 : Int} {v1 : Value} {a2 : Option Addr} {n2 cc2 : Nat} (hb : z.heap[N]? = some (.cells #[.int .i64 s1, v1] 68 (0, 0))) (hV : BigAt z (.agg #[.int .i64 s2, .slice a2 n2 cc2]) (q.hi - 1 + -q.lo + 1) 62) (hl : Go.RowKit.Below w.heap.size w z) (hN : w.heap.size ≤ N) :
    CntAt q w N s2 a2 n2 cc2 ((z.setCell ⟨N, 0, none⟩ (.int .i64 s2)).setCell ⟨N, 1, none⟩ (.slice a2 n2 cc2)) :=
  ⟨two_put hb, (hV.far hb 0 _).far (heap_setCell_same _ _ _ _ _ _ hb) 1 _, (hl.setCell hN _).setCell hN _⟩
theorem CntAt.digits {q : S4} {w wx : World} {N : Nat} {s2 : Int} {a2 : Option Addr} {n2 cc2 : Nat} (h : CntAt q w N s2 a2 n2 cc2 wx) (hlt : q.lo < q.hi) : ∃ xs : List Nat, n2 = xs.length ∧ (0 < xs.length → ∃ g, a2 = some ⟨g, 0, none⟩ ∧ g < wx.heap.size ∧ ∀ (j : Nat) (hj : j < xs.length), wx.cell? ⟨g, j, none⟩ = some (.int .i64 ((xs[j] : Nat) : Int))) ∧ (val xs : Int) = q.hi - q.lo ∧ xs.length ≤ 62 := by
  obtain ⟨s, v, xs, hV, hs, hd, ok, hl, hz, h0⟩ := h.big
  injection hV with hV
  injection hV with hV
  injection hV with h1 h2
  injection h2 with h2 _
  injection h1 with _ h1
  subst h1 h2
  obtain ⟨e1, e2, e3⟩ := hd.cellAt
  refine ⟨xs, e1, fun hp => e3 (by omega), ?_, hl⟩
  rcases hs with rfl | rfl | rfl <;> omega

set_option maxRecDepth 100000 in
set_option maxHeartbeats 2000000 in
theorem rcount_any (q : S4) (w : World) (hq : q.ok) :
    Calls Try.prog 27 #[vS q] w fun e w' => e = .returned (.tuple #[.int .u64 (cntV q), .bool (cntB q)]) ∧ Go.RowKit.Below w.heap.size w w' := by
  have mx := mixed
  have HRT := Lib.hid (fun W => rright_any q W hq)
  have HCB : Hid (∀ R b1 b2, q.right = R → decide (q.ls < 0) = b1 → decide (0 < q.hs) = b2 → cntB q = (R && !(b1 && b2))) := by
    intro R b1 b2 h1 h2 h3; unfold cntB; rw [h1, h2, h3]
  have HNO : Hid (cntB q = false → cntV q = 0) := by intro h; unfold cntV; rw [h]; rfl
  have HB : Hid (Box4 (w.alloc (.cells #[.int .i64 q.ls, .int .i64 q.la, .int .i64 q.hs, .int .i64 q.ha] 25)) w.heap.size q) := heap_alloc_new _ _
  have hL := below_new w (.cells #[.int .i64 q.ls, .int .i64 q.la, .int .i64 q.hs, .int .i64 q.ha] 25)
  obtain ⟨R, hR⟩ : ∃ R, q.right = R := ⟨_, rfl⟩
  obtain ⟨b1, hb1⟩ : ∃ b1, decide (q.ls < 0) = b1 := ⟨_, rfl⟩
  obtain ⟨b2, hb2⟩ : ∃ b2, decide (0 < q.hs) = b2 := ⟨_, rfl⟩
  have HC := Lib.hid (HCB.out R b1 b2 hR hb1 hb2)
  rw [hR] at HRT
  clear hR HCB
  by_cases hyes : (R && !(b1 && b2)) = true
  · have hcb : cntB q = true := HC.out.trans hyes
    have HL := Lib.hid (cnt_lim q hq hcb)
    have HV : Hid (cntV q = q.hi - q.lo) := by show cntV q = _; unfold cntV; rw [if_pos hcb]
    have HNX := Lib.hid (fun W => rnext_any q.ls q.la W hq.1)
    have HPV := Lib.hid (fun W => rprev_any q.hs q.ha W hq.2)
    rw [show key q.ls q.la = q.lo from rfl, (nx_in q.lo HL.out.2.1).1, (nx_in q.lo HL.out.2.1).2] at HNX
    rw [show key q.hs q.ha = q.hi from rfl, (pv_in q.hi HL.out.2.2.1).1, (pv_in q.hi HL.out.2.2.1).2] at HPV
    have HCT := Lib.hid hcb
    clear hcb HC HNO
    cases R with
    | false => simp at hyes
    | true =>
    cases b1 with
    | false =>
      clear hyes
      go_enter Try.func27, Try.ntmps27
      go_wp2_with fail
      refine (HRT.out _).mono ?_
      rintro e y0 ⟨rfl, hB0⟩
      have HB0 := Lib.hid (HB.out.on hB0)
      have hL0 := bt hL hB0
      obtain ⟨c1, c2, c3, c4⟩ := HB0.out.cells
      clear hL hB0 HB
      go_wp2_with fail
      refine (HNX.out _).mono ?_
      rintro e y1 ⟨rfl, hB1⟩
      have HB1 := Lib.hid (HB0.out.on hB1)
      have hL1 := bt hL0 hB1
      clear c1 c2 c3 c4
      obtain ⟨c1, c2, c3, c4⟩ := HB1.out.cells
      clear hB1 hL0 HB0
      go_wp2_with fail
      refine (HPV.out _).mono ?_
      rintro e y2 ⟨rfl, hB2⟩
      have hL2 := bt hL1 hB2
      clear c1 c2 c3 c4 hB2 hL1 HB1
      go_wp2_with fail
      refine (of_big _ _ HL.out.2.2.2.2.2).mono ?_
      rintro e y3 ⟨V1, rfl, hV1, hB3⟩
      have HV1 := Lib.hid hV1
      have hL3 := bt hL2 hB3
      clear hV1 hB3 hL2
      go_wp2_with fail
      refine (of_big _ _ HL.out.2.2.2.2.1).mono ?_
      rintro e y4 ⟨V2, rfl, hV2, hB4⟩
      have HV2 := Lib.hid hV2
      have HV1 := Lib.hid (HV1.out.below hB4)
      have hL4 := bt hL3 hB4
      clear hV2 hB4 hL3
      go_wp2_with fail
      refine (minus_any _ _ _ _ HV2.out).mono ?_
      rintro e y5 ⟨V3, rfl, hV3, hB5⟩
      have HV3 := Lib.hid hV3
      have HV1 := Lib.hid (HV1.out.below hB5)
      have hL5 := bt hL4 hB5
      clear hV3 hB5 hL4 HV2
      go_wp2_with fail
      refine (plus_any _ _ _ _ _ _ _ HV1.out HV3.out (by omega) (by omega)).mono ?_
      rintro e y6 ⟨V4, rfl, hV4, hB6⟩
      have HV4 := Lib.hid hV4
      have hL6 := bt hL5 hB6
      obtain ⟨s1, v1, xs1, rfl, hs1, hd1, ok1, hl1, hz1, h01⟩ := hV4
      obtain ⟨a1, n1, cc1, rfl⟩ := slice_of_dg hd1
      clear hs1 hd1 ok1 hl1 hz1 h01 hB6 hL5 HV1 HV3
      have hm := heap_alloc_new y6 (.cells #[.int .i64 s1, .slice a1 n1 cc1] 68)
      have HV5 := Lib.hid (HV4.out.below (below_new y6 (.cells #[.int .i64 s1, .slice a1 n1 cc1] 68)))
      have hL7 := bt hL6 (below_new y6 (.cells #[.int .i64 s1, .slice a1 n1 cc1] 68))
      have HM := Lib.hid hm
      obtain ⟨m1, m2, _, _⟩ := two_cells HM.out
      have hN : w.heap.size ≤ y6.heap.size := hL6.size
      clear hm HV4 hL6
      have HI1 : Hid (I64 1) := by show _ ∧ _; omega
      go_upto_region 6 with fail
      generalize y6.alloc (.cells #[.int .i64 s1, .slice a1 n1 cc1] 68) = X at *
      generalize y6.heap.size = N at *
      go_cut [] from 44 to 46 (fun wx => ∃ s2 a2 n2 cc2, CntAt q w N s2 a2 n2 cc2 wx)
      case first =>
        go_region_with (first
          | (go_at_call 57; (with_reducible refine (of_big _ _ HI1.out).mono ?_); rintro e z1 ⟨V5, rfl, hV5, hB7⟩; have hA7 := bt (Go.RowKit.Below.refl X.heap.size X).drew hB7; have HV6 := Lib.hid (HV5.out.below hA7); have HM7 := Lib.hid (box_on HM.out hA7); have HV7 := Lib.hid hV5; obtain ⟨m3, m4, _, _⟩ := two_cells HM7.out; clear hV5)
          | (go_at_call 56; (with_reducible refine (plus_any _ _ _ _ _ _ _ HV6.out HV7.out (by omega) (by omega)).mono ?_); rintro e z2 ⟨V6, rfl, hV6, hB8⟩; have HV8 := Lib.hid hV6; obtain ⟨s2, v2, xs2, rfl, hs2, hd2, ok2, hl2, hz2, h02⟩ := hV6; obtain ⟨a2, n2, cc2, rfl⟩ := slice_of_dg hd2; clear hs2 hd2 ok2 hl2 hz2 h02; have HM8 := Lib.hid (box_on HM7.out hB8); obtain ⟨m5, m6, m7, m8⟩ := two_cells HM8.out))
        all_goals
          have hL9 := bt (bt hL7 hA7) hB8
          have HQ : Hid (CntAt q w N s2 a2 n2 cc2 ((z2.setCell ⟨N, 0, none⟩ (.int .i64 s2)).setCell ⟨N, 1, none⟩ (.slice a2 n2 cc2))) := CntAt.put HM8.out HV8.out hL9 hN
          clear m5 m6 m7 m8
          go_wp2_with fail
          go_meet
          exact ⟨s2, a2, n2, cc2, HQ.out⟩
      case rest =>
        obtain ⟨s2, a2, n2, cc2, hat⟩ := hcut
        obtain ⟨xs, hn2, hcl, hval, hok⟩ := hat.digits HL.out.1
        subst hn2
        have hNw : N < wc.heap.size := lt_of_block hat.box
        obtain ⟨m3, m4, _, _⟩ := two_cells hat.box
        have HAT := Lib.hid hat
        have HVX := Lib.hid hval
        have HCL := Lib.hid hcl
        have hxl : xs.length ≤ 62 := hok
        have hv64 : val xs < 18446744073709551616 := by have := HL.out.2.2.2.1; have := HVX.out; omega
        clear hat hval hcl HM HV5 m1 m2 hL7 HNX HPV HRT hok
        go_wp2_with fail
        go_loopw [9, 10] (fun n i wr => ∃ k : Int, i = .int .i64 k ∧ -1 ≤ k ∧ k < xs.length ∧ n = .int .u64 (val (xs.drop (k + 1).toNat) : Int) ∧ Go.RowKit.Below wc.heap.size wc wr) (fun _ i _ => (intOf i + 1).toNat)
        case atStart =>
          refine ⟨(xs.length : Int) - 1, rfl, by omega, by omega, ?_, Go.RowKit.Below.refl _ _⟩
          rw [List.drop_of_length_le (by omega)]; simp [val]
        case round =>
          obtain ⟨k, rfl, hk1, hk2, rfl, hBr⟩ := hrel
          by_cases hpos : 0 ≤ k
          · obtain ⟨i, rfl⟩ := Int.eq_ofNat_of_zero_le hpos
            have hi : i < xs.length := by omega
            obtain ⟨g, rfl, hgl, hcell⟩ := HCL.out (by omega)
            have hci := (hBr.cell (p := ⟨g, i, none⟩) hgl).trans (hcell i hi)
            have r3 := (hBr.cell (p := ⟨N, 0, none⟩) hNw).trans m3
            have r4 := (hBr.cell (p := ⟨N, 1, none⟩) hNw).trans m4
            have hvd := val_drop xs i
            have hge : xs.getD i 0 = xs[i] := by rw [List.getD_eq_getElem?_getD, List.getElem?_eq_getElem hi]; rfl
            rw [hge] at hvd
            have hle := val_drop_le xs i
            have HF : Hid ((val (xs.drop (i + 1)) : Int) * 10 + (xs[i] : Int) = (val (xs.drop i) : Int)) := by show _ = _; rw [hvd]; push_cast; omega
            rw [show ((i : Int) + 1).toNat = i + 1 from by omega]
            have p1 : (0 : Int) ≤ (val (xs.drop (i + 1)) : Int) * 10 ∧ (val (xs.drop (i + 1)) : Int) * 10 ≤ 18446744073709551615 := by omega
            have p2 : (0 : Int) ≤ (xs[i] : Int) ∧ (xs[i] : Int) ≤ 18446744073709551615 := by omega
            have p3 : (0 : Int) ≤ (val (xs.drop (i + 1)) : Int) * 10 + (xs[i] : Int) ∧ (val (xs.drop (i + 1)) : Int) * 10 + (xs[i] : Int) ≤ 18446744073709551615 := by omega
            clear hcell hvd hge hle
            generalize val (xs.drop (i + 1)) = V at *
            generalize xs[i] = D at *
            have w1 := IntWalk.u64_in _ p1
            have w2 := IntWalk.u64_in _ p2
            have w3 := IntWalk.u64_in _ p3
            have i1 : (0 : Int) ≤ (i : Int) := by omega
            have i2 : (i : Int) < (xs.length : Int) := by omega
            go_wp2_with fail
            go_roundw
            case rel => exact ⟨(i : Int) - 1, rfl, by omega, by omega, by rw [show ((i : Int) - 1 + 1).toNat = i from by omega, HF.out], hBr⟩
            case measure => simp [intOf]
          · obtain rfl : k = -1 := by omega
            have HF : Hid ((val (xs.drop ((-1 : Int) + 1).toNat) : Int) = cntV q) := by
              show _ = _
              rw [show ((-1 : Int) + 1).toNat = 0 from rfl, List.drop_zero, HV.out, HVX.out]
            generalize (val (xs.drop ((-1 : Int) + 1).toNat) : Int) = V at *
            go_wp2_with fail
            refine bodyPost_ret (v := .tuple #[.int .u64 V, .bool true]) (by simp [results, Try.results27, go_sem]) rfl ?_
            refine ⟨?_, bt HAT.out.below hBr⟩
            rw [HF.out, HCT.out]
    | true =>
      cases b2 with
      | true => simp at hyes
      | false =>
        clear hyes
        go_enter Try.func27, Try.ntmps27
        go_wp2_with fail
        refine (HRT.out _).mono ?_
        rintro e y0 ⟨rfl, hB0⟩
        have HB0 := Lib.hid (HB.out.on hB0)
        have hL0 := bt hL hB0
        obtain ⟨c1, c2, c3, c4⟩ := HB0.out.cells
        clear hL hB0 HB
        go_wp2_with fail
        refine (HNX.out _).mono ?_
        rintro e y1 ⟨rfl, hB1⟩
        have HB1 := Lib.hid (HB0.out.on hB1)
        have hL1 := bt hL0 hB1
        clear c1 c2 c3 c4
        obtain ⟨c1, c2, c3, c4⟩ := HB1.out.cells
        clear hB1 hL0 HB0
        go_wp2_with fail
        refine (HPV.out _).mono ?_
        rintro e y2 ⟨rfl, hB2⟩
        have hL2 := bt hL1 hB2
        clear c1 c2 c3 c4 hB2 hL1 HB1
        go_wp2_with fail
        refine (of_big _ _ HL.out.2.2.2.2.2).mono ?_
        rintro e y3 ⟨V1, rfl, hV1, hB3⟩
        have HV1 := Lib.hid hV1
        have hL3 := bt hL2 hB3
        clear hV1 hB3 hL2
        go_wp2_with fail
        refine (of_big _ _ HL.out.2.2.2.2.1).mono ?_
        rintro e y4 ⟨V2, rfl, hV2, hB4⟩
        have HV2 := Lib.hid hV2
        have HV1 := Lib.hid (HV1.out.below hB4)
        have hL4 := bt hL3 hB4
        clear hV2 hB4 hL3
        go_wp2_with fail
        refine (minus_any _ _ _ _ HV2.out).mono ?_
        rintro e y5 ⟨V3, rfl, hV3, hB5⟩
        have HV3 := Lib.hid hV3
        have HV1 := Lib.hid (HV1.out.below hB5)
        have hL5 := bt hL4 hB5
        clear hV3 hB5 hL4 HV2
        go_wp2_with fail
        refine (plus_any _ _ _ _ _ _ _ HV1.out HV3.out (by omega) (by omega)).mono ?_
        rintro e y6 ⟨V4, rfl, hV4, hB6⟩
        have HV4 := Lib.hid hV4
        have hL6 := bt hL5 hB6
        obtain ⟨s1, v1, xs1, rfl, hs1, hd1, ok1, hl1, hz1, h01⟩ := hV4
        obtain ⟨a1, n1, cc1, rfl⟩ := slice_of_dg hd1
        clear hs1 hd1 ok1 hl1 hz1 h01 hB6 hL5 HV1 HV3
        have hm := heap_alloc_new y6 (.cells #[.int .i64 s1, .slice a1 n1 cc1] 68)
        have HV5 := Lib.hid (HV4.out.below (below_new y6 (.cells #[.int .i64 s1, .slice a1 n1 cc1] 68)))
        have hL7 := bt hL6 (below_new y6 (.cells #[.int .i64 s1, .slice a1 n1 cc1] 68))
        have HM := Lib.hid hm
        obtain ⟨m1, m2, _, _⟩ := two_cells HM.out
        have hN : w.heap.size ≤ y6.heap.size := hL6.size
        clear hm HV4 hL6
        have HI1 : Hid (I64 1) := by show _ ∧ _; omega
        go_upto_region 6 with fail
        generalize y6.alloc (.cells #[.int .i64 s1, .slice a1 n1 cc1] 68) = X at *
        generalize y6.heap.size = N at *
        go_cut [] from 44 to 46 (fun wx => ∃ s2 a2 n2 cc2, CntAt q w N s2 a2 n2 cc2 wx)
        case first =>
          go_region_with (first
            | (go_at_call 57; (with_reducible refine (of_big _ _ HI1.out).mono ?_); rintro e z1 ⟨V5, rfl, hV5, hB7⟩; have hA7 := bt (Go.RowKit.Below.refl X.heap.size X).drew hB7; have HV6 := Lib.hid (HV5.out.below hA7); have HM7 := Lib.hid (box_on HM.out hA7); have HV7 := Lib.hid hV5; obtain ⟨m3, m4, _, _⟩ := two_cells HM7.out; clear hV5)
            | (go_at_call 56; (with_reducible refine (plus_any _ _ _ _ _ _ _ HV6.out HV7.out (by omega) (by omega)).mono ?_); rintro e z2 ⟨V6, rfl, hV6, hB8⟩; have HV8 := Lib.hid hV6; obtain ⟨s2, v2, xs2, rfl, hs2, hd2, ok2, hl2, hz2, h02⟩ := hV6; obtain ⟨a2, n2, cc2, rfl⟩ := slice_of_dg hd2; clear hs2 hd2 ok2 hl2 hz2 h02; have HM8 := Lib.hid (box_on HM7.out hB8); obtain ⟨m5, m6, m7, m8⟩ := two_cells HM8.out))
          all_goals
            have hL9 := bt (bt hL7 hA7) hB8
            have HQ : Hid (CntAt q w N s2 a2 n2 cc2 ((z2.setCell ⟨N, 0, none⟩ (.int .i64 s2)).setCell ⟨N, 1, none⟩ (.slice a2 n2 cc2))) := CntAt.put HM8.out HV8.out hL9 hN
            clear m5 m6 m7 m8
            go_wp2_with fail
            go_meet
            exact ⟨s2, a2, n2, cc2, HQ.out⟩
        case rest =>
          obtain ⟨s2, a2, n2, cc2, hat⟩ := hcut
          obtain ⟨xs, hn2, hcl, hval, hok⟩ := hat.digits HL.out.1
          subst hn2
          have hNw : N < wc.heap.size := lt_of_block hat.box
          obtain ⟨m3, m4, _, _⟩ := two_cells hat.box
          have HAT := Lib.hid hat
          have HVX := Lib.hid hval
          have HCL := Lib.hid hcl
          have hxl : xs.length ≤ 62 := hok
          have hv64 : val xs < 18446744073709551616 := by have := HL.out.2.2.2.1; have := HVX.out; omega
          clear hat hval hcl HM HV5 m1 m2 hL7 HNX HPV HRT hok
          go_wp2_with fail
          go_loopw [9, 10] (fun n i wr => ∃ k : Int, i = .int .i64 k ∧ -1 ≤ k ∧ k < xs.length ∧ n = .int .u64 (val (xs.drop (k + 1).toNat) : Int) ∧ Go.RowKit.Below wc.heap.size wc wr) (fun _ i _ => (intOf i + 1).toNat)
          case atStart =>
            refine ⟨(xs.length : Int) - 1, rfl, by omega, by omega, ?_, Go.RowKit.Below.refl _ _⟩
            rw [List.drop_of_length_le (by omega)]; simp [val]
          case round =>
            obtain ⟨k, rfl, hk1, hk2, rfl, hBr⟩ := hrel
            by_cases hpos : 0 ≤ k
            · obtain ⟨i, rfl⟩ := Int.eq_ofNat_of_zero_le hpos
              have hi : i < xs.length := by omega
              obtain ⟨g, rfl, hgl, hcell⟩ := HCL.out (by omega)
              have hci := (hBr.cell (p := ⟨g, i, none⟩) hgl).trans (hcell i hi)
              have r3 := (hBr.cell (p := ⟨N, 0, none⟩) hNw).trans m3
              have r4 := (hBr.cell (p := ⟨N, 1, none⟩) hNw).trans m4
              have hvd := val_drop xs i
              have hge : xs.getD i 0 = xs[i] := by rw [List.getD_eq_getElem?_getD, List.getElem?_eq_getElem hi]; rfl
              rw [hge] at hvd
              have hle := val_drop_le xs i
              have HF : Hid ((val (xs.drop (i + 1)) : Int) * 10 + (xs[i] : Int) = (val (xs.drop i) : Int)) := by show _ = _; rw [hvd]; push_cast; omega
              rw [show ((i : Int) + 1).toNat = i + 1 from by omega]
              have p1 : (0 : Int) ≤ (val (xs.drop (i + 1)) : Int) * 10 ∧ (val (xs.drop (i + 1)) : Int) * 10 ≤ 18446744073709551615 := by omega
              have p2 : (0 : Int) ≤ (xs[i] : Int) ∧ (xs[i] : Int) ≤ 18446744073709551615 := by omega
              have p3 : (0 : Int) ≤ (val (xs.drop (i + 1)) : Int) * 10 + (xs[i] : Int) ∧ (val (xs.drop (i + 1)) : Int) * 10 + (xs[i] : Int) ≤ 18446744073709551615 := by omega
              clear hcell hvd hge hle
              generalize val (xs.drop (i + 1)) = V at *
              generalize xs[i] = D at *
              have w1 := IntWalk.u64_in _ p1
              have w2 := IntWalk.u64_in _ p2
              have w3 := IntWalk.u64_in _ p3
              have i1 : (0 : Int) ≤ (i : Int) := by omega
              have i2 : (i : Int) < (xs.length : Int) := by omega
              go_wp2_with fail
              go_roundw
              case rel => exact ⟨(i : Int) - 1, rfl, by omega, by omega, by rw [show ((i : Int) - 1 + 1).toNat = i from by omega, HF.out], hBr⟩
              case measure => simp [intOf]
            · obtain rfl : k = -1 := by omega
              have HF : Hid ((val (xs.drop ((-1 : Int) + 1).toNat) : Int) = cntV q) := by
                show _ = _
                rw [show ((-1 : Int) + 1).toNat = 0 from rfl, List.drop_zero, HV.out, HVX.out]
              generalize (val (xs.drop ((-1 : Int) + 1).toNat) : Int) = V at *
              go_wp2_with fail
              refine bodyPost_ret (v := .tuple #[.int .u64 V, .bool true]) (by simp [results, Try.results27, go_sem]) rfl ?_
              refine ⟨?_, bt HAT.out.below hBr⟩
              rw [HF.out, HCT.out]
  · have HNO2 : Hid (cntB q = false ∧ cntV q = 0) := by
      have h1 : cntB q = false := by rw [HC.out]; simpa using hyes
      exact ⟨h1, HNO.out h1⟩
    cases R with
    | false =>
      clear hyes
      go_enter Try.func27, Try.ntmps27
      go_wp2_with fail
      refine (HRT.out _).mono ?_
      rintro e y0 ⟨rfl, hB0⟩
      have HB0 := Lib.hid (HB.out.on hB0)
      have hL0 := bt hL hB0
      obtain ⟨c1, c2, c3, c4⟩ := HB0.out.cells
      go_wp2_with fail
      refine bodyPost_ret (v := .tuple #[.int .u64 0, .bool false]) (by simp [results, Try.results27, go_sem]) rfl ?_
      refine ⟨?_, hL0⟩
      rw [HNO2.out.1, HNO2.out.2]
    | true =>
      cases b1 with
      | false => simp at hyes
      | true =>
        cases b2 with
        | false => simp at hyes
        | true =>
          clear hyes
          go_enter Try.func27, Try.ntmps27
          go_wp2_with fail
          refine (HRT.out _).mono ?_
          rintro e y0 ⟨rfl, hB0⟩
          have HB0 := Lib.hid (HB.out.on hB0)
          have hL0 := bt hL hB0
          obtain ⟨c1, c2, c3, c4⟩ := HB0.out.cells
          go_wp2_with fail
          refine bodyPost_ret (v := .tuple #[.int .u64 0, .bool false]) (by simp [results, Try.results27, go_sem]) rfl ?_
          refine ⟨?_, hL0⟩
          rw [HNO2.out.1, HNO2.out.2]
end Go.Proofs.Ytkokilbnhhmicaa

/- Contracts of package span's functions: Point, All, Has, Of, Ends, Count, Shift. -/
namespace Go.Proofs.Ytkokilbnhhmicaa
open Go.RowKit Go.Sort Go.Proofs.Ytkokilbnhhmicaa.Bo
set_option linter.unusedVariables false

set_option maxRecDepth 100000 in
set_option maxHeartbeats 1000000 in
theorem spoint_core (n : Int) (x1 y1 x2 y2 : Int) (w : World)
    (HA : Hid (∀ W, Calls Try.prog 63 #[.int .i64 n] W fun e w' => e = .returned (.agg #[.int .i64 x1, .int .i64 y1]) ∧ Go.RowKit.Below W.heap.size W w'))
    (HC : Hid (∀ W, Calls Try.prog 64 #[.int .i64 n] W fun e w' => e = .returned (.agg #[.int .i64 x2, .int .i64 y2]) ∧ Go.RowKit.Below W.heap.size W w')) :
    Calls Try.prog 34 #[.int .i64 n] w fun e w' => e = .returned (.agg #[.int .i64 x1, .int .i64 y1, .int .i64 x2, .int .i64 y2]) ∧ Go.RowKit.Below w.heap.size w w' := by
  have hR0 : Box4 (w.alloc (.cells #[.int .i64 0, .int .i64 0, .int .i64 0, .int .i64 0] 25)) w.heap.size z4 := heap_alloc_new _ _
  have hL0 := below_new w (.cells #[.int .i64 0, .int .i64 0, .int .i64 0, .int .i64 0] 25)
  go_enter Try.func34, Try.ntmps34
  go_wp2_with fail
  refine (HA.out _).mono ?_
  rintro e Y1 ⟨rfl, hB1⟩
  have HR1 := Lib.hid (hR0.on hB1)
  have hL1 := bt hL0 hB1
  clear hR0 hB1 hL0
  go_wp2_with fail
  refine (HC.out _).mono ?_
  rintro e Y2 ⟨rfl, hB2⟩
  have HR2 := Lib.hid (HR1.out.on hB2)
  have hL2 := bt hL1 hB2
  clear hB2 hL1
  obtain ⟨⟨d1, d2, d3, d4⟩, e1, e2, e3, e4⟩ := Box4.zero HR2.out
  obtain ⟨f1, f2, f3, f4⟩ := (box_put4 HR2.out ⟨x1, y1, x2, y2⟩).cells
  dsimp only at f1 f2 f3 f4
  have hgy : w.heap.size ≤ w.heap.size := Nat.le_refl _
  have hL4 := (((hL2.setCell (p := ⟨w.heap.size, 0, none⟩) hgy (.int .i64 x1)).setCell (p := ⟨w.heap.size, 1, none⟩) hgy (.int .i64 y1)).setCell (p := ⟨w.heap.size, 2, none⟩) hgy (.int .i64 x2)).setCell (p := ⟨w.heap.size, 3, none⟩) hgy (.int .i64 y2)
  go_wp2_with fail
  refine bodyPost_ret (v := .agg #[.int .i64 x1, .int .i64 y1, .int .i64 x2, .int .i64 y2]) (by simp [results, Try.results34, go_sem, f1, f2, f3, f4]) rfl ?_
  exact ⟨rfl, hL4⟩
theorem spoint_any (n : Int) (w : World) (hn : I64 n) : Calls Try.prog 34 #[.int .i64 n] w fun e w' => e = .returned (vS (sp (n, n + 1))) ∧ Go.RowKit.Below w.heap.size w w' := spoint_core n _ _ _ _ w (fun W => ahead_b n hn W) (fun W => behind_b n hn W)
set_option maxRecDepth 100000 in
set_option maxHeartbeats 1000000 in
theorem sall_core (x1 y1 x2 y2 : Int) (w : World)
    (HA : Hid (∀ W, Calls Try.prog 70 #[] W fun e w' => e = .returned (.agg #[.int .i64 x1, .int .i64 y1]) ∧ Go.RowKit.Below W.heap.size W w'))
    (HC : Hid (∀ W, Calls Try.prog 72 #[] W fun e w' => e = .returned (.agg #[.int .i64 x2, .int .i64 y2]) ∧ Go.RowKit.Below W.heap.size W w')) :
    Calls Try.prog 53 #[] w fun e w' => e = .returned (.agg #[.int .i64 x1, .int .i64 y1, .int .i64 x2, .int .i64 y2]) ∧ Go.RowKit.Below w.heap.size w w' := by
  have hR0 : Box4 (w.alloc (.cells #[.int .i64 0, .int .i64 0, .int .i64 0, .int .i64 0] 25)) w.heap.size z4 := heap_alloc_new _ _
  have hL0 := below_new w (.cells #[.int .i64 0, .int .i64 0, .int .i64 0, .int .i64 0] 25)
  go_enter Try.func53, Try.ntmps53
  go_wp2_with fail
  refine (HA.out _).mono ?_
  rintro e Y1 ⟨rfl, hB1⟩
  have HR1 := Lib.hid (hR0.on hB1)
  have hL1 := bt hL0 hB1
  clear hR0 hB1 hL0
  go_wp2_with fail
  refine (HC.out _).mono ?_
  rintro e Y2 ⟨rfl, hB2⟩
  have HR2 := Lib.hid (HR1.out.on hB2)
  have hL2 := bt hL1 hB2
  clear hB2 hL1
  obtain ⟨⟨d1, d2, d3, d4⟩, e1, e2, e3, e4⟩ := Box4.zero HR2.out
  obtain ⟨f1, f2, f3, f4⟩ := (box_put4 HR2.out ⟨x1, y1, x2, y2⟩).cells
  dsimp only at f1 f2 f3 f4
  have hgy : w.heap.size ≤ w.heap.size := Nat.le_refl _
  have hL4 := (((hL2.setCell (p := ⟨w.heap.size, 0, none⟩) hgy (.int .i64 x1)).setCell (p := ⟨w.heap.size, 1, none⟩) hgy (.int .i64 y1)).setCell (p := ⟨w.heap.size, 2, none⟩) hgy (.int .i64 x2)).setCell (p := ⟨w.heap.size, 3, none⟩) hgy (.int .i64 y2)
  go_wp2_with fail
  refine bodyPost_ret (v := .agg #[.int .i64 x1, .int .i64 y1, .int .i64 x2, .int .i64 y2]) (by simp [results, Try.results53, go_sem, f1, f2, f3, f4]) rfl ?_
  exact ⟨rfl, hL4⟩
theorem sall_any (w : World) : Calls Try.prog 53 #[] w fun e w' => e = .returned (vS ⟨-1, 0, 1, 0⟩) ∧ Go.RowKit.Below w.heap.size w w' := sall_core _ _ _ _ w (fun W => first_b W) (fun W => last_b W)

set_option maxRecDepth 100000 in
set_option maxHeartbeats 1000000 in
theorem shas_core (q r : S4) (n : Int) (D : Bool) (w : World)
    (HP : Hid (∀ W, Calls Try.prog 34 #[.int .i64 n] W fun e w' => e = .returned (.agg #[.int .i64 r.ls, .int .i64 r.la, .int .i64 r.hs, .int .i64 r.ha]) ∧ Go.RowKit.Below W.heap.size W w'))
    (HH : Hid (∀ W, Calls Try.prog 19 #[.agg #[.int .i64 q.ls, .int .i64 q.la, .int .i64 q.hs, .int .i64 q.ha], .agg #[.int .i64 r.ls, .int .i64 r.la, .int .i64 r.hs, .int .i64 r.ha]] W fun e w' => e = .returned (.bool D) ∧ Go.RowKit.Below W.heap.size W w')) :
    Calls Try.prog 29 #[vS q, .int .i64 n] w fun e w' => e = .returned (.bool D) ∧ Go.RowKit.Below w.heap.size w w' := by
  have mx := mixed
  have HB : Hid (Box4 (w.alloc (.cells #[.int .i64 q.ls, .int .i64 q.la, .int .i64 q.hs, .int .i64 q.ha] 25)) w.heap.size q) := heap_alloc_new _ _
  have hL := below_new w (.cells #[.int .i64 q.ls, .int .i64 q.la, .int .i64 q.hs, .int .i64 q.ha] 25)
  go_enter Try.func29, Try.ntmps29
  go_wp2_with fail
  generalize w.alloc (.cells #[.int .i64 q.ls, .int .i64 q.la, .int .i64 q.hs, .int .i64 q.ha] 25) = X at *
  obtain ⟨p1, p2, p3, p4⟩ := HB.out.re
  refine wp_region_quiet_below (by assumption) (by kernel_rfl) ?_
  repeat (go_big_quiet_step (first
    | (go_at_call 34; exact Calls.regrown_of (HP.out _))
    | (go_at_call 19; exact Calls.regrown_of (HH.out _))))
  refine wpQuiet_nil ?_
  intro _ hw'
  obtain ⟨⟨nq, osq⟩, hw''⟩ := hw'
  subst hw''
  have hL2 := bt hL (below_regrown X nq osq)
  go_wp2_with fail
  go_ret
  exact ⟨rfl, hL2⟩
theorem holds_has (q : S4) (n : Int) (hn : I64 n) : (q.right && (sp (n, n + 1)).right && decide (q.lo ≤ (sp (n, n + 1)).lo) && decide ((sp (n, n + 1)).hi ≤ q.hi)) = q.has n := by
  have hk := ky_of_i64 n hn
  rw [sp_right (n, n + 1) hk.1 hk.2, sp_lo (n, n + 1) hk.1, sp_hi (n, n + 1) hk.2]
  unfold S4.has
  rw [show decide ((n, n + 1).1 < (n, n + 1).2) = true from decide_eq_true (by show n < n + 1; omega), Bool.and_true]
  rfl
theorem shas_any (q : S4) (n : Int) (w : World) (hq : q.ok) (hn : I64 n) : Calls Try.prog 29 #[vS q, .int .i64 n] w fun e w' => e = .returned (.bool (q.has n)) ∧ Go.RowKit.Below w.heap.size w w' := by
  have hk := ky_of_i64 n hn
  rw [← holds_has q n hn]
  exact shas_core q (sp (n, n + 1)) n _ w (fun W => spoint_any n W hn) (fun W => sholds_any q (sp (n, n + 1)) W hq (sp_ok (n, n + 1) hk.1 hk.2))

end Go.Proofs.Ytkokilbnhhmicaa

/- Contracts of package span's functions: Of, Ends, Count. -/
namespace Go.Proofs.Ytkokilbnhhmicaa
open Go.RowKit Go.Sort Go.Proofs.Ytkokilbnhhmicaa.Bo
set_option linter.unusedVariables false

set_option maxRecDepth 100000 in
set_option maxHeartbeats 1000000 in
theorem sof_any (s a t b : Int) (w : World) (ha : I64 a) (hb : I64 b) :
    Calls Try.prog 24 #[.agg #[.int .i64 s, .int .i64 a], .agg #[.int .i64 t, .int .i64 b]] w fun e w' => e = .returned (.tuple #[vS (ofS (key s a) (key t b)), .int .i64 (ofE (key s a) (key t b))]) ∧ Go.RowKit.Below w.heap.size w w' := by
  have HC1 := Lib.hid (fun W => canon_b s a ha W)
  have HC2 := Lib.hid (fun W => canon_b t b hb W)
  have hk := key_ky s a ha
  have hl := key_ky t b hb
  generalize key s a = k at *
  generalize key t b = l at *
  have HRT := Lib.hid (fun W => sright_any (sp (k, l)) W (sp_ok (k, l) hk hl))
  rw [sp_right (k, l) hk hl] at HRT
  have HOS : Hid (decide (k < l) = true → ofS k l = sp (k, l) ∧ ofE k l = 0) := by
    intro h; have := of_decide_eq_true h; unfold ofS ofE; rw [if_pos this, if_pos this]; exact ⟨rfl, rfl⟩
  have HOS2 : Hid (decide (k < l) = false → ofS k l = ⟨0, 0, 0, 0⟩ ∧ ofE k l = 30) := by
    intro h; have := of_decide_eq_false h; unfold ofS ofE; rw [if_neg this, if_neg this]; exact ⟨rfl, rfl⟩
  dsimp only at HRT
  dsimp only [sp] at HRT HOS
  generalize decide (k < l) = D at *
  generalize sd k = x1 at *
  generalize pa k = y1 at *
  generalize sd l = x2 at *
  generalize pa l = y2 at *
  have hR0 : Box4 (((w.alloc (.cells #[.int .i64 s, .int .i64 a] 23)).alloc (.cells #[.int .i64 t, .int .i64 b] 23)).alloc (.cells #[.int .i64 0, .int .i64 0, .int .i64 0, .int .i64 0] 25)) (w.heap.size + 1 + 1) ⟨0, 0, 0, 0⟩ := by
    have h := heap_alloc_new ((w.alloc (.cells #[.int .i64 s, .int .i64 a] 23)).alloc (.cells #[.int .i64 t, .int .i64 b] 23)) (.cells #[.int .i64 0, .int .i64 0, .int .i64 0, .int .i64 0] 25)
    simpa [Box4] using h
  have hT0 : Two w.heap.size s a t b ((w.alloc (.cells #[.int .i64 s, .int .i64 a] 23)).alloc (.cells #[.int .i64 t, .int .i64 b] 23)) := ⟨heap_alloc2_old _ _ _, heap_alloc2_new _ _ _⟩
  have hT1 := hT0.below (below_new _ (.cells #[.int .i64 0, .int .i64 0, .int .i64 0, .int .i64 0] 25))
  have hL0 : Go.RowKit.Below w.heap.size w (((w.alloc (.cells #[.int .i64 s, .int .i64 a] 23)).alloc (.cells #[.int .i64 t, .int .i64 b] 23)).alloc (.cells #[.int .i64 0, .int .i64 0, .int .i64 0, .int .i64 0] 25)) := bt (bt (below_new w _) (below_new _ _)) (below_new _ _)
  have hsX : (((w.alloc (.cells #[.int .i64 s, .int .i64 a] 23)).alloc (.cells #[.int .i64 t, .int .i64 b] 23)).alloc (.cells #[.int .i64 0, .int .i64 0, .int .i64 0, .int .i64 0] 25)).heap.size = w.heap.size + 3 := by simp
  clear hT0
  go_enter Try.func24, Try.ntmps24
  go_upto_region 1 with fail
  generalize (((w.alloc (.cells #[.int .i64 s, .int .i64 a] 23)).alloc (.cells #[.int .i64 t, .int .i64 b] 23)).alloc (.cells #[.int .i64 0, .int .i64 0, .int .i64 0, .int .i64 0] 25)) = X at *
  have hsX2 : w.heap.size + 2 < X.heap.size := by omega
  clear hsX
  have HT := Lib.hid hT1
  have HRB := Lib.hid hR0
  clear hR0
  go_cut [6] from 7 to 16 (fun s6 wx => ∃ N, s6 = .pointer (some ⟨N, 0, none⟩) ∧ CutAt w x1 y1 x2 y2 N wx)
  case first =>
    obtain ⟨p1, p2, p3, p4, _, _, _, _⟩ := hT1.cells
    have HX : Hid (OfTwo w X s a t b X) := ⟨p1, p2, p3, p4, Go.RowKit.Below.refl _ _⟩
    have p0 : Go.RowKit.Below X.heap.size X X := Go.RowKit.Below.refl _ _
    clear hT1
    go_region_held3 (fun w' => w'.cell? ⟨w.heap.size, 0, none⟩ = some (.int .i64 s) ∧ w'.cell? ⟨w.heap.size, 1, none⟩ = some (.int .i64 a) ∧ w'.cell? ⟨w.heap.size + 1, 0, none⟩ = some (.int .i64 t) ∧ w'.cell? ⟨w.heap.size + 1, 1, none⟩ = some (.int .i64 b) ∧ Go.RowKit.Below X.heap.size X w')
      (with_reducible first | exact hS1 | exact hS2 | exact OfTwo.alloc hS2 _ | exact OfTwo.put hS2 (by omega) _ (by omega) _ _ _ _ | exact OfTwo.alloc hS1 _ | exact OfTwo.alloc HX.out _ | exact OfTwo.drew (OfTwo.alloc HX.out _) | exact OfTwo.drew HX.out | exact HX.out)
      (first
        | (go_at_call 55; (with_reducible refine (HC1.out _).mono ?_); rintro e Y1 ⟨rfl, hB1⟩; have hS1 : OfTwo w X s a t b Y1 := (by with_reducible first | exact OfTwo.call HX.out.drew hB1 | exact OfTwo.call (OfTwo.drew (OfTwo.alloc HX.out _)) hB1 | exact OfTwo.call (OfTwo.alloc HX.out.drew _) hB1); have hs1 := hS1.2.2.2.2.size; (try first | (with_reducible have hN1 := Lib.hid (Box4.on (Box4.drew (Box4.new X)) hB1)) | (with_reducible have hN1 := Lib.hid (Box4.on (Box4.new X.drew) hB1))))
        | (go_at_call 55; (with_reducible refine (HC2.out _).mono ?_); rintro e Y2 ⟨rfl, hB2⟩; have hS2 : OfTwo w X s a t b Y2 := (by with_reducible first | exact OfTwo.call hS1 hB2 | exact OfTwo.call (OfTwo.alloc hS1 _) hB2); have hs2 := hS2.2.2.2.2.size; (try first | (with_reducible have hN2 := Box4.on hN1.out hB2; obtain ⟨⟨d1, d2, d3, d4⟩, e1, e2, e3, e4⟩ := Box4.zero hN2) | (with_reducible have hN2 := Box4.on (Box4.new Y1) hB2; obtain ⟨⟨d1, d2, d3, d4⟩, e1, e2, e3, e4⟩ := Box4.zero hN2))))
    · have HR2 := Lib.hid (HRB.out.on hS2.2.2.2.2)
      have HL2 := Lib.hid (bt hL0 hS2.2.2.2.2)
      have HQ : Hid (CutAt w x1 y1 x2 y2 Y2.heap.size (Y2.alloc (.cells #[.int .i64 x1, .int .i64 y1, .int .i64 x2, .int .i64 y2] 25))) := ⟨by omega, heap_alloc_new Y2 (.cells #[.int .i64 x1, .int .i64 y1, .int .i64 x2, .int .i64 y2] 25), HR2.out.on (below_new Y2 (.cells #[.int .i64 x1, .int .i64 y1, .int .i64 x2, .int .i64 y2] 25)), bt HL2.out (below_new Y2 (.cells #[.int .i64 x1, .int .i64 y1, .int .i64 x2, .int .i64 y2] 25))⟩
      go_wp2_with fail
      go_meet
      exact ⟨_, rfl, HQ.out⟩
    · have HR2 := Lib.hid (HRB.out.on hS2.2.2.2.2)
      have HL2 := Lib.hid (bt hL0 hS2.2.2.2.2)
      have HQ : Hid (CutAt w x1 y1 x2 y2 (Y1.heap.size) ((((Y2.setCell ⟨Y1.heap.size, 0, none⟩ (.int .i64 x1)).setCell ⟨Y1.heap.size, 1, none⟩ (.int .i64 y1)).setCell ⟨Y1.heap.size, 2, none⟩ (.int .i64 x2)).setCell ⟨Y1.heap.size, 3, none⟩ (.int .i64 y2))) := CutAt.put (by omega) hN2 HR2.out HL2.out
      go_wp2_with fail
      go_meet
      exact ⟨_, rfl, HQ.out⟩
    · have HR2 := Lib.hid (HRB.out.on hS2.2.2.2.2)
      have HL2 := Lib.hid (bt hL0 hS2.2.2.2.2)
      have HQ : Hid (CutAt w x1 y1 x2 y2 (X.heap.size) ((((Y2.setCell ⟨X.heap.size, 0, none⟩ (.int .i64 x1)).setCell ⟨X.heap.size, 1, none⟩ (.int .i64 y1)).setCell ⟨X.heap.size, 2, none⟩ (.int .i64 x2)).setCell ⟨X.heap.size, 3, none⟩ (.int .i64 y2))) := CutAt.put (by omega) hN2 HR2.out HL2.out
      go_wp2_with fail
      go_meet
      exact ⟨_, rfl, HQ.out⟩
  case rest =>
    obtain ⟨N, rfl, hN, hbox, hres, hL⟩ := hcut
    have HB := Lib.hid hbox
    have HRS := Lib.hid hres
    clear hT1 HT HRB hL0 hsX2 hbox hres HC1 HC2
    obtain ⟨c1, c2, c3, c4⟩ := HB.out.cells
    cases D with
    | false =>
      go_wp2_with fail
      refine (HRT.out _).mono ?_
      rintro e Y3 ⟨rfl, hB3⟩
      have hL3 := bt hL hB3
      have HR3 := Lib.hid (HRS.out.on hB3)
      obtain ⟨⟨d1, d2, d3, d4⟩, e1, e2, e3, e4⟩ := Box4.zero HR3.out
      clear c1 c2 c3 c4
      obtain ⟨f1, f2, f3, f4⟩ := (box_put4 HR3.out ⟨0, 0, 0, 0⟩).cells
      dsimp only at f1 f2 f3 f4
      have hgy : w.heap.size ≤ w.heap.size + 1 + 1 := by omega
      have hL4 := (((hL3.setCell (p := ⟨w.heap.size + 1 + 1, 0, none⟩) hgy (.int .i64 0)).setCell (p := ⟨w.heap.size + 1 + 1, 1, none⟩) hgy (.int .i64 0)).setCell (p := ⟨w.heap.size + 1 + 1, 2, none⟩) hgy (.int .i64 0)).setCell (p := ⟨w.heap.size + 1 + 1, 3, none⟩) hgy (.int .i64 0)
      go_wp2_with fail
      refine bodyPost_ret (v := .tuple #[.agg #[.int .i64 0, .int .i64 0, .int .i64 0, .int .i64 0], .int .i64 30]) (by simp [results, Try.results24, go_sem, f1, f2, f3, f4]) rfl ?_
      refine ⟨?_, hL4⟩
      obtain ⟨g1, g2⟩ := HOS2.out (by trivial)
      rw [g1, g2]
    | true =>
      go_wp2_with fail
      refine (HRT.out _).mono ?_
      rintro e Y3 ⟨rfl, hB3⟩
      have hL3 := bt hL hB3
      have HR3 := Lib.hid (HRS.out.on hB3)
      have HB3 := Lib.hid (HB.out.on hB3)
      obtain ⟨⟨d1, d2, d3, d4⟩, e1, e2, e3, e4⟩ := Box4.zero HR3.out
      clear c1 c2 c3 c4
      obtain ⟨c1, c2, c3, c4⟩ := HB3.out.cells
      obtain ⟨f1, f2, f3, f4⟩ := (box_put4 HR3.out ⟨x1, y1, x2, y2⟩).cells
      dsimp only at f1 f2 f3 f4
      have hgy : w.heap.size ≤ w.heap.size + 1 + 1 := by omega
      have hL4 := (((hL3.setCell (p := ⟨w.heap.size + 1 + 1, 0, none⟩) hgy (.int .i64 x1)).setCell (p := ⟨w.heap.size + 1 + 1, 1, none⟩) hgy (.int .i64 y1)).setCell (p := ⟨w.heap.size + 1 + 1, 2, none⟩) hgy (.int .i64 x2)).setCell (p := ⟨w.heap.size + 1 + 1, 3, none⟩) hgy (.int .i64 y2)
      go_wp2_with fail
      refine bodyPost_ret (v := .tuple #[.agg #[.int .i64 x1, .int .i64 y1, .int .i64 x2, .int .i64 y2], .int .i64 0]) (by simp [results, Try.results24, go_sem, f1, f2, f3, f4]) rfl ?_
      refine ⟨?_, hL4⟩
      obtain ⟨g1, g2⟩ := HOS.out (by trivial)
      rw [g1, g2]
/-- The numbers at the ends of a span. -/
def endL (q : S4) : Int := if q.right = true then q.lo else 0
def endH (q : S4) : Int := if q.right = true then q.hi - 1 else 0
set_option maxRecDepth 100000 in
set_option maxHeartbeats 1000000 in
theorem sends_core (q : S4) (R I J : Bool) (x y : Int) (w : World)
    (HR : Hid (∀ W, Calls Try.prog 28 #[.agg #[.int .i64 q.ls, .int .i64 q.la, .int .i64 q.hs, .int .i64 q.ha]] W fun e w' => e = .returned (.bool R) ∧ Go.RowKit.Below W.heap.size W w'))
    (HN : Hid (∀ W, Calls Try.prog 60 #[.agg #[.int .i64 q.ls, .int .i64 q.la]] W fun e w' => e = .returned (.tuple #[.int .i64 x, .bool I]) ∧ Go.RowKit.Below W.heap.size W w'))
    (HP : Hid (∀ W, Calls Try.prog 61 #[.agg #[.int .i64 q.hs, .int .i64 q.ha]] W fun e w' => e = .returned (.tuple #[.int .i64 y, .bool J]) ∧ Go.RowKit.Below W.heap.size W w')) :
    Calls Try.prog 31 #[vS q] w fun e w' => e = .returned (.tuple #[.int .i64 (if R = true then x else 0), .int .i64 (if R = true then y else 0)]) ∧ Go.RowKit.Below w.heap.size w w' := by
  have HB : Hid (Box4 (w.alloc (.cells #[.int .i64 q.ls, .int .i64 q.la, .int .i64 q.hs, .int .i64 q.ha] 25)) w.heap.size q) := heap_alloc_new _ _
  have hL := below_new w (.cells #[.int .i64 q.ls, .int .i64 q.la, .int .i64 q.hs, .int .i64 q.ha] 25)
  go_enter Try.func31, Try.ntmps31
  go_wp2_with fail
  refine (HR.out _).mono ?_
  rintro e x1 ⟨rfl, hB1⟩
  have hL1 := bt hL hB1
  have HB1 := Lib.hid (HB.out.on hB1)
  obtain ⟨c1, c2, c3, c4⟩ := HB1.out.cells
  clear hB1 hL
  cases R with
  | false =>
    go_wp2_with fail
    go_ret2
    exact ⟨rfl, hL1⟩
  | true =>
    go_wp2_with fail
    refine (HN.out _).mono ?_
    rintro e x2 ⟨rfl, hB2⟩
    have hL2 := bt hL1 hB2
    have HB2 := Lib.hid (HB1.out.on hB2)
    clear c1 c2 c3 c4 hB2 hL1
    obtain ⟨c1, c2, c3, c4⟩ := HB2.out.cells
    go_wp2_with fail
    refine (HP.out _).mono ?_
    rintro e x3 ⟨rfl, hB3⟩
    go_wp2_with fail
    go_ret2
    exact ⟨rfl, bt hL2 hB3⟩
theorem sends_any (q : S4) (w : World) (hq : q.ok) : Calls Try.prog 31 #[vS q] w fun e w' => e = .returned (.tuple #[.int .i64 (endL q), .int .i64 (endH q)]) ∧ Go.RowKit.Below w.heap.size w w' := by
  have h := sends_core q q.right _ _ _ _ w (fun W => sright_any q W hq) (fun W => next_b q.ls q.la W hq.1) (fun W => prev_b q.hs q.ha W hq.2)
  have k1 := q.ky_lo hq
  have k2 := q.ky_hi hq
  unfold Ky at k1 k2
  have e1 : (if q.right = true then nx (key q.ls q.la) else 0) = endL q := by
    unfold endL
    split
    · next hr => have := (sp_of_right q hr).2; exact (nx_in q.lo (by omega)).1
    · rfl
  have e2 : (if q.right = true then pv (key q.hs q.ha) else 0) = endH q := by
    unfold endH
    split
    · next hr => have := (sp_of_right q hr).2; exact (pv_in q.hi (by omega)).1
    · rfl
  rw [e1, e2] at h
  exact h

/-- Of a right span: it is All just where both ends are. -/
theorem all_iff (q : S4) (hq : q.ok) (hr : q.right = true) : (q.ls == -1 && q.la == 0 && (q.hs == 1 && q.ha == 0)) = (decide (q.ls < 0) && decide (0 < q.hs)) := by
  obtain ⟨e, hlt⟩ := sp_of_right q hr
  have a1 : q.ls = sd q.lo := congrArg S4.ls e
  have a2 : q.la = pa q.lo := congrArg S4.la e
  have a3 : q.hs = sd q.hi := congrArg S4.hs e
  have a4 : q.ha = pa q.hi := congrArg S4.ha e
  rw [a1, a2, a3, a4]
  rcases ky_cases q.lo (q.ky_lo hq) with ⟨_, h1, h2⟩ | ⟨_, h1, h2⟩ | ⟨_, _, h1, h2⟩ <;> rcases ky_cases q.hi (q.ky_hi hq) with ⟨_, h3, h4⟩ | ⟨_, h3, h4⟩ | ⟨_, _, h3, h4⟩ <;> rw [h1, h2, h3, h4] <;> simp
theorem cnt_wrap (l h : Int) (hl : I64 l) (hh : I64 h) (h1 : l ≤ h) (h2 : h - l < 18446744073709551615) : IntKind.u64.wrap (IntKind.u64.wrap (IntKind.u64.wrap h - IntKind.u64.wrap l) + 1) = h - l + 1 := by
  unfold I64 at hl hh
  simp only [IntKind.wrap_u64]
  omega

set_option maxRecDepth 100000 in
set_option maxHeartbeats 1000000 in
theorem scount_core (q : S4) (R A : Bool) (x y z : Int) (w : World)
    (HR : Hid (∀ W, Calls Try.prog 28 #[.agg #[.int .i64 q.ls, .int .i64 q.la, .int .i64 q.hs, .int .i64 q.ha]] W fun e w' => e = .returned (.bool R) ∧ Go.RowKit.Below W.heap.size W w'))
    (HA : Hid (∀ W, Calls Try.prog 53 #[] W fun e w' => e = .returned (.agg #[.int .i64 (-1), .int .i64 0, .int .i64 1, .int .i64 0]) ∧ Go.RowKit.Below W.heap.size W w'))
    (e1 : ∀ w, Sem.run Try.prog (binOp .eql 25 (.agg #[.int .i64 q.ls, .int .i64 q.la, .int .i64 q.hs, .int .i64 q.ha]) (.agg #[.int .i64 (-1), .int .i64 0, .int .i64 1, .int .i64 0])) w = .ok (.bool A) w)
    (HE : Hid (∀ W, Calls Try.prog 31 #[.agg #[.int .i64 q.ls, .int .i64 q.la, .int .i64 q.hs, .int .i64 q.ha]] W fun e w' => e = .returned (.tuple #[.int .i64 x, .int .i64 y]) ∧ Go.RowKit.Below W.heap.size W w'))
    (HZ : Hid ((R && !A) = true → IntKind.u64.wrap (IntKind.u64.wrap (IntKind.u64.wrap y - IntKind.u64.wrap x) + 1) = z)) :
    Calls Try.prog 26 #[vS q] w fun e w' => e = .returned (.tuple #[.int .u64 (if (R && !A) = true then z else 0), .bool (R && !A)]) ∧ Go.RowKit.Below w.heap.size w w' := by
  have mx := mixed
  have HB : Hid (Box4 (w.alloc (.cells #[.int .i64 q.ls, .int .i64 q.la, .int .i64 q.hs, .int .i64 q.ha] 25)) w.heap.size q) := heap_alloc_new _ _
  have hL := below_new w (.cells #[.int .i64 q.ls, .int .i64 q.la, .int .i64 q.hs, .int .i64 q.ha] 25)
  cases R with
  | false =>
    go_enter Try.func26, Try.ntmps26
    go_wp2_with fail
    generalize w.alloc (.cells #[.int .i64 q.ls, .int .i64 q.la, .int .i64 q.hs, .int .i64 q.ha] 25) = X at *
    obtain ⟨p1, p2, p3, p4⟩ := HB.out.re
    refine wp_region_quiet_below (by assumption) (by kernel_rfl) ?_
    repeat (go_big_quiet_step (first
      | (go_at_call 28; exact Calls.regrown_of (HR.out _))
      | (go_at_call 53; exact Calls.regrown_of (HA.out _))))
    refine wpQuiet_nil ?_
    intro _ hw'
    obtain ⟨⟨nq, osq⟩, hw''⟩ := hw'
    subst hw''
    have hL2 := bt hL (below_regrown X nq osq)
    go_wp2_with fail
    go_ret2
    exact ⟨rfl, hL2⟩
  | true =>
    cases A with
    | true =>
      go_enter Try.func26, Try.ntmps26
      go_wp2_with fail
      generalize w.alloc (.cells #[.int .i64 q.ls, .int .i64 q.la, .int .i64 q.hs, .int .i64 q.ha] 25) = X at *
      obtain ⟨p1, p2, p3, p4⟩ := HB.out.re
      refine wp_region_quiet_below (by assumption) (by kernel_rfl) ?_
      repeat (go_big_quiet_step (first
        | (go_at_call 28; exact Calls.regrown_of (HR.out _))
        | (go_at_call 53; exact Calls.regrown_of (HA.out _))))
      refine wpQuiet_nil ?_
      intro _ hw'
      obtain ⟨⟨nq, osq⟩, hw''⟩ := hw'
      subst hw''
      have hL2 := bt hL (below_regrown X nq osq)
      go_wp2_with fail
      go_ret2
      exact ⟨rfl, hL2⟩
    | false =>
      go_enter Try.func26, Try.ntmps26
      go_wp2_with fail
      generalize w.alloc (.cells #[.int .i64 q.ls, .int .i64 q.la, .int .i64 q.hs, .int .i64 q.ha] 25) = X at *
      obtain ⟨p1, p2, p3, p4⟩ := HB.out.re
      refine wp_region_quiet_below (by assumption) (by kernel_rfl) ?_
      repeat (go_big_quiet_step (first
        | (go_at_call 28; exact Calls.regrown_of (HR.out _))
        | (go_at_call 53; exact Calls.regrown_of (HA.out _))))
      refine wpQuiet_nil ?_
      intro _ hw'
      obtain ⟨⟨nq, osq⟩, hw''⟩ := hw'
      subst hw''
      have hB2 := below_regrown X nq osq
      have hL2 := bt hL hB2
      have HB2 := Lib.hid (HB.out.on hB2)
      clear p1 p2 p3 p4
      obtain ⟨c1, c2, c3, c4⟩ := HB2.out.cells
      generalize grow (redrawn X nq) osq = Y at *
      go_wp2_with fail
      refine (HE.out _).mono ?_
      rintro e x3 ⟨rfl, hB3⟩
      go_wp2_with fail
      go_ret2
      exact ⟨by rw [HZ.out rfl]; rfl, bt hL2 hB3⟩
theorem scount_any (q : S4) (w : World) (hq : q.ok) : Calls Try.prog 26 #[vS q] w fun e w' => e = .returned (.tuple #[.int .u64 (cntV q), .bool (cntB q)]) ∧ Go.RowKit.Below w.heap.size w w' := by
  obtain ⟨A, hA⟩ : ∃ A, (q.ls == -1 && q.la == 0 && (q.hs == 1 && q.ha == 0)) = A := ⟨_, rfl⟩
  have eB : (q.right && !A) = cntB q := by
    unfold cntB
    rcases hr : q.right with _ | _
    · rfl
    · rw [← hA, all_iff q hq hr]
  have h := scount_core q q.right A (endL q) (endH q) (q.hi - q.lo) w (fun W => sright_any q W hq) (fun W => sall_any W) (fun w => by have := eql_span q ⟨-1, 0, 1, 0⟩ w; rw [hA] at this; exact this) (fun W => sends_any q W hq) (fun hz => by
    rw [eB] at hz
    have hr : q.right = true := by unfold cntB at hz; simp at hz; exact hz.1
    obtain ⟨h1, h2, h3, h4, h5, h6⟩ := cnt_lim q hq hz
    have e1 : endL q = q.lo := by unfold endL; rw [if_pos hr]
    have e2 : endH q = q.hi - 1 := by unfold endH; rw [if_pos hr]
    rw [e1, e2, cnt_wrap q.lo (q.hi - 1) h5 h6 (by omega) (by omega)]
    omega)
  rw [eB] at h
  exact h

end Go.Proofs.Ytkokilbnhhmicaa
