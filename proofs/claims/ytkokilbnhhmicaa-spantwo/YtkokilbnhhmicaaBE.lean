/- A part of the proof: contracts of the functions that the statements reach. -/
import Derived.Test.YtkokilbnhhmicaaRows
import Derived.Test.YtkokilbnhhmicaaBA
import Derived.Test.YtkokilbnhhmicaaBB
import Derived.Test.YtkokilbnhhmicaaBC
import Derived.Test.YtkokilbnhhmicaaBD
import Derived.Deep.RegionHeld3
import Derived.Deep.AppendLies

/- Contracts of the reference's spans: Right, Has. -/
namespace Go.Proofs.Ytkokilbnhhmicaa
open Go.RowKit Go.Sort Go.Proofs.Ytkokilbnhhmicaa.Bo
set_option linter.unusedVariables false

/-- A span's value. -/
abbrev vS (q : S4) : Value := .agg #[.int .i64 q.ls, .int .i64 q.la, .int .i64 q.hs, .int .i64 q.ha]
/-- A block that holds a span. -/
def Box4 (w : World) (b : Nat) (q : S4) : Prop := w.heap[b]? = some (.cells #[.int .i64 q.ls, .int .i64 q.la, .int .i64 q.hs, .int .i64 q.ha] 25 (0, 0))
theorem Box4.on {w w' : World} {b : Nat} {q : S4} (h : Box4 w b q) (hb : Go.RowKit.Below w.heap.size w w') : Box4 w' b q := box_on h hb
theorem Box4.cells {w : World} {b : Nat} {q : S4} (h : Box4 w b q) : w.cell? ⟨b, 0, none⟩ = some (.int .i64 q.ls) ∧ w.cell? ⟨b, 1, none⟩ = some (.int .i64 q.la) ∧ w.cell? ⟨b, 2, none⟩ = some (.int .i64 q.hs) ∧ w.cell? ⟨b, 3, none⟩ = some (.int .i64 q.ha) :=
  ⟨(cell_of_row _ _ 0 _ _ _ h).trans rfl, (cell_of_row _ _ 1 _ _ _ h).trans rfl, (cell_of_row _ _ 2 _ _ _ h).trans rfl, (cell_of_row _ _ 3 _ _ _ h).trans rfl⟩
theorem Box4.free {w : World} {b : Nat} {q : S4} (h : Box4 w b q) (i : Nat) : w.frozen? ⟨b, i, none⟩ = false := frozen_of_row _ _ i _ _ h
theorem Box4.re {w : World} {b : Nat} {q : S4} (h : Box4 w b q) : (∀ d os, (grow (redrawn w d) os).cell? ⟨b, 0, none⟩ = some (.int .i64 q.ls)) ∧ (∀ d os, (grow (redrawn w d) os).cell? ⟨b, 1, none⟩ = some (.int .i64 q.la)) ∧ (∀ d os, (grow (redrawn w d) os).cell? ⟨b, 2, none⟩ = some (.int .i64 q.hs)) ∧ (∀ d os, (grow (redrawn w d) os).cell? ⟨b, 3, none⟩ = some (.int .i64 q.ha)) :=
  ⟨cell_regrown h.cells.1, cell_regrown h.cells.2.1, cell_regrown h.cells.2.2.1, cell_regrown h.cells.2.2.2⟩
theorem eql_by (s a t b : Int) (D : Bool) (h : (s == t && a == b) = D) (w : World) : Sem.run Try.prog (binOp .eql 23 (.agg #[.int .i64 s, .int .i64 a]) (.agg #[.int .i64 t, .int .i64 b])) w = .ok (.bool D) w := by rw [eql_cut, h]

set_option maxRecDepth 100000 in
set_option maxHeartbeats 1000000 in
theorem rright_core (q : S4) (x1 y1 x2 y2 : Int) (B1 B2 D : Bool) (w : World)
    (e1 : ∀ w, Sem.run Try.prog (binOp .eql 23 (.agg #[.int .i64 x1, .int .i64 y1]) (.agg #[.int .i64 q.ls, .int .i64 q.la])) w = .ok (.bool B1) w)
    (e2 : ∀ w, Sem.run Try.prog (binOp .eql 23 (.agg #[.int .i64 x2, .int .i64 y2]) (.agg #[.int .i64 q.hs, .int .i64 q.ha])) w = .ok (.bool B2) w)
    (HC1 : Hid (∀ W, Calls Try.prog 47 #[.agg #[.int .i64 q.ls, .int .i64 q.la]] W fun e w' => e = .returned (.agg #[.int .i64 x1, .int .i64 y1]) ∧ Go.RowKit.Below W.heap.size W w'))
    (HC2 : Hid (∀ W, Calls Try.prog 47 #[.agg #[.int .i64 q.hs, .int .i64 q.ha]] W fun e w' => e = .returned (.agg #[.int .i64 x2, .int .i64 y2]) ∧ Go.RowKit.Below W.heap.size W w'))
    (HL : Hid (∀ W, Calls Try.prog 48 #[.agg #[.int .i64 q.ls, .int .i64 q.la], .agg #[.int .i64 q.hs, .int .i64 q.ha]] W fun e w' => e = .returned (.bool D) ∧ Go.RowKit.Below W.heap.size W w')) :
    Calls Try.prog 12 #[vS q] w fun e w' => e = .returned (.bool (B1 && B2 && D)) ∧ Go.RowKit.Below w.heap.size w w' := by
  have mx := mixed
  have HB : Hid (Box4 (w.alloc (.cells #[.int .i64 q.ls, .int .i64 q.la, .int .i64 q.hs, .int .i64 q.ha] 25)) w.heap.size q) := heap_alloc_new _ _
  have hL := below_new w (.cells #[.int .i64 q.ls, .int .i64 q.la, .int .i64 q.hs, .int .i64 q.ha] 25)
  cases B1 with
  | false =>
    go_enter Try.func12, Try.ntmps12
    go_wp2_with fail
    generalize w.alloc (.cells #[.int .i64 q.ls, .int .i64 q.la, .int .i64 q.hs, .int .i64 q.ha] 25) = X at *
    obtain ⟨p1, p2, p3, p4⟩ := HB.out.re
    refine wp_region_quiet_below (by assumption) (by kernel_rfl) ?_
    repeat (go_big_quiet_step (first
      | (go_at_call 47; with_reducible first | exact Calls.regrown_of (HC1.out _) | exact Calls.regrown_of (HC2.out _))
      | (go_at_call 48; exact Calls.regrown_of (HL.out _))))
    refine wpQuiet_nil ?_
    intro _ hw'
    obtain ⟨⟨nq, osq⟩, hw''⟩ := hw'
    subst hw''
    have hL2 := bt hL (below_regrown X nq osq)
    go_wp2_with fail
    go_ret
    exact ⟨rfl, hL2⟩

  | true =>
    cases B2 with
    | false =>
      go_enter Try.func12, Try.ntmps12
      go_wp2_with fail
      generalize w.alloc (.cells #[.int .i64 q.ls, .int .i64 q.la, .int .i64 q.hs, .int .i64 q.ha] 25) = X at *
      obtain ⟨p1, p2, p3, p4⟩ := HB.out.re
      refine wp_region_quiet_below (by assumption) (by kernel_rfl) ?_
      repeat (go_big_quiet_step (first
        | (go_at_call 47; with_reducible first | exact Calls.regrown_of (HC1.out _) | exact Calls.regrown_of (HC2.out _))
        | (go_at_call 48; exact Calls.regrown_of (HL.out _))))
      refine wpQuiet_nil ?_
      intro _ hw'
      obtain ⟨⟨nq, osq⟩, hw''⟩ := hw'
      subst hw''
      have hL2 := bt hL (below_regrown X nq osq)
      go_wp2_with fail
      go_ret
      exact ⟨rfl, hL2⟩

    | true =>
      go_enter Try.func12, Try.ntmps12
      go_wp2_with fail
      generalize w.alloc (.cells #[.int .i64 q.ls, .int .i64 q.la, .int .i64 q.hs, .int .i64 q.ha] 25) = X at *
      obtain ⟨p1, p2, p3, p4⟩ := HB.out.re
      refine wp_region_quiet_below (by assumption) (by kernel_rfl) ?_
      repeat (go_big_quiet_step (first
        | (go_at_call 47; with_reducible first | exact Calls.regrown_of (HC1.out _) | exact Calls.regrown_of (HC2.out _))
        | (go_at_call 48; exact Calls.regrown_of (HL.out _))))
      refine wpQuiet_nil ?_
      intro _ hw'
      obtain ⟨⟨nq, osq⟩, hw''⟩ := hw'
      subst hw''
      have hL2 := bt hL (below_regrown X nq osq)
      go_wp2_with fail
      go_ret
      refine ⟨?_, hL2⟩
      rw [Bool.and_self, Bool.true_and]
      rfl

theorem rright_any (q : S4) (w : World) (hq : q.ok) : Calls Try.prog 12 #[vS q] w fun e w' => e = .returned (.bool q.right) ∧ Go.RowKit.Below w.heap.size w w' :=
  rright_core q (sd q.lo) (pa q.lo) (sd q.hi) (pa q.hi) q.lowR q.highR (decide (q.lo < q.hi)) w (eql_by _ _ _ _ _ rfl) (eql_by _ _ _ _ _ rfl)
    (fun W => rcanon_any q.ls q.la W hq.1) (fun W => rcanon_any q.hs q.ha W hq.2) (fun W => rless_any q.ls q.la q.hs q.ha W hq.1 hq.2)

set_option maxRecDepth 100000 in
set_option maxHeartbeats 1000000 in
theorem rhas_core (q : S4) (n x y : Int) (R A B : Bool) (w : World)
    (HA : Hid (∀ W, Calls Try.prog 35 #[.int .i64 n] W fun e w' => e = .returned (.agg #[.int .i64 x, .int .i64 y]) ∧ Go.RowKit.Below W.heap.size W w'))
    (HR : Hid (∀ W, Calls Try.prog 12 #[.agg #[.int .i64 q.ls, .int .i64 q.la, .int .i64 q.hs, .int .i64 q.ha]] W fun e w' => e = .returned (.bool R) ∧ Go.RowKit.Below W.heap.size W w'))
    (HL1 : Hid (∀ W, Calls Try.prog 48 #[.agg #[.int .i64 x, .int .i64 y], .agg #[.int .i64 q.ls, .int .i64 q.la]] W fun e w' => e = .returned (.bool (!A)) ∧ Go.RowKit.Below W.heap.size W w'))
    (HL2 : Hid (∀ W, Calls Try.prog 48 #[.agg #[.int .i64 x, .int .i64 y], .agg #[.int .i64 q.hs, .int .i64 q.ha]] W fun e w' => e = .returned (.bool B) ∧ Go.RowKit.Below W.heap.size W w')) :
    Calls Try.prog 30 #[vS q, .int .i64 n] w fun e w' => e = .returned (.bool (R && A && B)) ∧ Go.RowKit.Below w.heap.size w w' := by
  have HB : Hid (Box4 (w.alloc (.cells #[.int .i64 q.ls, .int .i64 q.la, .int .i64 q.hs, .int .i64 q.ha] 25)) w.heap.size q) := heap_alloc_new _ _
  have hL := below_new w (.cells #[.int .i64 q.ls, .int .i64 q.la, .int .i64 q.hs, .int .i64 q.ha] 25)
  cases R with
  | false =>
    go_enter Try.func30, Try.ntmps30
    go_wp2_with fail
    refine (HA.out _).mono ?_
    rintro e x1 ⟨rfl, hB1⟩
    have hB2 := bt hB1 (below_new x1 (.cells #[.int .i64 x, .int .i64 y] 23))
    have HB2 := Lib.hid (HB.out.on hB2)
    have HC2 := Lib.hid (heap_alloc_new x1 (.cells #[.int .i64 x, .int .i64 y] 23))
    have hL2 := bt hL hB2
    obtain ⟨c1, c2, c3, c4⟩ := HB2.out.cells
    clear hB1 hB2 hL HB
    go_wp2_with fail
    generalize x1.alloc (.cells #[.int .i64 x, .int .i64 y] 23) = X at *
    refine (HR.out _).mono ?_
    rintro e x2 ⟨rfl, hB3⟩
    have hL3 := bt hL2 hB3
    have HB3 := Lib.hid (HB2.out.on hB3)
    have HC3 := Lib.hid (box_on HC2.out hB3)
    obtain ⟨d1, d2, d3, d4⟩ := HB3.out.cells
    obtain ⟨d5, d6, _, _⟩ := two_cells HC3.out
    clear hL2 hB3 c1 c2 c3 c4
    go_wp2_with fail
    go_ret
    exact ⟨rfl, hL3⟩

  | true =>
    cases A with
    | false =>
      go_enter Try.func30, Try.ntmps30
      go_wp2_with fail
      refine (HA.out _).mono ?_
      rintro e x1 ⟨rfl, hB1⟩
      have hB2 := bt hB1 (below_new x1 (.cells #[.int .i64 x, .int .i64 y] 23))
      have HB2 := Lib.hid (HB.out.on hB2)
      have HC2 := Lib.hid (heap_alloc_new x1 (.cells #[.int .i64 x, .int .i64 y] 23))
      have hL2 := bt hL hB2
      obtain ⟨c1, c2, c3, c4⟩ := HB2.out.cells
      clear hB1 hB2 hL HB
      go_wp2_with fail
      generalize x1.alloc (.cells #[.int .i64 x, .int .i64 y] 23) = X at *
      refine (HR.out _).mono ?_
      rintro e x2 ⟨rfl, hB3⟩
      have hL3 := bt hL2 hB3
      have HB3 := Lib.hid (HB2.out.on hB3)
      have HC3 := Lib.hid (box_on HC2.out hB3)
      obtain ⟨d1, d2, d3, d4⟩ := HB3.out.cells
      obtain ⟨d5, d6, _, _⟩ := two_cells HC3.out
      clear hL2 hB3 c1 c2 c3 c4
      go_wp2_with fail
      refine (HL1.out _).mono ?_
      rintro e x3 ⟨rfl, hB4⟩
      have hL4 := bt hL3 hB4
      have HB4 := Lib.hid (HB3.out.on hB4)
      have HC4 := Lib.hid (box_on HC3.out hB4)
      clear d1 d2 d3 d4 d5 d6
      obtain ⟨d1, d2, d3, d4⟩ := HB4.out.cells
      obtain ⟨d5, d6, _, _⟩ := two_cells HC4.out
      go_wp2_with fail
      go_ret
      exact ⟨rfl, hL4⟩

    | true =>
      go_enter Try.func30, Try.ntmps30
      go_wp2_with fail
      refine (HA.out _).mono ?_
      rintro e x1 ⟨rfl, hB1⟩
      have hB2 := bt hB1 (below_new x1 (.cells #[.int .i64 x, .int .i64 y] 23))
      have HB2 := Lib.hid (HB.out.on hB2)
      have HC2 := Lib.hid (heap_alloc_new x1 (.cells #[.int .i64 x, .int .i64 y] 23))
      have hL2 := bt hL hB2
      obtain ⟨c1, c2, c3, c4⟩ := HB2.out.cells
      clear hB1 hB2 hL HB
      go_wp2_with fail
      generalize x1.alloc (.cells #[.int .i64 x, .int .i64 y] 23) = X at *
      refine (HR.out _).mono ?_
      rintro e x2 ⟨rfl, hB3⟩
      have hL3 := bt hL2 hB3
      have HB3 := Lib.hid (HB2.out.on hB3)
      have HC3 := Lib.hid (box_on HC2.out hB3)
      obtain ⟨d1, d2, d3, d4⟩ := HB3.out.cells
      obtain ⟨d5, d6, _, _⟩ := two_cells HC3.out
      clear hL2 hB3 c1 c2 c3 c4
      go_wp2_with fail
      refine (HL1.out _).mono ?_
      rintro e x3 ⟨rfl, hB4⟩
      have hL4 := bt hL3 hB4
      have HB4 := Lib.hid (HB3.out.on hB4)
      have HC4 := Lib.hid (box_on HC3.out hB4)
      clear d1 d2 d3 d4 d5 d6
      obtain ⟨d1, d2, d3, d4⟩ := HB4.out.cells
      obtain ⟨d5, d6, _, _⟩ := two_cells HC4.out
      go_wp2_with fail
      refine (HL2.out _).mono ?_
      rintro e x4 ⟨rfl, hB5⟩
      go_wp2_with fail
      go_ret
      refine ⟨?_, bt hL4 hB5⟩
      rw [Bool.and_self, Bool.true_and]
      rfl

theorem rhas_any (q : S4) (n : Int) (w : World) (hq : q.ok) (hn : I64 n) : Calls Try.prog 30 #[vS q, .int .i64 n] w fun e w' => e = .returned (.bool (q.has n)) ∧ Go.RowKit.Below w.heap.size w w' := by
  have hk : Ky n := by unfold I64 at hn; unfold Ky; omega
  have e1 : decide (key (sd n) (pa n) < key q.ls q.la) = !decide (q.lo ≤ n) := by
    rw [key_back n hk]
    show decide (n < q.lo) = _
    by_cases h : q.lo ≤ n
    · rw [decide_eq_true h]; exact decide_eq_false (by omega)
    · rw [decide_eq_false h]; exact decide_eq_true (by omega)
  have e2 : decide (key (sd n) (pa n) < key q.hs q.ha) = decide (n < q.hi) := by rw [key_back n hk]; rfl
  exact rhas_core q n (sd n) (pa n) q.right (decide (q.lo ≤ n)) (decide (n < q.hi)) w (fun W => rahead_any n W hn) (fun W => rright_any q W hq) (fun W => rless_b _ _ _ _ _ e1 (pa_i64 n hk) hq.1 W) (fun W => rless_b _ _ _ _ _ e2 (pa_i64 n hk) hq.2 W)
end Go.Proofs.Ytkokilbnhhmicaa

/- Contracts of the reference's spans: Any, One, Same, Sorted. -/
namespace Go.Proofs.Ytkokilbnhhmicaa
open Go.RowKit Go.Sort Go.Proofs.Ytkokilbnhhmicaa.Bo
set_option linter.unusedVariables false

/-- A span's four cells. -/
def Cells4 (w : World) (b o : Nat) (q : S4) : Prop := w.cell? ⟨b, o, none⟩ = some (.int .i64 q.ls) ∧ w.cell? ⟨b, o + 1, none⟩ = some (.int .i64 q.la) ∧ w.cell? ⟨b, o + 2, none⟩ = some (.int .i64 q.hs) ∧ w.cell? ⟨b, o + 3, none⟩ = some (.int .i64 q.ha)
theorem Cells4.below {w w' : World} {b o : Nat} {q : S4} (h : Cells4 w b o q) (hb : Go.RowKit.Below w.heap.size w w') : Cells4 w' b o q :=
  ⟨(hb.cell (World.block_lt_of_cell? w _ h.1)).trans h.1, (hb.cell (World.block_lt_of_cell? w _ h.2.1)).trans h.2.1, (hb.cell (World.block_lt_of_cell? w _ h.2.2.1)).trans h.2.2.1, (hb.cell (World.block_lt_of_cell? w _ h.2.2.2)).trans h.2.2.2⟩
theorem Cells4.re {w : World} {b o : Nat} {q : S4} (h : Cells4 w b o q) : (∀ d os, (grow (redrawn w d) os).cell? ⟨b, o, none⟩ = some (.int .i64 q.ls)) ∧ (∀ d os, (grow (redrawn w d) os).cell? ⟨b, o + 1, none⟩ = some (.int .i64 q.la)) ∧ (∀ d os, (grow (redrawn w d) os).cell? ⟨b, o + 2, none⟩ = some (.int .i64 q.hs)) ∧ (∀ d os, (grow (redrawn w d) os).cell? ⟨b, o + 3, none⟩ = some (.int .i64 q.ha)) :=
  ⟨cell_regrown h.1, cell_regrown h.2.1, cell_regrown h.2.2.1, cell_regrown h.2.2.2⟩
/-- A slice of spans that holds l. -/
def SRow (w : World) (a : Option Addr) (l : List S4) : Prop := 0 < l.length → ∃ b off, a = some ⟨b, off, none⟩ ∧ ∀ (j : Nat) (h : j < l.length), Cells4 w b (off + j * 4) l[j]
theorem SRow.below {w w' : World} {a : Option Addr} {l : List S4} (h : SRow w a l) (hb : Go.RowKit.Below w.heap.size w w') : SRow w' a l := by
  intro hp
  obtain ⟨b, off, e, hc⟩ := h hp
  exact ⟨b, off, e, fun j hj => (hc j hj).below hb⟩

set_option maxRecDepth 100000 in
set_option maxHeartbeats 1000000 in
theorem rany_any (a : Option Addr) (cap : Nat) (l : List S4) (n : Int) (w : World) (hz : ∀ q ∈ l, q.ok) (hn : I64 n) (hr : SRow w a l) (hl : l.length ≤ 100000) :
    Calls Try.prog 42 #[.slice a l.length cap, .int .i64 n] w fun e w' => e = .returned (.bool (l.any fun q => q.has n)) ∧ Go.RowKit.Below w.heap.size w w' := by
  have HR := Lib.hid hr
  have HZ := Lib.hid hz
  have HN := Lib.hid hn
  clear hr hz hn
  obtain ⟨D, hD⟩ : ∃ D, (l.any fun q => q.has n) = D := ⟨_, rfl⟩
  rw [hD]
  have HD := Lib.hid hD
  clear hD
  go_enter Try.func42, Try.ntmps42
  go_wp2_with fail
  go_loopw [5] (fun i wr => ∃ j : Nat, i = .int .i64 (j : Int) ∧ j ≤ l.length ∧ (l.take j).any (fun q => q.has n) = false ∧ Go.RowKit.Below w.heap.size w wr) (fun i _ => l.length - (intOf i).toNat)
  case atStart => exact ⟨0, rfl, Nat.zero_le _, rfl, Go.RowKit.Below.refl _ _⟩
  case round =>
    obtain ⟨j, rfl, hj, hno, hBr⟩ := hrel
    have HNO := Lib.hid hno
    clear hno
    by_cases hlt : j < l.length
    · obtain ⟨b, off, rfl, hcell⟩ := (HR.out.below hBr) (by omega)
      obtain ⟨c1, c2, c3, c4⟩ := hcell j hlt
      have HH := Lib.hid (fun W => rhas_any l[j] n W (HZ.out _ (List.getElem_mem hlt)) HN.out)
      have HTK : Hid ((l.take (j + 1)).any (fun q => q.has n) = ((l.take j).any (fun q => q.has n) || l[j].has n)) := by
        show _ = _
        rw [List.take_succ_eq_append_getElem hlt, List.any_append]
        simp
      have HMEM : Hid (l[j].has n = true → D = true) := by
        intro h
        rw [← HD.out]
        exact List.any_eq_true.2 ⟨_, List.getElem_mem hlt, h⟩
      clear hcell
      generalize l[j] = q at *
      obtain ⟨E, hE⟩ : ∃ E, E = q.has n := ⟨_, rfl⟩
      rw [← hE] at HH HTK HMEM
      clear hE
      cases E with
      | true =>
        go_wp2_with fail
        refine (HH.out _).mono ?_
        rintro e x1 ⟨rfl, hB1⟩
        go_wp2_with fail
        go_ret
        exact ⟨ret_bool (HMEM.out (by trivial)).symm, bt hBr hB1⟩
      | false =>
        go_wp2_with fail
        refine (HH.out _).mono ?_
        rintro e x1 ⟨rfl, hB1⟩
        clear c1 c2 c3 c4
        go_wp2_with fail
        go_roundw
        case rel => exact ⟨j + 1, by go_num, by omega, by rw [HTK.out, HNO.out]; rfl, bt hBr hB1⟩
        case measure => simp [intOf]; omega
    · obtain rfl : j = l.length := by omega
      have HF : Hid (D = false) := by rw [← HD.out]; have := HNO.out; rwa [List.take_length] at this
      go_wp2_with fail
      go_ret
      exact ⟨ret_bool HF.out.symm, hBr⟩

theorem one_any (q : S4) (w : World) :
    Calls Try.prog 10 #[vS q] w fun e w' => (∃ a, e = .returned (.slice a 1 1) ∧ SRow w' a [q]) ∧ Go.RowKit.Below w.heap.size w w' := by
  go_enter Try.func10, Try.ntmps10
  go_wp2_with fail
  go_ret
  refine ⟨⟨_, rfl, fun _ => ⟨w.heap.size + 1, 0, rfl, fun j hj => ?_⟩⟩, bt (below_new w _) (below_new _ _)⟩
  have hj0 : j = 0 := by simp at hj; omega
  subst hj0
  have h : Box4 ((w.alloc (.cells #[.int .i64 q.ls, .int .i64 q.la, .int .i64 q.hs, .int .i64 q.ha] 25)).alloc (.cells #[.int .i64 q.ls, .int .i64 q.la, .int .i64 q.hs, .int .i64 q.ha] 25)) (w.heap.size + 1) q := heap_alloc2_new _ _ _
  exact h.cells

theorem eqIn_cut (s a t b : Int) (w : World) : (Op.equalIn 9999 23 (.agg #[.int .i64 s, .int .i64 a]) (.agg #[.int .i64 t, .int .i64 b])).run Try.prog w = .ok (s == t && a == b) w := by
  have hS : Try.prog.underlying 23 = some (.struct (Try.prog.fieldsOf 23)) := by kernel_rfl
  have hp : Try.prog.stoodInHeld 23 = false := by kernel_rfl
  have u3 := Try.underlying3
  have u2 := Try.underlying2
  rw [show (9999 : Nat) = 9998 + 1 from rfl, run_equalIn_agg w 9998 23 _ _ hS hp]
  simp only [Program.fieldsOf, Try.underlying23]
  go_simp
  by_cases h1 : s = t <;> by_cases h2 : a = b <;> simp [h1, h2]
theorem part_low (a b c d : Value) (w : World) : (part 23 #[a, b, c, d] 0).run Try.prog w = .ok (.agg #[a, b]) w := by
  have h1 := Try.isAgg23
  have h2 := Try.sizeOf23
  unfold part
  simp [Sem.run_bind, h1, h2, Result.andThen]
theorem part_high (a b c d : Value) (w : World) : (part 23 #[a, b, c, d] 2).run Try.prog w = .ok (.agg #[c, d]) w := by
  have h1 := Try.isAgg23
  have h2 := Try.sizeOf23
  unfold part
  simp [Sem.run_bind, h1, h2, Result.andThen]
theorem eqSpan_run (q r : S4) (w : World) : (Op.equalIn 10000 25 (.agg #[.int .i64 q.ls, .int .i64 q.la, .int .i64 q.hs, .int .i64 q.ha]) (.agg #[.int .i64 r.ls, .int .i64 r.la, .int .i64 r.hs, .int .i64 r.ha])).run Try.prog w = .ok (q.ls == r.ls && q.la == r.la && (q.hs == r.hs && q.ha == r.ha)) w := by
  have hS : Try.prog.underlying 25 = some (.struct (Try.prog.fieldsOf 25)) := by kernel_rfl
  have hp : Try.prog.stoodInHeld 25 = false := by kernel_rfl
  have h1 := eqIn_cut
  rw [show (10000 : Nat) = 9999 + 1 from rfl, run_equalIn_agg w 9999 25 _ _ hS hp]
  simp only [Program.fieldsOf, Try.underlying25]
  generalize 9999 = N at *
  simp [Op.eqFields, Sem.run_bind, part_low, part_high, h1, Result.andThen]
  by_cases a1 : q.ls = r.ls <;> by_cases a2 : q.la = r.la <;> by_cases a3 : q.hs = r.hs <;> by_cases a4 : q.ha = r.ha <;> simp [a1, a2, a3, a4]
theorem eql_span (q r : S4) (w : World) : Sem.run Try.prog (binOp .eql 25 (.agg #[.int .i64 q.ls, .int .i64 q.la, .int .i64 q.hs, .int .i64 q.ha]) (.agg #[.int .i64 r.ls, .int .i64 r.la, .int .i64 r.hs, .int .i64 r.ha])) w = .ok (.bool (q.ls == r.ls && q.la == r.la && (q.hs == r.hs && q.ha == r.ha))) w := by
  rw [run_eql_struct, eqSpan_run]; rfl
theorem neq_span (q r : S4) (w : World) : Sem.run Try.prog (binOp .neq 25 (.agg #[.int .i64 q.ls, .int .i64 q.la, .int .i64 q.hs, .int .i64 q.ha]) (.agg #[.int .i64 r.ls, .int .i64 r.la, .int .i64 r.hs, .int .i64 r.ha])) w = .ok (.bool (!(q.ls == r.ls && q.la == r.la && (q.hs == r.hs && q.ha == r.ha)))) w := by
  rw [run_neq_struct, eqSpan_run]; rfl
/-- A span is itself. -/
theorem neq_self (q : S4) (w : World) : Sem.run Try.prog (binOp .neq 25 (.agg #[.int .i64 q.ls, .int .i64 q.la, .int .i64 q.hs, .int .i64 q.ha]) (.agg #[.int .i64 q.ls, .int .i64 q.la, .int .i64 q.hs, .int .i64 q.ha])) w = .ok (.bool false) w := by
  rw [neq_span]; simp

set_option maxRecDepth 100000 in
set_option maxHeartbeats 4000000 in
theorem rsame_any (a a2 : Option Addr) (cap cap2 : Nat) (l : List S4) (w : World) (h1 : SRow w a l) (h2 : SRow w a2 l) (hl : l.length ≤ 100000) :
    Calls Try.prog 22 #[.slice a l.length cap, .slice a2 l.length cap2] w fun e w' => e = .returned (.bool true) ∧ Go.RowKit.Below w.heap.size w w' := by
  have mx := mixed
  have H1 := Lib.hid h1
  have H2 := Lib.hid h2
  clear h1 h2
  have tl : ((l.length : Int) != (l.length : Int)) = false := by simp
  go_enter Try.func22, Try.ntmps22
  go_wp2_with fail
  go_loopw [5] (fun i wr => ∃ j : Nat, i = .int .i64 (j : Int) ∧ j ≤ l.length ∧ Go.RowKit.Below w.heap.size w wr) (fun i _ => l.length - (intOf i).toNat)
  case atStart => exact ⟨0, rfl, Nat.zero_le _, Go.RowKit.Below.refl _ _⟩
  case round =>
    obtain ⟨j, rfl, hj, hBr⟩ := hrel
    by_cases hlt : j < l.length
    · obtain ⟨b, off, rfl, hc⟩ := (H1.out.below hBr) (by omega)
      obtain ⟨b2, off2, rfl, hd⟩ := (H2.out.below hBr) (by omega)
      obtain ⟨p1, p2, p3, p4⟩ := (hc j hlt).re
      obtain ⟨p5, p6, p7, p8⟩ := (hd j hlt).re
      clear hc hd
      have nes := neq_self l[j]
      generalize l[j] = q at *
      have ti0 : (0 : Int) ≤ (j : Int) := by omega
      have ti1 : (j : Int) < (l.length : Int) := by omega
      go_wp2_with fail
      refine wp_region_quiet_below (by assumption) (by kernel_rfl) ?_
      repeat (go_big_quiet_step (fail))
      refine wpQuiet_nil ?_
      intro _ hw'
      obtain ⟨⟨nq, osq⟩, hw''⟩ := hw'
      subst hw''
      have hBn := bt hBr (below_regrown wr nq osq)
      clear p1 p2 p3 p4 p5 p6 p7 p8
      go_wp2_with fail
      go_roundw
      case rel => exact ⟨j + 1, by go_num, by omega, hBn⟩
      case measure => simp [intOf]; omega
    · obtain rfl : j = l.length := by omega
      go_wp2_with fail
      go_ret
      exact ⟨rfl, hBr⟩

/-- Is each right, and behind the one ahead? -/
def okAt (l : List S4) (j : Nat) (h : j < l.length) : Bool := l[j].right && (if hj : 0 < j then !decide (l[j].lo < (l[j - 1]'(by omega)).hi) else true)
/-- All of a row's are as they must be. -/
def sortedL (l : List S4) : Prop := ∀ j (h : j < l.length), okAt l j h = true

set_option maxRecDepth 100000 in
set_option maxHeartbeats 4000000 in
theorem rsorted_any (a : Option Addr) (cap : Nat) (l : List S4) (D : Bool) (hD : D = true ↔ sortedL l) (w : World) (hz : ∀ q ∈ l, q.ok) (hr : SRow w a l) (hl : l.length ≤ 100000) :
    Calls Try.prog 41 #[.slice a l.length cap] w fun e w' => e = .returned (.bool D) ∧ Go.RowKit.Below w.heap.size w w' := by
  have mx := mixed
  have HR := Lib.hid hr
  have HZ := Lib.hid hz
  have HD := Lib.hid hD
  clear hr hz hD
  go_enter Try.func41, Try.ntmps41
  go_wp2_with fail
  go_loopw [3] (fun i wr => ∃ j : Nat, i = .int .i64 (j : Int) ∧ j ≤ l.length ∧ (∀ k (hk : k < l.length), k < j → okAt l k hk = true) ∧ Go.RowKit.Below w.heap.size w wr) (fun i _ => l.length - (intOf i).toNat)
  case atStart => exact ⟨0, rfl, Nat.zero_le _, fun k _ h => absurd h (Nat.not_lt_zero _), Go.RowKit.Below.refl _ _⟩
  case round =>
    obtain ⟨j, rfl, hj, hall, hBr⟩ := hrel
    have HALL := Lib.hid hall
    clear hall
    by_cases hlt : j < l.length
    · obtain ⟨b, off, rfl, hc⟩ := (HR.out.below hBr) (by omega)
      obtain ⟨p1, p2, p3, p4⟩ := (hc j hlt).re
      have HBADJ : Hid (okAt l j hlt = false → D = false) := by
        intro h
        rcases hq : D with _ | _
        · rfl
        · have := HD.out.1 hq j hlt; rw [h] at this; cases this
      have HGO : Hid (okAt l j hlt = true → ∀ k (hk : k < l.length), k < j + 1 → okAt l k hk = true) := by
        intro h k hk hkj
        rcases Nat.lt_or_ge k j with h1 | h1
        · exact HALL.out k hk h1
        · have : k = j := by omega
          subst this; exact h
      have HOK : Hid (l[j].ok) := HZ.out _ (List.getElem_mem hlt)
      have HRT := Lib.hid (fun W => rright_any l[j] W HOK.out)
      have ti0 : (0 : Int) ≤ (j : Int) := by omega
      have ti1 : (j : Int) < (l.length : Int) := by omega
      by_cases hj0 : 0 < j
      · obtain ⟨k, rfl⟩ : ∃ k, j = k + 1 := ⟨j - 1, by omega⟩
        obtain ⟨p5, p6, p7, p8⟩ := (hc k (by omega)).re
        have HOK2 : Hid ((l[k]'(by omega)).ok) := HZ.out _ (List.getElem_mem _)
        have HOA : Hid (okAt l (k + 1) hlt = (l[k + 1].right && !decide (l[k + 1].lo < (l[k]'(by omega)).hi))) := by
          show _ = _
          unfold okAt; rw [dif_pos (by omega)]; rfl
        have HLS := Lib.hid (fun W => rless_any l[k + 1].ls l[k + 1].la (l[k]'(by omega)).hs (l[k]'(by omega)).ha W HOK.out.1 HOK2.out.2)
        rw [show decide (key l[k + 1].ls l[k + 1].la < key (l[k]'(by omega)).hs (l[k]'(by omega)).ha) = decide (l[k + 1].lo < (l[k]'(by omega)).hi) from rfl] at HLS
        clear hc
        generalize decide (l[k + 1].lo < (l[k]'(by omega)).hi) = L at *
        generalize l[k + 1].right = R at *
        have tk : (0 : Int) ≤ (k : Int) := by omega
        generalize l[k]'(by omega) = q2 at *
        generalize l[k + 1] = q at *
        cases R with
        | false =>
          have HBAD : Hid (D = false) := HBADJ.out (by rw [HOA.out]; rfl)
          go_wp2_with fail
          refine wp_region_quiet_below (by assumption) (by kernel_rfl) ?_
          repeat (go_big_quiet_step (first | (go_at_call 12; exact Calls.regrown_of (HRT.out _)) | (go_at_call 48; exact Calls.regrown_of (HLS.out _))))
          refine wpQuiet_nil ?_
          intro _ hw'
          obtain ⟨⟨nq, osq⟩, hw''⟩ := hw'
          subst hw''
          have hBn := bt hBr (below_regrown wr nq osq)
          clear p1 p2 p3 p4 p5 p6 p7 p8
          go_wp2_with fail
          go_ret
          exact ⟨ret_bool (HBAD.out).symm, hBn⟩
        | true =>
          cases L with
          | true =>
            have HBAD : Hid (D = false) := HBADJ.out (by rw [HOA.out]; rfl)
            go_wp2_with fail
            refine wp_region_quiet_below (by assumption) (by kernel_rfl) ?_
            repeat (go_big_quiet_step (first | (go_at_call 12; exact Calls.regrown_of (HRT.out _)) | (go_at_call 48; exact Calls.regrown_of (HLS.out _))))
            refine wpQuiet_nil ?_
            intro _ hw'
            obtain ⟨⟨nq, osq⟩, hw''⟩ := hw'
            subst hw''
            have hBn := bt hBr (below_regrown wr nq osq)
            clear p1 p2 p3 p4 p5 p6 p7 p8
            go_wp2_with fail
            go_ret
            exact ⟨ret_bool (HBAD.out).symm, hBn⟩
          | false =>
            have HGOOD := Lib.hid (HGO.out (by rw [HOA.out]; rfl))
            go_wp2_with fail
            refine wp_region_quiet_below (by assumption) (by kernel_rfl) ?_
            repeat (go_big_quiet_step (first | (go_at_call 12; exact Calls.regrown_of (HRT.out _)) | (go_at_call 48; exact Calls.regrown_of (HLS.out _))))
            refine wpQuiet_nil ?_
            intro _ hw'
            obtain ⟨⟨nq, osq⟩, hw''⟩ := hw'
            subst hw''
            have hBn := bt hBr (below_regrown wr nq osq)
            clear p1 p2 p3 p4 p5 p6 p7 p8
            go_wp2_with fail
            go_roundw
            case rel => exact ⟨k + 1 + 1, by go_num, by omega, HGOOD.out, hBn⟩
            case measure => simp [intOf]; omega
      · obtain rfl : j = 0 := by omega
        simp only [Nat.zero_mul, Nat.add_zero] at p1 p2 p3 p4
        have HOA : Hid (okAt l 0 hlt = l[0].right) := by
          show _ = _
          unfold okAt; rw [dif_neg (by omega)]; simp
        clear hc
        generalize l[0].right = R at *
        generalize l[0] = q at *
        cases R with
        | false =>
          have HBAD : Hid (D = false) := HBADJ.out (by rw [HOA.out])
          go_wp2_with fail
          refine wp_region_quiet_below (by assumption) (by kernel_rfl) ?_
          repeat (go_big_quiet_step (first | (go_at_call 12; exact Calls.regrown_of (HRT.out _))))
          refine wpQuiet_nil ?_
          intro _ hw'
          obtain ⟨⟨nq, osq⟩, hw''⟩ := hw'
          subst hw''
          have hBn := bt hBr (below_regrown wr nq osq)
          clear p1 p2 p3 p4
          go_wp2_with fail
          go_ret
          exact ⟨ret_bool (HBAD.out).symm, hBn⟩
        | true =>
          have HGOOD := Lib.hid (HGO.out (by rw [HOA.out]))
          go_wp2_with fail
          refine wp_region_quiet_below (by assumption) (by kernel_rfl) ?_
          repeat (go_big_quiet_step (first | (go_at_call 12; exact Calls.regrown_of (HRT.out _))))
          refine wpQuiet_nil ?_
          intro _ hw'
          obtain ⟨⟨nq, osq⟩, hw''⟩ := hw'
          subst hw''
          have hBn := bt hBr (below_regrown wr nq osq)
          clear p1 p2 p3 p4
          go_wp2_with fail
          go_roundw
          case rel => exact ⟨0 + 1, by go_num, by omega, HGOOD.out, hBn⟩
          case measure => simp [intOf]; omega
    · obtain rfl : j = l.length := by omega
      have HF : Hid (D = true) := HD.out.2 fun k hk => HALL.out k hk hk
      go_wp2_with fail
      go_ret
      exact ⟨ret_bool HF.out.symm, hBr⟩
end Go.Proofs.Ytkokilbnhhmicaa

/- Contracts of package span's small functions: ahead, Right, bothRight, Holds, Overlap, Touch, Compare. -/
namespace Go.Proofs.Ytkokilbnhhmicaa
open Go.RowKit Go.Sort Go.Proofs.Ytkokilbnhhmicaa.Bo
set_option linter.unusedVariables false

theorem sahead_any (s a t b : Int) (w : World) (ha : I64 a) (hb : I64 b) : Calls Try.prog 50 #[.agg #[.int .i64 s, .int .i64 a], .agg #[.int .i64 t, .int .i64 b]] w fun e w' => e = .returned (.bool (decide (key s a < key t b))) ∧ Go.RowKit.Below w.heap.size w w' := by
  obtain ⟨v, hv⟩ : ∃ v, kcmp (key s a) (key t b) = v := ⟨_, rfl⟩
  have HC := Lib.hid (fun W => compare_b s a t b v hv ha hb W)
  have hD : decide (v < 0) = decide (key s a < key t b) := by
    rw [← hv]; unfold kcmp
    by_cases h : key s a < key t b
    · simp [h]
    · rw [if_neg h]; split <;> simp [h]
  have HD := Lib.hid hD
  generalize decide (key s a < key t b) = D at *
  clear hv
  have hL := bt (below_new w (.cells #[.int .i64 s, .int .i64 a] 23)) (below_new _ (.cells #[.int .i64 t, .int .i64 b] 23))
  go_enter Try.func50, Try.ntmps50
  go_wp2_with fail
  refine (HC.out _).mono ?_
  rintro e x1 ⟨rfl, hB1⟩
  clear hD
  go_wp2_with fail
  go_ret
  exact ⟨by rw [HD.out]; rfl, bt hL hB1⟩

theorem right_b (s a : Int) (B : Bool) (h : (sd (key s a) == s && pa (key s a) == a) = B) (ha : I64 a) (w : World) : Calls Try.prog 59 #[.agg #[.int .i64 s, .int .i64 a]] w fun e w' => e = .returned (.bool B) ∧ Go.RowKit.Below w.heap.size w w' := by
  have e : (s == sd (key s a) && a == pa (key s a)) = B := by rw [← h, BEq.comm (a := s), BEq.comm (a := a)]
  exact (right_any s a w ha).mono fun _ _ h => ⟨by rw [h.1, e], h.2.1⟩

set_option maxRecDepth 100000 in
set_option maxHeartbeats 1000000 in
theorem sright_core (q : S4) (B1 B2 D : Bool) (w : World)
    (HR1 : Hid (∀ W, Calls Try.prog 59 #[.agg #[.int .i64 q.ls, .int .i64 q.la]] W fun e w' => e = .returned (.bool B1) ∧ Go.RowKit.Below W.heap.size W w'))
    (HR2 : Hid (∀ W, Calls Try.prog 59 #[.agg #[.int .i64 q.hs, .int .i64 q.ha]] W fun e w' => e = .returned (.bool B2) ∧ Go.RowKit.Below W.heap.size W w'))
    (HA : Hid (∀ W, Calls Try.prog 50 #[.agg #[.int .i64 q.ls, .int .i64 q.la], .agg #[.int .i64 q.hs, .int .i64 q.ha]] W fun e w' => e = .returned (.bool D) ∧ Go.RowKit.Below W.heap.size W w')) :
    Calls Try.prog 28 #[vS q] w fun e w' => e = .returned (.bool (B1 && B2 && D)) ∧ Go.RowKit.Below w.heap.size w w' := by
  have HB : Hid (Box4 (w.alloc (.cells #[.int .i64 q.ls, .int .i64 q.la, .int .i64 q.hs, .int .i64 q.ha] 25)) w.heap.size q) := heap_alloc_new _ _
  have hL := below_new w (.cells #[.int .i64 q.ls, .int .i64 q.la, .int .i64 q.hs, .int .i64 q.ha] 25)
  go_enter Try.func28, Try.ntmps28
  go_wp2_with fail
  refine (HR1.out _).mono ?_
  rintro e x1 ⟨rfl, hB1⟩
  have hL1 := bt hL hB1
  have HB1 := Lib.hid (HB.out.on hB1)
  obtain ⟨c1, c2, c3, c4⟩ := HB1.out.cells
  clear hB1 hL
  cases B1 with
  | false =>
    go_wp2_with fail
    go_ret
    exact ⟨rfl, hL1⟩
  | true =>
    go_wp2_with fail
    refine (HR2.out _).mono ?_
    rintro e x2 ⟨rfl, hB2⟩
    have hL2 := bt hL1 hB2
    have HB2 := Lib.hid (HB1.out.on hB2)
    clear c1 c2 c3 c4 hB2 hL1
    obtain ⟨c1, c2, c3, c4⟩ := HB2.out.cells
    cases B2 with
    | false =>
      go_wp2_with fail
      go_ret
      exact ⟨rfl, hL2⟩
    | true =>
      go_wp2_with fail
      refine (HA.out _).mono ?_
      rintro e x3 ⟨rfl, hB3⟩
      go_wp2_with fail
      go_ret
      exact ⟨by simp, bt hL2 hB3⟩
theorem sright_any (q : S4) (w : World) (hq : q.ok) : Calls Try.prog 28 #[vS q] w fun e w' => e = .returned (.bool q.right) ∧ Go.RowKit.Below w.heap.size w w' :=
  sright_core q q.lowR q.highR (decide (q.lo < q.hi)) w (fun W => right_b _ _ _ rfl hq.1 W) (fun W => right_b _ _ _ rfl hq.2 W) (fun W => sahead_any _ _ _ _ W hq.1 hq.2)

/-- Two spans in blocks side by side. -/
def Pair4 (b : Nat) (q r : S4) (w : World) : Prop := Box4 w b q ∧ Box4 w (b + 1) r
theorem Pair4.on {b : Nat} {q r : S4} {w w' : World} (h : Pair4 b q r w) (hb : Go.RowKit.Below w.heap.size w w') : Pair4 b q r w' := ⟨h.1.on hb, h.2.on hb⟩
theorem Pair4.cells {b : Nat} {q r : S4} {w : World} (h : Pair4 b q r w) : w.cell? ⟨b, 0, none⟩ = some (.int .i64 q.ls) ∧ w.cell? ⟨b, 1, none⟩ = some (.int .i64 q.la) ∧ w.cell? ⟨b, 2, none⟩ = some (.int .i64 q.hs) ∧ w.cell? ⟨b, 3, none⟩ = some (.int .i64 q.ha) ∧
    w.cell? ⟨b + 1, 0, none⟩ = some (.int .i64 r.ls) ∧ w.cell? ⟨b + 1, 1, none⟩ = some (.int .i64 r.la) ∧ w.cell? ⟨b + 1, 2, none⟩ = some (.int .i64 r.hs) ∧ w.cell? ⟨b + 1, 3, none⟩ = some (.int .i64 r.ha) :=
  ⟨h.1.cells.1, h.1.cells.2.1, h.1.cells.2.2.1, h.1.cells.2.2.2, h.2.cells.1, h.2.cells.2.1, h.2.cells.2.2.1, h.2.cells.2.2.2⟩
theorem Pair4.new (w : World) (q r : S4) : Pair4 w.heap.size q r ((w.alloc (.cells #[.int .i64 q.ls, .int .i64 q.la, .int .i64 q.hs, .int .i64 q.ha] 25)).alloc (.cells #[.int .i64 r.ls, .int .i64 r.la, .int .i64 r.hs, .int .i64 r.ha] 25)) := ⟨heap_alloc2_old _ _ _, heap_alloc2_new _ _ _⟩

set_option maxRecDepth 100000 in
set_option maxHeartbeats 1000000 in
theorem sboth_core (q r : S4) (B1 B2 : Bool) (w : World)
    (HR1 : Hid (∀ W, Calls Try.prog 28 #[.agg #[.int .i64 q.ls, .int .i64 q.la, .int .i64 q.hs, .int .i64 q.ha]] W fun e w' => e = .returned (.bool B1) ∧ Go.RowKit.Below W.heap.size W w'))
    (HR2 : Hid (∀ W, Calls Try.prog 28 #[.agg #[.int .i64 r.ls, .int .i64 r.la, .int .i64 r.hs, .int .i64 r.ha]] W fun e w' => e = .returned (.bool B2) ∧ Go.RowKit.Below W.heap.size W w')) :
    Calls Try.prog 49 #[vS q, vS r] w fun e w' => e = .returned (.bool (B1 && B2)) ∧ Go.RowKit.Below w.heap.size w w' := by
  have HB := Lib.hid (Pair4.new w q r)
  have hL := bt (below_new w (.cells #[.int .i64 q.ls, .int .i64 q.la, .int .i64 q.hs, .int .i64 q.ha] 25)) (below_new _ (.cells #[.int .i64 r.ls, .int .i64 r.la, .int .i64 r.hs, .int .i64 r.ha] 25))
  go_enter Try.func49, Try.ntmps49
  go_wp2_with fail
  refine (HR1.out _).mono ?_
  rintro e x1 ⟨rfl, hB1⟩
  have hL1 := bt hL hB1
  obtain ⟨c1, c2, c3, c4, c5, c6, c7, c8⟩ := (HB.out.on hB1).cells
  clear hB1 hL
  cases B1 with
  | false =>
    go_wp2_with fail
    go_ret
    exact ⟨rfl, hL1⟩
  | true =>
    go_wp2_with fail
    refine (HR2.out _).mono ?_
    rintro e x2 ⟨rfl, hB2⟩
    go_wp2_with fail
    go_ret
    exact ⟨by simp, bt hL1 hB2⟩
theorem sboth_any (q r : S4) (w : World) (hq : q.ok) (hr : r.ok) : Calls Try.prog 49 #[vS q, vS r] w fun e w' => e = .returned (.bool (q.right && r.right)) ∧ Go.RowKit.Below w.heap.size w w' :=
  sboth_core q r _ _ w (fun W => sright_any q W hq) (fun W => sright_any r W hr)

set_option maxRecDepth 100000 in
set_option maxHeartbeats 1000000 in
theorem sholds_core (q r : S4) (R A B : Bool) (w : World)
    (HR : Hid (∀ W, Calls Try.prog 49 #[.agg #[.int .i64 q.ls, .int .i64 q.la, .int .i64 q.hs, .int .i64 q.ha], .agg #[.int .i64 r.ls, .int .i64 r.la, .int .i64 r.hs, .int .i64 r.ha]] W fun e w' => e = .returned (.bool R) ∧ Go.RowKit.Below W.heap.size W w'))
    (HA : Hid (∀ W, Calls Try.prog 50 #[.agg #[.int .i64 r.ls, .int .i64 r.la], .agg #[.int .i64 q.ls, .int .i64 q.la]] W fun e w' => e = .returned (.bool (!A)) ∧ Go.RowKit.Below W.heap.size W w'))
    (HC : Hid (∀ W, Calls Try.prog 50 #[.agg #[.int .i64 q.hs, .int .i64 q.ha], .agg #[.int .i64 r.hs, .int .i64 r.ha]] W fun e w' => e = .returned (.bool (!B)) ∧ Go.RowKit.Below W.heap.size W w')) :
    Calls Try.prog 19 #[vS q, vS r] w fun e w' => e = .returned (.bool (R && A && B)) ∧ Go.RowKit.Below w.heap.size w w' := by
  have HB := Lib.hid (Pair4.new w q r)
  have hL := bt (below_new w (.cells #[.int .i64 q.ls, .int .i64 q.la, .int .i64 q.hs, .int .i64 q.ha] 25)) (below_new _ (.cells #[.int .i64 r.ls, .int .i64 r.la, .int .i64 r.hs, .int .i64 r.ha] 25))
  go_enter Try.func19, Try.ntmps19
  go_wp2_with fail
  refine (HR.out _).mono ?_
  rintro e x1 ⟨rfl, hB1⟩
  have hL1 := bt hL hB1
  have HB1 := Lib.hid (HB.out.on hB1)
  obtain ⟨c1, c2, c3, c4, c5, c6, c7, c8⟩ := HB1.out.cells
  clear hB1 hL
  cases R with
  | false =>
    go_wp2_with fail
    go_ret
    exact ⟨rfl, hL1⟩
  | true =>
    go_wp2_with fail
    refine (HA.out _).mono ?_
    rintro e x2 ⟨rfl, hB2⟩
    have hL2 := bt hL1 hB2
    have HB2 := Lib.hid (HB1.out.on hB2)
    clear c1 c2 c3 c4 c5 c6 c7 c8 hB2 hL1
    obtain ⟨c1, c2, c3, c4, c5, c6, c7, c8⟩ := HB2.out.cells
    cases A with
    | false =>
      go_wp2_with fail
      go_ret
      exact ⟨rfl, hL2⟩
    | true =>
      go_wp2_with fail
      refine (HC.out _).mono ?_
      rintro e x3 ⟨rfl, hB3⟩
      go_wp2_with fail
      go_ret
      exact ⟨by simp, bt hL2 hB3⟩
theorem sahead_n (s a t b : Int) (A : Bool) (h : decide (key t b ≤ key s a) = A) (w : World) (ha : I64 a) (hb : I64 b) : Calls Try.prog 50 #[.agg #[.int .i64 s, .int .i64 a], .agg #[.int .i64 t, .int .i64 b]] w fun e w' => e = .returned (.bool (!A)) ∧ Go.RowKit.Below w.heap.size w w' := by
  have e : decide (key s a < key t b) = !A := by
    rw [← h]
    by_cases g : key t b ≤ key s a
    · rw [decide_eq_true g]; exact decide_eq_false (by omega)
    · rw [decide_eq_false g]; exact decide_eq_true (by omega)
  rw [← e]; exact sahead_any s a t b w ha hb
theorem sholds_any (q r : S4) (w : World) (hq : q.ok) (hr : r.ok) : Calls Try.prog 19 #[vS q, vS r] w fun e w' => e = .returned (.bool (q.right && r.right && decide (q.lo ≤ r.lo) && decide (r.hi ≤ q.hi))) ∧ Go.RowKit.Below w.heap.size w w' :=
  sholds_core q r _ _ _ w (fun W => sboth_any q r W hq hr) (fun W => sahead_n _ _ _ _ _ rfl W hr.1 hq.1) (fun W => sahead_n _ _ _ _ _ rfl W hq.2 hr.2)

set_option maxRecDepth 100000 in
set_option maxHeartbeats 1000000 in
theorem soverlap_core (q r : S4) (R A B : Bool) (w : World)
    (HR : Hid (∀ W, Calls Try.prog 49 #[.agg #[.int .i64 q.ls, .int .i64 q.la, .int .i64 q.hs, .int .i64 q.ha], .agg #[.int .i64 r.ls, .int .i64 r.la, .int .i64 r.hs, .int .i64 r.ha]] W fun e w' => e = .returned (.bool R) ∧ Go.RowKit.Below W.heap.size W w'))
    (HA : Hid (∀ W, Calls Try.prog 50 #[.agg #[.int .i64 q.ls, .int .i64 q.la], .agg #[.int .i64 r.hs, .int .i64 r.ha]] W fun e w' => e = .returned (.bool A) ∧ Go.RowKit.Below W.heap.size W w'))
    (HC : Hid (∀ W, Calls Try.prog 50 #[.agg #[.int .i64 r.ls, .int .i64 r.la], .agg #[.int .i64 q.hs, .int .i64 q.ha]] W fun e w' => e = .returned (.bool B) ∧ Go.RowKit.Below W.heap.size W w')) :
    Calls Try.prog 13 #[vS q, vS r] w fun e w' => e = .returned (.bool (R && A && B)) ∧ Go.RowKit.Below w.heap.size w w' := by
  have HB := Lib.hid (Pair4.new w q r)
  have hL := bt (below_new w (.cells #[.int .i64 q.ls, .int .i64 q.la, .int .i64 q.hs, .int .i64 q.ha] 25)) (below_new _ (.cells #[.int .i64 r.ls, .int .i64 r.la, .int .i64 r.hs, .int .i64 r.ha] 25))
  go_enter Try.func13, Try.ntmps13
  go_wp2_with fail
  refine (HR.out _).mono ?_
  rintro e x1 ⟨rfl, hB1⟩
  have hL1 := bt hL hB1
  have HB1 := Lib.hid (HB.out.on hB1)
  obtain ⟨c1, c2, c3, c4, c5, c6, c7, c8⟩ := HB1.out.cells
  clear hB1 hL
  cases R with
  | false =>
    go_wp2_with fail
    go_ret
    exact ⟨rfl, hL1⟩
  | true =>
    go_wp2_with fail
    refine (HA.out _).mono ?_
    rintro e x2 ⟨rfl, hB2⟩
    have hL2 := bt hL1 hB2
    have HB2 := Lib.hid (HB1.out.on hB2)
    clear c1 c2 c3 c4 c5 c6 c7 c8 hB2 hL1
    obtain ⟨c1, c2, c3, c4, c5, c6, c7, c8⟩ := HB2.out.cells
    cases A with
    | false =>
      go_wp2_with fail
      go_ret
      exact ⟨rfl, hL2⟩
    | true =>
      go_wp2_with fail
      refine (HC.out _).mono ?_
      rintro e x3 ⟨rfl, hB3⟩
      go_wp2_with fail
      go_ret
      exact ⟨by simp, bt hL2 hB3⟩
theorem soverlap_any (q r : S4) (w : World) (hq : q.ok) (hr : r.ok) : Calls Try.prog 13 #[vS q, vS r] w fun e w' => e = .returned (.bool (q.right && r.right && decide (q.lo < r.hi) && decide (r.lo < q.hi))) ∧ Go.RowKit.Below w.heap.size w w' :=
  soverlap_core q r _ _ _ w (fun W => sboth_any q r W hq hr) (fun W => sahead_any _ _ _ _ W hq.1 hr.2) (fun W => sahead_any _ _ _ _ W hr.1 hq.2)

set_option maxRecDepth 100000 in
set_option maxHeartbeats 1000000 in
theorem stouch_core (q r : S4) (R A B : Bool) (w : World)
    (HR : Hid (∀ W, Calls Try.prog 49 #[.agg #[.int .i64 q.ls, .int .i64 q.la, .int .i64 q.hs, .int .i64 q.ha], .agg #[.int .i64 r.ls, .int .i64 r.la, .int .i64 r.hs, .int .i64 r.ha]] W fun e w' => e = .returned (.bool R) ∧ Go.RowKit.Below W.heap.size W w'))
    (e1 : ∀ w, Sem.run Try.prog (binOp .eql 23 (.agg #[.int .i64 q.hs, .int .i64 q.ha]) (.agg #[.int .i64 r.ls, .int .i64 r.la])) w = .ok (.bool A) w)
    (e2 : ∀ w, Sem.run Try.prog (binOp .eql 23 (.agg #[.int .i64 r.hs, .int .i64 r.ha]) (.agg #[.int .i64 q.ls, .int .i64 q.la])) w = .ok (.bool B) w) :
    Calls Try.prog 20 #[vS q, vS r] w fun e w' => e = .returned (.bool (R && (A || B))) ∧ Go.RowKit.Below w.heap.size w w' := by
  have HB := Lib.hid (Pair4.new w q r)
  have hL := bt (below_new w (.cells #[.int .i64 q.ls, .int .i64 q.la, .int .i64 q.hs, .int .i64 q.ha] 25)) (below_new _ (.cells #[.int .i64 r.ls, .int .i64 r.la, .int .i64 r.hs, .int .i64 r.ha] 25))
  go_enter Try.func20, Try.ntmps20
  go_wp2_with fail
  refine (HR.out _).mono ?_
  rintro e x1 ⟨rfl, hB1⟩
  have hL1 := bt hL hB1
  have HB1 := Lib.hid (HB.out.on hB1)
  obtain ⟨c1, c2, c3, c4, c5, c6, c7, c8⟩ := HB1.out.cells
  clear hB1 hL
  cases R with
  | false =>
    go_wp2_with fail
    go_ret
    exact ⟨rfl, hL1⟩
  | true =>
    cases A with
    | true =>
      go_wp2_with fail
      go_ret
      exact ⟨by simp, hL1⟩
    | false =>
      go_wp2_with fail
      go_ret
      exact ⟨by simp, hL1⟩
/-- Cuts of right spans are one just where their keys are. -/
theorem cut_key (k l : Int) (hk : Ky k) (hl : Ky l) : (sd k == sd l && pa k == pa l) = decide (k = l) := by
  by_cases h : k = l
  · subst h; simp
  · rw [decide_eq_false h]
    rcases hb : (sd k == sd l && pa k == pa l) with _ | _
    · rfl
    · simp at hb; exact absurd (ky_inj k l hk hl hb.1 hb.2) h
theorem stouch_any (q r : S4) (w : World) (hq : q.ok) (hr : r.ok) : Calls Try.prog 20 #[vS q, vS r] w fun e w' => e = .returned (.bool (q.right && r.right && (decide (q.hi = r.lo) || decide (r.hi = q.lo)))) ∧ Go.RowKit.Below w.heap.size w w' := by
  have h := stouch_core q r (q.right && r.right) _ _ w (fun W => sboth_any q r W hq hr) (eql_by _ _ _ _ _ rfl) (eql_by _ _ _ _ _ rfl)
  refine h.mono fun e w' h => ⟨?_, h.2⟩
  rw [h.1]
  by_cases hR : (q.right && r.right) = true
  · have h1 := (Bool.and_eq_true _ _ ▸ hR : q.right = true ∧ r.right = true)
    have e1 := (sp_of_right q h1.1).1
    have e2 := (sp_of_right r h1.2).1
    have k1 := cut_key q.hi r.lo (q.ky_hi hq) (r.ky_lo hr)
    have k2 := cut_key r.hi q.lo (r.ky_hi hr) (q.ky_lo hq)
    have a1 : q.hs = sd q.hi ∧ q.ha = pa q.hi ∧ q.ls = sd q.lo ∧ q.la = pa q.lo := ⟨congrArg S4.hs e1, congrArg S4.ha e1, congrArg S4.ls e1, congrArg S4.la e1⟩
    have a2 : r.hs = sd r.hi ∧ r.ha = pa r.hi ∧ r.ls = sd r.lo ∧ r.la = pa r.lo := ⟨congrArg S4.hs e2, congrArg S4.ha e2, congrArg S4.ls e2, congrArg S4.la e2⟩
    rw [← k1, ← k2, ← a1.1, ← a1.2.1, ← a1.2.2.1, ← a1.2.2.2, ← a2.1, ← a2.2.1, ← a2.2.2.1, ← a2.2.2.2]
  · rw [Bool.eq_false_iff.2 hR]; rfl

/-- The order of two spans, as a number: by Low, then by High. -/
def scmp (q r : S4) : Int := if kcmp q.lo r.lo = 0 then kcmp q.hi r.hi else kcmp q.lo r.lo
theorem kcmp_zero (a b : Int) : kcmp a b = 0 ↔ a = b := by unfold kcmp; split <;> (try split) <;> omega
set_option maxRecDepth 100000 in
set_option maxHeartbeats 1000000 in
theorem scompare_any (q r : S4) (w : World) (hq : q.ok) (hr : r.ok) : Calls Try.prog 43 #[vS q, vS r] w fun e w' => e = .returned (.int .i64 (scmp q r)) ∧ Lays w w' := by
  have HC1 := Lib.hid (fun W => compare_any q.ls q.la r.ls r.la W hq.1 hr.1)
  have HC2 := Lib.hid (fun W => compare_any q.hs q.ha r.hs r.ha W hq.2 hr.2)
  have HE : Hid (scmp q r = if kcmp q.lo r.lo = 0 then kcmp q.hi r.hi else kcmp q.lo r.lo) := rfl
  rw [show key q.ls q.la = q.lo from rfl, show key r.ls r.la = r.lo from rfl] at HC1
  rw [show key q.hs q.ha = q.hi from rfl, show key r.hs r.ha = r.hi from rfl] at HC2
  generalize scmp q r = z at *
  generalize kcmp q.lo r.lo = x at *
  generalize kcmp q.hi r.hi = y at *
  have HB := Lib.hid (Pair4.new w q r)
  have hL := ((Lays.refl w).alloc (.cells #[.int .i64 q.ls, .int .i64 q.la, .int .i64 q.hs, .int .i64 q.ha] 25)).alloc (.cells #[.int .i64 r.ls, .int .i64 r.la, .int .i64 r.hs, .int .i64 r.ha] 25)
  go_enter Try.func43, Try.ntmps43
  go_wp2_with fail
  refine (HC1.out _).mono ?_
  rintro e x1 ⟨rfl, hB1⟩
  have hL1 := hL.trans hB1
  have HB1 := Lib.hid (HB.out.on hB1.1)
  obtain ⟨c1, c2, c3, c4, c5, c6, c7, c8⟩ := HB1.out.cells
  clear hB1 hL
  by_cases hx : x = 0
  · subst hx
    have HZ : Hid (z = y) := by have := HE.out; rwa [if_pos rfl] at this
    go_wp2_with fail
    refine (HC2.out _).mono ?_
    rintro e x2 ⟨rfl, hB2⟩
    go_wp2_with fail
    go_ret
    exact ⟨by rw [HZ.out]; rfl, hL1.trans hB2⟩
  · have HZ : Hid (z = x) := by have := HE.out; rwa [if_neg hx] at this
    have tx : (x != 0) = true := bne_iff_ne.2 hx
    clear hx
    go_wp2_with fail
    go_ret
    exact ⟨by rw [HZ.out]; rfl, hL1⟩
end Go.Proofs.Ytkokilbnhhmicaa

/- Contracts of the reference's spans: Cuts. -/
namespace Go.Proofs.Ytkokilbnhhmicaa
open Go.RowKit Go.Sort Go.Proofs.Ytkokilbnhhmicaa.Bo
set_option linter.unusedVariables false

/-- The keys of a row of pairs. -/
def keysOf (ps : List (Int × Int)) : List Int := ps.flatMap fun p => [p.1, p.2]
theorem keysOf_snoc (ps : List (Int × Int)) (p : Int × Int) : keysOf (ps ++ [p]) = keysOf ps ++ [p.1, p.2] := by
  unfold keysOf; rw [List.flatMap_append]; simp
theorem keysOf_len (ps : List (Int × Int)) : (keysOf ps).length = ps.length * 2 := by
  unfold keysOf
  induction ps with
  | nil => rfl
  | cons a l ih => rw [List.flatMap_cons, List.length_append, ih]; simp; omega
theorem keysOf_mem (ps : List (Int × Int)) (x : Int) : x ∈ keysOf ps ↔ ∃ p ∈ ps, x = p.1 ∨ x = p.2 := by
  unfold keysOf; rw [List.mem_flatMap]; simp
theorem flatL_two (ks : List Int) (k l : Int) : flatL (ks ++ [k, l]) = flatL ks ++ [.int .i64 (sd k), .int .i64 (pa k), .int .i64 (sd l), .int .i64 (pa l)] := by
  unfold flatL; rw [List.flatMap_append]; simp
theorem rights_take (l : List S4) (j : Nat) (hj : j < l.length) : rights (l.take (j + 1)) = rights (l.take j) ++ (if l[j].right = true then [(l[j].lo, l[j].hi)] else []) := by
  unfold rights
  rw [List.take_succ_eq_append_getElem hj, List.filter_append, List.map_append]
  congr 1
  by_cases h : l[j].right = true <;> simp [h]
theorem rights_len (l : List S4) : (rights l).length ≤ l.length := by
  unfold rights; rw [List.length_map]; exact List.length_filter_le ..
theorem one_four (a b c d : Int) : ∀ u ∈ ([.int .i64 a, .int .i64 b, .int .i64 c, .int .i64 d] : List Value), u.oneCell' = true := by
  intro u hu
  simp at hu
  rcases hu with rfl | rfl | rfl | rfl <;> rfl
theorem Cells4.far {w w' : World} {row : Option Nat} {b o : Nat} {q : S4} (h : Cells4 w b o q) (hg : w.grownBy w' row) (hne : some b ≠ row) : Cells4 w' b o q :=
  ⟨hg.cell h.1 hne, hg.cell h.2.1 hne, hg.cell h.2.2.1 hne, hg.cell h.2.2.2 hne⟩
/-- A slice of cuts that holds those of these keys. -/
def KRow (w : World) (a : Option Addr) (ks : List Int) : Prop := 0 < ks.length → ∃ b off, a = some ⟨b, off, none⟩ ∧ ∀ (j : Nat) (h : j < ks.length), CellsAt w b (off + j * 2) (sd ks[j]) (pa ks[j])
theorem KRow.below {w w' : World} {a : Option Addr} {ks : List Int} (h : KRow w a ks) (hb : Go.RowKit.Below w.heap.size w w') : KRow w' a ks := by
  intro hp
  obtain ⟨b, off, e, hc⟩ := h hp
  exact ⟨b, off, e, fun j hj => (hc j hj).below hb⟩
theorem KRow.of_own {w : World} {base cap n : Nat} {a : Option Addr} {ks : List Int} (h : w.ownsRow base 23 2 (.slice a n cap) n (flatL ks)) (hn : n = ks.length) : KRow w a ks := by
  intro hp
  rcases h.2 with ⟨h1, h2⟩ | ⟨g, cap', cur, h1, r⟩
  · omega
  · injection h1 with e1 e2 e3
    subst e1
    exact ⟨g, 0, rfl, fun j hj => by rw [Nat.zero_add]; exact own_cells h hn j hj⟩
theorem KRow.crow {w : World} {a : Option Addr} {ks : List Int} (h : KRow w a ks) : CRow w a (ks.map fun k => (sd k, pa k)) := by
  intro hp
  rw [List.length_map] at hp
  obtain ⟨b, off, e, hc⟩ := h hp
  refine ⟨b, off, e, fun j hj => ?_⟩
  rw [List.length_map] at hj
  rw [List.getElem_map]
  exact hc j hj
theorem map_kOf (ks : List Int) (h : ∀ k ∈ ks, Ky k) : (ks.map fun k => (sd k, pa k)).map kOf = ks := by
  rw [List.map_map]
  conv => rhs; rw [← List.map_id ks]
  exact List.map_congr_left fun k hk => key_back k (h k hk)
/-- The keys of a row of right spans, rising, each once. -/
def CutsPost (l : List S4) (w : World) (e : Ending) (w' : World) : Prop :=
  ∃ (a : Option Addr) (cap : Nat) (ks : List Int), (e = .returned (.slice a ks.length cap) ∧ Up ks ∧ (∀ x, x ∈ ks ↔ x ∈ keysOf (rights l)) ∧ KRow w' a ks) ∧ Go.RowKit.Below w.heap.size w w'
theorem CutsPost.of_sort {ks0 : List Int} {l : List S4} {w : World} {e : Ending} {w' : World} (hk : ks0 = keysOf (rights l)) (hky : ∀ k ∈ ks0, Ky k) (h : RSortPost (ks0.map fun k => (sd k, pa k)) w e w') : CutsPost l w e w' := by
  obtain ⟨v, ks, ⟨rfl, hup, hmem, hout, hown⟩, hB⟩ := h
  rw [map_kOf _ hky] at hmem
  subst hk
  rcases hout with ⟨rfl, rfl⟩ | ⟨g, cap, q, hq, rfl, hg⟩
  · exact ⟨none, 0, [], ⟨rfl, hup, hmem, fun h => absurd h (by simp)⟩, hB⟩
  · refine ⟨some ⟨g, 0, none⟩, cap, ks, ⟨by rw [hq], hup, hmem, ?_⟩, hB⟩
    rw [hq] at hown
    exact KRow.of_own hown hq.symm

set_option maxRecDepth 100000 in
set_option maxHeartbeats 4000000 in
theorem rcuts_any (a : Option Addr) (cap0 : Nat) (l : List S4) (w : World) (hz : ∀ q ∈ l, q.ok) (hr : SRow w a l) (hl : l.length ≤ 50) :
    Calls Try.prog 51 #[.slice a l.length cap0] w (CutsPost l w) := by
  obtain ⟨i0, hi, hz0, hz1, hz2⟩ := info_parts Try.infoCut
  have HR := Lib.hid hr
  have HZ := Lib.hid hz
  clear hr hz
  go_enter Try.func51, Try.ntmps51
  go_wp2_with fail
  go_loopw [3, 4] (fun s2 i wr => ∃ (j cap : Nat) (a2 : Option Addr), i = .int .i64 (j : Int) ∧ s2 = .slice a2 ((rights (l.take j)).length * 2) cap ∧ j ≤ l.length ∧ (rights (l.take j)).length ≤ j ∧ wr.ownsRow w.heap.size 23 2 (.slice a2 ((rights (l.take j)).length * 2) cap) ((rights (l.take j)).length * 2) (flatL (keysOf (rights (l.take j)))) ∧ Go.RowKit.Below w.heap.size w wr) (fun _ i _ => l.length - (intOf i).toNat)
  case atStart => exact ⟨0, 0, none, rfl, rfl, Nat.zero_le _, Nat.le_refl _, ⟨rfl, .inl ⟨rfl, rfl⟩⟩, Go.RowKit.Below.refl _ _⟩
  case round =>
    obtain ⟨j, cap, a2, rfl, rfl, hj, hnj, hown, hBr⟩ := hrel
    have HO := Lib.hid hown
    clear hown
    by_cases hlt : j < l.length
    · have hbw0 : ∀ b off, a = some ⟨b, off, none⟩ → b < w.heap.size := by
        intro b off e
        obtain ⟨b', off', e', hc'⟩ := HR.out (by omega)
        rw [e] at e'
        injection e' with e'
        injection e' with e1 e2
        subst e1
        exact World.block_lt_of_cell? w _ (hc' j hlt).1
      obtain ⟨b, off, rfl, hcell⟩ := (HR.out.below hBr) (by omega)
      have hbw := hbw0 b off rfl
      clear hbw0
      have HC := Lib.hid (hcell j hlt)
      obtain ⟨c1, c2, c3, c4⟩ := HC.out
      have HRT := Lib.hid (fun W => rright_any l[j] W (HZ.out _ (List.getElem_mem hlt)))
      have HTK := Lib.hid (rights_take l j hlt)
      have HSP : Hid (l[j].right = true → l[j] = sp (l[j].lo, l[j].hi)) := fun hq => (sp_of_right l[j] hq).1
      clear hcell
      generalize l[j] = q at *
      generalize rights (l.take j) = ps at *
      obtain ⟨ps', HPS⟩ : ∃ ps', Hid (rights (l.take (j + 1)) = ps') := ⟨_, rfl⟩
      rw [HPS.out] at HTK
      generalize q.right = R at *
      have hsz := hBr.size
      cases R with
      | false =>
        go_wp2_with fail
        refine (HRT.out _).mono ?_
        rintro e x1 ⟨rfl, hB1⟩
        have HO1 := Lib.hid (own_on HO.out hB1)
        clear c1 c2 c3 c4
        have he : ps' = ps := by rw [HTK.out]; simp
        subst he
        go_wp2_with fail
        go_roundw
        case rel => exact ⟨j + 1, cap, a2, by go_num, by rw [HPS.out], by omega, by rw [HPS.out]; omega, by rw [HPS.out]; exact HO1.out, bt hBr hB1⟩
        case measure => simp [intOf]; omega
      | true =>
        have he : ps' = ps ++ [(q.lo, q.hi)] := by rw [HTK.out]; simp
        have hfl : flatL (keysOf ps') = flatL (keysOf ps) ++ [.int .i64 q.ls, .int .i64 q.la, .int .i64 q.hs, .int .i64 q.ha] := by
          rw [he, keysOf_snoc, flatL_two]
          have h1 := congrArg S4.ls (HSP.out (by trivial))
          have h2 := congrArg S4.la (HSP.out (by trivial))
          have h3 := congrArg S4.hs (HSP.out (by trivial))
          have h4 := congrArg S4.ha (HSP.out (by trivial))
          dsimp only [sp] at h1 h2 h3 h4
          dsimp only
          rw [← h1, ← h2, ← h3, ← h4]
        have hln : ps'.length = ps.length + 1 := by rw [he]; simp
        have HFL := Lib.hid (And.intro hfl hln)
        clear he hfl hln
        go_wp2_with fail
        refine (HRT.out _).mono ?_
        rintro e x1 ⟨rfl, hB1⟩
        have HO1 := Lib.hid (own_on HO.out hB1)
        have hc := (HC.out.below hB1)
        have hL1 := bt hBr hB1
        clear c1 c2 c3 c4 hBr hB1 HO HC
        have HC := Lib.hid hc
        obtain ⟨d1, d2, d3, d4⟩ := hc
        have hps : ps.length * 2 ≤ 100 := by omega
        go_wp2_with fail
        have hO3 := (HO1.out.alloc (.cells #[.int .i64 q.ls, .int .i64 q.la, .int .i64 q.hs, .int .i64 q.ha] 23)).drew
        have hC3 : Cells4 (x1.alloc (.cells #[.int .i64 q.ls, .int .i64 q.la, .int .i64 q.hs, .int .i64 q.ha] 23)).drew b (off + j * 4) q := (HC.out.below (below_new x1 _)).below (Go.RowKit.Below.refl _ _).drew
        have hL3 := (bt hL1 (below_new x1 (.cells #[.int .i64 q.ls, .int .i64 q.la, .int .i64 q.hs, .int .i64 q.ha] 23))).drew
        have hsx := hL1.size
        have HNE : Hid (some b ≠ (Value.slice a2 (ps.length * 2) cap).ownBlock) := by
          intro e1
          have := (HO1.out.lt b e1.symm).1
          omega
        go_region_held3 (fun w' => w'.cell? ⟨b, off + j * 4, none⟩ = some (.int .i64 q.ls) ∧ w'.cell? ⟨b, off + j * 4 + 1, none⟩ = some (.int .i64 q.la) ∧ w'.cell? ⟨b, off + j * 4 + 2, none⟩ = some (.int .i64 q.hs) ∧ w'.cell? ⟨b, off + j * 4 + 3, none⟩ = some (.int .i64 q.ha))
          (first | exact hC4.out | exact hC3 | go_keep)
          ((refine step_append_lies _ (by rfl) _ _ _ (by rfl) w.heap.size 23 i0 (.agg #[.int .i64 0, .int .i64 0]) 2 16 Try.underlying61 hi hz0 hz1 hz2 rfl (by omega) (.slice a2 (ps.length * 2) cap) (ps.length * 2) (flatL (keysOf ps)) (by rfl) hO3 ⟨x1.heap.size, 0, none⟩ 2 2 [.int .i64 q.ls, .int .i64 q.la, .int .i64 q.hs, .int .i64 q.ha] (by rfl) (by rfl) (World.news_of_block (cs := #[.int .i64 q.ls, .int .i64 q.la, .int .i64 q.hs, .int .i64 q.ha]) (t := 23) (fr := (0, 0)) (heap_alloc_new x1 _)) (one_four _ _ _ _) (by omega) (by unfold maxLen; omega) (by omega) (by simp; omega) (x1.heap.size + 1) (by simp) ?_; intro g2 cap2 w1 hown1 hgrow1 hat1 hlt1; have hC4 := Lib.hid (hC3.far hgrow1 HNE.out); have HO4 := Lib.hid hown1; have hL4 : Go.RowKit.Below w.heap.size w w1 := hL3.grown hgrow1 (by simp; omega) (fun k hk => (hO3.lt k hk).1); clear hgrow1 hown1))
        go_wp2_with fail
        have hln2 : ps'.length * 2 = ps.length * 2 + 2 := by have := HFL.out.2; omega
        go_roundw
        case rel => exact ⟨j + 1, cap2, some ⟨g2, 0, none⟩, by go_num, by rw [HPS.out, hln2], by omega, by rw [HPS.out]; have := HFL.out.2; omega, by rw [HPS.out, hln2, HFL.out.1]; exact HO4.out, hL4⟩
        case measure => simp [intOf]; omega
    · obtain rfl : j = l.length := by omega
      have ho := HO.out
      rw [List.take_length] at ho hnj
      have hkl := keysOf_len (rights l)
      have HKY : Hid (∀ k ∈ keysOf (rights l), Ky k) := by
        intro k hk
        obtain ⟨p, hp, e⟩ := (keysOf_mem _ _).1 hk
        have := rights_ky l HZ.out p hp
        rcases e with rfl | rfl
        · exact this.1
        · exact this.2
      have HS := Lib.hid (rsort_any a2 cap ((keysOf (rights l)).map fun k => (sd k, pa k)) wr (by
        intro c hc
        obtain ⟨k, hk, rfl⟩ := List.mem_map.1 hc
        exact pa_i64 k (HKY.out k hk)) (KRow.of_own ho hkl.symm).crow (by rw [List.length_map, hkl]; omega))
      rw [List.length_map, hkl] at HS
      rw [List.take_length]
      clear ho HO
      go_wp2_with fail
      refine HS.out.mono ?_
      intro e y1 hpost
      obtain ⟨a3, cap3, ks, ⟨rfl, hup, hmem, hrow⟩, hB1⟩ := CutsPost.of_sort rfl HKY.out hpost
      have HF := Lib.hid (And.intro hup (And.intro hmem hrow))
      clear hpost hup hmem hrow
      go_wp2_with fail
      go_ret
      exact ⟨a3, cap3, ks, ⟨rfl, HF.out.1, HF.out.2.1, HF.out.2.2⟩, bt hBr hB1⟩
end Go.Proofs.Ytkokilbnhhmicaa

/- The joining of pieces between rising cuts. -/
namespace Go.Proofs.Ytkokilbnhhmicaa.Bo
theorem up_lt (ks : List Int) (h : Up ks) (i j : Nat) (hj : j < ks.length) (hij : i < j) : ks[i] < ks[j] := List.pairwise_iff_getElem.1 h i j (by omega) hj hij
theorem up_le (ks : List Int) (h : Up ks) (i j : Nat) (hj : j < ks.length) (hij : i ≤ j) : ks[i] ≤ ks[j] := by
  rcases Nat.lt_or_ge i j with h1 | h1
  · exact Int.le_of_lt (up_lt ks h i j hj h1)
  · have : i = j := by omega
    subst this; exact Int.le_refl _
/-- All cuts of a row are named. -/
def Named (ps : List (Int × Int)) (ks : List Int) : Prop := ∀ p ∈ ps, p.1 ∈ ks ∧ p.2 ∈ ks
theorem cov_piece (ps : List (Int × Int)) (ks : List Int) (hup : Up ks) (hs : Named ps ks) (i : Nat) (hi : i + 1 < ks.length) (n : Int) (h1 : ks[i] ≤ n) (h2 : n < ks[i + 1]) : cov ps n ↔ cov ps ks[i] := by
  constructor
  · rintro ⟨p, hp, h3, h4⟩
    obtain ⟨a, b⟩ := hs p hp
    obtain ⟨x, hx, ex⟩ := List.mem_iff_getElem.1 a
    refine ⟨p, hp, ?_, by omega⟩
    rcases Nat.lt_or_ge i x with h5 | h5
    · have := up_le ks hup (i + 1) x hx (by omega); omega
    · have := up_le ks hup x i (by omega) h5; omega
  · rintro ⟨p, hp, h3, h4⟩
    obtain ⟨a, b⟩ := hs p hp
    obtain ⟨x, hx, ex⟩ := List.mem_iff_getElem.1 b
    refine ⟨p, hp, by omega, ?_⟩
    rcases Nat.lt_or_ge i x with h5 | h5
    · have := up_le ks hup (i + 1) x hx (by omega); omega
    · have := up_le ks hup x i (by omega) h5; omega
theorem cov_first (ps : List (Int × Int)) (ks : List Int) (hup : Up ks) (hs : Named ps ks) (n : Int) (h : cov ps n) : ∃ h : 0 < ks.length, ks[0] ≤ n := by
  obtain ⟨p, hp, h3, h4⟩ := h
  obtain ⟨x, hx, ex⟩ := List.mem_iff_getElem.1 (hs p hp).1
  refine ⟨by omega, ?_⟩
  have := up_le ks hup 0 x hx (by omega); omega
theorem cov_last (ps : List (Int × Int)) (ks : List Int) (hup : Up ks) (hs : Named ps ks) (n : Int) (h : cov ps n) : ∃ h : ks.length - 1 < ks.length, n < ks[ks.length - 1] := by
  obtain ⟨p, hp, h3, h4⟩ := h
  obtain ⟨x, hx, ex⟩ := List.mem_iff_getElem.1 (hs p hp).2
  refine ⟨by omega, ?_⟩
  have := up_le ks hup x (ks.length - 1) (by omega) (by omega); omega

/-- Up to the key k, ps has just the numbers of C. -/
structure Upto (C : Int → Prop) (ks : List Int) (k : Int) (ps : List (Int × Int)) : Prop where
  lt : ∀ p ∈ ps, p.1 < p.2
  named : Named ps ks
  le : ∀ p ∈ ps, p.2 ≤ k
  cov : ∀ n, cov ps n ↔ C n ∧ n < k
theorem Upto.skip {C : Int → Prop} {ks : List Int} {k k' : Int} {ps : List (Int × Int)} (h : Upto C ks k ps) (hk : k < k') (hC : ∀ n, k ≤ n → n < k' → (C n ↔ C k)) (hno : ¬ C k) : Upto C ks k' ps := by
  refine ⟨h.lt, h.named, fun p hp => by have := h.le p hp; omega, fun n => ?_⟩
  rw [h.cov n]
  constructor
  · rintro ⟨a, b⟩; exact ⟨a, by omega⟩
  · rintro ⟨a, b⟩
    refine ⟨a, ?_⟩
    rcases Int.lt_or_le n k with h1 | h1
    · exact h1
    · exact absurd ((hC n h1 b).1 a) hno
theorem Upto.put {C : Int → Prop} {ks : List Int} {k k' : Int} {ps : List (Int × Int)} (h : Upto C ks k ps) (hk : k < k') (hC : ∀ n, k ≤ n → n < k' → (C n ↔ C k)) (hyes : C k) (m1 : k ∈ ks) (m2 : k' ∈ ks) : Upto C ks k' (ps ++ [(k, k')]) := by
  refine ⟨?_, ?_, ?_, fun n => ?_⟩
  · intro p hp
    rcases List.mem_append.1 hp with e | e
    · exact h.lt p e
    · rw [List.mem_singleton.1 e]; exact hk
  · intro p hp
    rcases List.mem_append.1 hp with e | e
    · exact h.named p e
    · rw [List.mem_singleton.1 e]; exact ⟨m1, m2⟩
  · intro p hp
    rcases List.mem_append.1 hp with e | e
    · have := h.le p e; omega
    · rw [List.mem_singleton.1 e]; exact Int.le_refl _
  · rw [cov_append, h.cov n, cov_cons]
    constructor
    · rintro (⟨a, b⟩ | a | a)
      · exact ⟨a, by omega⟩
      · exact ⟨(hC n a.1 a.2).2 hyes, a.2⟩
      · exact absurd a (cov_nil _)
    · rintro ⟨a, b⟩
      rcases Int.lt_or_le n k with h1 | h1
      · exact .inl ⟨a, h1⟩
      · exact .inr (.inl ⟨h1, b⟩)
theorem Upto.join {C : Int → Prop} {ks : List Int} {k k' x : Int} {ps : List (Int × Int)} (h : Upto C ks k (ps ++ [(x, k)])) (hk : k < k') (hC : ∀ n, k ≤ n → n < k' → (C n ↔ C k)) (hyes : C k) (m2 : k' ∈ ks) : Upto C ks k' (ps ++ [(x, k')]) := by
  have hx : x < k := h.lt (x, k) (by simp)
  refine ⟨?_, ?_, ?_, fun n => ?_⟩
  · intro p hp
    rcases List.mem_append.1 hp with e | e
    · exact h.lt p (List.mem_append_left _ e)
    · rw [List.mem_singleton.1 e]; show x < k'; omega
  · intro p hp
    rcases List.mem_append.1 hp with e | e
    · exact h.named p (List.mem_append_left _ e)
    · rw [List.mem_singleton.1 e]; exact ⟨(h.named (x, k) (by simp)).1, m2⟩
  · intro p hp
    rcases List.mem_append.1 hp with e | e
    · have := h.le p (List.mem_append_left _ e); omega
    · rw [List.mem_singleton.1 e]; exact Int.le_refl _
  · have h1 := h.cov n
    rw [cov_append, cov_cons] at h1 ⊢
    constructor
    · rintro (a | a | a)
      · have := h1.1 (.inl a); exact ⟨this.1, by omega⟩
      · rcases Int.lt_or_le n k with h2 | h2
        · exact ⟨(h1.1 (.inr (.inl ⟨a.1, h2⟩))).1, a.2⟩
        · exact ⟨(hC n h2 a.2).2 hyes, a.2⟩
      · exact absurd a (cov_nil _)
    · rintro ⟨a, b⟩
      rcases Int.lt_or_le n k with h2 | h2
      · rcases h1.2 ⟨a, h2⟩ with c | c | c
        · exact .inl c
        · exact .inr (.inl ⟨c.1, by have := c.2; show n < k'; omega⟩)
        · exact absurd c (cov_nil _)
      · exact .inr (.inl ⟨by show x ≤ n; omega, b⟩)
theorem norm_put {ps : List (Int × Int)} {k k' : Int} (h : Norm ps) (hk : k < k') (hl : ∀ p ∈ ps, p.2 < k) : Norm (ps ++ [(k, k')]) := by
  refine ⟨?_, List.pairwise_append.2 ⟨h.2, List.pairwise_singleton .., ?_⟩⟩
  · intro p hp
    rcases List.mem_append.1 hp with e | e
    · exact h.1 p e
    · rw [List.mem_singleton.1 e]; exact hk
  · intro p hp q hq
    rw [List.mem_singleton.1 hq]; exact hl p hp
theorem norm_join {ps : List (Int × Int)} {k k' x : Int} (h : Norm (ps ++ [(x, k)])) (hk : k < k') : Norm (ps ++ [(x, k')]) := by
  obtain ⟨h1, h2⟩ := h
  obtain ⟨a, b, c⟩ := List.pairwise_append.1 h2
  have hx : x < k := h1 (x, k) (by simp)
  refine ⟨?_, List.pairwise_append.2 ⟨a, List.pairwise_singleton .., ?_⟩⟩
  · intro p hp
    rcases List.mem_append.1 hp with e | e
    · exact h1 p (List.mem_append_left _ e)
    · rw [List.mem_singleton.1 e]; show x < k'; omega
  · intro p hp q hq
    rw [List.mem_singleton.1 hq]; exact c p hp (x, k) (by simp)
/-- The last one's end, where it is not k, lies below: and so do all. -/
theorem norm_all_lt {ps : List (Int × Int)} {k : Int} {p : Int × Int} (h : Norm (ps ++ [p])) (hp : p.2 < k) : ∀ q ∈ ps ++ [p], q.2 < k := by
  obtain ⟨h1, h2⟩ := h
  obtain ⟨a, b, c⟩ := List.pairwise_append.1 h2
  intro q hq
  rcases List.mem_append.1 hq with e | e
  · have h3 := c q e p (by simp)
    have h4 := h1 p (by simp)
    omega
  · rw [List.mem_singleton.1 e]; exact hp
theorem upto_nil (C : Int → Prop) (ks : List Int) (k : Int) (h : ∀ n, C n → k ≤ n) : Upto C ks k [] :=
  ⟨by simp, (fun p hp => by simp at hp), by simp, fun n => ⟨fun a => absurd a (cov_nil _), fun ⟨a, b⟩ => by have := h n a; omega⟩⟩
theorem named_rights (ps : List (Int × Int)) (ks : List Int) (h : ∀ p ∈ ps, ∀ x, (x = p.1 ∨ x = p.2) → x ∈ ks) : Named ps ks := fun p hp => ⟨h p hp _ (.inl rfl), h p hp _ (.inr rfl)⟩
end Go.Proofs.Ytkokilbnhhmicaa.Bo

/- Contracts of the reference's spans: List. -/
namespace Go.Proofs.Ytkokilbnhhmicaa
open Go.RowKit Go.Sort Go.Proofs.Ytkokilbnhhmicaa.Bo
set_option linter.unusedVariables false

theorem Try.infoSpan : (Try.prog.info? 25).map (fun i => (i.zero, i.size, i.bytes)) = some (some (.agg #[.int .i64 0, .int .i64 0, .int .i64 0, .int .i64 0]), 4, 32) := by kernel_rfl
theorem keysOf_get (ps : List (Int × Int)) (j : Nat) (hj : j < ps.length) : ∃ (h1 : j * 2 < (keysOf ps).length) (h2 : j * 2 + 1 < (keysOf ps).length), (keysOf ps)[j * 2] = ps[j].1 ∧ (keysOf ps)[j * 2 + 1] = ps[j].2 := by
  have hl := keysOf_len ps
  refine ⟨by omega, by omega, ?_⟩
  induction ps generalizing j with
  | nil => simp at hj
  | cons a l ih =>
    cases j with
    | zero => exact ⟨rfl, rfl⟩
    | succ j =>
      have := ih j (by simpa using hj) (keysOf_len l)
      have e1 : keysOf (a :: l) = a.1 :: a.2 :: keysOf l := rfl
      simp only [e1, show (j + 1) * 2 = j * 2 + 1 + 1 by omega, List.getElem_cons_succ]
      exact this
theorem flatL_len (ks : List Int) : (flatL ks).length = ks.length * 2 := by
  unfold flatL
  induction ks with
  | nil => rfl
  | cons a l ih => rw [List.flatMap_cons, List.length_append, ih]; simp; omega
theorem CellsAt.far {w w' : World} {row : Option Nat} {b o : Nat} {c1 c2 : Int} (h : CellsAt w b o c1 c2) (hg : w.grownBy w' row) (hne : some b ≠ row) : CellsAt w' b o c1 c2 := ⟨hg.cell h.1 hne, hg.cell h.2 hne⟩
theorem own_put {w : World} {base g cap n size : Nat} {e : TypeId} {xs : List Value} (h : w.ownsRow base e size (.slice (some ⟨g, 0, none⟩) n cap) n xs) (i : Nat) (v : Value) : (w.setCell ⟨g, i, none⟩ v).ownsRow base e size (.slice (some ⟨g, 0, none⟩) n cap) n (xs.set i v) := by
  obtain ⟨h1, h2⟩ := h
  refine ⟨by rw [List.length_set]; exact h1, ?_⟩
  rcases h2 with ⟨h2, _⟩ | ⟨g', cap', cur, hv, hg, hh, h3, h4, h5, h6⟩
  · cases h2
  · injection hv with e1 e2 e3
    injection e1 with e1
    injection e1 with e1
    subst e1 e3
    refine .inr ⟨g, cap, _, rfl, hg, heap_setCell_same _ _ _ _ _ _ hh, h3, h4, by simpa using h5, ?_⟩
    rw [← h6]
    simp [List.take_set]
/-- A slice of spans of one's own reads as such. -/
theorem own_srow {w : World} {base cap n : Nat} {a : Option Addr} {ps : List (Int × Int)} (h : w.ownsRow base 25 4 (.slice a n cap) n (flatL (keysOf ps))) (hn : n = ps.length) : SRow w a (ps.map sp) := by
  intro hp
  rw [List.length_map] at hp
  rcases h.2 with ⟨h1, h2⟩ | ⟨g, cap', cur, h1, hb, hh, hnc, hcm, hcs, htake⟩
  · omega
  · injection h1 with e1 e2 e3
    subst e1
    refine ⟨g, 0, rfl, fun j hj => ?_⟩
    rw [List.length_map] at hj
    rw [List.getElem_map]
    obtain ⟨k1, k2, e3, e4⟩ := keysOf_get ps j hj
    obtain ⟨f1, f2⟩ := flatL_get (keysOf ps) (j * 2) k1
    obtain ⟨f3, f4⟩ := flatL_get (keysOf ps) (j * 2 + 1) k2
    rw [e3] at f1 f2
    rw [e4] at f3 f4
    rw [← htake, List.getElem?_take, if_pos (by omega)] at f1 f2 f3 f4
    rw [show 0 + j * 4 = j * 2 * 2 by omega]
    refine ⟨(cell_of_row _ _ _ _ _ _ hh).trans (by simpa [sp] using f1), (cell_of_row _ _ _ _ _ _ hh).trans (by simpa [sp] using f2), ?_, ?_⟩
    · rw [show j * 2 * 2 + 2 = (j * 2 + 1) * 2 by omega]
      exact (cell_of_row _ _ _ _ _ _ hh).trans (by simpa [sp] using f3)
    · rw [show j * 2 * 2 + 3 = (j * 2 + 1) * 2 + 1 by omega]
      exact (cell_of_row _ _ _ _ _ _ hh).trans (by simpa [sp] using f4)
/-- The last span's end is put anew. -/
theorem own_join {w : World} {base cap n g : Nat} {ps : List (Int × Int)} {x k : Int} (k' : Int) (h : w.ownsRow base 25 4 (.slice (some ⟨g, 0, none⟩) n cap) n (flatL (keysOf (ps ++ [(x, k)])))) (o : Nat) (ho : o = ps.length * 4) :
    ((((w.setCell ⟨g, o, none⟩ (.int .i64 (sd x))).setCell ⟨g, o + 1, none⟩ (.int .i64 (pa x))).setCell ⟨g, o + 2, none⟩ (.int .i64 (sd k'))).setCell ⟨g, o + 3, none⟩ (.int .i64 (pa k'))).ownsRow base 25 4 (.slice (some ⟨g, 0, none⟩) n cap) n (flatL (keysOf (ps ++ [(x, k')]))) := by
  have hl : (flatL (keysOf ps)).length = o := by rw [flatL_len, keysOf_len]; omega
  have := own_put (own_put (own_put (own_put h o (.int .i64 (sd x))) (o + 1) (.int .i64 (pa x))) (o + 2) (.int .i64 (sd k'))) (o + 3) (.int .i64 (pa k'))
  rw [keysOf_snoc, flatL_two] at this ⊢
  subst hl
  simpa using this

abbrev put4 (w : World) (g o : Nat) (v1 v2 v3 v4 : Value) : World := (((w.setCell ⟨g, o, none⟩ v1).setCell ⟨g, o + 1, none⟩ v2).setCell ⟨g, o + 2, none⟩ v3).setCell ⟨g, o + 3, none⟩ v4
theorem cell_drew (w : World) (a : Addr) : w.drew.cell? a = w.cell? a := by rfl
theorem put4_keep {X : World} {g o b i1 i2 : Nat} {v1 v2 v3 v4 u1 u2 : Value} (hne : b ≠ g) (h1 : X.cell? ⟨b, i1, none⟩ = some u1) (h2 : X.cell? ⟨b, i2, none⟩ = some u2) (h3 : X.cell? ⟨g, o, none⟩ = some v1) (h4 : X.cell? ⟨g, o + 1, none⟩ = some v2) :
    (put4 X g o v1 v2 v3 v4).drew.cell? ⟨b, i1, none⟩ = some u1 ∧ (put4 X g o v1 v2 v3 v4).drew.cell? ⟨b, i2, none⟩ = some u2 ∧ (put4 X g o v1 v2 v3 v4).drew.cell? ⟨g, o, none⟩ = some v1 ∧ (put4 X g o v1 v2 v3 v4).drew.cell? ⟨g, o + 1, none⟩ = some v2 := by
  have far : ∀ i, (put4 X g o v1 v2 v3 v4).cell? ⟨b, i, none⟩ = X.cell? ⟨b, i, none⟩ := by
    intro i
    unfold put4
    rw [World.cell?_setCell_other _ _ _ _ (by simp <;> omega), World.cell?_setCell_other _ _ _ _ (by simp <;> omega), World.cell?_setCell_other _ _ _ _ (by simp <;> omega), World.cell?_setCell_other _ _ _ _ (by simp <;> omega)]
  refine ⟨(cell_drew _ _).trans ((far _).trans h1), (cell_drew _ _).trans ((far _).trans h2), (cell_drew _ _).trans ?_, (cell_drew _ _).trans ?_⟩
  · unfold put4
    rw [World.cell?_setCell_other _ _ _ _ (by simp), World.cell?_setCell_other _ _ _ _ (by simp), World.cell?_setCell_other _ _ _ _ (by simp)]
    exact World.cell?_setCell_same _ _ _ h3
  · unfold put4
    rw [World.cell?_setCell_other _ _ _ _ (by simp), World.cell?_setCell_other _ _ _ _ (by simp)]
    exact World.cell?_setCell_same _ _ _ ((World.cell?_setCell_other _ _ _ _ (by simp)).trans h4)
/-- The same numbers, as few spans as can be. -/
def ListPost (C : Int → Prop) (N : Nat) (w : World) (e : Ending) (w' : World) : Prop :=
  ∃ (a : Option Addr) (cap : Nat) (ps : List (Int × Int)), (e = .returned (.slice a ps.length cap) ∧ Norm ps ∧ (∀ n, cov ps n ↔ C n) ∧ (∀ p ∈ ps, Ky p.1 ∧ Ky p.2) ∧ ps.length ≤ N ∧ SRow w' a (ps.map sp)) ∧ Go.RowKit.Below w.heap.size w w'

set_option maxRecDepth 100000 in
set_option maxHeartbeats 4000000 in
theorem rlist_any (a : Option Addr) (cap0 : Nat) (l : List S4) (w : World) (hz : ∀ q ∈ l, q.ok) (hr : SRow w a l) (hl : l.length ≤ 50) :
    Calls Try.prog 15 #[.slice a l.length cap0] w (ListPost (cov (rights l)) (l.length * 2) w) := by
  have mx := mixed
  obtain ⟨i0, hi, hz0, hz1, hz2⟩ := info_parts Try.infoSpan
  have HR := Lib.hid hr
  have HZ := Lib.hid hz
  have HCU := Lib.hid (rcuts_any a cap0 l w hz hr hl)
  clear hr hz
  go_enter Try.func15, Try.ntmps15
  go_wp2_with fail
  refine HCU.out.mono ?_
  rintro e y ⟨ac, capc, ks, ⟨rfl, hup, hmem, hrow⟩, hBy⟩
  have HUP := Lib.hid hup
  have HMEM := Lib.hid hmem
  have HK := Lib.hid hrow
  have HKY : Hid (∀ k ∈ ks, Ky k) := by
    intro k hk
    obtain ⟨p, hp, e⟩ := (keysOf_mem _ _).1 ((hmem k).1 hk)
    have := rights_ky l HZ.out p hp
    rcases e with rfl | rfl
    · exact this.1
    · exact this.2
  have HNM : Hid (Named (rights l) ks) := fun p hp => ⟨(hmem _).2 ((keysOf_mem _ _).2 ⟨p, hp, .inl rfl⟩), (hmem _).2 ((keysOf_mem _ _).2 ⟨p, hp, .inr rfl⟩)⟩
  have hkl : ks.length ≤ l.length * 2 := by
    have h1 := up_len ks _ hup (fun x hx => (hmem x).1 hx)
    rw [keysOf_len] at h1
    have := rights_len l
    omega
  have HA := Lib.hid (fun n (hn : I64 n) W (hW : SRow W a l) => rany_any a cap0 l n W HZ.out hn hW (by omega))
  have HSR := Lib.hid (HR.out.below hBy)
  clear hup hmem hrow HCU
  go_wp2_with fail
  go_loopw [4, 5] (fun s i wr => ∃ (j cap : Nat) (a2 : Option Addr) (ps : List (Int × Int)), i = .int .i64 (j : Int) ∧ s = .slice a2 ps.length cap ∧ j ≤ ks.length - 1 ∧ ps.length ≤ j ∧ Upto (cov (rights l)) ks (ks.getD j 0) ps ∧ Norm ps ∧ wr.ownsRow y.heap.size 25 4 (.slice a2 ps.length cap) ps.length (flatL (keysOf ps)) ∧ Go.RowKit.Below y.heap.size y wr) (fun _ i _ => ks.length - (intOf i).toNat)
  case atStart =>
    refine ⟨0, 0, none, [], rfl, rfl, Nat.zero_le _, Nat.le_refl _, upto_nil _ _ _ ?_, ⟨by simp, List.Pairwise.nil⟩, ⟨rfl, .inl ⟨rfl, rfl⟩⟩, Go.RowKit.Below.refl _ _⟩
    intro n hn
    obtain ⟨h0, h1⟩ := cov_first _ _ HUP.out HNM.out n hn
    rw [List.getD_eq_getElem?_getD, List.getElem?_eq_getElem h0]; exact h1
  case round =>
    obtain ⟨j, cap, a2, ps, rfl, rfl, hj, hpl, hup, hno, hown, hBr⟩ := hrel
    have HO := Lib.hid hown
    have HU := Lib.hid hup
    have HN := Lib.hid hno
    clear hown hup hno
    by_cases hlt : j + 1 < ks.length
    · have hjl : j < ks.length := by omega
      have hbw0 : ∀ b off, ac = some ⟨b, off, none⟩ → b < y.heap.size := by
        intro b off e
        obtain ⟨b', off', e', hc'⟩ := HK.out (by omega)
        rw [e] at e'
        injection e' with e'
        injection e' with e1 e2
        subst e1
        exact World.block_lt_of_cell? y _ (hc' j hjl).1
      obtain ⟨b, off, rfl, hcell⟩ := (HK.out.below hBr) (by omega)
      have hbw := hbw0 b off rfl
      clear hbw0
      have HC1 := Lib.hid (hcell j hjl)
      have HC2 := Lib.hid (hcell (j + 1) hlt)
      have HKK : Hid (Ky ks[j] ∧ Ky ks[j + 1]) := ⟨HKY.out _ (List.getElem_mem _), HKY.out _ (List.getElem_mem _)⟩
      have HLT := Lib.hid (up_lt ks HUP.out j (j + 1) hlt (by omega))
      have HPC : Hid (∀ n, ks[j] ≤ n → n < ks[j + 1] → (cov (rights l) n ↔ cov (rights l) ks[j])) := fun n h1 h2 => cov_piece (rights l) ks HUP.out HNM.out j hlt n h1 h2
      have HM : Hid (ks[j] ∈ ks ∧ ks[j + 1] ∈ ks) := ⟨List.getElem_mem _, List.getElem_mem _⟩
      have hg1 : ks.getD j 0 = ks[j] := by rw [List.getD_eq_getElem?_getD, List.getElem?_eq_getElem hjl]; rfl
      obtain ⟨k', HG2⟩ : ∃ k', Hid (ks.getD (j + 1) 0 = k' ∧ ks[j + 1] = k') := ⟨ks[j + 1], by rw [List.getD_eq_getElem?_getD, List.getElem?_eq_getElem hlt]; rfl, rfl⟩
      rw [hg1] at HU
      rw [HG2.out.2] at HC2 HKK HLT HPC HM
      clear hcell hg1
      generalize ks[j] = k at *
      have HI : Hid (I64 k) := by have h1 := HKK.out; have h2 := HLT.out; unfold Ky at h1; unfold I64; show _ ∧ _; omega
      have HNX := Lib.hid (fun W => rnext_any (sd k) (pa k) W (pa_i64 k HKK.out.1))
      rw [key_back k HKK.out.1, (nx_in k (by have h1 := HKK.out; have h2 := HLT.out; unfold Ky at h1; omega)).1, (nx_in k (by have h1 := HKK.out; have h2 := HLT.out; unfold Ky at h1; omega)).2] at HNX
      have HAN := Lib.hid (fun W (hW : SRow W a l) => HA.out k HI.out W hW)
      obtain ⟨D, hD⟩ : ∃ D, (l.any fun q => q.has k) = D := ⟨_, rfl⟩
      have HD : Hid (D = true ↔ cov (rights l) k) := by rw [← hD]; exact has_cov l k
      rw [hD] at HAN
      obtain ⟨s1, HS1⟩ : ∃ s1, Hid (sd k = s1) := ⟨_, rfl⟩
      obtain ⟨p1, HP1⟩ : ∃ p1, Hid (pa k = p1) := ⟨_, rfl⟩
      obtain ⟨s2, HS2⟩ : ∃ s2, Hid (sd k' = s2) := ⟨_, rfl⟩
      obtain ⟨p2, HP2⟩ : ∃ p2, Hid (pa k' = p2) := ⟨_, rfl⟩
      rw [HS1.out, HP1.out] at HNX HC1
      rw [HS2.out, HP2.out] at HC2
      obtain ⟨c1, c2⟩ := HC1.out
      clear hD
      cases D with
      | false =>
        go_wp2_with fail
        refine (HNX.out _).mono ?_
        rintro e x1 ⟨rfl, hB1⟩
        have hL1 := bt hBr hB1
        have HSR1 := Lib.hid (HSR.out.below hL1)
        have HO1 := Lib.hid (own_on HO.out hB1)
        clear c1 c2
        go_wp2_with fail
        refine (HAN.out _ HSR1.out).mono ?_
        rintro e x2 ⟨rfl, hB2⟩
        have hL2 := bt hL1 hB2
        have HO2 := Lib.hid (own_on HO1.out hB2)
        go_wp2_with fail
        go_roundw
        case rel => exact ⟨j + 1, cap, a2, ps, by go_num, rfl, by omega, by omega, by rw [HG2.out.1]; exact HU.out.skip HLT.out (fun n h1 h2 => HPC.out n h1 h2) (fun h => by have := HD.out.2 h; cases this), HN.out, HO2.out, hL2⟩
        case measure => simp [intOf]; omega
      | true =>
        go_wp2_with fail
        refine (HNX.out _).mono ?_
        rintro e x1 ⟨rfl, hB1⟩
        have hL1 := bt hBr hB1
        have HSR1 := Lib.hid (HSR.out.below hL1)
        have HO1 := Lib.hid (own_on HO.out hB1)
        clear c1 c2
        go_wp2_with fail
        refine (HAN.out _ HSR1.out).mono ?_
        rintro e x2 ⟨rfl, hB2⟩
        have hL2 := bt hL1 hB2
        have HO2 := Lib.hid (own_on HO1.out hB2)
        have hB12 := bt hB1 hB2
        have HE1 := Lib.hid (HC1.out.below hB12)
        have HE2 := Lib.hid (HC2.out.below hB12)
        clear hB1 hB2 hB12 HO HO1 HC1 HC2 hL1 hBr
        rcases List.eq_nil_or_concat ps with rfl | ⟨qs, p, rfl⟩
        · have ti0 : (0 : Int) ≤ (j : Int) := by omega
          have ti1 : (j : Int) < (ks.length : Int) := by omega
          go_wp2_with fail
          refine wp_region_quiet_below (by assumption) (by kernel_rfl) ?_
          repeat (go_big_quiet_step (fail))
          refine wpQuiet_nil ?_
          intro _ hw'
          obtain ⟨⟨nq, osq⟩, hw''⟩ := hw'
          subst hw''
          have hB3 := below_regrown x2 nq osq
          have hL3 := bt hL2 hB3
          have HO3 := Lib.hid (own_on HO2.out hB3)
          have HF1 := Lib.hid (HE1.out.below hB3)
          have HF2 := Lib.hid (HE2.out.below hB3)
          clear hB3 HE1 HE2 HO2 hL2
          go_wp2_with fail
          generalize grow (redrawn x2 nq) osq = X at *
          have hps : 0 ≤ 200 := by omega
          have ti2 : (0 : Int) ≤ (j : Int) + 1 := by omega
          have ti3 : (j : Int) + 1 < (ks.length : Int) := by omega
          have wj : IntKind.i64.wrap ((j : Int) + 1) = (j : Int) + 1 := IntWalk.i64_in _ (by omega)
          have hO4 := (HO3.out.alloc (.cells #[.int .i64 s1, .int .i64 p1, .int .i64 s2, .int .i64 p2] 25)).drew
          have hG1 : CellsAt (X.alloc (.cells #[.int .i64 s1, .int .i64 p1, .int .i64 s2, .int .i64 p2] 25)).drew b (off + j * 2) s1 p1 := (HF1.out.below (below_new X _)).below (Go.RowKit.Below.refl _ _).drew
          have hG2 : CellsAt (X.alloc (.cells #[.int .i64 s1, .int .i64 p1, .int .i64 s2, .int .i64 p2] 25)).drew b (off + (j + 1) * 2) s2 p2 := (HF2.out.below (below_new X _)).below (Go.RowKit.Below.refl _ _).drew
          have hL4 := (bt hL3 (below_new X (.cells #[.int .i64 s1, .int .i64 p1, .int .i64 s2, .int .i64 p2] 25))).drew
          have hsx := hL3.size
          have HNE : Hid (some b ≠ (Value.slice a2 0 cap).ownBlock) := by
            intro e1
            have := (HO3.out.lt b e1.symm).1
            omega
          obtain ⟨f1, f2⟩ := HF1.out
          obtain ⟨f3, f4⟩ := HF2.out
          go_region_held3 (fun w' => w'.cell? ⟨b, off + j * 2, none⟩ = some (.int .i64 s1) ∧ w'.cell? ⟨b, off + j * 2 + 1, none⟩ = some (.int .i64 p1) ∧ w'.cell? ⟨b, off + (j + 1) * 2, none⟩ = some (.int .i64 s2) ∧ w'.cell? ⟨b, off + (j + 1) * 2 + 1, none⟩ = some (.int .i64 p2))
            (first | exact ⟨hH1.out.1, hH1.out.2, hH2.out.1, hH2.out.2⟩ | exact ⟨hG1.1, hG1.2, hG2.1, hG2.2⟩ | go_keep)
            ((refine step_append_lies _ (by rfl) _ _ _ (by rfl) y.heap.size 25 i0 (.agg #[.int .i64 0, .int .i64 0, .int .i64 0, .int .i64 0]) 4 32 Try.underlying26 hi hz0 hz1 hz2 rfl (by omega) (.slice a2 0 cap) (0) (flatL (keysOf [])) (by rfl) hO4 ⟨X.heap.size, 0, none⟩ 1 1 [.int .i64 s1, .int .i64 p1, .int .i64 s2, .int .i64 p2] (by rfl) (by rfl) (World.news_of_block (cs := #[.int .i64 s1, .int .i64 p1, .int .i64 s2, .int .i64 p2]) (t := 25) (fr := (0, 0)) (heap_alloc_new X _)) (one_four _ _ _ _) (by omega) (by unfold maxLen; omega) (by omega) (by simp; omega) (X.heap.size + 1) (by simp) ?_; intro g2 cap2 w1 hown1 hgrow1 hat1 hlt1; have hH1 := Lib.hid (hG1.far hgrow1 HNE.out); have hH2 := Lib.hid (hG2.far hgrow1 HNE.out); have HO5 := Lib.hid hown1; have hL5 : Go.RowKit.Below y.heap.size y w1 := hL4.grown hgrow1 (by simp; omega) (fun k hk => (hO4.lt k hk).1); clear hgrow1 hown1))
          go_wp2_with fail
          have hfl : flatL (keysOf (([] : List (Int × Int)) ++ [(k, k')])) = flatL (keysOf []) ++ [.int .i64 s1, .int .i64 p1, .int .i64 s2, .int .i64 p2] := by
            rw [keysOf_snoc, flatL_two, HS1.out, HP1.out, HS2.out, HP2.out]
          have hln5 : (([] : List (Int × Int)) ++ [(k, k')]).length = 0 + 1 := by simp
          go_roundw
          case rel => exact ⟨j + 1, cap2, some ⟨g2, 0, none⟩, ([] : List (Int × Int)) ++ [(k, k')], by go_num, by rw [hln5], by omega, by rw [hln5]; omega, by rw [HG2.out.1]; exact HU.out.put HLT.out (fun n h1 h2 => HPC.out n h1 h2) (HD.out.1 (by trivial)) HM.out.1 HM.out.2, norm_put HN.out HLT.out (by simp), by rw [hfl, hln5]; exact HO5.out, hL5⟩
          case measure => simp [intOf]; omega
        · have ti0 : (0 : Int) ≤ (j : Int) := by omega
          have ti1 : (j : Int) < (ks.length : Int) := by omega
          rw [List.concat_eq_append] at *
          have hln : (qs ++ [p]).length = qs.length + 1 := by simp
          rw [hln] at HO2 hpl
          rw [hln]
          obtain ⟨g, cap', cur, hv, -⟩ : ∃ g cap' cur, Value.slice a2 (qs.length + 1) cap = .slice (some ⟨g, 0, none⟩) (qs.length + 1) cap' ∧ x2.heap[g]? = some (.cells cur 25 (0, 0)) := by
            rcases HO2.out.2 with ⟨_, h⟩ | ⟨g, cap', cur, hv, hb, hh, _⟩
            · omega
            · exact ⟨g, cap', cur, hv, hh⟩
          injection hv with hv1 _ hv2
          subst hv1 hv2
          have hQ : Cells4 x2 g (qs.length * 4) (sp p) := by
            obtain ⟨b', off', e', hc'⟩ := own_srow HO2.out hln.symm (by simp)
            injection e' with e'
            injection e' with e1 e2
            subst e1 e2
            have h1 := hc' qs.length (by simp)
            rw [Nat.zero_add] at h1
            simpa using h1
          have HQ := Lib.hid hQ
          clear hQ
          obtain ⟨s3, HS3⟩ : ∃ s3, Hid (sd p.1 = s3) := ⟨_, rfl⟩
          obtain ⟨p3, HP3⟩ : ∃ p3, Hid (pa p.1 = p3) := ⟨_, rfl⟩
          obtain ⟨s4, HS4⟩ : ∃ s4, Hid (sd p.2 = s4) := ⟨_, rfl⟩
          obtain ⟨p4, HP4⟩ : ∃ p4, Hid (pa p.2 = p4) := ⟨_, rfl⟩
          have HQ4 : Hid (Cells4 x2 g (qs.length * 4) ⟨s3, p3, s4, p4⟩) := by
            rw [← HS3.out, ← HP3.out, ← HS4.out, ← HP4.out]; exact HQ.out
          obtain ⟨q1, q2, q3, q4⟩ := HQ4.out.re
          obtain ⟨f1, f2⟩ : (∀ d os, (grow (redrawn x2 d) os).cell? ⟨b, off + j * 2, none⟩ = some (.int .i64 s1)) ∧ (∀ d os, (grow (redrawn x2 d) os).cell? ⟨b, off + j * 2 + 1, none⟩ = some (.int .i64 p1)) := ⟨cell_regrown HE1.out.1, cell_regrown HE1.out.2⟩
          clear HQ
          by_cases hpk : p.2 = k
          · have eqc := eql_by s4 p4 s1 p1 true (by rw [← HS4.out, ← HP4.out, ← HS1.out, ← HP1.out, hpk]; simp)
            have tq : (0 : Int) ≤ (qs.length : Int) := by omega
            go_wp2_with fail
            refine wp_region_quiet_below (by assumption) (by kernel_rfl) ?_
            repeat (go_big_quiet_step (fail))
            refine wpQuiet_nil ?_
            intro _ hw'
            obtain ⟨⟨nq, osq⟩, hw''⟩ := hw'
            subst hw''
            have hB3 := below_regrown x2 nq osq
            have hL3 := bt hL2 hB3
            have HO3 := Lib.hid (own_on HO2.out hB3)
            have HF2 := Lib.hid (HE2.out.below hB3)
            have HQ3 := Lib.hid (HQ4.out.below hB3)
            clear hB3 HE1 HE2 HO2 hL2 HQ4 q1 q2 q3 q4 f1 f2
            go_wp2_with fail
            generalize grow (redrawn x2 nq) osq = X at *
            have ti2 : (0 : Int) ≤ (j : Int) + 1 := by omega
            have ti3 : (j : Int) + 1 < (ks.length : Int) := by omega
            have wj : IntKind.i64.wrap ((j : Int) + 1) = (j : Int) + 1 := IntWalk.i64_in _ (by omega)
            have HFZ : Hid (∀ i, X.frozen? ⟨g, i, none⟩ = false) := by
              rcases HO3.out.2 with ⟨h, _⟩ | ⟨g', cap', cur, hv, hb, hh, _⟩
              · cases h
              · injection hv with e1 _ _
                injection e1 with e1
                injection e1 with e1
                subst e1
                exact fun i => frozen_of_row _ _ i _ _ hh
            have hgy : y.heap.size ≤ g := (HO3.out.lt g rfl).1
            obtain ⟨f3, f4⟩ := HF2.out
            obtain ⟨q1, q2, q3, q4⟩ := HQ3.out
            have z1 := HFZ.out (qs.length * 4)
            have z2 := HFZ.out (qs.length * 4 + 1)
            have z3 := HFZ.out (qs.length * 4 + 2)
            have z4 := HFZ.out (qs.length * 4 + 3)
            have hbg : b ≠ g := by omega
            have hL5 : Go.RowKit.Below y.heap.size y (put4 X g (qs.length * 4) (.int .i64 s3) (.int .i64 p3) (.int .i64 s2) (.int .i64 p2)).drew := ((((hL3.setCell hgy _).setCell hgy _).setCell hgy _).setCell hgy _).drew
            have hpx : p = (p.1, k) := by rw [← hpk]
            have HO5 : Hid ((put4 X g (qs.length * 4) (.int .i64 s3) (.int .i64 p3) (.int .i64 s2) (.int .i64 p2)).drew.ownsRow y.heap.size 25 4 (.slice (some ⟨g, 0, none⟩) (qs.length + 1) cap) (qs.length + 1) (flatL (keysOf (qs ++ [(p.1, k')])))) := by
              have h1 := HO3.out
              rw [hpx] at h1
              have h2 := own_join k' h1 (qs.length * 4) rfl
              rw [HS3.out, HP3.out, HS2.out, HP2.out] at h2
              exact h2.drew
            have hKP := put4_keep (X := X) (g := g) (o := qs.length * 4) (v1 := .int .i64 s3) (v2 := .int .i64 p3) (v3 := .int .i64 s2) (v4 := .int .i64 p2) hbg f3 f4 q1 q2
            have tq1 : (qs.length : Int) < ((qs.length + 1 : Nat) : Int) := by omega
            have tq2 : (qs.length : Int) < (qs.length : Int) + 1 := by omega
            go_region_held3 (fun w' => w'.cell? ⟨b, off + (j + 1) * 2, none⟩ = some (.int .i64 s2) ∧ w'.cell? ⟨b, off + (j + 1) * 2 + 1, none⟩ = some (.int .i64 p2) ∧ w'.cell? ⟨g, qs.length * 4, none⟩ = some (.int .i64 s3) ∧ w'.cell? ⟨g, qs.length * 4 + 1, none⟩ = some (.int .i64 p3))
              (first | exact hKP | go_keep)
              (fail)
            go_wp2_with fail
            have hln5 : (qs ++ [(p.1, k')]).length = qs.length + 1 := by simp
            go_roundw
            case rel => exact ⟨j + 1, cap, some ⟨g, 0, none⟩, qs ++ [(p.1, k')], by go_num, by rw [hln5], by omega, by rw [hln5]; omega, by rw [HG2.out.1]; exact (by have h := HU.out; rw [hpx] at h; exact h : Upto (cov (rights l)) ks k (qs ++ [(p.1, k)])).join HLT.out (fun n h1 h2 => HPC.out n h1 h2) (HD.out.1 (by trivial)) HM.out.2, norm_join (by have h := HN.out; rw [hpx] at h; exact h) HLT.out, by rw [hln5]; exact HO5.out, hL5⟩
            case measure => simp [intOf]; omega
          · have eqc := eql_by s4 p4 s1 p1 false (by
              rw [← HS4.out, ← HP4.out, ← HS1.out, ← HP1.out]
              have hk2 : Ky p.2 := HKY.out _ (HU.out.named p (by simp)).2
              rcases hb : (sd p.2 == sd k && pa p.2 == pa k) with _ | _
              · rfl
              · exfalso
                simp at hb
                have e1 := key_back p.2 hk2
                rw [hb.1, hb.2, key_back k HKK.out.1] at e1
                exact hpk e1.symm)
            go_wp2_with fail
            refine wp_region_quiet_below (by assumption) (by kernel_rfl) ?_
            repeat (go_big_quiet_step (fail))
            refine wpQuiet_nil ?_
            intro _ hw'
            obtain ⟨⟨nq, osq⟩, hw''⟩ := hw'
            subst hw''
            have hB3 := below_regrown x2 nq osq
            have hL3 := bt hL2 hB3
            have HO3 := Lib.hid (own_on HO2.out hB3)
            have HF1 := Lib.hid (HE1.out.below hB3)
            have HF2 := Lib.hid (HE2.out.below hB3)
            clear hB3 HE1 HE2 HO2 hL2 HQ4 q1 q2 q3 q4 f1 f2
            go_wp2_with fail
            generalize grow (redrawn x2 nq) osq = X at *
            have hps : (qs.length + 1) ≤ 200 := by omega
            have ti2 : (0 : Int) ≤ (j : Int) + 1 := by omega
            have ti3 : (j : Int) + 1 < (ks.length : Int) := by omega
            have wj : IntKind.i64.wrap ((j : Int) + 1) = (j : Int) + 1 := IntWalk.i64_in _ (by omega)
            have hO4 := (HO3.out.alloc (.cells #[.int .i64 s1, .int .i64 p1, .int .i64 s2, .int .i64 p2] 25)).drew
            have hG1 : CellsAt (X.alloc (.cells #[.int .i64 s1, .int .i64 p1, .int .i64 s2, .int .i64 p2] 25)).drew b (off + j * 2) s1 p1 := (HF1.out.below (below_new X _)).below (Go.RowKit.Below.refl _ _).drew
            have hG2 : CellsAt (X.alloc (.cells #[.int .i64 s1, .int .i64 p1, .int .i64 s2, .int .i64 p2] 25)).drew b (off + (j + 1) * 2) s2 p2 := (HF2.out.below (below_new X _)).below (Go.RowKit.Below.refl _ _).drew
            have hL4 := (bt hL3 (below_new X (.cells #[.int .i64 s1, .int .i64 p1, .int .i64 s2, .int .i64 p2] 25))).drew
            have hsx := hL3.size
            have HNE : Hid (some b ≠ (Value.slice (some ⟨g, 0, none⟩) (qs.length + 1) cap).ownBlock) := by
              intro e1
              have := (HO3.out.lt b e1.symm).1
              omega
            obtain ⟨f1, f2⟩ := HF1.out
            obtain ⟨f3, f4⟩ := HF2.out
            go_region_held3 (fun w' => w'.cell? ⟨b, off + j * 2, none⟩ = some (.int .i64 s1) ∧ w'.cell? ⟨b, off + j * 2 + 1, none⟩ = some (.int .i64 p1) ∧ w'.cell? ⟨b, off + (j + 1) * 2, none⟩ = some (.int .i64 s2) ∧ w'.cell? ⟨b, off + (j + 1) * 2 + 1, none⟩ = some (.int .i64 p2))
              (first | exact ⟨hH1.out.1, hH1.out.2, hH2.out.1, hH2.out.2⟩ | exact ⟨hG1.1, hG1.2, hG2.1, hG2.2⟩ | go_keep)
              ((refine step_append_lies _ (by rfl) _ _ _ (by rfl) y.heap.size 25 i0 (.agg #[.int .i64 0, .int .i64 0, .int .i64 0, .int .i64 0]) 4 32 Try.underlying26 hi hz0 hz1 hz2 rfl (by omega) (.slice (some ⟨g, 0, none⟩) (qs.length + 1) cap) ((qs.length + 1)) (flatL (keysOf (qs ++ [p]))) (by rfl) hO4 ⟨X.heap.size, 0, none⟩ 1 1 [.int .i64 s1, .int .i64 p1, .int .i64 s2, .int .i64 p2] (by rfl) (by rfl) (World.news_of_block (cs := #[.int .i64 s1, .int .i64 p1, .int .i64 s2, .int .i64 p2]) (t := 25) (fr := (0, 0)) (heap_alloc_new X _)) (one_four _ _ _ _) (by omega) (by unfold maxLen; omega) (by omega) (by simp; omega) (X.heap.size + 1) (by simp) ?_; intro g2 cap2 w1 hown1 hgrow1 hat1 hlt1; have hH1 := Lib.hid (hG1.far hgrow1 HNE.out); have hH2 := Lib.hid (hG2.far hgrow1 HNE.out); have HO5 := Lib.hid hown1; have hL5 : Go.RowKit.Below y.heap.size y w1 := hL4.grown hgrow1 (by simp; omega) (fun k hk => (hO4.lt k hk).1); clear hgrow1 hown1))
            go_wp2_with fail
            have hfl : flatL (keysOf ((qs ++ [p]) ++ [(k, k')])) = flatL (keysOf (qs ++ [p])) ++ [.int .i64 s1, .int .i64 p1, .int .i64 s2, .int .i64 p2] := by
              rw [keysOf_snoc, flatL_two, HS1.out, HP1.out, HS2.out, HP2.out]
            have hln5 : ((qs ++ [p]) ++ [(k, k')]).length = (qs.length + 1) + 1 := by simp
            go_roundw
            case rel => exact ⟨j + 1, cap2, some ⟨g2, 0, none⟩, (qs ++ [p]) ++ [(k, k')], by go_num, by rw [hln5], by omega, by rw [hln5]; omega, by rw [HG2.out.1]; exact HU.out.put HLT.out (fun n h1 h2 => HPC.out n h1 h2) (HD.out.1 (by trivial)) HM.out.1 HM.out.2, norm_put HN.out HLT.out (norm_all_lt HN.out (by have h1 := HU.out.le p (by simp); omega)), by rw [hfl, hln5]; exact HO5.out, hL5⟩
            case measure => simp [intOf]; omega
    · have hje : j = ks.length - 1 := by omega
      go_wp2_with fail
      go_ret
      refine ⟨a2, cap, ps, ⟨rfl, HN.out, fun n => ?_, fun p hp => ?_, by omega, own_srow HO.out rfl⟩, bt hBy hBr⟩
      · rw [HU.out.cov n]
        refine ⟨fun h => h.1, fun h => ⟨h, ?_⟩⟩
        obtain ⟨h0, h1⟩ := cov_last _ _ HUP.out HNM.out n h
        rw [hje, List.getD_eq_getElem?_getD, List.getElem?_eq_getElem h0]; exact h1
      · have := HU.out.named p hp
        exact ⟨HKY.out _ this.1, HKY.out _ this.2⟩
end Go.Proofs.Ytkokilbnhhmicaa
