/- A part of the proof: contracts of the functions that the statements reach. -/
import Derived.Test.YtakkmnhiaddnnaaRows
import Derived.Test.YtakkmnhiaddnnaaCA
import Derived.Test.YtakkmnhiaddnnaaCB
import Derived.OpenShut
import Derived.Deep.RegionHeld3
import Derived.BigQuiet
import Derived.Deep.QuietTactic

/- Contracts of the reference's cuts: Less, Compare, Low, High, Ahead, Behind, Next, Prev. -/
namespace Go.Proofs.Ytakkmnhiaddnnaa
open Go.RowKit Go.Sort Go.Proofs.Ytakkmnhiaddnnaa.Bo
set_option linter.unusedVariables false

theorem Two.put0 {b : Nat} {s a t c : Int} {w : World} (h : Two b s a t c w) (s' a' : Int) : Two b s' a' t c ((w.setCell ⟨b, 0, none⟩ (.int .i64 s')).setCell ⟨b, 1, none⟩ (.int .i64 a')) :=
  ⟨two_put h.1, by rw [heap_setCell_other _ _ _ _ (by simp), heap_setCell_other _ _ _ _ (by simp)]; exact h.2⟩
theorem Two.put1 {b : Nat} {s a t c : Int} {w : World} (h : Two b s a t c w) (s' a' : Int) : Two b s a s' a' ((w.setCell ⟨b + 1, 0, none⟩ (.int .i64 s')).setCell ⟨b + 1, 1, none⟩ (.int .i64 a')) :=
  ⟨by rw [heap_setCell_other _ _ _ _ (by simp), heap_setCell_other _ _ _ _ (by simp)]; exact h.1, two_put h.2⟩
theorem ret_bool {a b : Bool} (h : a = b) : Ending.returned (.bool a) = .returned (.bool b) := by rw [h]

set_option maxRecDepth 100000 in
set_option maxHeartbeats 1000000 in
theorem rless_any (s a t b : Int) (w : World) (ha : I64 a) (hb : I64 b) :
    Calls Try.prog 62 #[.agg #[.int .i64 s, .int .i64 a], .agg #[.int .i64 t, .int .i64 b]] w fun e w' => e = .returned (.bool (decide (key s a < key t b))) ∧ Below w.heap.size w w' := by
  have HC := Lib.hid (fun W => rcanon_any s a W ha)
  have HD := Lib.hid (fun W => rcanon_any t b W hb)
  have h1 := fun h => lt_side _ _ (key_ky s a ha) (key_ky t b hb) h
  have h2 := fun h => lt_at _ _ (key_ky s a ha) (key_ky t b hb) h
  generalize hD : decide (key s a < key t b) = D at *
  generalize sd (key s a) = x at *
  generalize pa (key s a) = y at *
  generalize sd (key t b) = u at *
  generalize pa (key t b) = v at *
  have H1 := Lib.hid h1
  have H2 := Lib.hid h2
  clear h1 h2 hD ha hb
  go_enter Try.func62, Try.ntmps62
  go_wp2_with fail
  refine (HC.out _).mono ?_
  rintro e w1 ⟨rfl, hB1⟩
  have hT0 : Two w.heap.size s a t b ((w.alloc (.cells #[.int .i64 s, .int .i64 a] 31)).alloc (.cells #[.int .i64 t, .int .i64 b] 31)) := ⟨heap_alloc2_old _ _ _, heap_alloc2_new _ _ _⟩
  have hT1 := hT0.below hB1
  have hL1 : Below w.heap.size w w1 := bt (((Below.refl _ _).alloc (Nat.le_refl _) _).alloc (by simp) _) hB1
  have hT2 := hT1.put0 x y
  have hL2 := (hL1.setCell (p := ⟨w.heap.size, 0, none⟩) (by simp) (.int .i64 x)).setCell (p := ⟨w.heap.size, 1, none⟩) (by simp) (.int .i64 y)
  obtain ⟨p1, p2, p3, p4, p5, p6, p7, p8⟩ := hT1.cells
  obtain ⟨_, _, q3, q4, _, _, _, _⟩ := hT2.cells
  have HT2 := Lib.hid hT2
  clear hT0 hT1 hT2 hB1 hL1
  go_wp2_with fail
  generalize (w1.setCell ⟨w.heap.size, 0, none⟩ (.int .i64 x)).setCell ⟨w.heap.size, 1, none⟩ (.int .i64 y) = X at *
  refine (HD.out _).mono ?_
  rintro e w2 ⟨rfl, hB2⟩
  have hT3 := HT2.out.below hB2
  have hL3 := bt hL2 hB2
  have hT4 := hT3.put1 u v
  have hL4 := (hL3.setCell (p := ⟨w.heap.size + 1, 0, none⟩) (by simp) (.int .i64 u)).setCell (p := ⟨w.heap.size + 1, 1, none⟩) (by simp) (.int .i64 v)
  clear p1 p2 p3 p4 p5 p6 p7 p8 q3 q4
  obtain ⟨p1, p2, p3, p4, p5, p6, p7, p8⟩ := hT3.cells
  obtain ⟨q1, q2, q3, q4, _, _, _, _⟩ := hT4.cells
  clear hT3 hT4 hB2 hL2 hL3 HT2
  by_cases hq : x = u
  · have HQ := Lib.hid (H2.out hq)
    have tq : (x != u) = false := bne_eq_false_iff_eq.2 hq
    clear hq
    go_wp2_with fail
    go_ret
    exact ⟨ret_bool HQ.out, hL4⟩
  · have HQ := Lib.hid (H1.out hq)
    have tq : (x != u) = true := bne_iff_ne.2 hq
    clear hq
    go_wp2_with fail
    go_ret
    exact ⟨ret_bool HQ.out, hL4⟩

set_option maxRecDepth 100000 in
theorem rcompare_any (s a t b : Int) (w : World) (ha : I64 a) (hb : I64 b) :
    Calls Try.prog 51 #[.agg #[.int .i64 s, .int .i64 a], .agg #[.int .i64 t, .int .i64 b]] w fun e w' => e = .returned (.int .i64 (kcmp (key s a) (key t b))) ∧ Below w.heap.size w w' := by
  have HC := Lib.hid (fun W => rless_any s a t b W ha hb)
  have HD := Lib.hid (fun W => rless_any t b s a W hb ha)
  generalize key s a = k at *
  generalize key t b = l at *
  clear ha hb
  have hT0 : Two w.heap.size s a t b ((w.alloc (.cells #[.int .i64 s, .int .i64 a] 31)).alloc (.cells #[.int .i64 t, .int .i64 b] 31)) := ⟨heap_alloc2_old _ _ _, heap_alloc2_new _ _ _⟩
  have hL0 : Below w.heap.size w ((w.alloc (.cells #[.int .i64 s, .int .i64 a] 31)).alloc (.cells #[.int .i64 t, .int .i64 b] 31)) := ((Below.refl _ _).alloc (Nat.le_refl _) _).alloc (by simp) _
  have HT := Lib.hid hT0
  clear hT0
  rcases Int.lt_trichotomy k l with h | h | h
  · rw [decide_eq_true h] at HC
    rw [kcmp_lt k l h]
    clear h HD
    go_enter Try.func51, Try.ntmps51
    go_wp2_with fail
    refine (HC.out _).mono ?_
    rintro e w1 ⟨rfl, hB1⟩
    go_wp2_with fail
    go_ret
    exact ⟨rfl, bt hL0 hB1⟩
  · rw [decide_eq_false (show ¬ k < l by omega)] at HC
    rw [decide_eq_false (show ¬ l < k by omega)] at HD
    rw [kcmp_eq k l h]
    clear h
    go_enter Try.func51, Try.ntmps51
    go_wp2_with fail
    refine (HC.out _).mono ?_
    rintro e w1 ⟨rfl, hB1⟩
    obtain ⟨p1, p2, p3, p4, _, _, _, _⟩ := (HT.out.below hB1).cells
    go_wp2_with fail
    refine (HD.out _).mono ?_
    rintro e w2 ⟨rfl, hB2⟩
    go_wp2_with fail
    go_ret
    exact ⟨rfl, bt (bt hL0 hB1) hB2⟩
  · rw [decide_eq_false (show ¬ k < l by omega)] at HC
    rw [decide_eq_true (show l < k by omega)] at HD
    rw [kcmp_gt k l h]
    clear h
    go_enter Try.func51, Try.ntmps51
    go_wp2_with fail
    refine (HC.out _).mono ?_
    rintro e w1 ⟨rfl, hB1⟩
    obtain ⟨p1, p2, p3, p4, _, _, _, _⟩ := (HT.out.below hB1).cells
    go_wp2_with fail
    refine (HD.out _).mono ?_
    rintro e w2 ⟨rfl, hB2⟩
    go_wp2_with fail
    go_ret
    exact ⟨rfl, bt (bt hL0 hB1) hB2⟩

def klow (k l : Int) : Int := if l < k then l else k
def khigh (k l : Int) : Int := if k < l then l else k

end Go.Proofs.Ytakkmnhiaddnnaa

/- The law's guard 'alive' of layer 2 answers true. -/
namespace Go.Proofs.Ytakkmnhiaddnnaa
open Go.RowKit Go.Sort Go.Proofs.Ytakkmnhiaddnnaa.Bo
set_option linter.unusedVariables false

theorem al_next (w : World) : Calls Try.prog 95 #[.agg #[.int .i64 (-1), .int .i64 0]] w fun e w' => e = .returned (.tuple #[.int .i64 (-9223372036854775808), .bool true]) ∧ Below w.heap.size w w' := by
  have h := next_any (-1) 0 w ⟨by decide, by decide⟩
  rw [show key (-1) 0 = -9223372036854775808 from by decide, (nx_in (-9223372036854775808) (by decide)).1, (nx_in (-9223372036854775808) (by decide)).2] at h
  exact h.mono fun _ _ h => ⟨h.1, h.2.1⟩
theorem al_behind2 (w : World) : Calls Try.prog 96 #[.int .i64 2] w fun e w' => e = .returned (.agg #[.int .i64 0, .int .i64 3]) ∧ Below w.heap.size w w' := by
  have h := behind_any 2 w ⟨by decide, by decide⟩
  rw [show (2 : Int) + 1 = 3 from by decide, sd_mid 3 (by decide) (by decide), pa_mid 3 (by decide) (by decide)] at h
  exact h.mono fun _ _ h => ⟨h.1, h.2.1⟩
theorem al_behind_top (w : World) : Calls Try.prog 96 #[.int .i64 9223372036854775807] w fun e w' => e = .returned (.agg #[.int .i64 1, .int .i64 0]) ∧ Below w.heap.size w w' := by
  have h := behind_any 9223372036854775807 w ⟨by decide, by decide⟩
  rw [show (9223372036854775807 : Int) + 1 = 9223372036854775808 from by decide, sd_hi, pa_hi] at h
  exact h.mono fun _ _ h => ⟨h.1, h.2.1⟩
theorem al_compare (w : World) : Calls Try.prog 48 #[.agg #[.int .i64 0, .int .i64 3], .agg #[.int .i64 0, .int .i64 3]] w fun e w' => e = .returned (.int .i64 0) ∧ Below w.heap.size w w' := by
  have h := compare_any 0 3 0 3 w ⟨by decide, by decide⟩ ⟨by decide, by decide⟩
  rw [kcmp_eq _ _ rfl] at h
  exact h.mono fun _ _ h => ⟨h.1, h.2.1⟩
theorem first_b (w : World) : Calls Try.prog 54 #[] w fun e w' => e = .returned (.agg #[.int .i64 (-1), .int .i64 0]) ∧ Below w.heap.size w w' := (first_any w).mono fun _ _ h => ⟨h.1, h.2.1⟩
theorem last_b (w : World) : Calls Try.prog 55 #[] w fun e w' => e = .returned (.agg #[.int .i64 1, .int .i64 0]) ∧ Below w.heap.size w w' := (last_any w).mono fun _ _ h => ⟨h.1, h.2.1⟩

end Go.Proofs.Ytakkmnhiaddnnaa

/- The walk of the law CutOrder. -/
namespace Go.Proofs.Ytakkmnhiaddnnaa
open Go.RowKit Go.Sort Go.Proofs.Ytakkmnhiaddnnaa.Bo
set_option linter.unusedVariables false

theorem i64_of_wf2 {n : Int} (h : (Lit.int .i64 n).wf = true) : I64 n := by
  have := bounds_i64 h; unfold I64; omega
theorem compare_b (s a t b : Int) (v : Int) (h : kcmp (key s a) (key t b) = v) (ha : I64 a) (hb : I64 b) (w : World) :
    Calls Try.prog 48 #[.agg #[.int .i64 s, .int .i64 a], .agg #[.int .i64 t, .int .i64 b]] w fun e w' => e = .returned (.int .i64 v) ∧ Below w.heap.size w w' := by
  subst h; exact (compare_any s a t b w ha hb).mono fun _ _ h => ⟨h.1, h.2.1⟩
theorem canon_b (s a : Int) (ha : I64 a) (w : World) :
    Calls Try.prog 74 #[.agg #[.int .i64 s, .int .i64 a]] w fun e w' => e = .returned (.agg #[.int .i64 (sd (key s a)), .int .i64 (pa (key s a))]) ∧ Below w.heap.size w w' := (canon_any s a w ha).mono fun _ _ h => ⟨h.1, h.2.1⟩

/-- The cells of three boxes that lie side by side. -/
theorem three_boxes (w : World) (s a t b u c : Int) :
    (((w.alloc (.cells #[.int .i64 s, .int .i64 a] 31)).alloc (.cells #[.int .i64 t, .int .i64 b] 31)).alloc (.cells #[.int .i64 u, .int .i64 c] 31)).heap[w.heap.size]? = some (.cells #[.int .i64 s, .int .i64 a] 31 (0, 0)) ∧
    (((w.alloc (.cells #[.int .i64 s, .int .i64 a] 31)).alloc (.cells #[.int .i64 t, .int .i64 b] 31)).alloc (.cells #[.int .i64 u, .int .i64 c] 31)).heap[w.heap.size + 1]? = some (.cells #[.int .i64 t, .int .i64 b] 31 (0, 0)) ∧
    (((w.alloc (.cells #[.int .i64 s, .int .i64 a] 31)).alloc (.cells #[.int .i64 t, .int .i64 b] 31)).alloc (.cells #[.int .i64 u, .int .i64 c] 31)).heap[w.heap.size + 1 + 1]? = some (.cells #[.int .i64 u, .int .i64 c] 31 (0, 0)) ∧
    Below w.heap.size w (((w.alloc (.cells #[.int .i64 s, .int .i64 a] 31)).alloc (.cells #[.int .i64 t, .int .i64 b] 31)).alloc (.cells #[.int .i64 u, .int .i64 c] 31)) := by
  refine ⟨?_, ?_, ?_, (((Below.refl _ _).alloc (Nat.le_refl _) _).alloc (by simp) _).alloc (by simp; omega) _⟩
  · rw [heap_alloc_old _ _ (by simp; omega)]; exact heap_alloc2_old _ _ _
  · rw [heap_alloc_old _ _ (by simp)]; exact heap_alloc2_new _ _ _
  · have h := heap_alloc_new ((w.alloc (.cells #[.int .i64 s, .int .i64 a] 31)).alloc (.cells #[.int .i64 t, .int .i64 b] 31)) (.cells #[.int .i64 u, .int .i64 c] 31)
    simpa using h

end Go.Proofs.Ytakkmnhiaddnnaa

/- Contract of cut.Shift. -/
namespace Go.Proofs.Ytakkmnhiaddnnaa
open Go.RowKit Go.Sort Go.Proofs.Ytakkmnhiaddnnaa.Bo
set_option linter.unusedVariables false

theorem ret_cb {x y x' y' : Int} {b b' : Bool} (h1 : x = x') (h2 : y = y') (h3 : b = b') : Ending.returned (.tuple #[.agg #[.int .i64 x, .int .i64 y], .bool b]) = .returned (.tuple #[.agg #[.int .i64 x', .int .i64 y'], .bool b']) := by rw [h1, h2, h3]
end Go.Proofs.Ytakkmnhiaddnnaa

/- Contracts of cut, ends, Is. -/
namespace Go.Proofs.Ytakkmnhiaddnnaa
open Go.RowKit Go.Proofs.Ytakkmnhiaddnnaa.Bo
set_option linter.unusedVariables false

theorem Dg.cellAt {w : World} {a : Option Addr} {n cap : Nat} {xs : List Nat} (h : Dg w (.slice a n cap) xs) : n = xs.length ∧ n ≤ cap ∧ (0 < n → ∃ g, a = some ⟨g, 0, none⟩ ∧ g < w.heap.size ∧ ∀ (j : Nat) (h : j < xs.length), w.cell? ⟨g, j, none⟩ = some (.int .i64 ((xs[j] : Nat) : Int))) := by
  obtain ⟨a', cap', e, hc, hg⟩ := h
  injection e with e1 e2 e3
  subst e1 e2 e3
  refine ⟨rfl, hc, fun hp => ?_⟩
  obtain ⟨g, cur, ha, hgb, hcur⟩ := hg hp
  exact ⟨g, ha, lt_of_block hgb, fun j hj => (cell_of_row _ _ j _ _ _ hgb).trans (hcur j hj)⟩

def CutPost (a : Option Addr) (cap : Nat) (xs : List Nat) (w : World) (e : Ending) (w' : World) : Prop := ∃ n, e = .returned (.slice a n cap) ∧ n ≤ xs.length ∧ val (xs.take n) = val xs ∧ w = w'

theorem take_zero_last (xs : List Nat) (n : Nat) (h : n + 1 ≤ xs.length) (h0 : xs[n] = 0) : val (xs.take n) = val (xs.take (n + 1)) := by
  rw [val_take_succ xs n (by omega), h0]; simp

def slLen : Value → Nat | .slice _ n _ => n | _ => 0
theorem Dg.take {w : World} {a : Option Addr} {cap : Nat} {xs : List Nat} (h : Dg w (.slice a xs.length cap) xs) (n : Nat) (hn : n ≤ xs.length) : Dg w (.slice a n cap) (xs.take n) := by
  obtain ⟨a', cap', e, hc, hg⟩ := h
  injection e with e1 e2 e3
  subst e1 e3
  have hl : (xs.take n).length = n := by rw [List.length_take, Nat.min_eq_left hn]
  refine ⟨a, cap, by rw [hl], by omega, fun hp => ?_⟩
  obtain ⟨g, cur, ha, hgb, hcur⟩ := hg (by omega)
  exact ⟨g, cur, ha, hgb, fun j hj => by rw [List.getElem_take]; exact hcur j (by omega)⟩
theorem dg_new (w : World) (cs : Array Value) (xs : List Nat) (n : Nat) (hn : xs.length = n) (hcs : cs.toList = xs.map (fun (d : Nat) => Value.int .i64 (d : Int))) :
    Dg (w.alloc (.cells cs 3)) (.slice (some ⟨w.heap.size, 0, none⟩) n n) xs := by
  subst hn
  refine ⟨_, _, rfl, Nat.le_refl _, fun _ => ⟨w.heap.size, cs, rfl, heap_alloc_new _ _, fun j hj => ?_⟩⟩
  have h1 : cs.toList[j]? = some (.int .i64 ((xs[j] : Nat) : Int)) := by rw [hcs]; simp [hj]
  simpa using h1

def endsL (s : Int) : List Nat := (if s < 0 then 8 else 7) :: [0, 8, 5, 7, 7, 4, 5, 8, 6, 3, 0, 2, 7, 3, 3, 2, 2, 9]
theorem val_ends (s : Int) : val (endsL s) = lim s := by unfold endsL lim; split <;> decide +kernel
theorem ok_ends (s : Int) : Ok (endsL s) := by unfold endsL Ok; split <;> decide
theorem len_ends (s : Int) : (endsL s).length = 19 := by unfold endsL; rfl
def EndsPost (s : Int) (w : World) (e : Ending) (w' : World) : Prop := ∃ v, e = .returned v ∧ Dg w' v (endsL s) ∧ Below w.heap.size w w'

/-- A whole number as the reference keeps it: its sign, and its digits. -/
def BigAt (w : World) (V : Value) (z : Int) (L : Nat) : Prop :=
  ∃ (s : Int) (v : Value) (xs : List Nat), V = .agg #[.int .i64 s, v] ∧ (s = -1 ∨ s = 0 ∨ s = 1) ∧ Dg w v xs ∧ Ok xs ∧ xs.length ≤ L ∧ z = s * (val xs : Int) ∧ (s = 0 → val xs = 0)
theorem BigAt.below {w w' : World} {V : Value} {z : Int} {L : Nat} (h : BigAt w V z L) (hb : Below w.heap.size w w') : BigAt w' V z L := by
  obtain ⟨s, v, xs, hV, hs, hd, ok, hl, hz, h0⟩ := h
  exact ⟨s, v, xs, hV, hs, hd.below hb, ok, hl, hz, h0⟩

end Go.Proofs.Ytakkmnhiaddnnaa

/- Contract of End. -/
namespace Go.Proofs.Ytakkmnhiaddnnaa
open Go.RowKit Go.Proofs.Ytakkmnhiaddnnaa.Bo
set_option linter.unusedVariables false

theorem ret_i64 {a b : Int} (h : a = b) : Ending.returned (.int .i64 a) = .returned (.int .i64 b) := by rw [h]

end Go.Proofs.Ytakkmnhiaddnnaa
