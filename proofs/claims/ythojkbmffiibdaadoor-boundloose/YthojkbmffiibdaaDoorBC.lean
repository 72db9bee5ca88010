/- A part of the proof: contracts of the functions that the statements reach. -/
import Derived.Test.YthojkbmffiibdaaDoorRows
import Derived.Test.YthojkbmffiibdaaDoorBA
import Derived.Test.YthojkbmffiibdaaDoorBB
import Derived.Lib.QuietBelow
import Derived.BigQuiet
import Derived.OpenShut
import Derived.Deep.RegionHeld3
import Derived.Deep.QuietTactic
import Derived.Maps.AppendAt

/- Contracts of the reference's cuts. -/
namespace Go.Proofs.YthojkbmffiibdaaDoor
open Go.RowKit Go.Sort Go.Proofs.YthojkbmffiibdaaDoor.Bo
set_option linter.unusedVariables false

theorem rleast_any (w : World) : Calls Tryd.prog 56 #[] w fun e w' => e = .returned (.int .i64 (-9223372036854775808)) ∧ Below w.heap.size w w' := by
  go_enter Tryd.func56, Tryd.ntmps56
  go_wp2
  go_ret
  exact ⟨rfl, Below.refl _ _⟩

/-- A cut in a block: its two cells in every world in which what was there stays. -/
theorem cut_regrown {X : World} {b : Nat} {x y : Value} {t : TypeId} (h : X.heap[b]? = some (.cells #[x, y] t (0, 0))) :
    (∀ d os, (grow (redrawn X d) os).cell? ⟨b, 0, none⟩ = some x) ∧ (∀ d os, (grow (redrawn X d) os).cell? ⟨b, 1, none⟩ = some y) :=
  ⟨cell_regrown (two_cells h).1, cell_regrown (two_cells h).2.1⟩

set_option maxRecDepth 100000 in
set_option maxHeartbeats 1000000 in
theorem rcanon_neg (s a : Int) (w : World) (h : s < 0) :
    Calls Tryd.prog 38 #[.agg #[.int .i64 s, .int .i64 a]] w fun e w' => e = .returned (.agg #[.int .i64 (-1), .int .i64 0]) ∧ Below w.heap.size w w' := by
  have mx := mixed
  have t1 : decide (s < 0) = true := decide_eq_true h
  clear h
  go_enter Tryd.func38, Tryd.ntmps38
  go_wp2_with fail
  have hb1 : ((w.alloc (.cells #[.int .i64 s, .int .i64 a] 25)).alloc (.cells #[.int .i64 0, .int .i64 0] 25)).heap[w.heap.size]? = some (.cells #[.int .i64 s, .int .i64 a] 25 (0, 0)) := heap_alloc2_old _ _ _
  have hb2 : ((w.alloc (.cells #[.int .i64 s, .int .i64 a] 25)).alloc (.cells #[.int .i64 0, .int .i64 0] 25)).heap[w.heap.size + 1]? = some (.cells #[.int .i64 0, .int .i64 0] 25 (0, 0)) := heap_alloc2_new _ _ _
  have hL : Below w.heap.size w ((w.alloc (.cells #[.int .i64 s, .int .i64 a] 25)).alloc (.cells #[.int .i64 0, .int .i64 0] 25)) := ((Below.refl _ _).alloc (Nat.le_refl _) _).alloc (by simp) _
  generalize (w.alloc (.cells #[.int .i64 s, .int .i64 a] 25)).alloc (.cells #[.int .i64 0, .int .i64 0] 25) = X at *
  obtain ⟨p1, p2⟩ := cut_regrown hb1
  have HB1 := Lib.hid hb1
  have HB2 := Lib.hid hb2
  clear hb1 hb2
  refine wp_region_quiet_below (by assumption) (by kernel_rfl) ?_
  repeat (go_big_quiet_step (first | (go_at_call 56; exact Calls.regrown_of (rleast_any _))))
  refine wpQuiet_nil ?_
  intro _ hw'
  obtain ⟨⟨nq, osq⟩, hw''⟩ := hw'
  subst hw''

  have hB := below_regrown X nq osq
  have hb1 := (hB.block _ (lt_of_block HB1.out)).trans HB1.out
  have hb2 := (hB.block _ (lt_of_block HB2.out)).trans HB2.out
  have hL2 := bt hL hB
  show Exit.then _ _ Exit.normal _ (grow (redrawn X nq) osq)
  generalize grow (redrawn X nq) osq = Y at *
  obtain ⟨c1, c2, _, _⟩ := two_cells hb1
  obtain ⟨d1, d2, d3, d4⟩ := two_cells hb2
  obtain ⟨q1, q2, _, _⟩ := two_cells (two_put (p := .int .i64 (-1)) (q := .int .i64 0) hb2)
  have hL3 := (hL2.setCell (p := ⟨w.heap.size + 1, 0, none⟩) (by simp) (.int .i64 (-1))).setCell (p := ⟨w.heap.size + 1, 1, none⟩) (by simp) (.int .i64 0)
  clear p1 p2 hb1 hb2 HB1 HB2
  go_wp2_with fail
  refine bodyPost_ret (v := .agg #[.int .i64 (-1), .int .i64 0]) (by simp [results, Tryd.results38, go_sem, q1, q2]) rfl ?_
  exact ⟨rfl, hL3⟩
set_option maxRecDepth 100000 in
theorem rcanon_least  (w : World)  :
    Calls Tryd.prog 38 #[.agg #[.int .i64 0, .int .i64 (-9223372036854775808)]] w fun e w' => e = .returned (.agg #[.int .i64 (-1), .int .i64 0]) ∧ Below w.heap.size w w' := by
  have mx := mixed

  go_enter Tryd.func38, Tryd.ntmps38
  go_wp2_with fail
  have hb1 : ((w.alloc (.cells #[.int .i64 0, .int .i64 (-9223372036854775808)] 25)).alloc (.cells #[.int .i64 0, .int .i64 0] 25)).heap[w.heap.size]? = some (.cells #[.int .i64 0, .int .i64 (-9223372036854775808)] 25 (0, 0)) := heap_alloc2_old _ _ _
  have hb2 : ((w.alloc (.cells #[.int .i64 0, .int .i64 (-9223372036854775808)] 25)).alloc (.cells #[.int .i64 0, .int .i64 0] 25)).heap[w.heap.size + 1]? = some (.cells #[.int .i64 0, .int .i64 0] 25 (0, 0)) := heap_alloc2_new _ _ _
  have hL : Below w.heap.size w ((w.alloc (.cells #[.int .i64 0, .int .i64 (-9223372036854775808)] 25)).alloc (.cells #[.int .i64 0, .int .i64 0] 25)) := ((Below.refl _ _).alloc (Nat.le_refl _) _).alloc (by simp) _
  generalize (w.alloc (.cells #[.int .i64 0, .int .i64 (-9223372036854775808)] 25)).alloc (.cells #[.int .i64 0, .int .i64 0] 25) = X at *
  obtain ⟨p1, p2⟩ := cut_regrown hb1
  have HB1 := Lib.hid hb1
  have HB2 := Lib.hid hb2
  clear hb1 hb2
  refine wp_region_quiet_below (by assumption) (by kernel_rfl) ?_
  repeat (go_big_quiet_step (first | (go_at_call 56; exact Calls.regrown_of (rleast_any _))))
  refine wpQuiet_nil ?_
  intro _ hw'
  obtain ⟨⟨nq, osq⟩, hw''⟩ := hw'
  subst hw''

  have hB := below_regrown X nq osq
  have hb1 := (hB.block _ (lt_of_block HB1.out)).trans HB1.out
  have hb2 := (hB.block _ (lt_of_block HB2.out)).trans HB2.out
  have hL2 := bt hL hB
  show Exit.then _ _ Exit.normal _ (grow (redrawn X nq) osq)
  generalize grow (redrawn X nq) osq = Y at *
  obtain ⟨c1, c2, _, _⟩ := two_cells hb1
  obtain ⟨d1, d2, d3, d4⟩ := two_cells hb2
  obtain ⟨q1, q2, _, _⟩ := two_cells (two_put (p := .int .i64 (-1)) (q := .int .i64 0) hb2)
  have hL3 := (hL2.setCell (p := ⟨w.heap.size + 1, 0, none⟩) (by simp) (.int .i64 (-1))).setCell (p := ⟨w.heap.size + 1, 1, none⟩) (by simp) (.int .i64 0)
  clear p1 p2 hb1 hb2 HB1 HB2
  go_wp2_with fail
  refine bodyPost_ret (v := .agg #[.int .i64 (-1), .int .i64 0]) (by simp [results, Tryd.results38, go_sem, q1, q2]) rfl ?_
  exact ⟨rfl, hL3⟩
set_option maxRecDepth 100000 in
theorem rcanon_pos (s a : Int) (w : World) (h : 0 < s) :
    Calls Tryd.prog 38 #[.agg #[.int .i64 s, .int .i64 a]] w fun e w' => e = .returned (.agg #[.int .i64 1, .int .i64 0]) ∧ Below w.heap.size w w' := by
  have mx := mixed
  have t1 : decide (s < 0) = false := decide_eq_false (by omega)
  have t2 : (s == 0) = false := beq_eq_false_iff_ne.2 (by omega)
  have t3 : decide (0 < s) = true := decide_eq_true h
  clear h
  go_enter Tryd.func38, Tryd.ntmps38
  go_wp2_with fail
  have hb1 : ((w.alloc (.cells #[.int .i64 s, .int .i64 a] 25)).alloc (.cells #[.int .i64 0, .int .i64 0] 25)).heap[w.heap.size]? = some (.cells #[.int .i64 s, .int .i64 a] 25 (0, 0)) := heap_alloc2_old _ _ _
  have hb2 : ((w.alloc (.cells #[.int .i64 s, .int .i64 a] 25)).alloc (.cells #[.int .i64 0, .int .i64 0] 25)).heap[w.heap.size + 1]? = some (.cells #[.int .i64 0, .int .i64 0] 25 (0, 0)) := heap_alloc2_new _ _ _
  have hL : Below w.heap.size w ((w.alloc (.cells #[.int .i64 s, .int .i64 a] 25)).alloc (.cells #[.int .i64 0, .int .i64 0] 25)) := ((Below.refl _ _).alloc (Nat.le_refl _) _).alloc (by simp) _
  generalize (w.alloc (.cells #[.int .i64 s, .int .i64 a] 25)).alloc (.cells #[.int .i64 0, .int .i64 0] 25) = X at *
  obtain ⟨p1, p2⟩ := cut_regrown hb1
  have HB1 := Lib.hid hb1
  have HB2 := Lib.hid hb2
  clear hb1 hb2
  refine wp_region_quiet_below (by assumption) (by kernel_rfl) ?_
  repeat (go_big_quiet_step (first | (go_at_call 56; exact Calls.regrown_of (rleast_any _))))
  refine wpQuiet_nil ?_
  intro _ hw'
  obtain ⟨⟨nq, osq⟩, hw''⟩ := hw'
  subst hw''

  have hB := below_regrown X nq osq
  have hb1 := (hB.block _ (lt_of_block HB1.out)).trans HB1.out
  have hb2 := (hB.block _ (lt_of_block HB2.out)).trans HB2.out
  have hL2 := bt hL hB
  show Exit.then _ _ Exit.normal _ (grow (redrawn X nq) osq)
  generalize grow (redrawn X nq) osq = Y at *
  obtain ⟨c1, c2, _, _⟩ := two_cells hb1
  obtain ⟨d1, d2, d3, d4⟩ := two_cells hb2
  obtain ⟨q1, q2, _, _⟩ := two_cells (two_put (p := .int .i64 1) (q := .int .i64 0) hb2)
  have hL3 := (hL2.setCell (p := ⟨w.heap.size + 1, 0, none⟩) (by simp) (.int .i64 1)).setCell (p := ⟨w.heap.size + 1, 1, none⟩) (by simp) (.int .i64 0)
  clear p1 p2 hb1 hb2 HB1 HB2
  go_wp2_with fail
  refine bodyPost_ret (v := .agg #[.int .i64 1, .int .i64 0]) (by simp [results, Tryd.results38, go_sem, q1, q2]) rfl ?_
  exact ⟨rfl, hL3⟩
set_option maxRecDepth 100000 in
theorem rcanon_mid (a : Int) (w : World) (h : a ≠ -9223372036854775808) :
    Calls Tryd.prog 38 #[.agg #[.int .i64 0, .int .i64 a]] w fun e w' => e = .returned (.agg #[.int .i64 0, .int .i64 a]) ∧ Below w.heap.size w w' := by
  have mx := mixed
  have t2 : (a == -9223372036854775808) = false := beq_eq_false_iff_ne.2 h
  clear h
  go_enter Tryd.func38, Tryd.ntmps38
  go_wp2_with fail
  have hb1 : ((w.alloc (.cells #[.int .i64 0, .int .i64 a] 25)).alloc (.cells #[.int .i64 0, .int .i64 0] 25)).heap[w.heap.size]? = some (.cells #[.int .i64 0, .int .i64 a] 25 (0, 0)) := heap_alloc2_old _ _ _
  have hb2 : ((w.alloc (.cells #[.int .i64 0, .int .i64 a] 25)).alloc (.cells #[.int .i64 0, .int .i64 0] 25)).heap[w.heap.size + 1]? = some (.cells #[.int .i64 0, .int .i64 0] 25 (0, 0)) := heap_alloc2_new _ _ _
  have hL : Below w.heap.size w ((w.alloc (.cells #[.int .i64 0, .int .i64 a] 25)).alloc (.cells #[.int .i64 0, .int .i64 0] 25)) := ((Below.refl _ _).alloc (Nat.le_refl _) _).alloc (by simp) _
  generalize (w.alloc (.cells #[.int .i64 0, .int .i64 a] 25)).alloc (.cells #[.int .i64 0, .int .i64 0] 25) = X at *
  obtain ⟨p1, p2⟩ := cut_regrown hb1
  have HB1 := Lib.hid hb1
  have HB2 := Lib.hid hb2
  clear hb1 hb2
  refine wp_region_quiet_below (by assumption) (by kernel_rfl) ?_
  repeat (go_big_quiet_step (first | (go_at_call 56; exact Calls.regrown_of (rleast_any _))))
  refine wpQuiet_nil ?_
  intro _ hw'
  obtain ⟨⟨nq, osq⟩, hw''⟩ := hw'
  subst hw''

  have hB := below_regrown X nq osq
  have hb1 := (hB.block _ (lt_of_block HB1.out)).trans HB1.out
  have hb2 := (hB.block _ (lt_of_block HB2.out)).trans HB2.out
  have hL2 := bt hL hB
  show Exit.then _ _ Exit.normal _ (grow (redrawn X nq) osq)
  generalize grow (redrawn X nq) osq = Y at *
  obtain ⟨c1, c2, _, _⟩ := two_cells hb1
  obtain ⟨d1, d2, d3, d4⟩ := two_cells hb2
  obtain ⟨q1, q2, _, _⟩ := two_cells (two_put (p := .int .i64 0) (q := .int .i64 a) hb2)
  have hL3 := (hL2.setCell (p := ⟨w.heap.size + 1, 0, none⟩) (by simp) (.int .i64 0)).setCell (p := ⟨w.heap.size + 1, 1, none⟩) (by simp) (.int .i64 a)
  clear p1 p2 hb1 hb2 HB1 HB2
  go_wp2_with fail
  refine bodyPost_ret (v := .agg #[.int .i64 0, .int .i64 a]) (by simp [results, Tryd.results38, go_sem, q1, q2]) rfl ?_
  exact ⟨rfl, hL3⟩
theorem rcanon_any (s a : Int) (w : World) (ha : I64 a) :
    Calls Tryd.prog 38 #[.agg #[.int .i64 s, .int .i64 a]] w fun e w' => e = .returned (.agg #[.int .i64 (sd (key s a)), .int .i64 (pa (key s a))]) ∧ Below w.heap.size w w' := by
  by_cases h1 : s < 0
  · rw [key_neg s a h1, sd_lo, pa_lo]; exact rcanon_neg s a w h1
  · by_cases h2 : 0 < s
    · rw [key_pos s a h2, sd_hi, pa_hi]; exact rcanon_pos s a w h2
    · obtain rfl : s = 0 := by omega
      rw [key_zero]
      by_cases h3 : a = -9223372036854775808
      · subst h3; rw [sd_lo, pa_lo]; exact rcanon_least w
      · have h4 : a ≠ 9223372036854775808 := by unfold I64 at ha; omega
        rw [sd_mid a h3 h4, pa_mid a h3 h4]; exact rcanon_mid a w h3
end Go.Proofs.YthojkbmffiibdaaDoor

/- Contracts of the reference's cuts: Less, Compare, Low, High, Ahead, Behind, Next, Prev. -/
namespace Go.Proofs.YthojkbmffiibdaaDoor
open Go.RowKit Go.Sort Go.Proofs.YthojkbmffiibdaaDoor.Bo
set_option linter.unusedVariables false

theorem Two.put0 {b : Nat} {s a t c : Int} {w : World} (h : Two b s a t c w) (s' a' : Int) : Two b s' a' t c ((w.setCell ⟨b, 0, none⟩ (.int .i64 s')).setCell ⟨b, 1, none⟩ (.int .i64 a')) :=
  ⟨two_put h.1, by rw [heap_setCell_other _ _ _ _ (by simp), heap_setCell_other _ _ _ _ (by simp)]; exact h.2⟩
theorem Two.put1 {b : Nat} {s a t c : Int} {w : World} (h : Two b s a t c w) (s' a' : Int) : Two b s a s' a' ((w.setCell ⟨b + 1, 0, none⟩ (.int .i64 s')).setCell ⟨b + 1, 1, none⟩ (.int .i64 a')) :=
  ⟨by rw [heap_setCell_other _ _ _ _ (by simp), heap_setCell_other _ _ _ _ (by simp)]; exact h.1, two_put h.2⟩
theorem ret_bool {a b : Bool} (h : a = b) : Ending.returned (.bool a) = .returned (.bool b) := by rw [h]

set_option maxRecDepth 100000 in
set_option maxHeartbeats 1000000 in
theorem rless_any (s a t b : Int) (w : World) (ha : I64 a) (hb : I64 b) :
    Calls Tryd.prog 41 #[.agg #[.int .i64 s, .int .i64 a], .agg #[.int .i64 t, .int .i64 b]] w fun e w' => e = .returned (.bool (decide (key s a < key t b))) ∧ Below w.heap.size w w' := by
  have HC := Lib.hid (fun W => rcanon_any s a W ha)
  have HD := Lib.hid (fun W => rcanon_any t b W hb)
  have h1 := fun h => lt_side _ _ (key_ky s a ha) (key_ky t b hb) h
  have h2 := fun h => lt_at _ _ (key_ky s a ha) (key_ky t b hb) h
  generalize hD : decide (key s a < key t b) = D at *
  generalize sd (key s a) = x at *
  generalize pa (key s a) = y at *
  generalize sd (key t b) = u at *
  generalize pa (key t b) = v at *
  have H1 := Lib.hid h1
  have H2 := Lib.hid h2
  clear h1 h2 hD ha hb
  go_enter Tryd.func41, Tryd.ntmps41
  go_wp2_with fail
  refine (HC.out _).mono ?_
  rintro e w1 ⟨rfl, hB1⟩
  have hT0 : Two w.heap.size s a t b ((w.alloc (.cells #[.int .i64 s, .int .i64 a] 25)).alloc (.cells #[.int .i64 t, .int .i64 b] 25)) := ⟨heap_alloc2_old _ _ _, heap_alloc2_new _ _ _⟩
  have hT1 := hT0.below hB1
  have hL1 : Below w.heap.size w w1 := bt (((Below.refl _ _).alloc (Nat.le_refl _) _).alloc (by simp) _) hB1
  have hT2 := hT1.put0 x y
  have hL2 := (hL1.setCell (p := ⟨w.heap.size, 0, none⟩) (by simp) (.int .i64 x)).setCell (p := ⟨w.heap.size, 1, none⟩) (by simp) (.int .i64 y)
  obtain ⟨p1, p2, p3, p4, p5, p6, p7, p8⟩ := hT1.cells
  obtain ⟨_, _, q3, q4, _, _, _, _⟩ := hT2.cells
  have HT2 := Lib.hid hT2
  clear hT0 hT1 hT2 hB1 hL1
  go_wp2_with fail
  generalize (w1.setCell ⟨w.heap.size, 0, none⟩ (.int .i64 x)).setCell ⟨w.heap.size, 1, none⟩ (.int .i64 y) = X at *
  refine (HD.out _).mono ?_
  rintro e w2 ⟨rfl, hB2⟩
  have hT3 := HT2.out.below hB2
  have hL3 := bt hL2 hB2
  have hT4 := hT3.put1 u v
  have hL4 := (hL3.setCell (p := ⟨w.heap.size + 1, 0, none⟩) (by simp) (.int .i64 u)).setCell (p := ⟨w.heap.size + 1, 1, none⟩) (by simp) (.int .i64 v)
  clear p1 p2 p3 p4 p5 p6 p7 p8 q3 q4
  obtain ⟨p1, p2, p3, p4, p5, p6, p7, p8⟩ := hT3.cells
  obtain ⟨q1, q2, q3, q4, _, _, _, _⟩ := hT4.cells
  clear hT3 hT4 hB2 hL2 hL3 HT2
  by_cases hq : x = u
  · have HQ := Lib.hid (H2.out hq)
    have tq : (x != u) = false := bne_eq_false_iff_eq.2 hq
    clear hq
    go_wp2_with fail
    go_ret
    exact ⟨ret_bool HQ.out, hL4⟩
  · have HQ := Lib.hid (H1.out hq)
    have tq : (x != u) = true := bne_iff_ne.2 hq
    clear hq
    go_wp2_with fail
    go_ret
    exact ⟨ret_bool HQ.out, hL4⟩

def klow (k l : Int) : Int := if l < k then l else k
def khigh (k l : Int) : Int := if k < l then l else k

theorem rnext_any (s a : Int) (w : World) (ha : I64 a) :
    Calls Tryd.prog 40 #[.agg #[.int .i64 s, .int .i64 a]] w fun e w' => e = .returned (.tuple #[.int .i64 (nx (key s a)), .bool (nxb (key s a))]) ∧ Below w.heap.size w w' := by
  have HC := Lib.hid (fun W => rcanon_any s a W ha)
  have hk := key_ky s a ha
  generalize key s a = k at *
  rcases ky_cases k hk with ⟨rfl, h1, h2⟩ | ⟨rfl, h1, h2⟩ | ⟨g1, g2, h1, h2⟩
  · rw [h1, h2] at HC
    clear h1 h2 hk
    go_enter Tryd.func40, Tryd.ntmps40
    go_wp2_with fail
    refine (HC.out _).mono ?_
    rintro e w1 ⟨rfl, hL⟩
    have hb : w1.heap[w.heap.size]? = some (.cells #[.int .i64 s, .int .i64 a] 25 (0, 0)) := by rw [hL.block _ (by simp)]; exact heap_alloc_new _ _
    have hL1 := ((bt ((Below.refl _ _).alloc (Nat.le_refl _) _) hL).setCell (p := ⟨w.heap.size, 0, none⟩) (by simp) (.int .i64 (-1))).setCell (p := ⟨w.heap.size, 1, none⟩) (by simp) (.int .i64 0)
    obtain ⟨p1, p2, _, _⟩ := two_cells (two_put (p := .int .i64 (-1)) (q := .int .i64 0) hb)
    obtain ⟨q1, q2, q3, q4⟩ := two_cells hb
    clear hb
    go_wp2_with fail
    refine (rleast_any _).mono ?_
    rintro e w2 ⟨rfl, hL2⟩
    go_wp2_with fail
    go_ret2
    exact ⟨ret_ib (nx_in _ (by decide)), bt hL1 hL2⟩
  · rw [h1, h2] at HC
    clear h1 h2 hk
    go_enter Tryd.func40, Tryd.ntmps40
    go_wp2_with fail
    refine (HC.out _).mono ?_
    rintro e w1 ⟨rfl, hL⟩
    have hb : w1.heap[w.heap.size]? = some (.cells #[.int .i64 s, .int .i64 a] 25 (0, 0)) := by rw [hL.block _ (by simp)]; exact heap_alloc_new _ _
    have hL1 := ((bt ((Below.refl _ _).alloc (Nat.le_refl _) _) hL).setCell (p := ⟨w.heap.size, 0, none⟩) (by simp) (.int .i64 1)).setCell (p := ⟨w.heap.size, 1, none⟩) (by simp) (.int .i64 0)
    obtain ⟨p1, p2, _, _⟩ := two_cells (two_put (p := .int .i64 1) (q := .int .i64 0) hb)
    obtain ⟨q1, q2, q3, q4⟩ := two_cells hb
    clear hb
    go_wp2_with fail
    go_ret2
    exact ⟨ret_ib nx_hi, hL1⟩
  · rw [h1, h2] at HC
    clear h1 h2 hk
    go_enter Tryd.func40, Tryd.ntmps40
    go_wp2_with fail
    refine (HC.out _).mono ?_
    rintro e w1 ⟨rfl, hL⟩
    have hb : w1.heap[w.heap.size]? = some (.cells #[.int .i64 s, .int .i64 a] 25 (0, 0)) := by rw [hL.block _ (by simp)]; exact heap_alloc_new _ _
    have hL1 := ((bt ((Below.refl _ _).alloc (Nat.le_refl _) _) hL).setCell (p := ⟨w.heap.size, 0, none⟩) (by simp) (.int .i64 0)).setCell (p := ⟨w.heap.size, 1, none⟩) (by simp) (.int .i64 k)
    obtain ⟨p1, p2, _, _⟩ := two_cells (two_put (p := .int .i64 0) (q := .int .i64 k) hb)
    obtain ⟨q1, q2, q3, q4⟩ := two_cells hb
    clear hb
    go_wp2_with fail
    go_ret2
    exact ⟨ret_ib (nx_in k (by omega)), hL1⟩

theorem rahead_any (n : Int) (w : World) (hn : I64 n) :
    Calls Tryd.prog 35 #[.int .i64 n] w fun e w' => e = .returned (.agg #[.int .i64 (sd n), .int .i64 (pa n)]) ∧ Below w.heap.size w w' := by
  have HC := Lib.hid (fun W => rcanon_any 0 n W hn)
  rw [key_zero] at HC
  generalize sd n = t at *
  generalize pa n = b at *
  go_enter Tryd.func35, Tryd.ntmps35
  go_wp2_with fail
  refine (HC.out _).mono ?_
  rintro e w1 ⟨rfl, hL⟩
  have hb : w1.heap[w.heap.size]? = some (.cells #[.int .i64 0, .int .i64 0] 25 (0, 0)) := by rw [hL.block _ (by simp)]; exact heap_alloc_new _ _
  have hL1 := ((bt ((Below.refl _ _).alloc (Nat.le_refl _) _) hL).setCell (p := ⟨w.heap.size, 0, none⟩) (by simp) (.int .i64 t)).setCell (p := ⟨w.heap.size, 1, none⟩) (by simp) (.int .i64 b)
  obtain ⟨p1, p2, _, _⟩ := two_cells (two_put (p := .int .i64 t) (q := .int .i64 b) hb)
  obtain ⟨q1, q2, q3, q4⟩ := two_cells hb
  clear hb
  go_wp2_with fail
  refine bodyPost_ret (v := .agg #[.int .i64 t, .int .i64 b]) (by simp [results, Tryd.results35, go_sem, p1, p2]) rfl ?_
  exact ⟨rfl, hL1⟩
theorem rbehind_any (n : Int) (w : World) (hn : I64 n) :
    Calls Tryd.prog 34 #[.int .i64 n] w fun e w' => e = .returned (.agg #[.int .i64 (sd (n + 1)), .int .i64 (pa (n + 1))]) ∧ Below w.heap.size w w' := by
  unfold I64 at hn
  by_cases h : n = 9223372036854775807
  · subst h
    rw [show (9223372036854775807 : Int) + 1 = 9223372036854775808 from by decide, sd_hi, pa_hi]
    go_enter Tryd.func34, Tryd.ntmps34
    go_wp2_with fail
    refine bodyPost_ret (v := .agg #[.int .i64 1, .int .i64 0]) (by simp [results, Tryd.results34, go_sem]) rfl ?_
    exact ⟨rfl, (Below.refl _ _).alloc (Nat.le_refl _) _⟩
  · rw [sd_mid (n + 1) (by omega) (by omega), pa_mid (n + 1) (by omega) (by omega)]
    have t1 : (n == 9223372036854775807) = false := beq_eq_false_iff_ne.2 h
    go_enter Tryd.func34, Tryd.ntmps34
    go_wp2_with fail
    refine bodyPost_ret (v := .agg #[.int .i64 0, .int .i64 (n + 1)]) (by simp [results, Tryd.results34, go_sem]) rfl ?_
    exact ⟨rfl, (Below.refl _ _).alloc (Nat.le_refl _) _⟩
end Go.Proofs.YthojkbmffiibdaaDoor

/- The law's guard 'alive' of layer 2 answers true. -/
namespace Go.Proofs.YthojkbmffiibdaaDoor
open Go.RowKit Go.Sort Go.Proofs.YthojkbmffiibdaaDoor.Bo
set_option linter.unusedVariables false

theorem al_read (w : World) : Calls Tryd.prog 61 #[.string ⟨#[43, 105, 110, 102, 111]⟩] w fun e w' => e = .returned (.tuple #[.agg #[.int .i64 1, .int .i64 0], .int .i64 4]) ∧ Below w.heap.size w w' := by
  have h := cread_any ⟨#[43, 105, 110, 102, 111]⟩ w (by decide)
  rw [show rdCut (⟨#[43, 105, 110, 102, 111]⟩ : ByteArray).data.toList = (9223372036854775808, 4) from by decide +kernel, sd_hi, pa_hi] at h
  exact h
theorem al_next (w : World) : Calls Tryd.prog 39 #[.agg #[.int .i64 (-1), .int .i64 0]] w fun e w' => e = .returned (.tuple #[.int .i64 (-9223372036854775808), .bool true]) ∧ Below w.heap.size w w' := by
  have h := next_any (-1) 0 w ⟨by decide, by decide⟩
  rw [show key (-1) 0 = -9223372036854775808 from by decide, (nx_in (-9223372036854775808) (by decide)).1, (nx_in (-9223372036854775808) (by decide)).2] at h
  exact h.mono fun _ _ h => ⟨h.1, h.2.1⟩
theorem al_ahead_least (w : World) : Calls Tryd.prog 31 #[.int .i64 (-9223372036854775808)] w fun e w' => e = .returned (.agg #[.int .i64 (-1), .int .i64 0]) ∧ Below w.heap.size w w' := by
  have h := ahead_any (-9223372036854775808) w ⟨by decide, by decide⟩
  rw [sd_lo, pa_lo] at h
  exact h.mono fun _ _ h => ⟨h.1, h.2.1⟩
theorem al_ahead3 (w : World) : Calls Tryd.prog 31 #[.int .i64 3] w fun e w' => e = .returned (.agg #[.int .i64 0, .int .i64 3]) ∧ Below w.heap.size w w' := by
  have h := ahead_any 3 w ⟨by decide, by decide⟩
  rw [sd_mid 3 (by decide) (by decide), pa_mid 3 (by decide) (by decide)] at h
  exact h.mono fun _ _ h => ⟨h.1, h.2.1⟩
theorem al_behind2 (w : World) : Calls Tryd.prog 30 #[.int .i64 2] w fun e w' => e = .returned (.agg #[.int .i64 0, .int .i64 3]) ∧ Below w.heap.size w w' := by
  have h := behind_any 2 w ⟨by decide, by decide⟩
  rw [show (2 : Int) + 1 = 3 from by decide, sd_mid 3 (by decide) (by decide), pa_mid 3 (by decide) (by decide)] at h
  exact h.mono fun _ _ h => ⟨h.1, h.2.1⟩
theorem al_behind_top (w : World) : Calls Tryd.prog 30 #[.int .i64 9223372036854775807] w fun e w' => e = .returned (.agg #[.int .i64 1, .int .i64 0]) ∧ Below w.heap.size w w' := by
  have h := behind_any 9223372036854775807 w ⟨by decide, by decide⟩
  rw [show (9223372036854775807 : Int) + 1 = 9223372036854775808 from by decide, sd_hi, pa_hi] at h
  exact h.mono fun _ _ h => ⟨h.1, h.2.1⟩
theorem al_compare (w : World) : Calls Tryd.prog 78 #[.agg #[.int .i64 0, .int .i64 3], .agg #[.int .i64 0, .int .i64 3]] w fun e w' => e = .returned (.int .i64 0) ∧ Below w.heap.size w w' := by
  have h := compare_any 0 3 0 3 w ⟨by decide, by decide⟩ ⟨by decide, by decide⟩
  rw [kcmp_eq _ _ rfl] at h
  exact h.mono fun _ _ h => ⟨h.1, h.2.1⟩
theorem al_text (w : World) : Calls Tryd.prog 53 #[.agg #[.int .i64 0, .int .i64 3]] w fun e w' => e = .returned (.string ⟨#[51]⟩) ∧ Below w.heap.size w w' := by
  have h := ctext_any 0 3 w ⟨by decide, by decide⟩
  rw [show ktext (key 0 3) = [51] from by decide +kernel] at h
  exact h
theorem first_b (w : World) : Calls Tryd.prog 29 #[] w fun e w' => e = .returned (.agg #[.int .i64 (-1), .int .i64 0]) ∧ Below w.heap.size w w' := (first_any w).mono fun _ _ h => ⟨h.1, h.2.1⟩
theorem last_b (w : World) : Calls Tryd.prog 32 #[] w fun e w' => e = .returned (.agg #[.int .i64 1, .int .i64 0]) ∧ Below w.heap.size w w' := (last_any w).mono fun _ _ h => ⟨h.1, h.2.1⟩

end Go.Proofs.YthojkbmffiibdaaDoor

/- The walk of the law CutOrder. -/
namespace Go.Proofs.YthojkbmffiibdaaDoor
open Go.RowKit Go.Sort Go.Proofs.YthojkbmffiibdaaDoor.Bo
set_option linter.unusedVariables false

theorem i64_of_wf2 {n : Int} (h : (Lit.int .i64 n).wf = true) : I64 n := by
  have := bounds_i64 h; unfold I64; omega
theorem compare_b (s a t b : Int) (v : Int) (h : kcmp (key s a) (key t b) = v) (ha : I64 a) (hb : I64 b) (w : World) :
    Calls Tryd.prog 78 #[.agg #[.int .i64 s, .int .i64 a], .agg #[.int .i64 t, .int .i64 b]] w fun e w' => e = .returned (.int .i64 v) ∧ Below w.heap.size w w' := by
  subst h; exact (compare_any s a t b w ha hb).mono fun _ _ h => ⟨h.1, h.2.1⟩
theorem canon_b (s a : Int) (ha : I64 a) (w : World) :
    Calls Tryd.prog 37 #[.agg #[.int .i64 s, .int .i64 a]] w fun e w' => e = .returned (.agg #[.int .i64 (sd (key s a)), .int .i64 (pa (key s a))]) ∧ Below w.heap.size w w' := (canon_any s a w ha).mono fun _ _ h => ⟨h.1, h.2.1⟩

/-- The cells of three boxes that lie side by side. -/
theorem three_boxes (w : World) (s a t b u c : Int) :
    (((w.alloc (.cells #[.int .i64 s, .int .i64 a] 25)).alloc (.cells #[.int .i64 t, .int .i64 b] 25)).alloc (.cells #[.int .i64 u, .int .i64 c] 25)).heap[w.heap.size]? = some (.cells #[.int .i64 s, .int .i64 a] 25 (0, 0)) ∧
    (((w.alloc (.cells #[.int .i64 s, .int .i64 a] 25)).alloc (.cells #[.int .i64 t, .int .i64 b] 25)).alloc (.cells #[.int .i64 u, .int .i64 c] 25)).heap[w.heap.size + 1]? = some (.cells #[.int .i64 t, .int .i64 b] 25 (0, 0)) ∧
    (((w.alloc (.cells #[.int .i64 s, .int .i64 a] 25)).alloc (.cells #[.int .i64 t, .int .i64 b] 25)).alloc (.cells #[.int .i64 u, .int .i64 c] 25)).heap[w.heap.size + 1 + 1]? = some (.cells #[.int .i64 u, .int .i64 c] 25 (0, 0)) ∧
    Below w.heap.size w (((w.alloc (.cells #[.int .i64 s, .int .i64 a] 25)).alloc (.cells #[.int .i64 t, .int .i64 b] 25)).alloc (.cells #[.int .i64 u, .int .i64 c] 25)) := by
  refine ⟨?_, ?_, ?_, (((Below.refl _ _).alloc (Nat.le_refl _) _).alloc (by simp) _).alloc (by simp; omega) _⟩
  · rw [heap_alloc_old _ _ (by simp; omega)]; exact heap_alloc2_old _ _ _
  · rw [heap_alloc_old _ _ (by simp)]; exact heap_alloc2_new _ _ _
  · have h := heap_alloc_new ((w.alloc (.cells #[.int .i64 s, .int .i64 a] 25)).alloc (.cells #[.int .i64 t, .int .i64 b] 25)) (.cells #[.int .i64 u, .int .i64 c] 25)
    simpa using h

end Go.Proofs.YthojkbmffiibdaaDoor

/- Contract of cut.Shift. -/
namespace Go.Proofs.YthojkbmffiibdaaDoor
open Go.RowKit Go.Sort Go.Proofs.YthojkbmffiibdaaDoor.Bo
set_option linter.unusedVariables false

theorem ret_cb {x y x' y' : Int} {b b' : Bool} (h1 : x = x') (h2 : y = y') (h3 : b = b') : Ending.returned (.tuple #[.agg #[.int .i64 x, .int .i64 y], .bool b]) = .returned (.tuple #[.agg #[.int .i64 x', .int .i64 y'], .bool b']) := by rw [h1, h2, h3]
end Go.Proofs.YthojkbmffiibdaaDoor

/- Contracts of cut, ends, Is. -/
namespace Go.Proofs.YthojkbmffiibdaaDoor
open Go.RowKit Go.Proofs.YthojkbmffiibdaaDoor.Bo
set_option linter.unusedVariables false

theorem Dg.cellAt {w : World} {a : Option Addr} {n cap : Nat} {xs : List Nat} (h : Dg w (.slice a n cap) xs) : n = xs.length ∧ n ≤ cap ∧ (0 < n → ∃ g, a = some ⟨g, 0, none⟩ ∧ g < w.heap.size ∧ ∀ (j : Nat) (h : j < xs.length), w.cell? ⟨g, j, none⟩ = some (.int .i64 ((xs[j] : Nat) : Int))) := by
  obtain ⟨a', cap', e, hc, hg⟩ := h
  injection e with e1 e2 e3
  subst e1 e2 e3
  refine ⟨rfl, hc, fun hp => ?_⟩
  obtain ⟨g, cur, ha, hgb, hcur⟩ := hg hp
  exact ⟨g, ha, lt_of_block hgb, fun j hj => (cell_of_row _ _ j _ _ _ hgb).trans (hcur j hj)⟩

def CutPost (a : Option Addr) (cap : Nat) (xs : List Nat) (w : World) (e : Ending) (w' : World) : Prop := ∃ n, e = .returned (.slice a n cap) ∧ n ≤ xs.length ∧ val (xs.take n) = val xs ∧ w = w'

theorem take_zero_last (xs : List Nat) (n : Nat) (h : n + 1 ≤ xs.length) (h0 : xs[n] = 0) : val (xs.take n) = val (xs.take (n + 1)) := by
  rw [val_take_succ xs n (by omega), h0]; simp

def slLen : Value → Nat | .slice _ n _ => n | _ => 0
theorem Dg.take {w : World} {a : Option Addr} {cap : Nat} {xs : List Nat} (h : Dg w (.slice a xs.length cap) xs) (n : Nat) (hn : n ≤ xs.length) : Dg w (.slice a n cap) (xs.take n) := by
  obtain ⟨a', cap', e, hc, hg⟩ := h
  injection e with e1 e2 e3
  subst e1 e3
  have hl : (xs.take n).length = n := by rw [List.length_take, Nat.min_eq_left hn]
  refine ⟨a, cap, by rw [hl], by omega, fun hp => ?_⟩
  obtain ⟨g, cur, ha, hgb, hcur⟩ := hg (by omega)
  exact ⟨g, cur, ha, hgb, fun j hj => by rw [List.getElem_take]; exact hcur j (by omega)⟩
theorem dg_new (w : World) (cs : Array Value) (xs : List Nat) (n : Nat) (hn : xs.length = n) (hcs : cs.toList = xs.map (fun (d : Nat) => Value.int .i64 (d : Int))) :
    Dg (w.alloc (.cells cs 3)) (.slice (some ⟨w.heap.size, 0, none⟩) n n) xs := by
  subst hn
  refine ⟨_, _, rfl, Nat.le_refl _, fun _ => ⟨w.heap.size, cs, rfl, heap_alloc_new _ _, fun j hj => ?_⟩⟩
  have h1 : cs.toList[j]? = some (.int .i64 ((xs[j] : Nat) : Int)) := by rw [hcs]; simp [hj]
  simpa using h1

def endsL (s : Int) : List Nat := (if s < 0 then 8 else 7) :: [0, 8, 5, 7, 7, 4, 5, 8, 6, 3, 0, 2, 7, 3, 3, 2, 2, 9]
theorem val_ends (s : Int) : val (endsL s) = lim s := by unfold endsL lim; split <;> decide +kernel
theorem ok_ends (s : Int) : Ok (endsL s) := by unfold endsL Ok; split <;> decide
theorem len_ends (s : Int) : (endsL s).length = 19 := by unfold endsL; rfl
def EndsPost (s : Int) (w : World) (e : Ending) (w' : World) : Prop := ∃ v, e = .returned v ∧ Dg w' v (endsL s) ∧ Below w.heap.size w w'

theorem ends_any (s : Int) (w : World) (h1 : -1 ≤ s) (h2 : s ≤ 1) : Calls Tryd.prog 103 #[.int .i64 s] w (EndsPost s w) := by
  by_cases h : s < 0
  · have t1 : decide (s < 0) = true := decide_eq_true h
    go_enter Tryd.func103, Tryd.ntmps103
    go_wp2
    go_ret
    refine ⟨.slice (some ⟨w.heap.size, 0, none⟩) 19 19, rfl, ?_, (Below.refl _ _).alloc (Nat.le_refl _) _⟩
    have hL : endsL s = [8, 0, 8, 5, 7, 7, 4, 5, 8, 6, 3, 0, 2, 7, 3, 3, 2, 2, 9] := by unfold endsL; rw [if_pos h]
    rw [hL]
    exact dg_new w _ _ _ rfl rfl
  · have t1 : decide (s < 0) = false := decide_eq_false h
    go_enter Tryd.func103, Tryd.ntmps103
    go_wp2
    go_ret
    refine ⟨.slice (some ⟨w.heap.size, 0, none⟩) 19 19, rfl, ?_, (Below.refl _ _).alloc (Nat.le_refl _) _⟩
    have hL : endsL s = [7, 0, 8, 5, 7, 7, 4, 5, 8, 6, 3, 0, 2, 7, 3, 3, 2, 2, 9] := by unfold endsL; rw [if_neg (by omega)]
    rw [hL]
    exact dg_new w _ _ _ rfl rfl

/-- A whole number as the reference keeps it: its sign, and its digits. -/
def BigAt (w : World) (V : Value) (z : Int) (L : Nat) : Prop :=
  ∃ (s : Int) (v : Value) (xs : List Nat), V = .agg #[.int .i64 s, v] ∧ (s = -1 ∨ s = 0 ∨ s = 1) ∧ Dg w v xs ∧ Ok xs ∧ xs.length ≤ L ∧ z = s * (val xs : Int) ∧ (s = 0 → val xs = 0)
theorem BigAt.below {w w' : World} {V : Value} {z : Int} {L : Nat} (h : BigAt w V z L) (hb : Below w.heap.size w w') : BigAt w' V z L := by
  obtain ⟨s, v, xs, hV, hs, hd, ok, hl, hz, h0⟩ := h
  exact ⟨s, v, xs, hV, hs, hd.below hb, ok, hl, hz, h0⟩

theorem is_any (s : Int) (v : Value) (xs : List Nat) (w : World) (hs : s = -1 ∨ s = 0 ∨ s = 1) (hd : Dg w v xs) (ok : Ok xs) (hl : xs.length ≤ 100000) :
    Calls Tryd.prog 97 #[.agg #[.int .i64 s, v]] w fun e w' => e = .returned (.bool (!decide (lim s < val xs))) ∧ Below w.heap.size w w' := by
  have HD := Lib.hid (hd.below ((Below.refl _ _).alloc (Nat.le_refl _) (.cells #[.int .i64 s, v] 77)))
  obtain ⟨a, cap, rfl, _, _⟩ := hd
  have hs1 : -1 ≤ s := by omega
  have hs2 : s ≤ 1 := by omega
  clear hs
  have hb0 : (w.alloc (.cells #[.int .i64 s, .slice a xs.length cap] 77)).cell? ⟨w.heap.size, 0, none⟩ = some (.int .i64 s) := by rw [World.cell?_alloc_at _ _ _ _ rfl]; rfl
  have hb1 : (w.alloc (.cells #[.int .i64 s, .slice a xs.length cap] 77)).cell? ⟨w.heap.size, 1, none⟩ = some (.slice a xs.length cap) := by rw [World.cell?_alloc_at _ _ _ _ rfl]; rfl
  have hBx : Below w.heap.size w (w.alloc (.cells #[.int .i64 s, .slice a xs.length cap] 77)) := (Below.refl _ _).alloc (Nat.le_refl _) _
  have hsz : w.heap.size < (w.alloc (.cells #[.int .i64 s, .slice a xs.length cap] 77)).heap.size := by simp
  go_enter Tryd.func97, Tryd.ntmps97
  go_wp2_with fail
  generalize w.alloc (.cells #[.int .i64 s, .slice a xs.length cap] 77) = wx at *
  go_region_held3 (fun w' => w'.cell? ⟨w.heap.size, 0, none⟩ = some (.int .i64 s) ∧ w'.cell? ⟨w.heap.size, 1, none⟩ = some (.slice a xs.length cap))
    (first | go_keep | exact ⟨hc0, hc1⟩)
    (first
      | (go_at_call 103; refine (ends_any _ _ hs1 hs2).mono ?_; rintro e w2 ⟨v2, rfl, hd2, hB2'⟩; have hB2 : Below wx.heap.size wx w2 := ((Below.refl _ _).drew).trans hB2'; have hc0 := (hB2.cell (p := ⟨w.heap.size, 0, none⟩) hsz).trans hb0; have hc1 := (hB2.cell (p := ⟨w.heap.size, 1, none⟩) hsz).trans hb1)
      | (go_at_call 102; refine (more_any _ _ xs (endsL s) _ (HD.out.below hB2) hd2 ok (ok_ends s) hl (by rw [len_ends]; omega)).mono ?_; rintro e w3 ⟨rfl, rfl⟩))
  go_wp2_with fail
  go_ret
  exact ⟨by rw [← val_ends s]; exact rfl, bt hBx hB2⟩
end Go.Proofs.YthojkbmffiibdaaDoor

/- Contract of End. -/
namespace Go.Proofs.YthojkbmffiibdaaDoor
open Go.RowKit Go.Proofs.YthojkbmffiibdaaDoor.Bo
set_option linter.unusedVariables false

theorem ret_i64 {a b : Int} (h : a = b) : Ending.returned (.int .i64 a) = .returned (.int .i64 b) := by rw [h]

set_option maxRecDepth 100000 in
set_option maxHeartbeats 2000000 in
theorem end_any (s : Int) (v : Value) (xs : List Nat) (w : World) (hs : s = -1 ∨ s = 0 ∨ s = 1) (hd : Dg w v xs) (ok : Ok xs) (hl : xs.length ≤ 100000) :
    Calls Tryd.prog 98 #[.agg #[.int .i64 s, v]] w fun e w' => e = .returned (.int .i64 (clamp (s * (val xs : Int)))) ∧ Below w.heap.size w w' := by
  rw [clamp_sign s (val xs) hs]
  have HS := Lib.hid hs
  have HD := Lib.hid (hd.below ((Below.refl _ _).alloc (Nat.le_refl _) (.cells #[.int .i64 s, v] 77)))
  obtain ⟨a, cap, rfl, hcap, _⟩ := hd
  have hs1 : -1 ≤ s := by omega
  have hs2 : s ≤ 1 := by omega
  clear hs
  have hb0 : (w.alloc (.cells #[.int .i64 s, .slice a xs.length cap] 77)).cell? ⟨w.heap.size, 0, none⟩ = some (.int .i64 s) := by rw [World.cell?_alloc_at _ _ _ _ rfl]; rfl
  have hb1 : (w.alloc (.cells #[.int .i64 s, .slice a xs.length cap] 77)).cell? ⟨w.heap.size, 1, none⟩ = some (.slice a xs.length cap) := by rw [World.cell?_alloc_at _ _ _ _ rfl]; rfl
  have hBx : Below w.heap.size w (w.alloc (.cells #[.int .i64 s, .slice a xs.length cap] 77)) := (Below.refl _ _).alloc (Nat.le_refl _) _
  have hsz : w.heap.size < (w.alloc (.cells #[.int .i64 s, .slice a xs.length cap] 77)).heap.size := by simp
  have HI := Lib.hid (is_any s _ xs _ HS.out HD.out ok hl)
  generalize hx : w.alloc (.cells #[.int .i64 s, .slice a xs.length cap] 77) = wx at *
  have HX := Lib.hid hx
  clear hx
  by_cases hbig : lim s < val xs
  · rw [if_pos hbig]
    rw [show (!decide (lim s < val xs)) = false from by simp; omega] at HI
    go_enter Tryd.func98, Tryd.ntmps98
    go_wp2_with fail
    rw [HX.out]
    refine HI.out.mono ?_
    rintro e w1 ⟨rfl, hB1⟩
    have hc0' := (hB1.cell (p := ⟨w.heap.size, 0, none⟩) hsz).trans hb0
    have hsz1' := Nat.lt_of_lt_of_le hsz hB1.size
    have hBw1 := bt hBx hB1
    clear hb0 hb1 hBx HI HX HD hbig
    go_wp2_with fail
    refine (ends_any s _ hs1 hs2).mono ?_
    rintro e w2 ⟨v2, rfl, hd2, hB2⟩
    have hc0 := (hB2.cell (p := ⟨w.heap.size, 0, none⟩) hsz1').trans hc0'
    have hsz1 := Nat.lt_of_lt_of_le hsz1' hB2.size
    have hBw := bt hBw1 hB2
    have HLIM : Hid (val (endsL s) ≤ lim s) := by show _ ≤ _; rw [val_ends]; exact Nat.le_refl _
    have HVAL : Hid (val (endsL s) = lim s) := val_ends s
    have hyl : (endsL s).length ≤ 1000 := by rw [len_ends]; omega
    generalize endsL s = ys at *
    have HD1 := Lib.hid hd2
    obtain ⟨a2, cap2, rfl, hcap2, _⟩ := hd2
    clear hc0'
    go_wp2_with fail
    go_loopw [4, 5] (fun n i wr => ∃ k : Int, i = .int .i64 k ∧ -1 ≤ k ∧ k < ys.length ∧ n = .int .i64 (s * (val (ys.drop (k + 1).toNat) : Int)) ∧ Below w.heap.size w wr ∧ Below w2.heap.size w2 wr) (fun _ i _ => (intOf i + 1).toNat)
    case atStart =>
      refine ⟨(ys.length : Int) - 1, rfl, by omega, by omega, ?_, hBw, Below.refl _ _⟩
      rw [List.drop_of_length_le (by omega)]; simp [val]
    case round =>
      obtain ⟨k, rfl, hk1, hk2, rfl, hBr, hB1r⟩ := hrel
      by_cases hpos : 0 ≤ k
      · obtain ⟨i, rfl⟩ := Int.eq_ofNat_of_zero_le hpos
        have hi : i < ys.length := by omega
        obtain ⟨_, _, hg⟩ := HD1.out.cellAt
        obtain ⟨g, rfl, hgl, hcell⟩ := hg (by omega)
        have hci := (hB1r.cell (p := ⟨g, i, none⟩) hgl).trans (hcell i hi)
        have hcs := (hB1r.cell (p := ⟨w.heap.size, 0, none⟩) hsz1).trans hc0
        have hvd := val_drop ys i
        have hge : ys.getD i 0 = ys[i] := by rw [List.getD_eq_getElem?_getD, List.getElem?_eq_getElem hi]; rfl
        rw [hge] at hvd
        have hle := val_drop_le ys i
        have hst := sign_step s (val (ys.drop (i + 1))) ys[i] (val ys) HS.out HLIM.out (by omega)
        obtain ⟨j0, j1, j2, j3, j4⟩ := hst
        have HF : Hid (s * (val (ys.drop (i + 1)) : Int) * 10 + s * (ys[i] : Int) = s * (val (ys.drop i) : Int)) := by
          show _ = _
          rw [j4, hvd]
        rw [show ((i : Int) + 1).toNat = i + 1 from by omega]
        clear hg hcell hvd hge hle j4
        generalize val (ys.drop (i + 1)) = V at *
        generalize ys[i] = D at *
        obtain ⟨p1, p2⟩ := j1
        obtain ⟨p3, p4⟩ := j2
        obtain ⟨p5, p6⟩ := j3
        go_wp2_with fail
        have q1 := IntWalk.i64_in _ ⟨p1, p2⟩
        have q2 := IntWalk.i64_in _ ⟨p3, p4⟩
        have q3 := IntWalk.i64_in _ ⟨p5, p6⟩
        have i1 : (0 : Int) ≤ (i : Int) := by omega
        have i2 : (i : Int) < (ys.length : Int) := by omega
        go_quiet (fail)
        clear q1 q2 q3 p1 p2 p3 p4 p5 p6
        go_wp2_with fail
        go_roundw
        case rel => exact ⟨(i : Int) - 1, rfl, by omega, by omega, by rw [show ((i : Int) - 1 + 1).toNat = i from by omega, HF.out], below_drewN hBr nq, below_drewN hB1r nq⟩
        case measure => simp [intOf]
      · obtain rfl : k = -1 := by omega
        have HF : Hid (s * (val (ys.drop ((-1 : Int) + 1).toNat) : Int) = s * (lim s : Int)) := by
          show _ = _
          rw [show ((-1 : Int) + 1).toNat = 0 from rfl, List.drop_zero, HVAL.out]
        generalize (val (ys.drop ((-1 : Int) + 1).toNat) : Int) = V at *
        go_wp2_with fail
        go_ret
        exact ⟨ret_i64 HF.out, hBr⟩
  · rw [if_neg hbig]
    rw [show (!decide (lim s < val xs)) = true from by simp; omega] at HI
    go_enter Tryd.func98, Tryd.ntmps98
    go_wp2_with fail
    rw [HX.out]
    refine HI.out.mono ?_
    rintro e w1 ⟨rfl, hB1⟩
    have hd1 := HD.out.below hB1
    have hc0 := (hB1.cell (p := ⟨w.heap.size, 0, none⟩) hsz).trans hb0
    have hsz1 := Nat.lt_of_lt_of_le hsz hB1.size
    have hBw := bt hBx hB1
    have HLIM : Hid (val xs ≤ lim s) := by show _ ≤ _; omega
    have HD1 := Lib.hid hd1
    clear hd1 hb0 hb1 hBx HI HX HD
    go_wp2_with fail
    go_loopw [4, 5] (fun n i wr => ∃ k : Int, i = .int .i64 k ∧ -1 ≤ k ∧ k < xs.length ∧ n = .int .i64 (s * (val (xs.drop (k + 1).toNat) : Int)) ∧ Below w.heap.size w wr ∧ Below w1.heap.size w1 wr) (fun _ i _ => (intOf i + 1).toNat)
    case atStart =>
      refine ⟨(xs.length : Int) - 1, rfl, by omega, by omega, ?_, hBw, Below.refl _ _⟩
      rw [List.drop_of_length_le (by omega)]; simp [val]
    case round =>
      obtain ⟨k, rfl, hk1, hk2, rfl, hBr, hB1r⟩ := hrel
      by_cases hpos : 0 ≤ k
      · obtain ⟨i, rfl⟩ := Int.eq_ofNat_of_zero_le hpos
        have hi : i < xs.length := by omega
        obtain ⟨_, _, hg⟩ := HD1.out.cellAt
        obtain ⟨g, rfl, hgl, hcell⟩ := hg (by omega)
        have hci := (hB1r.cell (p := ⟨g, i, none⟩) hgl).trans (hcell i hi)
        have hcs := (hB1r.cell (p := ⟨w.heap.size, 0, none⟩) hsz1).trans hc0
        have hvd := val_drop xs i
        have hge : xs.getD i 0 = xs[i] := by rw [List.getD_eq_getElem?_getD, List.getElem?_eq_getElem hi]; rfl
        rw [hge] at hvd
        have hle := val_drop_le xs i
        have hst := sign_step s (val (xs.drop (i + 1))) xs[i] (val xs) HS.out HLIM.out (by omega)
        obtain ⟨j0, j1, j2, j3, j4⟩ := hst
        have HF : Hid (s * (val (xs.drop (i + 1)) : Int) * 10 + s * (xs[i] : Int) = s * (val (xs.drop i) : Int)) := by
          show _ = _
          rw [j4, hvd]
        rw [show ((i : Int) + 1).toNat = i + 1 from by omega]
        clear hg hcell hvd hge hle j4
        generalize val (xs.drop (i + 1)) = V at *
        generalize xs[i] = D at *
        obtain ⟨p1, p2⟩ := j1
        obtain ⟨p3, p4⟩ := j2
        obtain ⟨p5, p6⟩ := j3
        go_wp2_with fail
        have q1 := IntWalk.i64_in _ ⟨p1, p2⟩
        have q2 := IntWalk.i64_in _ ⟨p3, p4⟩
        have q3 := IntWalk.i64_in _ ⟨p5, p6⟩
        have i1 : (0 : Int) ≤ (i : Int) := by omega
        have i2 : (i : Int) < (xs.length : Int) := by omega
        go_quiet (fail)
        clear q1 q2 q3 p1 p2 p3 p4 p5 p6
        go_wp2_with fail
        go_roundw
        case rel => exact ⟨(i : Int) - 1, rfl, by omega, by omega, by rw [show ((i : Int) - 1 + 1).toNat = i from by omega, HF.out], below_drewN hBr nq, below_drewN hB1r nq⟩
        case measure => simp [intOf]
      · obtain rfl : k = -1 := by omega
        have HF : Hid (s * (val (xs.drop ((-1 : Int) + 1).toNat) : Int) = s * (val xs : Int)) := by
          show _ = _
          rw [show ((-1 : Int) + 1).toNat = 0 from rfl, List.drop_zero]
        generalize (val (xs.drop ((-1 : Int) + 1).toNat) : Int) = V at *
        go_wp2_with fail
        go_ret
        exact ⟨ret_i64 HF.out, hBr⟩
end Go.Proofs.YthojkbmffiibdaaDoor

/- Contracts of Of and Minus. -/
namespace Go.Proofs.YthojkbmffiibdaaDoor
open Go.RowKit Go.Proofs.YthojkbmffiibdaaDoor.Bo
set_option linter.unusedVariables false

def iv (d : Nat) : Value := .int .i64 (d : Int)
theorem iv_one (l : List Nat) : ∀ u ∈ l.map iv, u.oneCell' = true := by
  intro u hu
  obtain ⟨d, _, rfl⟩ := List.mem_map.1 hu
  rfl
theorem Tryd.infoInt : (Tryd.prog.info? 3).map (fun i => (i.zero, i.size, i.bytes)) = some (some (.int .i64 0), 1, 8) := by kernel_rfl
theorem dg_of_own {w : World} {base : Nat} {v : Value} {xs : List Nat} (h : w.ownsRow base 3 1 v xs.length (xs.map iv)) : Dg w v xs := by
  rcases h.2 with ⟨rfl, h0⟩ | ⟨g, cap, cur, rfl, hb, hh, hnc, hcm, hcs, htake⟩
  · exact ⟨none, 0, by rw [h0], by omega, fun hp => absurd h0 (by omega)⟩
  · refine ⟨_, cap, rfl, hnc, fun _ => ⟨g, cur, rfl, hh, fun j hj => ?_⟩⟩
    have h1 : (cur.toList.take (xs.length * 1))[j]? = some (iv xs[j]) := by rw [htake]; simp [hj]
    rw [List.getElem?_take, if_pos (by omega)] at h1
    simpa [iv] using h1

/-- What stands in memory while the digits of a number are gathered: B + 1 the whole number so far. -/
structure OfAt (w : World) (sg : Int) (m k : Nat) (wr : World) (v : Value) (ds : List Nat) : Prop where
  res : ∃ x y, wr.heap[w.heap.size]? = some (.cells #[x, y] 77 (0, 0))
  mem : wr.heap[w.heap.size + 1]? = some (.cells #[.int .i64 sg, v] 77 (0, 0))
  own : wr.ownsRow (w.heap.size + 2) 3 1 v ds.length (ds.map iv)
  digs : ds ++ low k = low m
  below : Below w.heap.size w wr

theorem own_form {wr : World} {v : Value} {n b : Nat} {xs : List Value} (h : wr.ownsRow b 3 1 v n xs) (hn : 0 < n) : ∃ g cap, v = .slice (some ⟨g, 0, none⟩) n cap := by
  rcases h.2 with ⟨_, h0⟩ | ⟨g, cap, cur, h1, _⟩
  · omega
  · exact ⟨g, cap, h1⟩
theorem own_ne {wr : World} {v : Value} {n b : Nat} {xs : List Value} (h : wr.ownsRow (b + 1) 3 1 v n xs) {j : Nat} (hj : j ≤ b) : some j ≠ v.ownBlock := by
  intro e
  have := (h.lt j e.symm).1
  omega
theorem of_step {w wr w' : World} {sg : Int} {m k : Nat} {v v' : Value} {ds : List Nat} {o : Obj} (hA : OfAt w sg m k wr v ds) (hk : k ≠ 0)
    (hown : w'.ownsRow (w.heap.size + 2) 3 1 v' (ds.length + 1) (ds.map iv ++ [iv (k % 10)])) (hg : (wr.alloc o).grownBy w' v.ownBlock) :
    w'.heap[w.heap.size + 1]? = some (.cells #[.int .i64 sg, v] 77 (0, 0)) ∧ OfAt w sg m (k / 10) (w'.setCell ⟨w.heap.size + 1, 1, none⟩ v') v' (ds ++ [k % 10]) := by
  have hl1 := lt_of_block hA.mem
  have hm : w'.heap[w.heap.size + 1]? = some (.cells #[.int .i64 sg, v] 77 (0, 0)) :=
    (hg.block _ (by simp; omega) (own_ne hA.own (Nat.le_refl _))).trans ((heap_alloc_old _ _ hl1).trans hA.mem)
  refine ⟨hm, ?_, ?_, ?_, ?_, ?_⟩
  · obtain ⟨x, y, hc⟩ := hA.res
    refine ⟨x, y, ?_⟩
    rw [heap_setCell_other _ _ _ _ (by simp)]
    exact (hg.block _ (by simp; omega) (own_ne hA.own (by omega))).trans ((heap_alloc_old _ _ (by omega)).trans hc)
  · have := heap_setCell_same w' (w.heap.size + 1) 1 _ _ v' hm
    rw [this]; rfl
  · have h1 := ownsRow_setCell_below hown (a := ⟨w.heap.size + 1, 1, none⟩) (by simp) v'
    rw [show (ds ++ [k % 10]).length = ds.length + 1 from by simp, List.map_append]
    exact h1
  · rw [List.append_assoc, ← hA.digs, low_pos k hk]; rfl
  · refine Below.setCell ?_ (by simp) _
    refine (hA.below.alloc (by omega) o).grown hg (by simp; omega) (fun j hj => ?_)
    have := (hA.own.lt j hj).1
    omega

theorem two_set {W : World} {b : Nat} {x y p q : Value} {t : TypeId} (h : W.heap[b]? = some (.cells #[x, y] t (0, 0))) :
    ((W.setCell ⟨b, 0, none⟩ p).setCell ⟨b, 1, none⟩ q).heap[b]? = some (.cells #[p, q] t (0, 0)) := by
  have h1 := heap_setCell_same W b 0 _ _ p h
  have h2 := heap_setCell_same _ b 1 _ _ q h1
  rw [h2]; rfl

def sgn (n : Int) : Int := if n < 0 then -1 else if n = 0 then 0 else 1
def OfPost (n : Int) (w : World) (e : Ending) (w' : World) : Prop := ∃ v, e = .returned (.agg #[.int .i64 (sgn n), v]) ∧ Dg w' v (low n.natAbs) ∧ Below w.heap.size w w'

/-- Behind the loop: the sign is mended, and the whole number is told. -/
theorem of_end {w wr : World} {sg : Int} {m : Nat} {v : Value} {ds : List Nat} (hA : OfAt w sg m 0 wr v ds) : ds = low m ∧ (∃ a c, v = .slice a ds.length c) := by
  have hd : ds = low m := by have := hA.digs; rw [low_zero, List.append_nil] at this; exact this
  refine ⟨hd, ?_⟩
  obtain ⟨a, c, h, _⟩ := dg_of_own hA.own
  exact ⟨a, c, h⟩
theorem OfAt.len {w wr : World} {sg : Int} {m k : Nat} {v : Value} {ds : List Nat} (hA : OfAt w sg m k wr v ds) (hm : m ≤ 9223372036854775808) : ds.length ≤ 20 := by
  have h1 := low_len 20 m (by omega)
  have h2 : (ds ++ low k).length = (low m).length := by rw [hA.digs]
  rw [List.length_append] at h2
  omega

theorem low_nil (m : Nat) : (low m).length = 0 ↔ m = 0 := by
  constructor
  · intro h
    by_cases h0 : m = 0
    · exact h0
    · rw [low_pos m h0] at h; simp at h
  · rintro rfl; rw [low_zero]; rfl

set_option maxRecDepth 100000 in
set_option maxHeartbeats 2000000 in
theorem of_pos (n : Nat) (w : World) (hn : n ≤ 9223372036854775807) :
    Calls Tryd.prog 71 #[.int .i64 (n : Int)] w (OfPost (n : Int) w) := by
  obtain ⟨i0, hi, hz0, hz1, hz2⟩ := info_parts Tryd.infoInt
  have t0 : decide ((n : Int) < 0) = false := decide_eq_false (by omega)
  have hbn : n ≤ 9223372036854775808 := by omega
  go_enter Tryd.func71, Tryd.ntmps71
  go_wp2_with fail
  go_loopw [0] (fun c wr => ∃ (k : Nat) (v : Value) (ds : List Nat), c = .int .i64 ((k : Int)) ∧ k ≤ 9223372036854775807 ∧ OfAt w 1 n k wr v ds) (fun c _ => (intOf c).natAbs)
  case atStart =>
    refine ⟨n, _, [], rfl, hn, ⟨⟨_, _, heap_alloc2_old _ _ _⟩, heap_alloc2_new _ _ _, World.ownsRow_nil _ _ _ _, rfl, ((Below.refl _ _).alloc (Nat.le_refl _) _).alloc (by simp) _⟩⟩
  case round =>
    obtain ⟨k, v, ds, rfl, hk, hA⟩ := hrel
    have hdl := hA.len hbn
    have HA := Lib.hid hA
    have c0 := cell_of_row _ _ 0 _ _ _ hA.mem
    have c1 := cell_of_row _ _ 1 _ _ _ hA.mem
    have f1 := frozen_of_row _ _ 1 _ _ hA.mem
    have f0 := frozen_of_row _ _ 0 _ _ hA.mem
    have hszr := lt_of_block hA.mem
    simp at c0 c1
    by_cases hz : k = 0
    · subst hz
      obtain ⟨hds, ⟨a, c, rfl⟩⟩ := of_end hA
      obtain ⟨x, y, hres⟩ := hA.res
      have r0 := cell_of_row _ _ 0 _ _ _ hres
      have r1 := cell_of_row _ _ 1 _ _ _ hres
      have g0 := frozen_of_row _ _ 0 _ _ hres
      have g1 := frozen_of_row _ _ 1 _ _ hres
      simp at r0 r1
      have HR := Lib.hid hds
      have HRES := Lib.hid hres
      clear hds hA hres
      by_cases hn0 : ds.length = 0
      · have t3 : ((ds.length : Int) == 0) = true := beq_iff_eq.2 (by omega)
        have HN := Lib.hid hn0
        have hres2 := (heap_setCell_other wr ⟨w.heap.size + 1, 0, none⟩ w.heap.size (.int .i64 0) (by simp)).trans HRES.out
        have hfin := two_set (p := .int .i64 0) (q := .slice a ds.length c) hres2
        have q0 := cell_of_row _ _ 0 _ _ _ hfin
        have q1 := cell_of_row _ _ 1 _ _ _ hfin
        simp at q0 q1
        have hO := ownsRow_setCell_below (ownsRow_setCell_below (ownsRow_setCell_below HA.out.own (a := ⟨w.heap.size + 1, 0, none⟩) (by simp) (.int .i64 0)) (a := ⟨w.heap.size, 0, none⟩) (by simp) (.int .i64 0)) (a := ⟨w.heap.size, 1, none⟩) (by simp) (.slice a ds.length c)
        have HD := Lib.hid (dg_of_own hO)
        have hBb := ((HA.out.below.setCell (p := ⟨w.heap.size + 1, 0, none⟩) (by simp) (.int .i64 0)).setCell (p := ⟨w.heap.size, 0, none⟩) (by simp) (.int .i64 0)).setCell (p := ⟨w.heap.size, 1, none⟩) (by simp) (.slice a ds.length c)
        have HQ0 := Lib.hid q0
        have HQ1 := Lib.hid q1
        clear hn0 hres2 hfin q0 q1 hO
        go_wp2_with fail
        have q0 := HQ0.out
        have q1 := HQ1.out
        refine bodyPost_ret (v := .agg #[.int .i64 0, .slice a ds.length c]) (by simp [results, Tryd.results71, go_sem, q0, q1]) rfl ?_
        have hz : n = 0 := (low_nil n).1 (by rw [← HR.out]; exact HN.out)
        refine ⟨.slice a ds.length c, by rw [hz]; rfl, ?_, hBb⟩
        rw [show low (n : Int).natAbs = ds from HR.out.symm]
        exact HD.out
      · have t3 : ((ds.length : Int) == 0) = false := beq_eq_false_iff_ne.2 (by omega)
        have HN := Lib.hid hn0
        have hfin := two_set (p := .int .i64 1) (q := .slice a ds.length c) HRES.out
        have q0 := cell_of_row _ _ 0 _ _ _ hfin
        have q1 := cell_of_row _ _ 1 _ _ _ hfin
        simp at q0 q1
        have hO := ownsRow_setCell_below (ownsRow_setCell_below HA.out.own (a := ⟨w.heap.size, 0, none⟩) (by simp) (.int .i64 1)) (a := ⟨w.heap.size, 1, none⟩) (by simp) (.slice a ds.length c)
        have HD := Lib.hid (dg_of_own hO)
        have hBb := (HA.out.below.setCell (p := ⟨w.heap.size, 0, none⟩) (by simp) (.int .i64 1)).setCell (p := ⟨w.heap.size, 1, none⟩) (by simp) (.slice a ds.length c)
        have HQ0 := Lib.hid q0
        have HQ1 := Lib.hid q1
        clear hn0 hfin q0 q1 hO
        go_wp2_with fail
        have q0 := HQ0.out
        have q1 := HQ1.out
        refine bodyPost_ret (v := .agg #[.int .i64 1, .slice a ds.length c]) (by simp [results, Tryd.results71, go_sem, q0, q1]) rfl ?_
        have hz : ¬ n = 0 := fun h => HN.out (by rw [HR.out]; exact (low_nil n).2 h)
        refine ⟨.slice a ds.length c, by rw [show sgn (n : Int) = 1 from by unfold sgn; rw [if_neg (by omega), if_neg (by omega)]], ?_, hBb⟩
        rw [show low (n : Int).natAbs = ds from HR.out.symm]
        exact HD.out
    · have t1 : ((k : Int) != 0) = true := by rw [bne_iff_ne]; omega
      have t2 : decide ((k : Int) % 10 < 0) = false := decide_eq_false (by omega)
      have hown := Lib.hid hA.own
      have HZ := Lib.hid hz
      clear hA hz
      go_wp2_with (at_builtin; refine wpList_append_own _ rfl _ _ 75 rfl (w.heap.size + 2) 3 i0 (.int .i64 0) 1 8 Tryd.underlying75 hi hz0 hz1 hz2 rfl (by decide) _ _ _ rfl (hown.out.alloc _) ⟨wr.heap.size, 0, none⟩ 1 1 [iv (k % 10)] rfl rfl ?c1 ?c2 ?c3 ?c4 ?c5 ?_)
      case c1 => exact cell_one_new _ _ _
      case c2 => exact iv_one [k % 10]
      case c3 => unfold maxLen; omega
      case c4 => omega
      case c5 => simp; omega
      intro v' w1 hown1 hg1 hnil
      obtain ⟨hm1, hA1⟩ := of_step HA.out HZ.out hown1 hg1
      have d1 := cell_of_row _ _ 1 _ _ _ hm1
      have e1 := frozen_of_row _ _ 1 _ _ hm1
      simp at d1
      have HA1 := Lib.hid hA1
      obtain ⟨g', cap', rfl⟩ := own_form hown1 (by omega)
      clear hA1 hown1 hg1 hnil hm1
      go_wp2_with fail
      go_roundw
      case rel => exact ⟨k / 10, _, ds ++ [k % 10], rfl, by omega, HA1.out⟩
      case measure => have hz := HZ.out; simp [intOf]; omega
theorem neg_tmod10 (k : Nat) : (-(k : Int)).tmod 10 = -((k % 10 : Nat) : Int) := by rw [Int.neg_tmod]; rfl
theorem neg_tdiv10 (k : Nat) : (-(k : Int)).tdiv 10 = -((k / 10 : Nat) : Int) := by rw [Int.neg_tdiv]; rfl

set_option maxRecDepth 100000 in
set_option maxHeartbeats 2000000 in
theorem of_neg (n : Nat) (w : World) (hn : n ≤ 9223372036854775808) (hn1 : 1 ≤ n) :
    Calls Tryd.prog 71 #[.int .i64 (-(n : Int))] w (OfPost (-(n : Int)) w) := by
  obtain ⟨i0, hi, hz0, hz1, hz2⟩ := info_parts Tryd.infoInt
  have t0 : decide (-(n : Int) < 0) = true := decide_eq_true (by omega)
  have t01 : decide (0 < (n : Int)) = true := decide_eq_true (by omega)
  have t02 : decide (0 < n) = true := decide_eq_true (by omega)
  have hbn : n ≤ 9223372036854775808 := by omega
  go_enter Tryd.func71, Tryd.ntmps71
  go_wp2_with fail
  go_loopw [0] (fun c wr => ∃ (k : Nat) (v : Value) (ds : List Nat), c = .int .i64 (-(k : Int)) ∧ k ≤ 9223372036854775808 ∧ OfAt w (-1) n k wr v ds) (fun c _ => (intOf c).natAbs)
  case atStart =>
    refine ⟨n, _, [], rfl, hn, ⟨⟨_, _, heap_alloc2_old _ _ _⟩, heap_alloc2_new _ _ _, World.ownsRow_nil _ _ _ _, rfl, ((Below.refl _ _).alloc (Nat.le_refl _) _).alloc (by simp) _⟩⟩
  case round =>
    obtain ⟨k, v, ds, rfl, hk, hA⟩ := hrel
    have hdl := hA.len hbn
    have HA := Lib.hid hA
    have c0 := cell_of_row _ _ 0 _ _ _ hA.mem
    have c1 := cell_of_row _ _ 1 _ _ _ hA.mem
    have f1 := frozen_of_row _ _ 1 _ _ hA.mem
    have f0 := frozen_of_row _ _ 0 _ _ hA.mem
    have hszr := lt_of_block hA.mem
    simp at c0 c1
    by_cases hz : k = 0
    · subst hz
      obtain ⟨hds, ⟨a, c, rfl⟩⟩ := of_end hA
      obtain ⟨x, y, hres⟩ := hA.res
      have r0 := cell_of_row _ _ 0 _ _ _ hres
      have r1 := cell_of_row _ _ 1 _ _ _ hres
      have g0 := frozen_of_row _ _ 0 _ _ hres
      have g1 := frozen_of_row _ _ 1 _ _ hres
      simp at r0 r1
      have HR := Lib.hid hds
      have HRES := Lib.hid hres
      clear hds hA hres
      by_cases hn0 : ds.length = 0
      · have t3 : ((ds.length : Int) == 0) = true := beq_iff_eq.2 (by omega)
        have HN := Lib.hid hn0
        have hres2 := (heap_setCell_other wr ⟨w.heap.size + 1, 0, none⟩ w.heap.size (.int .i64 0) (by simp)).trans HRES.out
        have hfin := two_set (p := .int .i64 0) (q := .slice a ds.length c) hres2
        have q0 := cell_of_row _ _ 0 _ _ _ hfin
        have q1 := cell_of_row _ _ 1 _ _ _ hfin
        simp at q0 q1
        have hO := ownsRow_setCell_below (ownsRow_setCell_below (ownsRow_setCell_below HA.out.own (a := ⟨w.heap.size + 1, 0, none⟩) (by simp) (.int .i64 0)) (a := ⟨w.heap.size, 0, none⟩) (by simp) (.int .i64 0)) (a := ⟨w.heap.size, 1, none⟩) (by simp) (.slice a ds.length c)
        have HD := Lib.hid (dg_of_own hO)
        have hBb := ((HA.out.below.setCell (p := ⟨w.heap.size + 1, 0, none⟩) (by simp) (.int .i64 0)).setCell (p := ⟨w.heap.size, 0, none⟩) (by simp) (.int .i64 0)).setCell (p := ⟨w.heap.size, 1, none⟩) (by simp) (.slice a ds.length c)
        have HQ0 := Lib.hid q0
        have HQ1 := Lib.hid q1
        clear hn0 hres2 hfin q0 q1 hO
        go_wp2_with fail
        have q0 := HQ0.out
        have q1 := HQ1.out
        refine bodyPost_ret (v := .agg #[.int .i64 0, .slice a ds.length c]) (by simp [results, Tryd.results71, go_sem, q0, q1]) rfl ?_
        have hz : n = 0 := (low_nil n).1 (by rw [← HR.out]; exact HN.out)
        exact absurd hz (by omega)
      · have t3 : ((ds.length : Int) == 0) = false := beq_eq_false_iff_ne.2 (by omega)
        have HN := Lib.hid hn0
        have hfin := two_set (p := .int .i64 (-1)) (q := .slice a ds.length c) HRES.out
        have q0 := cell_of_row _ _ 0 _ _ _ hfin
        have q1 := cell_of_row _ _ 1 _ _ _ hfin
        simp at q0 q1
        have hO := ownsRow_setCell_below (ownsRow_setCell_below HA.out.own (a := ⟨w.heap.size, 0, none⟩) (by simp) (.int .i64 (-1))) (a := ⟨w.heap.size, 1, none⟩) (by simp) (.slice a ds.length c)
        have HD := Lib.hid (dg_of_own hO)
        have hBb := (HA.out.below.setCell (p := ⟨w.heap.size, 0, none⟩) (by simp) (.int .i64 (-1))).setCell (p := ⟨w.heap.size, 1, none⟩) (by simp) (.slice a ds.length c)
        have HQ0 := Lib.hid q0
        have HQ1 := Lib.hid q1
        clear hn0 hfin q0 q1 hO
        go_wp2_with fail
        have q0 := HQ0.out
        have q1 := HQ1.out
        refine bodyPost_ret (v := .agg #[.int .i64 (-1), .slice a ds.length c]) (by simp [results, Tryd.results71, go_sem, q0, q1]) rfl ?_
        have hz : ¬ n = 0 := fun h => HN.out (by rw [HR.out]; exact (low_nil n).2 h)
        refine ⟨.slice a ds.length c, by rw [show sgn (-(n : Int)) = -1 from by unfold sgn; rw [if_pos (by omega)]], ?_, hBb⟩
        rw [show low (-(n : Int)).natAbs = ds from by rw [Int.natAbs_neg]; exact HR.out.symm]
        exact HD.out
    · have t1 : ((-(k : Int)) != 0) = true := by rw [bne_iff_ne]; omega
      have em := neg_tmod10 k
      have eq := neg_tdiv10 k
      have hr10 : k % 10 < 10 := by omega
      generalize hr : k % 10 = r at *
      generalize hq : k / 10 = q at *
      have HRR : Hid (r = k % 10) := hr.symm
      have HQQ : Hid (q = k / 10) := hq.symm
      have hqb : q ≤ 922337203685477581 := by omega
      clear hr hq
      by_cases hr0 : r = 0
      · have em0 : (-(k : Int)).tmod 10 = 0 := by rw [em, hr0]; rfl
        have HR0 : Hid (iv 0 = iv (k % 10)) := by
          show iv 0 = iv (k % 10)
          rw [← HRR.out, hr0]
        clear hr0 em
        have hown := Lib.hid hA.own
        have HZ := Lib.hid hz
        clear hA hz
        go_wp2_with (at_builtin; refine wpList_append_own _ rfl _ _ 75 rfl (w.heap.size + 2) 3 i0 (.int .i64 0) 1 8 Tryd.underlying75 hi hz0 hz1 hz2 rfl (by decide) _ _ _ rfl (hown.out.alloc _) ⟨wr.heap.size, 0, none⟩ 1 1 [iv 0] rfl rfl ?c1 ?c2 ?c3 ?c4 ?c5 ?_)
        case c1 => exact cell_one_new _ _ _
        case c2 => exact iv_one [0]
        case c3 => unfold maxLen; omega
        case c4 => omega
        case c5 => simp; omega
        intro v' w1 hown1 hg1 hnil
        rw [HR0.out] at hown1
        obtain ⟨hm1, hA1⟩ := of_step HA.out HZ.out hown1 hg1
        have d1 := cell_of_row _ _ 1 _ _ _ hm1
        have e1 := frozen_of_row _ _ 1 _ _ hm1
        simp at d1
        have HA1 := Lib.hid hA1
        obtain ⟨g', cap', rfl⟩ := own_form hown1 (by omega)
        clear hA1 hown1 hg1 hnil hm1
        go_wp2_with fail
        go_roundw
        case rel => exact ⟨k / 10, _, ds ++ [k % 10], by rw [HQQ.out], by omega, HA1.out⟩
        case measure => have hz := HZ.out; have hqq := HQQ.out; simp [intOf]; omega
      · have t2 : decide (-(r : Int) < 0) = true := decide_eq_true (by omega)
        have t4 : decide ((0 : Int) < (r : Int)) = true := decide_eq_true (by omega)
        have t5 : decide (0 < r) = true := decide_eq_true (by omega)
        clear hr0
        have hown := Lib.hid hA.own
        have HZ := Lib.hid hz
        clear hA hz
        go_wp2_with (at_builtin; refine wpList_append_own _ rfl _ _ 75 rfl (w.heap.size + 2) 3 i0 (.int .i64 0) 1 8 Tryd.underlying75 hi hz0 hz1 hz2 rfl (by decide) _ _ _ rfl (hown.out.alloc _) ⟨wr.heap.size, 0, none⟩ 1 1 [iv r] rfl rfl ?c1 ?c2 ?c3 ?c4 ?c5 ?_)
        case c1 => exact cell_one_new _ _ _
        case c2 => exact iv_one [r]
        case c3 => unfold maxLen; omega
        case c4 => omega
        case c5 => simp; omega
        intro v' w1 hown1 hg1 hnil
        rw [HRR.out] at hown1
        obtain ⟨hm1, hA1⟩ := of_step HA.out HZ.out hown1 hg1
        have d1 := cell_of_row _ _ 1 _ _ _ hm1
        have e1 := frozen_of_row _ _ 1 _ _ hm1
        simp at d1
        have HA1 := Lib.hid hA1
        obtain ⟨g', cap', rfl⟩ := own_form hown1 (by omega)
        clear hA1 hown1 hg1 hnil hm1
        go_wp2_with fail
        go_roundw
        case rel => exact ⟨k / 10, _, ds ++ [k % 10], by rw [HQQ.out], by omega, HA1.out⟩
        case measure => have hz := HZ.out; have hqq := HQQ.out; simp [intOf]; omega

theorem of_any (n : Int) (w : World) (hn : I64 n) : Calls Tryd.prog 71 #[.int .i64 n] w (OfPost n w) := by
  obtain ⟨h1, h2⟩ := hn
  by_cases h : n < 0
  · obtain ⟨m, rfl⟩ : ∃ m : Nat, n = -(m : Int) := ⟨n.natAbs, by omega⟩
    exact of_neg m w (by omega) (by omega)
  · obtain ⟨m, rfl⟩ := Int.eq_ofNat_of_zero_le (show 0 ≤ n by omega)
    exact of_pos m w (by omega)

def BigPost (z : Int) (L : Nat) (w : World) (e : Ending) (w' : World) : Prop := ∃ V, e = .returned V ∧ BigAt w' V z L ∧ Below w.heap.size w w'
theorem sgn_val (n : Int) : sgn n * (val (low n.natAbs) : Int) = n := by
  rw [val_low]; unfold sgn
  split
  · omega
  · split <;> omega
theorem of_big (n : Int) (w : World) (hn : I64 n) : Calls Tryd.prog 71 #[.int .i64 n] w (BigPost n 20 w) := by
  refine (of_any n w hn).mono ?_
  rintro e w' ⟨v, rfl, hd, hB⟩
  refine ⟨_, rfl, ⟨sgn n, v, _, rfl, ?_, hd, low_ok _, low_len 20 _ (by obtain ⟨h1, h2⟩ := hn; omega), (sgn_val n).symm, ?_⟩, hB⟩
  · unfold sgn; split
    · left; rfl
    · split
      · right; left; rfl
      · right; right; rfl
  · intro h
    have := sgn_val n
    rw [h] at this
    rw [val_low]
    simp at this
    omega

end Go.Proofs.YthojkbmffiibdaaDoor

/- Adding and taking away, digit by digit. No Go in sight. -/
namespace Go.Proofs.YthojkbmffiibdaaDoor.Bo

/-- What was added up so far: the digits os, and c over. -/
def AddInv (xs ys os : List Nat) (k c : Nat) : Prop := os.length = k ∧ Ok os ∧ c ≤ 1 ∧ val os + 10 ^ k * (c + val (xs.drop k) + val (ys.drop k)) = val xs + val ys
theorem addInv_start (xs ys : List Nat) : AddInv xs ys [] 0 0 := ⟨rfl, Ok.nil, by omega, by simp [val]⟩
theorem addInv_step (xs ys os : List Nat) (k c : Nat) (ox : Ok xs) (oy : Ok ys) (h : AddInv xs ys os k c) :
    AddInv xs ys (os ++ [(xs.getD k 0 + ys.getD k 0 + c) % 10]) (k + 1) ((xs.getD k 0 + ys.getD k 0 + c) / 10) := by
  obtain ⟨hl, ho, hc, hv⟩ := h
  have hx := ox.getD k
  have hy := oy.getD k
  refine ⟨by simp [hl], ho.snoc (by omega), by omega, ?_⟩
  rw [val_snoc, hl, Nat.pow_succ]
  rw [val_drop xs k, val_drop ys k] at hv
  generalize xs.getD k 0 = X at *
  generalize ys.getD k 0 = Y at *
  generalize val (xs.drop (k + 1)) = A at *
  generalize val (ys.drop (k + 1)) = B at *
  rw [← hv]
  have e1 : c + (X + 10 * A) + (Y + 10 * B) = (X + Y + c) % 10 + 10 * ((X + Y + c) / 10 + A + B) := by omega
  rw [e1]
  generalize (X + Y + c) % 10 = d
  generalize (X + Y + c) / 10 + A + B = Q
  rw [Nat.mul_add, Nat.mul_assoc, Nat.add_assoc]
theorem addInv_end (xs ys os : List Nat) (c : Nat) (ox : Ok xs) (oy : Ok ys) (h : AddInv xs ys os (xs.length + ys.length + 1) c) : val os = val xs + val ys := by
  obtain ⟨hl, ho, hc, hv⟩ := h
  rw [List.drop_of_length_le (by omega), List.drop_of_length_le (by omega)] at hv
  have hx := val_lt xs ox
  have hy := val_lt ys oy
  have h1 : 10 ^ xs.length ≤ 10 ^ (xs.length + ys.length) := Nat.pow_le_pow_right (by omega) (by omega)
  have h2 : 10 ^ ys.length ≤ 10 ^ (xs.length + ys.length) := Nat.pow_le_pow_right (by omega) (by omega)
  have h3 : 10 ^ (xs.length + ys.length + 1) = 10 ^ (xs.length + ys.length) * 10 := Nat.pow_succ ..
  have h4 : c = 0 := by
    rcases Nat.eq_zero_or_pos c with h0 | h0
    · exact h0
    · obtain rfl : c = 1 := by omega
      simp [val] at hv
      omega
  subst h4
  simpa [val] using hv

/-- What was taken away so far: the digits os, and b borrowed. -/
def SubInv (xs ys os : List Nat) (k b : Nat) : Prop := os.length = k ∧ Ok os ∧ b ≤ 1 ∧ val os + val ys + 10 ^ k * val (xs.drop k) = val xs + 10 ^ k * (b + val (ys.drop k))
theorem subInv_start (xs ys : List Nat) : SubInv xs ys [] 0 0 := ⟨rfl, Ok.nil, by omega, by simp [val]; omega⟩
theorem subInv_step (xs ys os : List Nat) (k b d b' : Nat) (hd : d < 10) (hb : b' ≤ 1) (h : SubInv xs ys os k b) (he : xs.getD k 0 + 10 * b' = d + ys.getD k 0 + b) :
    SubInv xs ys (os ++ [d]) (k + 1) b' := by
  obtain ⟨hl, ho, hc, hv⟩ := h
  refine ⟨by simp [hl], ho.snoc hd, hb, ?_⟩
  rw [val_snoc, hl, Nat.pow_succ]
  rw [val_drop xs k, val_drop ys k] at hv
  generalize xs.getD k 0 = X at *
  generalize ys.getD k 0 = Y at *
  generalize val (xs.drop (k + 1)) = A at *
  generalize val (ys.drop (k + 1)) = B at *
  generalize 10 ^ k = P at *
  have e1 : P * (X + 10 * A) = P * X + P * 10 * A := by rw [Nat.mul_add, Nat.mul_assoc]
  have e2 : P * (b + (Y + 10 * B)) = P * b + P * Y + P * 10 * B := by rw [Nat.mul_add, Nat.mul_add, Nat.mul_assoc, Nat.add_assoc]
  have e3 : P * 10 * (b' + B) = P * (10 * b') + P * 10 * B := by rw [Nat.mul_add, Nat.mul_assoc]
  have e4 : P * X + P * (10 * b') = P * d + P * Y + P * b := by rw [← Nat.mul_add, he, Nat.mul_add, Nat.mul_add]
  rw [e1, e2] at hv
  rw [e3]
  omega
theorem subInv_end (xs ys os : List Nat) (b : Nat) (hle : val ys ≤ val xs) (h : SubInv xs ys os xs.length b) : val os = val xs - val ys := by
  obtain ⟨hl, ho, hc, hv⟩ := h
  rw [List.drop_of_length_le (Nat.le_refl _)] at hv
  have hlt := val_lt os ho
  rw [hl] at hlt
  have h4 : b + val (ys.drop xs.length) = 0 := by
    rcases Nat.eq_zero_or_pos (b + val (ys.drop xs.length)) with h0 | h0
    · exact h0
    · have := Nat.mul_le_mul_left (10 ^ xs.length) h0
      simp [val] at hv this
      omega
  rw [h4] at hv
  simp [val] at hv
  omega
end Go.Proofs.YthojkbmffiibdaaDoor.Bo

/- Contract of Plus. -/
namespace Go.Proofs.YthojkbmffiibdaaDoor
open Go.RowKit Go.Proofs.YthojkbmffiibdaaDoor.Bo
set_option linter.unusedVariables false

theorem digit_q (v : Value) (xs : List Nat) (i : Nat) (w : World) (h : Dg w v xs) (hl : xs.length ≤ 1000) (hi : i ≤ 10000) :
    Calls Tryd.prog 108 #[v, .int .i64 (i : Int)] w fun e w' => e = .returned (.int .i64 ((xs.getD i 0 : Nat) : Int)) ∧ w' = w :=
  (digit_any v xs i w h (by omega) (by omega)).mono fun _ _ ⟨h1, h2⟩ => ⟨h1, h2.symm⟩
theorem Dg.drewN {w : World} {v : Value} {xs : List Nat} (h : Dg w v xs) (n : Nat) : Dg (w.drewN n) v xs := h.below (below_drewN (Below.refl _ _) n)

/-- What stands in memory while digits are gathered: the two whole numbers, the answer's place, the row so far. -/
structure PlusAt (w : World) (base : Nat) (sa sb so : Int) (va vb v : Value) (os : List Nat) (wr : World) : Prop where
  boxa : wr.heap[w.heap.size]? = some (.cells #[.int .i64 sa, va] 77 (0, 0))
  boxb : wr.heap[w.heap.size + 1]? = some (.cells #[.int .i64 sb, vb] 77 (0, 0))
  res : ∃ x y, wr.heap[w.heap.size + 2]? = some (.cells #[x, y] 77 (0, 0))
  out : wr.heap[w.heap.size + 3]? = some (.cells #[.int .i64 so, v] 77 (0, 0))
  own : wr.ownsRow (base + 1) 3 1 v os.length (os.map iv)
  hbase : w.heap.size + 3 ≤ base
  hsize : base < wr.heap.size
  below : Below w.heap.size w wr

theorem plusAt_step {w wr w' : World} {base : Nat} {sa sb so : Int} {va vb v v' : Value} {os : List Nat} {d : Nat} {o : Obj} {n : Nat}
    (hA : PlusAt w base sa sb so va vb v os wr) (hown : w'.ownsRow (base + 1) 3 1 v' (os.length + 1) (os.map iv ++ [iv d])) (hg : ((wr.drewN n).alloc o).grownBy w' v.ownBlock) :
    w'.heap[w.heap.size + 3]? = some (.cells #[.int .i64 so, v] 77 (0, 0)) ∧ PlusAt w base sa sb so va vb v' (os ++ [d]) (w'.setCell ⟨w.heap.size + 3, 1, none⟩ v') ∧
      ∀ j, j ≤ base → j ≠ w.heap.size + 3 → (w'.setCell ⟨w.heap.size + 3, 1, none⟩ v').heap[j]? = wr.heap[j]? := by
  have hsz := hA.hsize
  have hbs := hA.hbase
  have hk : ∀ j, j ≤ base → w'.heap[j]? = wr.heap[j]? := fun j hj =>
    (hg.block j (by simp; omega) (own_ne hA.own hj)).trans (heap_alloc_old _ _ (show j < (wr.drewN n).heap.size from by show j < wr.heap.size; omega))
  have hm := (hk (w.heap.size + 3) (by omega)).trans hA.out
  refine ⟨hm, ⟨?_, ?_, ?_, ?_, ?_, hbs, ?_, ?_⟩, fun j hj hne => by rw [heap_setCell_other _ _ _ _ hne]; exact hk j hj⟩
  · rw [heap_setCell_other _ _ _ _ (by simp)]; exact (hk _ (by omega)).trans hA.boxa
  · rw [heap_setCell_other _ _ _ _ (by simp)]; exact (hk _ (by omega)).trans hA.boxb
  · obtain ⟨x, y, hr⟩ := hA.res
    exact ⟨x, y, by rw [heap_setCell_other _ _ _ _ (by simp)]; exact (hk _ (by omega)).trans hr⟩
  · have := heap_setCell_same w' (w.heap.size + 3) 1 _ _ v' hm
    rw [this]; rfl
  · have h1 := ownsRow_setCell_below hown (a := ⟨w.heap.size + 3, 1, none⟩) (by simp; omega) v'
    rw [show (os ++ [d]).length = os.length + 1 from by simp, List.map_append]
    exact h1
  · have := hg.size
    simp at this
    simp [World.setCell]
    have h2 : (wr.drewN n).heap.size = wr.heap.size := rfl
    omega
  · refine Below.setCell ?_ (by simp) _
    refine ((below_drewN hA.below n).alloc (by show w.heap.size ≤ wr.heap.size; omega) o).grown hg (by simp; show w.heap.size ≤ wr.heap.size + 1; omega) (fun j hj => ?_)
    have := (hA.own.lt j hj).1
    omega

theorem al4 (w : World) (A B C D : Obj) :
    ((((w.alloc A).alloc B).alloc C).alloc D).heap[w.heap.size]? = some A ∧ ((((w.alloc A).alloc B).alloc C).alloc D).heap[w.heap.size + 1]? = some B ∧
    ((((w.alloc A).alloc B).alloc C).alloc D).heap[w.heap.size + 2]? = some C ∧ ((((w.alloc A).alloc B).alloc C).alloc D).heap[w.heap.size + 3]? = some D := by
  have e1 := heap_alloc2_old w A B
  have e2 := heap_alloc2_new w A B
  have e3 : (((w.alloc A).alloc B).alloc C).heap[w.heap.size + 2]? = some C := by have := heap_alloc_new ((w.alloc A).alloc B) C; simpa using this
  have e4 : ((((w.alloc A).alloc B).alloc C).alloc D).heap[w.heap.size + 3]? = some D := by have := heap_alloc_new (((w.alloc A).alloc B).alloc C) D; simpa using this
  refine ⟨?_, ?_, ?_, e4⟩
  · rw [heap_alloc_old _ _ (by simp; omega), heap_alloc_old _ _ (by simp; omega)]; exact e1
  · rw [heap_alloc_old _ _ (by simp), heap_alloc_old _ _ (by simp)]; exact e2
  · rw [heap_alloc_old _ _ (by simp)]; exact e3

def SamePost (s : Int) (xs ys : List Nat) (w : World) (e : Ending) (w' : World) : Prop :=
  ∃ v zs, e = .returned (.agg #[.int .i64 s, v]) ∧ Dg w' v zs ∧ Ok zs ∧ zs.length ≤ xs.length + ys.length + 1 ∧ val zs = val xs + val ys ∧ Below w.heap.size w w'

end Go.Proofs.YthojkbmffiibdaaDoor

/- Contract of Plus, the signs unlike. -/
namespace Go.Proofs.YthojkbmffiibdaaDoor
open Go.RowKit Go.Proofs.YthojkbmffiibdaaDoor.Bo
set_option linter.unusedVariables false

theorem al6 (w : World) (A B C D E F : Obj) :
    ((((((w.alloc A).alloc B).alloc C).alloc D).alloc E).alloc F).heap[w.heap.size]? = some A ∧ ((((((w.alloc A).alloc B).alloc C).alloc D).alloc E).alloc F).heap[w.heap.size + 1]? = some B ∧
    ((((((w.alloc A).alloc B).alloc C).alloc D).alloc E).alloc F).heap[w.heap.size + 2]? = some C ∧ ((((((w.alloc A).alloc B).alloc C).alloc D).alloc E).alloc F).heap[w.heap.size + 3]? = some D ∧
    ((((((w.alloc A).alloc B).alloc C).alloc D).alloc E).alloc F).heap[w.heap.size + 4]? = some E ∧ ((((((w.alloc A).alloc B).alloc C).alloc D).alloc E).alloc F).heap[w.heap.size + 5]? = some F := by
  obtain ⟨h1, h2, h3, h4⟩ := al4 w A B C D
  have e5 : (((((w.alloc A).alloc B).alloc C).alloc D).alloc E).heap[w.heap.size + 4]? = some E := by have := heap_alloc_new ((((w.alloc A).alloc B).alloc C).alloc D) E; simpa using this
  have e6 : ((((((w.alloc A).alloc B).alloc C).alloc D).alloc E).alloc F).heap[w.heap.size + 5]? = some F := by have := heap_alloc_new (((((w.alloc A).alloc B).alloc C).alloc D).alloc E) F; simpa using this
  refine ⟨?_, ?_, ?_, ?_, ?_, e6⟩
  · rw [heap_alloc_old _ _ (by simp <;> omega), heap_alloc_old _ _ (by simp <;> omega)]; exact h1
  · rw [heap_alloc_old _ _ (by simp <;> omega), heap_alloc_old _ _ (by simp <;> omega)]; exact h2
  · rw [heap_alloc_old _ _ (by simp), heap_alloc_old _ _ (by simp)]; exact h3
  · rw [heap_alloc_old _ _ (by simp), heap_alloc_old _ _ (by simp)]; exact h4
  · rw [heap_alloc_old _ _ (by simp)]; exact e5
theorem below6 (w : World) (A B C D E F : Obj) : Below w.heap.size w ((((((w.alloc A).alloc B).alloc C).alloc D).alloc E).alloc F) :=
  ((((((Below.refl _ _).alloc (Nat.le_refl _) _).alloc (by simp) _).alloc (by simp <;> omega) _).alloc (by simp <;> omega) _).alloc (by simp <;> omega) _).alloc (by simp <;> omega) _

theorem diff_a (sa sb : Int) (x y o : Nat) (hs : (sa = 1 ∧ sb = -1) ∨ (sa = -1 ∧ sb = 1)) (hle : y ≤ x) (h : o = x - y) : sa * (x : Int) + sb * (y : Int) = sa * (o : Int) := by
  rcases hs with ⟨rfl, rfl⟩ | ⟨rfl, rfl⟩ <;> omega
theorem diff_b (sa sb : Int) (x y o : Nat) (hs : (sa = 1 ∧ sb = -1) ∨ (sa = -1 ∧ sb = 1)) (hle : x ≤ y) (h : o = y - x) : sa * (x : Int) + sb * (y : Int) = sb * (o : Int) := by
  rcases hs with ⟨rfl, rfl⟩ | ⟨rfl, rfl⟩ <;> omega

theorem slice_of_dg {w : World} {v : Value} {xs : List Nat} (h : Dg w v xs) : ∃ a n c, v = .slice a n c := by
  obtain ⟨a, c, h, _⟩ := h
  exact ⟨a, _, c, h⟩
theorem end_big (V : Value) (z : Int) (L : Nat) (w : World) (h : BigAt w V z L) (hL : L ≤ 100000) :
    Calls Tryd.prog 98 #[V] w fun e w' => e = .returned (.int .i64 (clamp z)) ∧ Below w.heap.size w w' := by
  obtain ⟨s, v, xs, rfl, hs, hd, ok, hl, rfl, h0⟩ := h
  exact end_any s v xs w hs hd ok (by omega)
theorem is_big (V : Value) (z : Int) (L : Nat) (w : World) (h : BigAt w V z L) (hL : L ≤ 100000) :
    Calls Tryd.prog 97 #[V] w fun e w' => e = .returned (.bool (decide (clamp z = z))) ∧ Below w.heap.size w w' := by
  obtain ⟨s, v, xs, rfl, hs, hd, ok, hl, rfl, h0⟩ := h
  have h := is_any s v xs w hs hd ok (by omega)
  rw [show (!decide (lim s < val xs)) = decide (clamp (s * (val xs : Int)) = s * (val xs : Int)) from ?_] at h
  · exact h
  · have hc := clamp_sign s (val xs) hs
    rw [hc]
    by_cases hb : lim s < val xs
    · rw [if_pos hb, decide_eq_true hb]
      symm
      rw [Bool.not_true]
      refine decide_eq_false ?_
      rcases hs with rfl | rfl | rfl
      · omega
      · have := h0 rfl; omega
      · omega
    · rw [if_neg hb, decide_eq_false hb]; simp
end Go.Proofs.YthojkbmffiibdaaDoor

/- Contract of the reference's Shift. -/
namespace Go.Proofs.YthojkbmffiibdaaDoor
open Go.RowKit Go.Sort Go.Proofs.YthojkbmffiibdaaDoor.Bo
set_option linter.unusedVariables false

end Go.Proofs.YthojkbmffiibdaaDoor

/- The walk of the law CutBetween. -/
namespace Go.Proofs.YthojkbmffiibdaaDoor
open Go.RowKit Go.Sort Go.Proofs.YthojkbmffiibdaaDoor.Bo
set_option linter.unusedVariables false

theorem ahead_b (n : Int) (hn : I64 n) (w : World) : Calls Tryd.prog 31 #[.int .i64 n] w fun e w' => e = .returned (.agg #[.int .i64 (sd n), .int .i64 (pa n)]) ∧ Below w.heap.size w w' := (ahead_any n w hn).mono fun _ _ h => ⟨h.1, h.2.1⟩
theorem behind_b (n : Int) (hn : I64 n) (w : World) : Calls Tryd.prog 30 #[.int .i64 n] w fun e w' => e = .returned (.agg #[.int .i64 (sd (n + 1)), .int .i64 (pa (n + 1))]) ∧ Below w.heap.size w w' := (behind_any n w hn).mono fun _ _ h => ⟨h.1, h.2.1⟩
theorem next_b (s a : Int) (w : World) (ha : I64 a) : Calls Tryd.prog 39 #[.agg #[.int .i64 s, .int .i64 a]] w fun e w' => e = .returned (.tuple #[.int .i64 (nx (key s a)), .bool (nxb (key s a))]) ∧ Below w.heap.size w w' := (next_any s a w ha).mono fun _ _ h => ⟨h.1, h.2.1⟩
theorem ky_of_i64 (n : Int) (h : I64 n) : Ky n ∧ Ky (n + 1) := by unfold I64 at h; unfold Ky; omega

end Go.Proofs.YthojkbmffiibdaaDoor

/- The walk of the law CutNumbers. -/
namespace Go.Proofs.YthojkbmffiibdaaDoor
open Go.RowKit Go.Sort Go.Proofs.YthojkbmffiibdaaDoor.Bo
set_option linter.unusedVariables false

theorem neq_cut (s a t b : Int) (w : World) : Sem.run Tryd.prog (binOp .neq 25 (.agg #[.int .i64 s, .int .i64 a]) (.agg #[.int .i64 t, .int .i64 b])) w = .ok (.bool (!(s == t && a == b))) w := by
  have hS : Tryd.prog.underlying 25 = some (.struct (Tryd.prog.fieldsOf 25)) := by kernel_rfl
  have hp : Tryd.prog.stoodInHeld 25 = false := by kernel_rfl
  have u3 := Tryd.underlying3
  have u2 := Tryd.underlying2
  rw [run_neq_struct, show (10000 : Nat) = 9999 + 1 from rfl, run_equalIn_agg w 9999 25 _ _ hS hp]
  simp only [Program.fieldsOf, Tryd.underlying25]
  go_simp
  by_cases h1 : s = t <;> by_cases h2 : a = b <;> simp [h1, h2]
theorem right_key (k : Int) (hk : Ky k) (w : World) : Calls Tryd.prog 68 #[.agg #[.int .i64 (sd k), .int .i64 (pa k)]] w fun e w' => e = .returned (.bool true) ∧ Below w.heap.size w w' := by
  have h := right_any (sd k) (pa k) w (pa_i64 k hk)
  rw [key_back k hk] at h
  simp only [beq_self_eq_true, Bool.and_self] at h
  exact h.mono fun _ _ h => ⟨h.1, h.2.1⟩

end Go.Proofs.YthojkbmffiibdaaDoor

/- The walk of the law CutShifts. -/
namespace Go.Proofs.YthojkbmffiibdaaDoor
open Go.RowKit Go.Sort Go.Proofs.YthojkbmffiibdaaDoor.Bo
set_option linter.unusedVariables false

/-- A box stays where it is. -/
theorem box_on {w w' : World} {b : Nat} {o : Obj} (h : w.heap[b]? = some o) (hb : Below w.heap.size w w') : w'.heap[b]? = some o := (hb.block _ (lt_of_block h)).trans h
theorem box_new {w w' : World} (o : Obj) (hb : Below (w.alloc o).heap.size (w.alloc o) w') : w'.heap[w.heap.size]? = some o := box_on (heap_alloc_new w o) hb
theorem below_new (w : World) (o : Obj) : Below w.heap.size w (w.alloc o) := (Below.refl _ _).alloc (Nat.le_refl _) _

end Go.Proofs.YthojkbmffiibdaaDoor

/- Contracts of cut.Least and cut.Greatest. -/
namespace Go.Proofs.YthojkbmffiibdaaDoor
open Go.RowKit Go.Sort Go.Proofs.YthojkbmffiibdaaDoor.Bo
set_option linter.unusedVariables false

/-- A slice of cuts that holds cs. -/
def CRow (w : World) (a : Option Addr) (cs : List (Int × Int)) : Prop :=
  0 < cs.length → ∃ b off, a = some ⟨b, off, none⟩ ∧ ∀ (j : Nat) (h : j < cs.length), w.cell? ⟨b, off + j * 2, none⟩ = some (.int .i64 cs[j].1) ∧ w.cell? ⟨b, off + j * 2 + 1, none⟩ = some (.int .i64 cs[j].2)
theorem CRow.below {w w' : World} {a : Option Addr} {cs : List (Int × Int)} (h : CRow w a cs) (hb : Below w.heap.size w w') : CRow w' a cs := by
  intro hp
  obtain ⟨b, off, e, hc⟩ := h hp
  refine ⟨b, off, e, fun j hj => ?_⟩
  obtain ⟨h1, h2⟩ := hc j hj
  exact ⟨(hb.cell (p := ⟨b, off + j * 2, none⟩) (World.block_lt_of_cell? w _ h1)).trans h1, (hb.cell (p := ⟨b, off + j * 2 + 1, none⟩) (World.block_lt_of_cell? w _ h2)).trans h2⟩

def kOf (c : Int × Int) : Int := key c.1 c.2
def leastK (cs : List (Int × Int)) : Int := (cs.map kOf).foldl klow 9223372036854775808
def greatK (cs : List (Int × Int)) : Int := (cs.map kOf).foldl khigh (-9223372036854775808)

theorem foldK_ky (f : Int → Int → Int) (hf : ∀ k l, f k l = k ∨ f k l = l) : ∀ (cs : List (Int × Int)) (m : Int), Ky m → (∀ c ∈ cs, I64 c.2) → Ky ((cs.map kOf).foldl f m)
  | [], m, h, _ => h
  | c :: l, m, h, hz => by
    refine foldK_ky f hf l _ ?_ (fun d hd => hz d (List.mem_cons_of_mem _ hd))
    rcases hf m (kOf c) with e | e
    · rw [e]; exact h
    · rw [e]; exact key_ky _ _ (hz c (List.mem_cons_self ..))
theorem klow_or (k l : Int) : klow k l = k ∨ klow k l = l := by unfold klow; split <;> simp
theorem khigh_or (k l : Int) : khigh k l = k ∨ khigh k l = l := by unfold khigh; split <;> simp
theorem leastK_ky (cs : List (Int × Int)) (hz : ∀ c ∈ cs, I64 c.2) : Ky (leastK cs) := foldK_ky klow klow_or cs _ ⟨by decide, by decide⟩ hz
theorem greatK_ky (cs : List (Int × Int)) (hz : ∀ c ∈ cs, I64 c.2) : Ky (greatK cs) := foldK_ky khigh khigh_or cs _ ⟨by decide, by decide⟩ hz
theorem leastK_snoc (cs : List (Int × Int)) (c : Int × Int) : leastK (cs ++ [c]) = klow (leastK cs) (kOf c) := by unfold leastK; rw [List.map_append, List.foldl_append]; rfl
theorem greatK_snoc (cs : List (Int × Int)) (c : Int × Int) : greatK (cs ++ [c]) = khigh (greatK cs) (kOf c) := by unfold greatK; rw [List.map_append, List.foldl_append]; rfl

end Go.Proofs.YthojkbmffiibdaaDoor
