/- Contracts of the reference's cuts: Less, Compare, Low, High, Ahead, Behind, Next, Prev. -/
import Derived.Test.YtmdnmcbjpjpgjaaCutR
namespace Go.Proofs.Ytmdnmcbjpjpgjaa
open Go.RowKit Go.Sort Go.Proofs.Ytmdnmcbjpjpgjaa.Bo
set_option linter.unusedVariables false

theorem Two.put0 {b : Nat} {s a t c : Int} {w : World} (h : Two b s a t c w) (s' a' : Int) : Two b s' a' t c ((w.setCell ⟨b, 0, none⟩ (.int .i64 s')).setCell ⟨b, 1, none⟩ (.int .i64 a')) :=
  ⟨two_put h.1, by rw [heap_setCell_other _ _ _ _ (by simp), heap_setCell_other _ _ _ _ (by simp)]; exact h.2⟩
theorem Two.put1 {b : Nat} {s a t c : Int} {w : World} (h : Two b s a t c w) (s' a' : Int) : Two b s a s' a' ((w.setCell ⟨b + 1, 0, none⟩ (.int .i64 s')).setCell ⟨b + 1, 1, none⟩ (.int .i64 a')) :=
  ⟨by rw [heap_setCell_other _ _ _ _ (by simp), heap_setCell_other _ _ _ _ (by simp)]; exact h.1, two_put h.2⟩
theorem ret_bool {a b : Bool} (h : a = b) : Ending.returned (.bool a) = .returned (.bool b) := by rw [h]

set_option maxRecDepth 100000 in
set_option maxHeartbeats 1000000 in
theorem rless_any (s a t b : Int) (w : World) (ha : I64 a) (hb : I64 b) :
    Calls Try.prog 41 #[.agg #[.int .i64 s, .int .i64 a], .agg #[.int .i64 t, .int .i64 b]] w fun e w' => e = .returned (.bool (decide (key s a < key t b))) ∧ Below w.heap.size w w' := by
  have HC := Lib.hid (fun W => rcanon_any s a W ha)
  have HD := Lib.hid (fun W => rcanon_any t b W hb)
  have h1 := fun h => lt_side _ _ (key_ky s a ha) (key_ky t b hb) h
  have h2 := fun h => lt_at _ _ (key_ky s a ha) (key_ky t b hb) h
  generalize hD : decide (key s a < key t b) = D at *
  generalize sd (key s a) = x at *
  generalize pa (key s a) = y at *
  generalize sd (key t b) = u at *
  generalize pa (key t b) = v at *
  have H1 := Lib.hid h1
  have H2 := Lib.hid h2
  clear h1 h2 hD ha hb
  go_enter Try.func41, Try.ntmps41
  go_wp2_with fail
  refine (HC.out _).mono ?_
  rintro e w1 ⟨rfl, hB1⟩
  have hT0 : Two w.heap.size s a t b ((w.alloc (.cells #[.int .i64 s, .int .i64 a] 23)).alloc (.cells #[.int .i64 t, .int .i64 b] 23)) := ⟨heap_alloc2_old _ _ _, heap_alloc2_new _ _ _⟩
  have hT1 := hT0.below hB1
  have hL1 : Below w.heap.size w w1 := bt (((Below.refl _ _).alloc (Nat.le_refl _) _).alloc (by simp) _) hB1
  have hT2 := hT1.put0 x y
  have hL2 := (hL1.setCell (p := ⟨w.heap.size, 0, none⟩) (by simp) (.int .i64 x)).setCell (p := ⟨w.heap.size, 1, none⟩) (by simp) (.int .i64 y)
  obtain ⟨p1, p2, p3, p4, p5, p6, p7, p8⟩ := hT1.cells
  obtain ⟨_, _, q3, q4, _, _, _, _⟩ := hT2.cells
  have HT2 := Lib.hid hT2
  clear hT0 hT1 hT2 hB1 hL1
  go_wp2_with fail
  generalize (w1.setCell ⟨w.heap.size, 0, none⟩ (.int .i64 x)).setCell ⟨w.heap.size, 1, none⟩ (.int .i64 y) = X at *
  refine (HD.out _).mono ?_
  rintro e w2 ⟨rfl, hB2⟩
  have hT3 := HT2.out.below hB2
  have hL3 := bt hL2 hB2
  have hT4 := hT3.put1 u v
  have hL4 := (hL3.setCell (p := ⟨w.heap.size + 1, 0, none⟩) (by simp) (.int .i64 u)).setCell (p := ⟨w.heap.size + 1, 1, none⟩) (by simp) (.int .i64 v)
  clear p1 p2 p3 p4 p5 p6 p7 p8 q3 q4
  obtain ⟨p1, p2, p3, p4, p5, p6, p7, p8⟩ := hT3.cells
  obtain ⟨q1, q2, q3, q4, _, _, _, _⟩ := hT4.cells
  clear hT3 hT4 hB2 hL2 hL3 HT2
  by_cases hq : x = u
  · have HQ := Lib.hid (H2.out hq)
    have tq : (x != u) = false := bne_eq_false_iff_eq.2 hq
    clear hq
    go_wp2_with fail
    go_ret
    exact ⟨ret_bool HQ.out, hL4⟩
  · have HQ := Lib.hid (H1.out hq)
    have tq : (x != u) = true := bne_iff_ne.2 hq
    clear hq
    go_wp2_with fail
    go_ret
    exact ⟨ret_bool HQ.out, hL4⟩

set_option maxRecDepth 100000 in
theorem rcompare_any (s a t b : Int) (w : World) (ha : I64 a) (hb : I64 b) :
    Calls Try.prog 14 #[.agg #[.int .i64 s, .int .i64 a], .agg #[.int .i64 t, .int .i64 b]] w fun e w' => e = .returned (.int .i64 (kcmp (key s a) (key t b))) ∧ Below w.heap.size w w' := by
  have HC := Lib.hid (fun W => rless_any s a t b W ha hb)
  have HD := Lib.hid (fun W => rless_any t b s a W hb ha)
  generalize key s a = k at *
  generalize key t b = l at *
  clear ha hb
  have hT0 : Two w.heap.size s a t b ((w.alloc (.cells #[.int .i64 s, .int .i64 a] 23)).alloc (.cells #[.int .i64 t, .int .i64 b] 23)) := ⟨heap_alloc2_old _ _ _, heap_alloc2_new _ _ _⟩
  have hL0 : Below w.heap.size w ((w.alloc (.cells #[.int .i64 s, .int .i64 a] 23)).alloc (.cells #[.int .i64 t, .int .i64 b] 23)) := ((Below.refl _ _).alloc (Nat.le_refl _) _).alloc (by simp) _
  have HT := Lib.hid hT0
  clear hT0
  rcases Int.lt_trichotomy k l with h | h | h
  · rw [decide_eq_true h] at HC
    rw [kcmp_lt k l h]
    clear h HD
    go_enter Try.func14, Try.ntmps14
    go_wp2_with fail
    refine (HC.out _).mono ?_
    rintro e w1 ⟨rfl, hB1⟩
    go_wp2_with fail
    go_ret
    exact ⟨rfl, bt hL0 hB1⟩
  · rw [decide_eq_false (show ¬ k < l by omega)] at HC
    rw [decide_eq_false (show ¬ l < k by omega)] at HD
    rw [kcmp_eq k l h]
    clear h
    go_enter Try.func14, Try.ntmps14
    go_wp2_with fail
    refine (HC.out _).mono ?_
    rintro e w1 ⟨rfl, hB1⟩
    obtain ⟨p1, p2, p3, p4, _, _, _, _⟩ := (HT.out.below hB1).cells
    go_wp2_with fail
    refine (HD.out _).mono ?_
    rintro e w2 ⟨rfl, hB2⟩
    go_wp2_with fail
    go_ret
    exact ⟨rfl, bt (bt hL0 hB1) hB2⟩
  · rw [decide_eq_false (show ¬ k < l by omega)] at HC
    rw [decide_eq_true (show l < k by omega)] at HD
    rw [kcmp_gt k l h]
    clear h
    go_enter Try.func14, Try.ntmps14
    go_wp2_with fail
    refine (HC.out _).mono ?_
    rintro e w1 ⟨rfl, hB1⟩
    obtain ⟨p1, p2, p3, p4, _, _, _, _⟩ := (HT.out.below hB1).cells
    go_wp2_with fail
    refine (HD.out _).mono ?_
    rintro e w2 ⟨rfl, hB2⟩
    go_wp2_with fail
    go_ret
    exact ⟨rfl, bt (bt hL0 hB1) hB2⟩

def klow (k l : Int) : Int := if l < k then l else k
def khigh (k l : Int) : Int := if k < l then l else k

set_option maxRecDepth 100000 in
theorem rlow_any (s a t b : Int) (w : World) (ha : I64 a) (hb : I64 b) :
    Calls Try.prog 17 #[.agg #[.int .i64 s, .int .i64 a], .agg #[.int .i64 t, .int .i64 b]] w fun e w' => e = .returned (.agg #[.int .i64 (sd (klow (key s a) (key t b))), .int .i64 (pa (klow (key s a) (key t b)))]) ∧ Below w.heap.size w w' := by
  have HC := Lib.hid (fun W => rless_any t b s a W hb ha)
  have HA := Lib.hid (fun W => rcanon_any s a W ha)
  have HB := Lib.hid (fun W => rcanon_any t b W hb)
  generalize key s a = k at *
  generalize key t b = l at *
  clear ha hb
  have hT0 : Two w.heap.size s a t b (((w.alloc (.cells #[.int .i64 s, .int .i64 a] 23)).alloc (.cells #[.int .i64 t, .int .i64 b] 23)).alloc (.cells #[.int .i64 0, .int .i64 0] 23)) := ⟨by rw [heap_alloc_old _ _ (by simp; omega)]; exact heap_alloc2_old _ _ _, by rw [heap_alloc_old _ _ (by simp)]; exact heap_alloc2_new _ _ _⟩
  have hR0 : (((w.alloc (.cells #[.int .i64 s, .int .i64 a] 23)).alloc (.cells #[.int .i64 t, .int .i64 b] 23)).alloc (.cells #[.int .i64 0, .int .i64 0] 23)).heap[w.heap.size + 2]? = some (.cells #[.int .i64 0, .int .i64 0] 23 (0, 0)) := by
    have h := heap_alloc_new ((w.alloc (.cells #[.int .i64 s, .int .i64 a] 23)).alloc (.cells #[.int .i64 t, .int .i64 b] 23)) (.cells #[.int .i64 0, .int .i64 0] 23)
    simpa using h
  have hL0 : Below w.heap.size w (((w.alloc (.cells #[.int .i64 s, .int .i64 a] 23)).alloc (.cells #[.int .i64 t, .int .i64 b] 23)).alloc (.cells #[.int .i64 0, .int .i64 0] 23)) := (((Below.refl _ _).alloc (Nat.le_refl _) _).alloc (by simp) _).alloc (by simp; omega) _
  have HT := Lib.hid hT0
  have HR := Lib.hid hR0
  clear hT0 hR0
  by_cases h : l < k
  · have HP : Hid (klow k l = l) := by unfold klow; show _ = _; rw [if_pos h]
    rw [decide_eq_true h] at HC
    rw [HP.out]
    generalize sd l = xb at *
    generalize pa l = yb at *
    clear h HA HP
    go_enter Try.func17, Try.ntmps17
    go_wp2_with fail
    refine (HC.out _).mono ?_
    rintro e w1 ⟨rfl, hB1⟩
    obtain ⟨p1, p2, p3, p4, _, _, _, _⟩ := (HT.out.below hB1).cells
    have hR1 := (hB1.block _ (lt_of_block HR.out)).trans HR.out
    go_wp2_with fail
    refine (HB.out _).mono ?_
    rintro e w2 ⟨rfl, hB2⟩
    have hR2 := (hB2.block _ (lt_of_block hR1)).trans hR1
    obtain ⟨r1, r2, r3, r4⟩ := two_cells hR2
    obtain ⟨q1, q2, _, _⟩ := two_cells (two_put (p := .int .i64 xb) (q := .int .i64 yb) hR2)
    have hL2 := ((bt (bt hL0 hB1) hB2).setCell (p := ⟨w.heap.size + 2, 0, none⟩) (by simp) (.int .i64 xb)).setCell (p := ⟨w.heap.size + 2, 1, none⟩) (by simp) (.int .i64 yb)
    clear p1 p2 p3 p4
    go_wp2_with fail
    refine bodyPost_ret (v := .agg #[.int .i64 xb, .int .i64 yb]) (by simp [results, Try.results17, go_sem, q1, q2]) rfl ?_
    exact ⟨rfl, hL2⟩
  · have HP : Hid (klow k l = k) := by unfold klow; show _ = _; rw [if_neg h]
    rw [decide_eq_false h] at HC
    rw [HP.out]
    generalize sd k = xa at *
    generalize pa k = ya at *
    clear h HB HP
    go_enter Try.func17, Try.ntmps17
    go_wp2_with fail
    refine (HC.out _).mono ?_
    rintro e w1 ⟨rfl, hB1⟩
    obtain ⟨p1, p2, p3, p4, _, _, _, _⟩ := (HT.out.below hB1).cells
    have hR1 := (hB1.block _ (lt_of_block HR.out)).trans HR.out
    go_wp2_with fail
    refine (HA.out _).mono ?_
    rintro e w2 ⟨rfl, hB2⟩
    have hR2 := (hB2.block _ (lt_of_block hR1)).trans hR1
    obtain ⟨r1, r2, r3, r4⟩ := two_cells hR2
    obtain ⟨q1, q2, _, _⟩ := two_cells (two_put (p := .int .i64 xa) (q := .int .i64 ya) hR2)
    have hL2 := ((bt (bt hL0 hB1) hB2).setCell (p := ⟨w.heap.size + 2, 0, none⟩) (by simp) (.int .i64 xa)).setCell (p := ⟨w.heap.size + 2, 1, none⟩) (by simp) (.int .i64 ya)
    clear p1 p2 p3 p4
    go_wp2_with fail
    refine bodyPost_ret (v := .agg #[.int .i64 xa, .int .i64 ya]) (by simp [results, Try.results17, go_sem, q1, q2]) rfl ?_
    exact ⟨rfl, hL2⟩

set_option maxRecDepth 100000 in
theorem rhigh_any (s a t b : Int) (w : World) (ha : I64 a) (hb : I64 b) :
    Calls Try.prog 19 #[.agg #[.int .i64 s, .int .i64 a], .agg #[.int .i64 t, .int .i64 b]] w fun e w' => e = .returned (.agg #[.int .i64 (sd (khigh (key s a) (key t b))), .int .i64 (pa (khigh (key s a) (key t b)))]) ∧ Below w.heap.size w w' := by
  have HC := Lib.hid (fun W => rless_any s a t b W ha hb)
  have HA := Lib.hid (fun W => rcanon_any s a W ha)
  have HB := Lib.hid (fun W => rcanon_any t b W hb)
  generalize key s a = k at *
  generalize key t b = l at *
  clear ha hb
  have hT0 : Two w.heap.size s a t b (((w.alloc (.cells #[.int .i64 s, .int .i64 a] 23)).alloc (.cells #[.int .i64 t, .int .i64 b] 23)).alloc (.cells #[.int .i64 0, .int .i64 0] 23)) := ⟨by rw [heap_alloc_old _ _ (by simp; omega)]; exact heap_alloc2_old _ _ _, by rw [heap_alloc_old _ _ (by simp)]; exact heap_alloc2_new _ _ _⟩
  have hR0 : (((w.alloc (.cells #[.int .i64 s, .int .i64 a] 23)).alloc (.cells #[.int .i64 t, .int .i64 b] 23)).alloc (.cells #[.int .i64 0, .int .i64 0] 23)).heap[w.heap.size + 2]? = some (.cells #[.int .i64 0, .int .i64 0] 23 (0, 0)) := by
    have h := heap_alloc_new ((w.alloc (.cells #[.int .i64 s, .int .i64 a] 23)).alloc (.cells #[.int .i64 t, .int .i64 b] 23)) (.cells #[.int .i64 0, .int .i64 0] 23)
    simpa using h
  have hL0 : Below w.heap.size w (((w.alloc (.cells #[.int .i64 s, .int .i64 a] 23)).alloc (.cells #[.int .i64 t, .int .i64 b] 23)).alloc (.cells #[.int .i64 0, .int .i64 0] 23)) := (((Below.refl _ _).alloc (Nat.le_refl _) _).alloc (by simp) _).alloc (by simp; omega) _
  have HT := Lib.hid hT0
  have HR := Lib.hid hR0
  clear hT0 hR0
  by_cases h : k < l
  · have HP : Hid (khigh k l = l) := by unfold khigh; show _ = _; rw [if_pos h]
    rw [decide_eq_true h] at HC
    rw [HP.out]
    generalize sd l = xb at *
    generalize pa l = yb at *
    clear h HA HP
    go_enter Try.func19, Try.ntmps19
    go_wp2_with fail
    refine (HC.out _).mono ?_
    rintro e w1 ⟨rfl, hB1⟩
    obtain ⟨p1, p2, p3, p4, _, _, _, _⟩ := (HT.out.below hB1).cells
    have hR1 := (hB1.block _ (lt_of_block HR.out)).trans HR.out
    go_wp2_with fail
    refine (HB.out _).mono ?_
    rintro e w2 ⟨rfl, hB2⟩
    have hR2 := (hB2.block _ (lt_of_block hR1)).trans hR1
    obtain ⟨r1, r2, r3, r4⟩ := two_cells hR2
    obtain ⟨q1, q2, _, _⟩ := two_cells (two_put (p := .int .i64 xb) (q := .int .i64 yb) hR2)
    have hL2 := ((bt (bt hL0 hB1) hB2).setCell (p := ⟨w.heap.size + 2, 0, none⟩) (by simp) (.int .i64 xb)).setCell (p := ⟨w.heap.size + 2, 1, none⟩) (by simp) (.int .i64 yb)
    clear p1 p2 p3 p4
    go_wp2_with fail
    refine bodyPost_ret (v := .agg #[.int .i64 xb, .int .i64 yb]) (by simp [results, Try.results19, go_sem, q1, q2]) rfl ?_
    exact ⟨rfl, hL2⟩
  · have HP : Hid (khigh k l = k) := by unfold khigh; show _ = _; rw [if_neg h]
    rw [decide_eq_false h] at HC
    rw [HP.out]
    generalize sd k = xa at *
    generalize pa k = ya at *
    clear h HB HP
    go_enter Try.func19, Try.ntmps19
    go_wp2_with fail
    refine (HC.out _).mono ?_
    rintro e w1 ⟨rfl, hB1⟩
    obtain ⟨p1, p2, p3, p4, _, _, _, _⟩ := (HT.out.below hB1).cells
    have hR1 := (hB1.block _ (lt_of_block HR.out)).trans HR.out
    go_wp2_with fail
    refine (HA.out _).mono ?_
    rintro e w2 ⟨rfl, hB2⟩
    have hR2 := (hB2.block _ (lt_of_block hR1)).trans hR1
    obtain ⟨r1, r2, r3, r4⟩ := two_cells hR2
    obtain ⟨q1, q2, _, _⟩ := two_cells (two_put (p := .int .i64 xa) (q := .int .i64 ya) hR2)
    have hL2 := ((bt (bt hL0 hB1) hB2).setCell (p := ⟨w.heap.size + 2, 0, none⟩) (by simp) (.int .i64 xa)).setCell (p := ⟨w.heap.size + 2, 1, none⟩) (by simp) (.int .i64 ya)
    clear p1 p2 p3 p4
    go_wp2_with fail
    refine bodyPost_ret (v := .agg #[.int .i64 xa, .int .i64 ya]) (by simp [results, Try.results19, go_sem, q1, q2]) rfl ?_
    exact ⟨rfl, hL2⟩

theorem rnext_any (s a : Int) (w : World) (ha : I64 a) :
    Calls Try.prog 23 #[.agg #[.int .i64 s, .int .i64 a]] w fun e w' => e = .returned (.tuple #[.int .i64 (nx (key s a)), .bool (nxb (key s a))]) ∧ Below w.heap.size w w' := by
  have HC := Lib.hid (fun W => rcanon_any s a W ha)
  have hk := key_ky s a ha
  generalize key s a = k at *
  rcases ky_cases k hk with ⟨rfl, h1, h2⟩ | ⟨rfl, h1, h2⟩ | ⟨g1, g2, h1, h2⟩
  · rw [h1, h2] at HC
    clear h1 h2 hk
    go_enter Try.func23, Try.ntmps23
    go_wp2_with fail
    refine (HC.out _).mono ?_
    rintro e w1 ⟨rfl, hL⟩
    have hb : w1.heap[w.heap.size]? = some (.cells #[.int .i64 s, .int .i64 a] 23 (0, 0)) := by rw [hL.block _ (by simp)]; exact heap_alloc_new _ _
    have hL1 := ((bt ((Below.refl _ _).alloc (Nat.le_refl _) _) hL).setCell (p := ⟨w.heap.size, 0, none⟩) (by simp) (.int .i64 (-1))).setCell (p := ⟨w.heap.size, 1, none⟩) (by simp) (.int .i64 0)
    obtain ⟨p1, p2, _, _⟩ := two_cells (two_put (p := .int .i64 (-1)) (q := .int .i64 0) hb)
    obtain ⟨q1, q2, q3, q4⟩ := two_cells hb
    clear hb
    go_wp2_with fail
    refine (rleast_any _).mono ?_
    rintro e w2 ⟨rfl, hL2⟩
    go_wp2_with fail
    go_ret2
    exact ⟨ret_ib (nx_in _ (by decide)), bt hL1 hL2⟩
  · rw [h1, h2] at HC
    clear h1 h2 hk
    go_enter Try.func23, Try.ntmps23
    go_wp2_with fail
    refine (HC.out _).mono ?_
    rintro e w1 ⟨rfl, hL⟩
    have hb : w1.heap[w.heap.size]? = some (.cells #[.int .i64 s, .int .i64 a] 23 (0, 0)) := by rw [hL.block _ (by simp)]; exact heap_alloc_new _ _
    have hL1 := ((bt ((Below.refl _ _).alloc (Nat.le_refl _) _) hL).setCell (p := ⟨w.heap.size, 0, none⟩) (by simp) (.int .i64 1)).setCell (p := ⟨w.heap.size, 1, none⟩) (by simp) (.int .i64 0)
    obtain ⟨p1, p2, _, _⟩ := two_cells (two_put (p := .int .i64 1) (q := .int .i64 0) hb)
    obtain ⟨q1, q2, q3, q4⟩ := two_cells hb
    clear hb
    go_wp2_with fail
    go_ret2
    exact ⟨ret_ib nx_hi, hL1⟩
  · rw [h1, h2] at HC
    clear h1 h2 hk
    go_enter Try.func23, Try.ntmps23
    go_wp2_with fail
    refine (HC.out _).mono ?_
    rintro e w1 ⟨rfl, hL⟩
    have hb : w1.heap[w.heap.size]? = some (.cells #[.int .i64 s, .int .i64 a] 23 (0, 0)) := by rw [hL.block _ (by simp)]; exact heap_alloc_new _ _
    have hL1 := ((bt ((Below.refl _ _).alloc (Nat.le_refl _) _) hL).setCell (p := ⟨w.heap.size, 0, none⟩) (by simp) (.int .i64 0)).setCell (p := ⟨w.heap.size, 1, none⟩) (by simp) (.int .i64 k)
    obtain ⟨p1, p2, _, _⟩ := two_cells (two_put (p := .int .i64 0) (q := .int .i64 k) hb)
    obtain ⟨q1, q2, q3, q4⟩ := two_cells hb
    clear hb
    go_wp2_with fail
    go_ret2
    exact ⟨ret_ib (nx_in k (by omega)), hL1⟩

theorem rprev_any (s a : Int) (w : World) (ha : I64 a) :
    Calls Try.prog 25 #[.agg #[.int .i64 s, .int .i64 a]] w fun e w' => e = .returned (.tuple #[.int .i64 (pv (key s a)), .bool (pvb (key s a))]) ∧ Below w.heap.size w w' := by
  have HC := Lib.hid (fun W => rcanon_any s a W ha)
  have hk := key_ky s a ha
  generalize key s a = k at *
  rcases ky_cases k hk with ⟨rfl, h1, h2⟩ | ⟨rfl, h1, h2⟩ | ⟨g1, g2, h1, h2⟩
  · rw [h1, h2] at HC
    clear h1 h2 hk
    go_enter Try.func25, Try.ntmps25
    go_wp2_with fail
    refine (HC.out _).mono ?_
    rintro e w1 ⟨rfl, hL⟩
    have hb : w1.heap[w.heap.size]? = some (.cells #[.int .i64 s, .int .i64 a] 23 (0, 0)) := by rw [hL.block _ (by simp)]; exact heap_alloc_new _ _
    have hL1 := ((bt ((Below.refl _ _).alloc (Nat.le_refl _) _) hL).setCell (p := ⟨w.heap.size, 0, none⟩) (by simp) (.int .i64 (-1))).setCell (p := ⟨w.heap.size, 1, none⟩) (by simp) (.int .i64 0)
    obtain ⟨p1, p2, _, _⟩ := two_cells (two_put (p := .int .i64 (-1)) (q := .int .i64 0) hb)
    obtain ⟨q1, q2, q3, q4⟩ := two_cells hb
    clear hb
    go_wp2_with fail
    go_ret2
    exact ⟨ret_ib pv_lo, hL1⟩
  · rw [h1, h2] at HC
    clear h1 h2 hk
    go_enter Try.func25, Try.ntmps25
    go_wp2_with fail
    refine (HC.out _).mono ?_
    rintro e w1 ⟨rfl, hL⟩
    have hb : w1.heap[w.heap.size]? = some (.cells #[.int .i64 s, .int .i64 a] 23 (0, 0)) := by rw [hL.block _ (by simp)]; exact heap_alloc_new _ _
    have hL1 := ((bt ((Below.refl _ _).alloc (Nat.le_refl _) _) hL).setCell (p := ⟨w.heap.size, 0, none⟩) (by simp) (.int .i64 1)).setCell (p := ⟨w.heap.size, 1, none⟩) (by simp) (.int .i64 0)
    obtain ⟨p1, p2, _, _⟩ := two_cells (two_put (p := .int .i64 1) (q := .int .i64 0) hb)
    obtain ⟨q1, q2, q3, q4⟩ := two_cells hb
    clear hb
    go_wp2_with fail
    go_ret2
    exact ⟨ret_ib (pv_in _ (by decide)), hL1⟩
  · rw [h1, h2] at HC
    clear h1 h2 hk
    go_enter Try.func25, Try.ntmps25
    go_wp2_with fail
    refine (HC.out _).mono ?_
    rintro e w1 ⟨rfl, hL⟩
    have hb : w1.heap[w.heap.size]? = some (.cells #[.int .i64 s, .int .i64 a] 23 (0, 0)) := by rw [hL.block _ (by simp)]; exact heap_alloc_new _ _
    have hL1 := ((bt ((Below.refl _ _).alloc (Nat.le_refl _) _) hL).setCell (p := ⟨w.heap.size, 0, none⟩) (by simp) (.int .i64 0)).setCell (p := ⟨w.heap.size, 1, none⟩) (by simp) (.int .i64 k)
    obtain ⟨p1, p2, _, _⟩ := two_cells (two_put (p := .int .i64 0) (q := .int .i64 k) hb)
    obtain ⟨q1, q2, q3, q4⟩ := two_cells hb
    clear hb
    go_wp2_with fail
    go_ret2
    exact ⟨ret_ib (pv_in k (by omega)), hL1⟩

theorem rahead_any (n : Int) (w : World) (hn : I64 n) :
    Calls Try.prog 27 #[.int .i64 n] w fun e w' => e = .returned (.agg #[.int .i64 (sd n), .int .i64 (pa n)]) ∧ Below w.heap.size w w' := by
  have HC := Lib.hid (fun W => rcanon_any 0 n W hn)
  rw [key_zero] at HC
  generalize sd n = t at *
  generalize pa n = b at *
  go_enter Try.func27, Try.ntmps27
  go_wp2_with fail
  refine (HC.out _).mono ?_
  rintro e w1 ⟨rfl, hL⟩
  have hb : w1.heap[w.heap.size]? = some (.cells #[.int .i64 0, .int .i64 0] 23 (0, 0)) := by rw [hL.block _ (by simp)]; exact heap_alloc_new _ _
  have hL1 := ((bt ((Below.refl _ _).alloc (Nat.le_refl _) _) hL).setCell (p := ⟨w.heap.size, 0, none⟩) (by simp) (.int .i64 t)).setCell (p := ⟨w.heap.size, 1, none⟩) (by simp) (.int .i64 b)
  obtain ⟨p1, p2, _, _⟩ := two_cells (two_put (p := .int .i64 t) (q := .int .i64 b) hb)
  obtain ⟨q1, q2, q3, q4⟩ := two_cells hb
  clear hb
  go_wp2_with fail
  refine bodyPost_ret (v := .agg #[.int .i64 t, .int .i64 b]) (by simp [results, Try.results27, go_sem, p1, p2]) rfl ?_
  exact ⟨rfl, hL1⟩
theorem rbehind_any (n : Int) (w : World) (hn : I64 n) :
    Calls Try.prog 29 #[.int .i64 n] w fun e w' => e = .returned (.agg #[.int .i64 (sd (n + 1)), .int .i64 (pa (n + 1))]) ∧ Below w.heap.size w w' := by
  unfold I64 at hn
  by_cases h : n = 9223372036854775807
  · subst h
    rw [show (9223372036854775807 : Int) + 1 = 9223372036854775808 from by decide, sd_hi, pa_hi]
    go_enter Try.func29, Try.ntmps29
    go_wp2_with fail
    refine bodyPost_ret (v := .agg #[.int .i64 1, .int .i64 0]) (by simp [results, Try.results29, go_sem]) rfl ?_
    exact ⟨rfl, (Below.refl _ _).alloc (Nat.le_refl _) _⟩
  · rw [sd_mid (n + 1) (by omega) (by omega), pa_mid (n + 1) (by omega) (by omega)]
    have t1 : (n == 9223372036854775807) = false := beq_eq_false_iff_ne.2 h
    go_enter Try.func29, Try.ntmps29
    go_wp2_with fail
    refine bodyPost_ret (v := .agg #[.int .i64 0, .int .i64 (n + 1)]) (by simp [results, Try.results29, go_sem]) rfl ?_
    exact ⟨rfl, (Below.refl _ _).alloc (Nat.le_refl _) _⟩
end Go.Proofs.Ytmdnmcbjpjpgjaa
