/- Contracts of the reference's cuts: Less, Compare, Low, High, Ahead, Behind, Next, Prev. -/
import Derived.Test.YtbpplhlkpfdegaaCutR
namespace Go.Proofs.Ytbpplhlkpfdegaa
open Go.RowKit Go.Sort Go.Proofs.Ytbpplhlkpfdegaa.Bo
set_option linter.unusedVariables false

theorem Two.put0 {b : Nat} {s a t c : Int} {w : World} (h : Two b s a t c w) (s' a' : Int) : Two b s' a' t c ((w.setCell ⟨b, 0, none⟩ (.int .i64 s')).setCell ⟨b, 1, none⟩ (.int .i64 a')) :=
  ⟨two_put h.1, by rw [heap_setCell_other _ _ _ _ (by simp), heap_setCell_other _ _ _ _ (by simp)]; exact h.2⟩
theorem Two.put1 {b : Nat} {s a t c : Int} {w : World} (h : Two b s a t c w) (s' a' : Int) : Two b s a s' a' ((w.setCell ⟨b + 1, 0, none⟩ (.int .i64 s')).setCell ⟨b + 1, 1, none⟩ (.int .i64 a')) :=
  ⟨by rw [heap_setCell_other _ _ _ _ (by simp), heap_setCell_other _ _ _ _ (by simp)]; exact h.1, two_put h.2⟩
theorem ret_bool {a b : Bool} (h : a = b) : Ending.returned (.bool a) = .returned (.bool b) := by rw [h]

set_option maxRecDepth 100000 in
set_option maxHeartbeats 1000000 in
theorem rless_any (s a t b : Int) (w : World) (ha : I64 a) (hb : I64 b) :
    Calls Try.prog 23 #[.agg #[.int .i64 s, .int .i64 a], .agg #[.int .i64 t, .int .i64 b]] w fun e w' => e = .returned (.bool (decide (key s a < key t b))) ∧ Below w.heap.size w w' := by
  have HC := Lib.hid (fun W => rcanon_any s a W ha)
  have HD := Lib.hid (fun W => rcanon_any t b W hb)
  have h1 := fun h => lt_side _ _ (key_ky s a ha) (key_ky t b hb) h
  have h2 := fun h => lt_at _ _ (key_ky s a ha) (key_ky t b hb) h
  generalize hD : decide (key s a < key t b) = D at *
  generalize sd (key s a) = x at *
  generalize pa (key s a) = y at *
  generalize sd (key t b) = u at *
  generalize pa (key t b) = v at *
  have H1 := Lib.hid h1
  have H2 := Lib.hid h2
  clear h1 h2 hD ha hb
  go_enter Try.func23, Try.ntmps23
  go_wp2_with fail
  refine (HC.out _).mono ?_
  rintro e w1 ⟨rfl, hB1⟩
  have hT0 : Two w.heap.size s a t b ((w.alloc (.cells #[.int .i64 s, .int .i64 a] 27)).alloc (.cells #[.int .i64 t, .int .i64 b] 27)) := ⟨heap_alloc2_old _ _ _, heap_alloc2_new _ _ _⟩
  have hT1 := hT0.below hB1
  have hL1 : Below w.heap.size w w1 := bt (((Below.refl _ _).alloc (Nat.le_refl _) _).alloc (by simp) _) hB1
  have hT2 := hT1.put0 x y
  have hL2 := (hL1.setCell (p := ⟨w.heap.size, 0, none⟩) (by simp) (.int .i64 x)).setCell (p := ⟨w.heap.size, 1, none⟩) (by simp) (.int .i64 y)
  obtain ⟨p1, p2, p3, p4, p5, p6, p7, p8⟩ := hT1.cells
  obtain ⟨_, _, q3, q4, _, _, _, _⟩ := hT2.cells
  have HT2 := Lib.hid hT2
  clear hT0 hT1 hT2 hB1 hL1
  go_wp2_with fail
  generalize (w1.setCell ⟨w.heap.size, 0, none⟩ (.int .i64 x)).setCell ⟨w.heap.size, 1, none⟩ (.int .i64 y) = X at *
  refine (HD.out _).mono ?_
  rintro e w2 ⟨rfl, hB2⟩
  have hT3 := HT2.out.below hB2
  have hL3 := bt hL2 hB2
  have hT4 := hT3.put1 u v
  have hL4 := (hL3.setCell (p := ⟨w.heap.size + 1, 0, none⟩) (by simp) (.int .i64 u)).setCell (p := ⟨w.heap.size + 1, 1, none⟩) (by simp) (.int .i64 v)
  clear p1 p2 p3 p4 p5 p6 p7 p8 q3 q4
  obtain ⟨p1, p2, p3, p4, p5, p6, p7, p8⟩ := hT3.cells
  obtain ⟨q1, q2, q3, q4, _, _, _, _⟩ := hT4.cells
  clear hT3 hT4 hB2 hL2 hL3 HT2
  by_cases hq : x = u
  · have HQ := Lib.hid (H2.out hq)
    have tq : (x != u) = false := bne_eq_false_iff_eq.2 hq
    clear hq
    go_wp2_with fail
    go_ret
    exact ⟨ret_bool HQ.out, hL4⟩
  · have HQ := Lib.hid (H1.out hq)
    have tq : (x != u) = true := bne_iff_ne.2 hq
    clear hq
    go_wp2_with fail
    go_ret
    exact ⟨ret_bool HQ.out, hL4⟩

def klow (k l : Int) : Int := if l < k then l else k
def khigh (k l : Int) : Int := if k < l then l else k

end Go.Proofs.Ytbpplhlkpfdegaa
