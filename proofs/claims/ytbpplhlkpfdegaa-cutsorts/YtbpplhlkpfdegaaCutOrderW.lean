/- The walk of the law CutOrder. -/
import Derived.Test.YtbpplhlkpfdegaaCutAl
import Derived.OpenShut
namespace Go.Proofs.Ytbpplhlkpfdegaa
open Go.RowKit Go.Sort Go.Proofs.Ytbpplhlkpfdegaa.Bo
set_option linter.unusedVariables false

theorem i64_of_wf2 {n : Int} (h : (Lit.int .i64 n).wf = true) : I64 n := by
  have := bounds_i64 h; unfold I64; omega
theorem compare_b (s a t b : Int) (v : Int) (h : kcmp (key s a) (key t b) = v) (ha : I64 a) (hb : I64 b) (w : World) :
    Calls Try.prog 6 #[.agg #[.int .i64 s, .int .i64 a], .agg #[.int .i64 t, .int .i64 b]] w fun e w' => e = .returned (.int .i64 v) ∧ Below w.heap.size w w' := by
  subst h; exact (compare_any s a t b w ha hb).mono fun _ _ h => ⟨h.1, h.2.1⟩
theorem canon_b (s a : Int) (ha : I64 a) (w : World) :
    Calls Try.prog 19 #[.agg #[.int .i64 s, .int .i64 a]] w fun e w' => e = .returned (.agg #[.int .i64 (sd (key s a)), .int .i64 (pa (key s a))]) ∧ Below w.heap.size w w' := (canon_any s a w ha).mono fun _ _ h => ⟨h.1, h.2.1⟩

/-- The cells of three boxes that lie side by side. -/
theorem three_boxes (w : World) (s a t b u c : Int) :
    (((w.alloc (.cells #[.int .i64 s, .int .i64 a] 27)).alloc (.cells #[.int .i64 t, .int .i64 b] 27)).alloc (.cells #[.int .i64 u, .int .i64 c] 27)).heap[w.heap.size]? = some (.cells #[.int .i64 s, .int .i64 a] 27 (0, 0)) ∧
    (((w.alloc (.cells #[.int .i64 s, .int .i64 a] 27)).alloc (.cells #[.int .i64 t, .int .i64 b] 27)).alloc (.cells #[.int .i64 u, .int .i64 c] 27)).heap[w.heap.size + 1]? = some (.cells #[.int .i64 t, .int .i64 b] 27 (0, 0)) ∧
    (((w.alloc (.cells #[.int .i64 s, .int .i64 a] 27)).alloc (.cells #[.int .i64 t, .int .i64 b] 27)).alloc (.cells #[.int .i64 u, .int .i64 c] 27)).heap[w.heap.size + 1 + 1]? = some (.cells #[.int .i64 u, .int .i64 c] 27 (0, 0)) ∧
    Below w.heap.size w (((w.alloc (.cells #[.int .i64 s, .int .i64 a] 27)).alloc (.cells #[.int .i64 t, .int .i64 b] 27)).alloc (.cells #[.int .i64 u, .int .i64 c] 27)) := by
  refine ⟨?_, ?_, ?_, (((Below.refl _ _).alloc (Nat.le_refl _) _).alloc (by simp) _).alloc (by simp; omega) _⟩
  · rw [heap_alloc_old _ _ (by simp; omega)]; exact heap_alloc2_old _ _ _
  · rw [heap_alloc_old _ _ (by simp)]; exact heap_alloc2_new _ _ _
  · have h := heap_alloc_new ((w.alloc (.cells #[.int .i64 s, .int .i64 a] 27)).alloc (.cells #[.int .i64 t, .int .i64 b] 27)) (.cells #[.int .i64 u, .int .i64 c] 27)
    simpa using h

end Go.Proofs.Ytbpplhlkpfdegaa
