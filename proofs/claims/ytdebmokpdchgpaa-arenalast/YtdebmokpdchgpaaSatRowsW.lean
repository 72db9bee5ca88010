/- The walk of the law SatRows. -/
import Derived.Test.YtdebmokpdchgpaaSatSum
import Derived.Laws.AppendOwnNone
namespace Go.Proofs.Ytdebmokpdchgpaa
open Go.RowKit Go.Proofs.Ytdebmokpdchgpaa.Bo
set_option linter.unusedVariables false

/-- A slice of integers that came in: nil, or a row of 'cap' cells, the numbers zs. -/
def IsRow (k : IntKind) (w : World) (a : Option Addr) (len cap : Nat) (zs : List Int) : Prop :=
  (a = none ∧ len = 0 ∧ cap = 0 ∧ zs = []) ∨
  ∃ x, a = some x ∧ len ≤ cap ∧ cap ≤ maxLen ∧ zs.length = cap ∧ (∀ i, i < zs.length → w.cell? (x.add i) = some (.int k (zs.getD i 0))) ∧ ∀ n ∈ zs, (Lit.int k n).wf = true

theorem Row64.below {w w' : World} {a : Option Addr} {zs : List Int} (h : Row64 w a zs) (hb : Below w.heap.size w w') : Row64 w' a zs := by
  intro hp
  obtain ⟨b, off, e, hc⟩ := h hp
  exact ⟨b, off, e, fun j hj => (hb.cell (p := ⟨b, off + j, none⟩) (World.block_lt_of_cell? w _ (hc j hj))).trans (hc j hj)⟩

/-- What the walk asks of such a slice. -/
theorem row_of_is {w : World} {a : Option Addr} {len cap : Nat} {z : List Int} (h : IsRow .i64 w a len cap z) : ∃ zs, len = zs.length ∧ (∀ n ∈ zs, I64 n) ∧ Row64 w a zs ∧ (a = none → len = 0 ∧ cap = 0) := by
  rcases h with ⟨rfl, rfl, rfl, rfl⟩ | ⟨x, rfl, hlc, hcm, hl, hcell, hwf⟩
  · exact ⟨[], rfl, by simp, fun h => by simp at h, fun _ => ⟨rfl, rfl⟩⟩
  · refine ⟨z.take len, by rw [List.length_take, Nat.min_eq_left (by omega)], fun n hn => i64_of_wf (hwf n (List.mem_of_mem_take hn)), fun hp => ?_, fun h => by simp at h⟩
    rw [List.length_take] at hp
    obtain ⟨b, off, rfl, hc⟩ := ints_at hcell (by omega)
    refine ⟨b, off, rfl, fun j hj => ?_⟩
    rw [List.length_take] at hj
    rw [hc j (by omega), List.getElem_take, List.getD_eq_getElem?_getD, List.getElem?_eq_getElem (by omega)]; rfl

/-- An append whose run is known, behind whatever guard. -/
theorem wpList_append_run {P : Program} {ops : Array Oper} {rest : List Oper} {o : Oper} {a : Act} {w w' : World} {Q : Exit → Act → World → Prop} {v u v' : Value} (hw : Region.wanted o (yielded ops a.tmps) = true) (s x : Operand) (t : TypeId)
    (ho : o.op = .call { callee := .builtin .append, args := #[s, x], argTypes := #[t, t] }) (hs : a.eval s = v) (hx : a.eval x = u)
    (hr : (Builtin.append_ #[t, t] o.type #[v, u]).run P w = .ok v' w') (h : wpList P ops Q rest (a.put o.dst v') w') : wpList P ops Q (o :: rest) a w := by
  refine wpList_step fun K hK => ?_
  rw [if_pos hw]
  unfold Oper.wp execOp
  simp only [ho, resolve, invoke, builtin, Sem.run_bind, Sem.run_pure, Result.andThen_ok, List.map_toArray, List.map_cons, List.map_nil, hs, hx, hr]
  exact hK _ _ h

def jv (z : Int) : Value := .int .i64 z
theorem jv_one (l : List Int) : ∀ u ∈ l.map jv, u.oneCell' = true := by
  intro u hu
  obtain ⟨d, _, rfl⟩ := List.mem_map.1 hu
  rfl
theorem Try.infoInt64 : (Try.prog.info? 2).map (fun i => (i.zero, i.size, i.bytes)) = some (some (.int .i64 0), 1, 8) := by kernel_rfl
theorem row_of_own {w : World} {base n cap : Nat} {g : Nat} {zs : List Int} (h : w.ownsRow base 2 1 (.slice (some ⟨g, 0, none⟩) n cap) n (zs.map jv)) : Row64 w (some ⟨g, 0, none⟩) zs := by
  rcases h.2 with ⟨h1, _⟩ | ⟨g', cap', cur, h1, hb, hh, hnc, hcm, hcs, htake⟩
  · cases h1
  · injection h1 with e1 e2 e3
    injection e1 with e1
    injection e1 with e1
    subst e1
    have hl := h.1
    simp at hl
    refine fun _ => ⟨g, 0, rfl, fun j hj => ?_⟩
    rw [Nat.zero_add, cell_of_row _ _ j cur _ _ hh]
    have h2 : (cur.toList.take (n * 1))[j]? = some (jv zs[j]) := by rw [htake]; simp [hj]
    rw [List.getElem?_take, if_pos (by omega)] at h2
    simpa [jv] using h2

/-- A copy of a row of numbers, and one number behind it: by two appends. -/
theorem two_appends (x : World) (a : Option Addr) (cap : Nat) (zs : List Int) (n : Int) (hr : Row64 x a zs) (hl : zs.length ≤ 1000) (hnil : a = none → zs.length = 0 ∧ cap = 0) :
    ∃ v1 y1 g cap2 y2, (Builtin.append_ #[29, 29] 29 #[.slice (some ⟨x.heap.size, 0, none⟩) 0 0, .slice a zs.length cap]).run Try.prog (x.alloc (.cells #[] 2)) = .ok v1 y1 ∧
      (Builtin.append_ #[29, 29] 29 #[v1, .slice (some ⟨y1.heap.size, 0, none⟩) 1 1]).run Try.prog (y1.alloc (.cells #[.int .i64 n] 2)) = .ok (.slice (some ⟨g, 0, none⟩) (zs.length + 1) cap2) y2 ∧
      Row64 y2 (some ⟨g, 0, none⟩) (zs ++ [n]) ∧ Below x.heap.size x y2 := by
  obtain ⟨i0, hi, hz0, hz1, hz2⟩ := info_parts Try.infoInt64
  have hO0 : (x.alloc (.cells #[] 2)).ownsRow x.heap.size 2 1 (.slice (some ⟨x.heap.size, 0, none⟩) 0 0) 0 [] := World.ownsRow_made x #[] 0 (Nat.le_refl _) (by decide) rfl
  have hB0 : Below x.heap.size x (x.alloc (.cells #[] 2)) := (Below.refl _ _).alloc (Nat.le_refl _) _
  have h1 : ∃ v1 y1, (Builtin.append_ #[29, 29] 29 #[.slice (some ⟨x.heap.size, 0, none⟩) 0 0, .slice a zs.length cap]).run Try.prog (x.alloc (.cells #[] 2)) = .ok v1 y1 ∧
      y1.ownsRow x.heap.size 2 1 v1 zs.length (zs.map jv) ∧ Below x.heap.size x y1 := by
    rcases a with _ | ad
    · obtain ⟨hz, rfl⟩ := hnil rfl
      have : zs = [] := List.eq_nil_of_length_eq_zero hz
      subst this
      exact ⟨_, _, run_append_owned_none (P := Try.prog) _ x.heap.size 29 29 2 i0 1 Try.underlying29 hi _ 0 [] hO0, hO0, hB0⟩
    · have hcells : ∀ (j : Nat) (u : Value), (zs.map jv)[j]? = some u → (x.alloc (.cells #[] 2)).cell? (ad.add j) = some u := by
        intro j u hu
        have hj : j < zs.length := by have := (List.getElem?_eq_some_iff.1 hu).1; simpa using this
        obtain ⟨b, off, e, hc⟩ := (hr.below hB0) (by omega)
        cases e
        rw [Addr.add_lit, hc j hj]
        simp [hj, jv] at hu
        rw [hu]
      obtain ⟨v1, y1, hrun, hown, hg, _⟩ := run_append_own (P := Try.prog) (x.alloc (.cells #[] 2)) x.heap.size 29 29 2 i0 (.int .i64 0) 1 8 Try.underlying29 hi hz0 hz1 hz2 rfl (by decide) _ 0 [] hO0 ad zs.length cap (zs.map jv) (by simp) hcells (jv_one zs) (by unfold maxLen; omega) (by omega) (by simp)
      refine ⟨v1, y1, hrun, by simpa using hown, hB0.grown hg (by simp) (fun j hj => ?_)⟩
      have := (hO0.lt j hj).1
      omega
  obtain ⟨v1, y1, hrun1, hO1, hB1⟩ := h1
  obtain ⟨v2, y2, hrun2, hO2, hg2, _⟩ := run_append_own (P := Try.prog) (y1.alloc (.cells #[.int .i64 n] 2)) x.heap.size 29 29 2 i0 (.int .i64 0) 1 8 Try.underlying29 hi hz0 hz1 hz2 rfl (by decide) _ zs.length (zs.map jv) (hO1.alloc _) ⟨y1.heap.size, 0, none⟩ 1 1 [.int .i64 n] rfl (cell_one_new _ _ _) (jv_one [n]) (by unfold maxLen; omega) (by omega) (by have := hB1.size; simp; omega)
  rcases hO2.2 with ⟨_, h0⟩ | ⟨g, cap2, cur, rfl, _⟩
  · omega
  · refine ⟨v1, y1, g, cap2, y2, hrun1, hrun2, ?_, ?_⟩
    · refine row_of_own (base := x.heap.size) (n := zs.length + 1) (cap := cap2) ?_
      rw [List.map_append]; exact hO2
    · have hs := hB1.size
      refine (hB1.alloc (by omega) _).grown hg2 (by simp; omega) (fun j hj => ?_)
      have := (hO1.lt j hj).1
      omega

end Go.Proofs.Ytdebmokpdchgpaa
