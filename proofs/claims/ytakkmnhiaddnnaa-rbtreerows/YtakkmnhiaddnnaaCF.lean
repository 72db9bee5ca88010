/- A part of the proof: contracts of the functions that the statements reach. -/
import Derived.Test.YtakkmnhiaddnnaaRows
import Derived.Test.YtakkmnhiaddnnaaCA
import Derived.Test.YtakkmnhiaddnnaaCB
import Derived.Test.YtakkmnhiaddnnaaCC
import Derived.Test.YtakkmnhiaddnnaaCD
import Derived.Test.YtakkmnhiaddnnaaCE
import Derived.Deep.AppendLies
import Derived.Deep.LoopGhost
import Derived.Deep.RegionHeld3

/- The contract of cut.Sort. -/
namespace Go.Proofs.Ytakkmnhiaddnnaa
open Go.RowKit Go.Sort Go.Proofs.Ytakkmnhiaddnnaa.Bo
set_option linter.unusedVariables false

/-- The cells of the right cuts of these. -/
def flatC (cs : List (Int × Int)) : List Value := cs.flatMap fun c => [.int .i64 (sd (kOf c)), .int .i64 (pa (kOf c))]
theorem flatC_len (cs : List (Int × Int)) : (flatC cs).length = cs.length * 2 := by
  unfold flatC
  induction cs with
  | nil => rfl
  | cons a l ih => rw [List.flatMap_cons, List.length_append, ih]; simp; omega
theorem flatC_snoc (cs : List (Int × Int)) (c : Int × Int) : flatC (cs ++ [c]) = flatC cs ++ [.int .i64 (sd (kOf c)), .int .i64 (pa (kOf c))] := by
  unfold flatC; rw [List.flatMap_append]; simp
theorem flatC_get (cs : List (Int × Int)) (j : Nat) (hj : j < cs.length) : (flatC cs)[j * 2]? = some (.int .i64 (sd (kOf cs[j]))) ∧ (flatC cs)[j * 2 + 1]? = some (.int .i64 (pa (kOf cs[j]))) := by
  induction cs generalizing j with
  | nil => simp at hj
  | cons a l ih =>
    cases j with
    | zero => exact ⟨rfl, rfl⟩
    | succ j =>
      have := ih j (by simpa using hj)
      unfold flatC at *
      rw [List.flatMap_cons]
      rw [show (j + 1) * 2 = j * 2 + 2 by omega]
      simpa [List.getElem?_append] using this
theorem own_on {w w' : World} {base : Nat} {e : TypeId} {size : Nat} {v : Value} {n : Nat} {xs : List Value} (h : w.ownsRow base e size v n xs) (hb : Go.RowKit.Below w.heap.size w w') : w'.ownsRow base e size v n xs := by
  obtain ⟨h1, h2⟩ := h
  refine ⟨h1, ?_⟩
  rcases h2 with h2 | ⟨g, cap, cur, hv, hg, hh, r⟩
  · exact .inl h2
  · exact .inr ⟨g, cap, cur, hv, hg, (hb.block _ (lt_of_block hh)).trans hh, r⟩
theorem row_of_own2 {w : World} {base g cap n : Nat} {cs : List (Int × Int)} (h : w.ownsRow base 31 2 (.slice (some ⟨g, 0, none⟩) n cap) n (flatC cs)) (hn : n = cs.length) : RowAt w g cap (cs.map kOf) ∧ base ≤ g ∧ cap ≤ maxLen := by
  rcases h.2 with ⟨h1, _⟩ | ⟨g', cap', cur, h1, hb, hh, hnc, hcm, hcs, htake⟩
  · cases h1
  · injection h1 with e1 e2 e3
    injection e1 with e1
    injection e1 with e1
    subst e1 e3
    refine ⟨⟨⟨cur, hh, hcs⟩, by rw [List.length_map]; omega, fun j hj => ?_⟩, hb, hcm⟩
    rw [List.length_map] at hj
    obtain ⟨f1, f2⟩ := flatC_get cs j hj
    rw [← htake, List.getElem?_take, if_pos (by omega)] at f1 f2
    rw [List.getElem_map]
    exact ⟨(cell_of_row _ _ _ _ _ _ hh).trans (by simpa using f1), (cell_of_row _ _ _ _ _ _ hh).trans (by simpa using f2)⟩
theorem one_two (a b : Int) : ∀ u ∈ ([.int .i64 a, .int .i64 b] : List Value), u.oneCell' = true := by
  intro u hu
  simp at hu
  rcases hu with rfl | rfl <;> rfl
theorem Try.infoCut : (Try.prog.info? 31).map (fun i => (i.zero, i.size, i.bytes)) = some (some (.agg #[.int .i64 0, .int .i64 0]), 2, 16) := by kernel_rfl

end Go.Proofs.Ytakkmnhiaddnnaa

/- What the reference's sort does, on keys. -/
namespace Go.Proofs.Ytakkmnhiaddnnaa.Bo
/-- The last key of a row; below all keys, if there is none. -/
def lb (os : List Int) : Int := (os.getLast?).getD (-9223372036854775809)
theorem lb_nil : lb [] = -9223372036854775809 := rfl
theorem lb_snoc (os : List Int) (m : Int) : lb (os ++ [m]) = m := by unfold lb; simp
theorem lb_get (os : List Int) (h : 0 < os.length) : lb os = os[os.length - 1] := by
  unfold lb
  rw [List.getLast?_eq_some_getLast (by intro e; rw [e] at h; simp at h), List.getLast_eq_getElem]
  rfl
/-- What has been put: rising keys of ks, all of those up to the last one. -/
def Put (ks os : List Int) : Prop := Up os ∧ (∀ x ∈ os, x ∈ ks) ∧ (∀ x ∈ ks, x ≤ lb os → x ∈ os)
theorem put_nil (ks : List Int) (h : ∀ k ∈ ks, Ky k) : Put ks [] := by
  refine ⟨List.Pairwise.nil, by simp, fun x hx h2 => ?_⟩
  have := h x hx
  unfold Ky at this
  rw [lb_nil] at h2
  omega
theorem up_lb (os : List Int) (h : Up os) : ∀ x ∈ os, x ≤ lb os := by
  intro x hx
  obtain ⟨i, hi, rfl⟩ := List.getElem_of_mem hx
  rw [lb_get os (by omega)]
  rcases Nat.lt_or_ge i (os.length - 1) with h2 | h2
  · have := List.pairwise_iff_getElem.1 h i (os.length - 1) hi (by omega) h2
    omega
  · have : i = os.length - 1 := by omega
    subst this
    exact Int.le_refl _
theorem put_snoc (ks os : List Int) (m : Int) (h : Put ks os) (hm : m ∈ ks) (hl : lb os < m) (hmin : ∀ x ∈ ks, lb os < x → m ≤ x) : Put ks (os ++ [m]) := by
  obtain ⟨h1, h2, h3⟩ := h
  refine ⟨?_, ?_, ?_⟩
  · unfold Up
    rw [List.pairwise_append]
    refine ⟨h1, List.pairwise_singleton .., fun x hx y hy => ?_⟩
    rw [List.mem_singleton] at hy
    subst hy
    have := up_lb os h1 x hx
    omega
  · intro x hx
    rcases List.mem_append.1 hx with h | h
    · exact h2 x h
    · rw [List.mem_singleton] at h; subst h; exact hm
  · intro x hx hle
    rw [lb_snoc] at hle
    rw [List.mem_append, List.mem_singleton]
    by_cases hq : lb os < x
    · right
      have := hmin x hx hq
      omega
    · left
      exact h3 x hx (by omega)
theorem put_done (ks os : List Int) (h : Put ks os) (hno : ∀ x ∈ ks, ¬ lb os < x) : Up os ∧ (∀ x, x ∈ os ↔ x ∈ ks) :=
  ⟨h.1, fun x => ⟨h.2.1 x, fun hx => h.2.2 x hx (by have := hno x hx; omega)⟩⟩
/-- How many are still to come. -/
def left (ks os : List Int) : Nat := ks.countP fun x => decide (lb os < x)
theorem countP_lt (p q : Int → Bool) (l : List Int) (hpq : ∀ x, q x = true → p x = true) (m : Int) (hm : m ∈ l) (h1 : p m = true) (h2 : q m = false) : l.countP q < l.countP p := by
  induction l with
  | nil => simp at hm
  | cons a l ih =>
    have hle : l.countP q ≤ l.countP p := List.countP_mono_left fun x _ h => hpq x h
    rw [List.countP_cons, List.countP_cons]
    rcases List.mem_cons.1 hm with e | e
    · subst e
      simp [h1, h2]; omega
    · have := ih e
      by_cases hq : q a = true
      · simp [hq, hpq a hq]; omega
      · simp [hq]; split <;> omega
theorem left_snoc (ks os : List Int) (m : Int) (hm : m ∈ ks) (hl : lb os < m) : left ks (os ++ [m]) < left ks os := by
  unfold left
  rw [lb_snoc]
  refine countP_lt _ _ ks (fun x hx => ?_) m hm (decide_eq_true hl) (decide_eq_false (by omega))
  simp at hx ⊢
  omega
/-- The least one above, among those that were seen. -/
def Seen (ks os : List Int) (f : Bool) (m : Int) : Prop := (f = true ∧ m ∈ ks ∧ lb os < m ∧ ∀ x ∈ ks, lb os < x → m ≤ x) ∨ (f = false ∧ ∀ x ∈ ks, ¬ lb os < x)
theorem seen_nil (os : List Int) (m : Int) : Seen [] os false m := .inr ⟨rfl, by simp⟩
theorem seen_take (ks os : List Int) (f : Bool) (m x : Int) (h : Seen ks os f m) (hl : lb os < x) (hc : f = false ∨ x < m) : Seen (ks ++ [x]) os true x := by
  refine .inl ⟨rfl, by simp, hl, fun y hy hly => ?_⟩
  rcases List.mem_append.1 hy with h1 | h1
  · rcases h with ⟨hf, _, _, h2⟩ | ⟨_, h2⟩
    · rcases hc with hc | hc
      · rw [hc] at hf; cases hf
      · have := h2 y h1 hly; omega
    · exact absurd hly (h2 y h1)
  · rw [List.mem_singleton] at h1; omega
theorem seen_skip (ks os : List Int) (f : Bool) (m x : Int) (h : Seen ks os f m) (hc : ¬ lb os < x ∨ (f = true ∧ ¬ x < m)) : Seen (ks ++ [x]) os f m := by
  rcases h with ⟨hf, h1, h2, h3⟩ | ⟨hf, h1⟩
  · refine .inl ⟨hf, List.mem_append_left _ h1, h2, fun y hy hly => ?_⟩
    rcases List.mem_append.1 hy with h4 | h4
    · exact h3 y h4 hly
    · rw [List.mem_singleton] at h4
      subst h4
      rcases hc with hc | hc
      · exact absurd hly hc
      · omega
  · refine .inr ⟨hf, fun y hy => ?_⟩
    rcases List.mem_append.1 hy with h4 | h4
    · exact h1 y h4
    · rw [List.mem_singleton] at h4
      subst h4
      rcases hc with hc | hc
      · exact hc
      · rw [hf] at hc; cases hc.1
end Go.Proofs.Ytakkmnhiaddnnaa.Bo

/- The contract of the reference's Sort of cuts. -/
namespace Go.Proofs.Ytakkmnhiaddnnaa
open Go.RowKit Go.Sort Go.Proofs.Ytakkmnhiaddnnaa.Bo
set_option linter.unusedVariables false

/-- The cells of the cuts of these keys. -/
def flatL (ks : List Int) : List Value := ks.flatMap fun k => [.int .i64 (sd k), .int .i64 (pa k)]
theorem flatL_snoc (ks : List Int) (k : Int) : flatL (ks ++ [k]) = flatL ks ++ [.int .i64 (sd k), .int .i64 (pa k)] := by
  unfold flatL; rw [List.flatMap_append]; simp
theorem flatL_get (cs : List Int) (j : Nat) (hj : j < cs.length) : (flatL cs)[j * 2]? = some (.int .i64 (sd cs[j])) ∧ (flatL cs)[j * 2 + 1]? = some (.int .i64 (pa cs[j])) := by
  induction cs generalizing j with
  | nil => simp at hj
  | cons a l ih =>
    cases j with
    | zero => exact ⟨rfl, rfl⟩
    | succ j =>
      have := ih j (by simpa using hj)
      unfold flatL at *
      rw [List.flatMap_cons]
      rw [show (j + 1) * 2 = j * 2 + 2 by omega]
      simpa [List.getElem?_append] using this
theorem own_cells {w : World} {base g cap n n2 : Nat} {ks : List Int} (h : w.ownsRow base 31 2 (.slice (some ⟨g, 0, none⟩) n2 cap) n (flatL ks)) (hn : n = ks.length) (j : Nat) (hj : j < ks.length) :
    w.cell? ⟨g, j * 2, none⟩ = some (.int .i64 (sd ks[j])) ∧ w.cell? ⟨g, j * 2 + 1, none⟩ = some (.int .i64 (pa ks[j])) := by
  rcases h.2 with ⟨h1, _⟩ | ⟨g', cap', cur, h1, hb, hh, hnc, hcm, hcs, htake⟩
  · cases h1
  · injection h1 with e1 e2 e3
    injection e1 with e1
    injection e1 with e1
    subst e1 e3
    obtain ⟨f1, f2⟩ := flatL_get ks j hj
    rw [← htake, List.getElem?_take, if_pos (by omega)] at f1 f2
    exact ⟨(cell_of_row _ _ _ _ _ _ hh).trans (by simpa using f1), (cell_of_row _ _ _ _ _ _ hh).trans (by simpa using f2)⟩
theorem own_far {w : World} {base : Nat} {e : TypeId} {size : Nat} {v : Value} {n : Nat} {xs : List Value} (h : w.ownsRow base e size v n xs) (N i : Nat) (u : Value) (hN : ∀ k, v.ownBlock = some k → k ≠ N) : (w.setCell ⟨N, i, none⟩ u).ownsRow base e size v n xs := by
  obtain ⟨h1, h2⟩ := h
  refine ⟨h1, ?_⟩
  rcases h2 with h2 | ⟨g, cap, cur, hv, hg, hh, r⟩
  · exact .inl h2
  · refine .inr ⟨g, cap, cur, hv, hg, ?_, r⟩
    rw [heap_setCell_other _ _ _ _ (by have := hN g (by rw [hv]; rfl); simpa using this)]
    exact hh
theorem rless_b (s a t b : Int) (D : Bool) (h : decide (key s a < key t b) = D) (ha : I64 a) (hb : I64 b) (w : World) :
    Calls Try.prog 62 #[.agg #[.int .i64 s, .int .i64 a], .agg #[.int .i64 t, .int .i64 b]] w fun e w' => e = .returned (.bool D) ∧ Go.RowKit.Below w.heap.size w w' := by
  subst h; exact rless_any s a t b w ha hb

/-- What lies in memory while the reference looks for the next one. -/
structure InAt (w : World) (N : Nat) (ks os : List Int) (v : Value) (f : Bool) (m nx ny : Int) (wr : World) : Prop where
  seen : Seen ks os f m
  cut : f = true → nx = sd m ∧ ny = pa m ∧ Ky m
  box : wr.heap[N]? = some (.cells #[.int .i64 nx, .int .i64 ny] 31 (0, 0))
  own : wr.ownsRow w.heap.size 31 2 v os.length (flatL os)
  below : Go.RowKit.Below w.heap.size w wr
theorem InAt.on {w : World} {N : Nat} {ks os : List Int} {v : Value} {f : Bool} {m nx ny : Int} {wr wr' : World} (h : InAt w N ks os v f m nx ny wr) (hb : Go.RowKit.Below wr.heap.size wr wr') : InAt w N ks os v f m nx ny wr' :=
  ⟨h.seen, h.cut, box_on h.box hb, own_on h.own hb, bt h.below hb⟩
theorem InAt.skip {w : World} {N : Nat} {ks os : List Int} {v : Value} {f : Bool} {m nx ny : Int} {wr : World} (h : InAt w N ks os v f m nx ny wr) (x : Int) (hc : ¬ lb os < x ∨ (f = true ∧ ¬ x < m)) : InAt w N (ks ++ [x]) os v f m nx ny wr :=
  ⟨seen_skip _ _ _ _ _ h.seen hc, h.cut, h.box, h.own, h.below⟩
theorem InAt.take {w : World} {N : Nat} {ks os : List Int} {v : Value} {f : Bool} {m nx ny : Int} {wr : World} (h : InAt w N ks os v f m nx ny wr) (x : Int) (hx : Ky x) (hl : lb os < x) (hc : f = false ∨ x < m) (hN : w.heap.size ≤ N) (hv : ∀ k, v.ownBlock = some k → k ≠ N) :
    InAt w N (ks ++ [x]) os v true x (sd x) (pa x) ((wr.setCell ⟨N, 0, none⟩ (.int .i64 (sd x))).setCell ⟨N, 1, none⟩ (.int .i64 (pa x))) :=
  ⟨seen_take _ _ _ _ _ h.seen hl hc, fun _ => ⟨rfl, rfl, hx⟩, two_put h.box, own_far (own_far h.own _ _ _ hv) _ _ _ hv, (h.below.setCell hN _).setCell hN _⟩
/-- How the row that was put stands. -/
def OutIs (N : Nat) (os : List Int) (v : Value) : Prop := (os = [] ∧ v = .slice none 0 0) ∨ ∃ g cap q, os.length = q + 1 ∧ v = .slice (some ⟨g, 0, none⟩) (q + 1) cap ∧ g < N

theorem up_len : ∀ (l m : List Int), Up l → (∀ x ∈ l, x ∈ m) → l.length ≤ m.length := by
  intro l
  induction l with
  | nil => intro m _ _; exact Nat.zero_le _
  | cons a l ih =>
    intro m h hs
    have h' := List.pairwise_cons.1 h
    have ha := hs a (List.mem_cons_self ..)
    have := ih (m.erase a) h'.2 (fun x hx => by
      have hne : x ≠ a := by have := h'.1 x hx; omega
      exact (List.mem_erase_of_ne hne).2 (hs x (List.mem_cons_of_mem _ hx)))
    rw [List.length_erase_of_mem ha] at this
    have hp : 0 < m.length := List.length_pos_of_mem ha
    simp; omega
def RSortPost (cs : List (Int × Int)) (w : World) (e : Ending) (w' : World) : Prop :=
  ∃ (v : Value) (ks : List Int), (e = .returned v ∧ Up ks ∧ (∀ x, x ∈ ks ↔ x ∈ cs.map kOf) ∧ OutIs w'.heap.size ks v ∧ w'.ownsRow w.heap.size 31 2 v ks.length (flatL ks)) ∧ Go.RowKit.Below w.heap.size w w'
/-- A cut's two cells. -/
def CellsAt (w : World) (b o : Nat) (c1 c2 : Int) : Prop := w.cell? ⟨b, o, none⟩ = some (.int .i64 c1) ∧ w.cell? ⟨b, o + 1, none⟩ = some (.int .i64 c2)
theorem CellsAt.below {w w' : World} {b o : Nat} {c1 c2 : Int} (h : CellsAt w b o c1 c2) (hb : Go.RowKit.Below w.heap.size w w') : CellsAt w' b o c1 c2 :=
  ⟨(hb.cell (World.block_lt_of_cell? w _ h.1)).trans h.1, (hb.cell (World.block_lt_of_cell? w _ h.2)).trans h.2⟩

end Go.Proofs.Ytakkmnhiaddnnaa

/- Contracts of the reference's spans: Right, Has. -/
namespace Go.Proofs.Ytakkmnhiaddnnaa
open Go.RowKit Go.Sort Go.Proofs.Ytakkmnhiaddnnaa.Bo
set_option linter.unusedVariables false

/-- A span's value. -/
abbrev vS (q : S4) : Value := .agg #[.int .i64 q.ls, .int .i64 q.la, .int .i64 q.hs, .int .i64 q.ha]
/-- A block that holds a span. -/
def Box4 (w : World) (b : Nat) (q : S4) : Prop := w.heap[b]? = some (.cells #[.int .i64 q.ls, .int .i64 q.la, .int .i64 q.hs, .int .i64 q.ha] 33 (0, 0))
theorem Box4.on {w w' : World} {b : Nat} {q : S4} (h : Box4 w b q) (hb : Go.RowKit.Below w.heap.size w w') : Box4 w' b q := box_on h hb
theorem Box4.cells {w : World} {b : Nat} {q : S4} (h : Box4 w b q) : w.cell? ⟨b, 0, none⟩ = some (.int .i64 q.ls) ∧ w.cell? ⟨b, 1, none⟩ = some (.int .i64 q.la) ∧ w.cell? ⟨b, 2, none⟩ = some (.int .i64 q.hs) ∧ w.cell? ⟨b, 3, none⟩ = some (.int .i64 q.ha) :=
  ⟨(cell_of_row _ _ 0 _ _ _ h).trans rfl, (cell_of_row _ _ 1 _ _ _ h).trans rfl, (cell_of_row _ _ 2 _ _ _ h).trans rfl, (cell_of_row _ _ 3 _ _ _ h).trans rfl⟩
theorem Box4.free {w : World} {b : Nat} {q : S4} (h : Box4 w b q) (i : Nat) : w.frozen? ⟨b, i, none⟩ = false := frozen_of_row _ _ i _ _ h
theorem Box4.re {w : World} {b : Nat} {q : S4} (h : Box4 w b q) : (∀ d os, (grow (redrawn w d) os).cell? ⟨b, 0, none⟩ = some (.int .i64 q.ls)) ∧ (∀ d os, (grow (redrawn w d) os).cell? ⟨b, 1, none⟩ = some (.int .i64 q.la)) ∧ (∀ d os, (grow (redrawn w d) os).cell? ⟨b, 2, none⟩ = some (.int .i64 q.hs)) ∧ (∀ d os, (grow (redrawn w d) os).cell? ⟨b, 3, none⟩ = some (.int .i64 q.ha)) :=
  ⟨cell_regrown h.cells.1, cell_regrown h.cells.2.1, cell_regrown h.cells.2.2.1, cell_regrown h.cells.2.2.2⟩
theorem eql_by (s a t b : Int) (D : Bool) (h : (s == t && a == b) = D) (w : World) : Sem.run Try.prog (binOp .eql 31 (.agg #[.int .i64 s, .int .i64 a]) (.agg #[.int .i64 t, .int .i64 b])) w = .ok (.bool D) w := by rw [eql_cut, h]

end Go.Proofs.Ytakkmnhiaddnnaa

/- Contracts of the reference's spans: Any, One, Same, Sorted. -/
namespace Go.Proofs.Ytakkmnhiaddnnaa
open Go.RowKit Go.Sort Go.Proofs.Ytakkmnhiaddnnaa.Bo
set_option linter.unusedVariables false

/-- A span's four cells. -/
def Cells4 (w : World) (b o : Nat) (q : S4) : Prop := w.cell? ⟨b, o, none⟩ = some (.int .i64 q.ls) ∧ w.cell? ⟨b, o + 1, none⟩ = some (.int .i64 q.la) ∧ w.cell? ⟨b, o + 2, none⟩ = some (.int .i64 q.hs) ∧ w.cell? ⟨b, o + 3, none⟩ = some (.int .i64 q.ha)
theorem Cells4.below {w w' : World} {b o : Nat} {q : S4} (h : Cells4 w b o q) (hb : Go.RowKit.Below w.heap.size w w') : Cells4 w' b o q :=
  ⟨(hb.cell (World.block_lt_of_cell? w _ h.1)).trans h.1, (hb.cell (World.block_lt_of_cell? w _ h.2.1)).trans h.2.1, (hb.cell (World.block_lt_of_cell? w _ h.2.2.1)).trans h.2.2.1, (hb.cell (World.block_lt_of_cell? w _ h.2.2.2)).trans h.2.2.2⟩
theorem Cells4.re {w : World} {b o : Nat} {q : S4} (h : Cells4 w b o q) : (∀ d os, (grow (redrawn w d) os).cell? ⟨b, o, none⟩ = some (.int .i64 q.ls)) ∧ (∀ d os, (grow (redrawn w d) os).cell? ⟨b, o + 1, none⟩ = some (.int .i64 q.la)) ∧ (∀ d os, (grow (redrawn w d) os).cell? ⟨b, o + 2, none⟩ = some (.int .i64 q.hs)) ∧ (∀ d os, (grow (redrawn w d) os).cell? ⟨b, o + 3, none⟩ = some (.int .i64 q.ha)) :=
  ⟨cell_regrown h.1, cell_regrown h.2.1, cell_regrown h.2.2.1, cell_regrown h.2.2.2⟩
/-- A slice of spans that holds l. -/
def SRow (w : World) (a : Option Addr) (l : List S4) : Prop := 0 < l.length → ∃ b off, a = some ⟨b, off, none⟩ ∧ ∀ (j : Nat) (h : j < l.length), Cells4 w b (off + j * 4) l[j]
theorem SRow.below {w w' : World} {a : Option Addr} {l : List S4} (h : SRow w a l) (hb : Go.RowKit.Below w.heap.size w w') : SRow w' a l := by
  intro hp
  obtain ⟨b, off, e, hc⟩ := h hp
  exact ⟨b, off, e, fun j hj => (hc j hj).below hb⟩

theorem eqIn_cut (s a t b : Int) (w : World) : (Op.equalIn 9999 31 (.agg #[.int .i64 s, .int .i64 a]) (.agg #[.int .i64 t, .int .i64 b])).run Try.prog w = .ok (s == t && a == b) w := by
  have hS : Try.prog.underlying 31 = some (.struct (Try.prog.fieldsOf 31)) := by kernel_rfl
  have hp : Try.prog.stoodInHeld 31 = false := by kernel_rfl
  have u3 := Try.underlying3
  have u2 := Try.underlying2
  rw [show (9999 : Nat) = 9998 + 1 from rfl, run_equalIn_agg w 9998 31 _ _ hS hp]
  simp only [Program.fieldsOf, Try.underlying31]
  go_simp
  by_cases h1 : s = t <;> by_cases h2 : a = b <;> simp [h1, h2]
theorem part_low (a b c d : Value) (w : World) : (part 31 #[a, b, c, d] 0).run Try.prog w = .ok (.agg #[a, b]) w := by
  have h1 := Try.isAgg31
  have h2 := Try.sizeOf31
  unfold part
  simp [Sem.run_bind, h1, h2, Result.andThen]
theorem part_high (a b c d : Value) (w : World) : (part 31 #[a, b, c, d] 2).run Try.prog w = .ok (.agg #[c, d]) w := by
  have h1 := Try.isAgg31
  have h2 := Try.sizeOf31
  unfold part
  simp [Sem.run_bind, h1, h2, Result.andThen]
theorem eqSpan_run (q r : S4) (w : World) : (Op.equalIn 10000 33 (.agg #[.int .i64 q.ls, .int .i64 q.la, .int .i64 q.hs, .int .i64 q.ha]) (.agg #[.int .i64 r.ls, .int .i64 r.la, .int .i64 r.hs, .int .i64 r.ha])).run Try.prog w = .ok (q.ls == r.ls && q.la == r.la && (q.hs == r.hs && q.ha == r.ha)) w := by
  have hS : Try.prog.underlying 33 = some (.struct (Try.prog.fieldsOf 33)) := by kernel_rfl
  have hp : Try.prog.stoodInHeld 33 = false := by kernel_rfl
  have h1 := eqIn_cut
  rw [show (10000 : Nat) = 9999 + 1 from rfl, run_equalIn_agg w 9999 33 _ _ hS hp]
  simp only [Program.fieldsOf, Try.underlying33]
  generalize 9999 = N at *
  simp [Op.eqFields, Sem.run_bind, part_low, part_high, h1, Result.andThen]
  by_cases a1 : q.ls = r.ls <;> by_cases a2 : q.la = r.la <;> by_cases a3 : q.hs = r.hs <;> by_cases a4 : q.ha = r.ha <;> simp [a1, a2, a3, a4]
theorem eql_span (q r : S4) (w : World) : Sem.run Try.prog (binOp .eql 33 (.agg #[.int .i64 q.ls, .int .i64 q.la, .int .i64 q.hs, .int .i64 q.ha]) (.agg #[.int .i64 r.ls, .int .i64 r.la, .int .i64 r.hs, .int .i64 r.ha])) w = .ok (.bool (q.ls == r.ls && q.la == r.la && (q.hs == r.hs && q.ha == r.ha))) w := by
  rw [run_eql_struct, eqSpan_run]; rfl
theorem neq_span (q r : S4) (w : World) : Sem.run Try.prog (binOp .neq 33 (.agg #[.int .i64 q.ls, .int .i64 q.la, .int .i64 q.hs, .int .i64 q.ha]) (.agg #[.int .i64 r.ls, .int .i64 r.la, .int .i64 r.hs, .int .i64 r.ha])) w = .ok (.bool (!(q.ls == r.ls && q.la == r.la && (q.hs == r.hs && q.ha == r.ha)))) w := by
  rw [run_neq_struct, eqSpan_run]; rfl
/-- A span is itself. -/
theorem neq_self (q : S4) (w : World) : Sem.run Try.prog (binOp .neq 33 (.agg #[.int .i64 q.ls, .int .i64 q.la, .int .i64 q.hs, .int .i64 q.ha]) (.agg #[.int .i64 q.ls, .int .i64 q.la, .int .i64 q.hs, .int .i64 q.ha])) w = .ok (.bool false) w := by
  rw [neq_span]; simp

/-- Is each right, and behind the one ahead? -/
def okAt (l : List S4) (j : Nat) (h : j < l.length) : Bool := l[j].right && (if hj : 0 < j then !decide (l[j].lo < (l[j - 1]'(by omega)).hi) else true)
/-- All of a row's are as they must be. -/
def sortedL (l : List S4) : Prop := ∀ j (h : j < l.length), okAt l j h = true

end Go.Proofs.Ytakkmnhiaddnnaa

/- Contracts of the reference's spans: Cuts. -/
namespace Go.Proofs.Ytakkmnhiaddnnaa
open Go.RowKit Go.Sort Go.Proofs.Ytakkmnhiaddnnaa.Bo
set_option linter.unusedVariables false

/-- The keys of a row of pairs. -/
def keysOf (ps : List (Int × Int)) : List Int := ps.flatMap fun p => [p.1, p.2]
theorem keysOf_snoc (ps : List (Int × Int)) (p : Int × Int) : keysOf (ps ++ [p]) = keysOf ps ++ [p.1, p.2] := by
  unfold keysOf; rw [List.flatMap_append]; simp
theorem keysOf_len (ps : List (Int × Int)) : (keysOf ps).length = ps.length * 2 := by
  unfold keysOf
  induction ps with
  | nil => rfl
  | cons a l ih => rw [List.flatMap_cons, List.length_append, ih]; simp; omega
theorem keysOf_mem (ps : List (Int × Int)) (x : Int) : x ∈ keysOf ps ↔ ∃ p ∈ ps, x = p.1 ∨ x = p.2 := by
  unfold keysOf; rw [List.mem_flatMap]; simp
theorem flatL_two (ks : List Int) (k l : Int) : flatL (ks ++ [k, l]) = flatL ks ++ [.int .i64 (sd k), .int .i64 (pa k), .int .i64 (sd l), .int .i64 (pa l)] := by
  unfold flatL; rw [List.flatMap_append]; simp
theorem rights_take (l : List S4) (j : Nat) (hj : j < l.length) : rights (l.take (j + 1)) = rights (l.take j) ++ (if l[j].right = true then [(l[j].lo, l[j].hi)] else []) := by
  unfold rights
  rw [List.take_succ_eq_append_getElem hj, List.filter_append, List.map_append]
  congr 1
  by_cases h : l[j].right = true <;> simp [h]
theorem rights_len (l : List S4) : (rights l).length ≤ l.length := by
  unfold rights; rw [List.length_map]; exact List.length_filter_le ..
theorem one_four (a b c d : Int) : ∀ u ∈ ([.int .i64 a, .int .i64 b, .int .i64 c, .int .i64 d] : List Value), u.oneCell' = true := by
  intro u hu
  simp at hu
  rcases hu with rfl | rfl | rfl | rfl <;> rfl
theorem Cells4.far {w w' : World} {row : Option Nat} {b o : Nat} {q : S4} (h : Cells4 w b o q) (hg : w.grownBy w' row) (hne : some b ≠ row) : Cells4 w' b o q :=
  ⟨hg.cell h.1 hne, hg.cell h.2.1 hne, hg.cell h.2.2.1 hne, hg.cell h.2.2.2 hne⟩
/-- A slice of cuts that holds those of these keys. -/
def KRow (w : World) (a : Option Addr) (ks : List Int) : Prop := 0 < ks.length → ∃ b off, a = some ⟨b, off, none⟩ ∧ ∀ (j : Nat) (h : j < ks.length), CellsAt w b (off + j * 2) (sd ks[j]) (pa ks[j])
theorem KRow.below {w w' : World} {a : Option Addr} {ks : List Int} (h : KRow w a ks) (hb : Go.RowKit.Below w.heap.size w w') : KRow w' a ks := by
  intro hp
  obtain ⟨b, off, e, hc⟩ := h hp
  exact ⟨b, off, e, fun j hj => (hc j hj).below hb⟩
theorem KRow.of_own {w : World} {base cap n : Nat} {a : Option Addr} {ks : List Int} (h : w.ownsRow base 31 2 (.slice a n cap) n (flatL ks)) (hn : n = ks.length) : KRow w a ks := by
  intro hp
  rcases h.2 with ⟨h1, h2⟩ | ⟨g, cap', cur, h1, r⟩
  · omega
  · injection h1 with e1 e2 e3
    subst e1
    exact ⟨g, 0, rfl, fun j hj => by rw [Nat.zero_add]; exact own_cells h hn j hj⟩
theorem KRow.crow {w : World} {a : Option Addr} {ks : List Int} (h : KRow w a ks) : CRow w a (ks.map fun k => (sd k, pa k)) := by
  intro hp
  rw [List.length_map] at hp
  obtain ⟨b, off, e, hc⟩ := h hp
  refine ⟨b, off, e, fun j hj => ?_⟩
  rw [List.length_map] at hj
  rw [List.getElem_map]
  exact hc j hj
theorem map_kOf (ks : List Int) (h : ∀ k ∈ ks, Ky k) : (ks.map fun k => (sd k, pa k)).map kOf = ks := by
  rw [List.map_map]
  conv => rhs; rw [← List.map_id ks]
  exact List.map_congr_left fun k hk => key_back k (h k hk)
/-- The keys of a row of right spans, rising, each once. -/
def CutsPost (l : List S4) (w : World) (e : Ending) (w' : World) : Prop :=
  ∃ (a : Option Addr) (cap : Nat) (ks : List Int), (e = .returned (.slice a ks.length cap) ∧ Up ks ∧ (∀ x, x ∈ ks ↔ x ∈ keysOf (rights l)) ∧ KRow w' a ks) ∧ Go.RowKit.Below w.heap.size w w'
theorem CutsPost.of_sort {ks0 : List Int} {l : List S4} {w : World} {e : Ending} {w' : World} (hk : ks0 = keysOf (rights l)) (hky : ∀ k ∈ ks0, Ky k) (h : RSortPost (ks0.map fun k => (sd k, pa k)) w e w') : CutsPost l w e w' := by
  obtain ⟨v, ks, ⟨rfl, hup, hmem, hout, hown⟩, hB⟩ := h
  rw [map_kOf _ hky] at hmem
  subst hk
  rcases hout with ⟨rfl, rfl⟩ | ⟨g, cap, q, hq, rfl, hg⟩
  · exact ⟨none, 0, [], ⟨rfl, hup, hmem, fun h => absurd h (by simp)⟩, hB⟩
  · refine ⟨some ⟨g, 0, none⟩, cap, ks, ⟨by rw [hq], hup, hmem, ?_⟩, hB⟩
    rw [hq] at hown
    exact KRow.of_own hown hq.symm

end Go.Proofs.Ytakkmnhiaddnnaa
