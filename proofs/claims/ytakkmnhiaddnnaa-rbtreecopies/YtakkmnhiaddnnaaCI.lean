/- A part of the proof: contracts of the functions that the statements reach. -/
import Derived.Test.YtakkmnhiaddnnaaRows
import Derived.Test.YtakkmnhiaddnnaaCA
import Derived.Test.YtakkmnhiaddnnaaCB
import Derived.Test.YtakkmnhiaddnnaaCC
import Derived.Test.YtakkmnhiaddnnaaCD
import Derived.Test.YtakkmnhiaddnnaaCE
import Derived.Test.YtakkmnhiaddnnaaCF
import Derived.Test.YtakkmnhiaddnnaaCG
import Derived.Test.YtakkmnhiaddnnaaCH

/- An arena of things of whatever make in memory. -/
namespace Go.Proofs.Ytakkmnhiaddnnaa
open Go.RowKit Go.Sort Go.Proofs.Ytakkmnhiaddnnaa.Bo
set_option linter.unusedVariables false

/-- How a thing lies in memory: m cells. -/
structure Enc (α : Type) (m : Nat) where
  e : α → List Value
  len : ∀ x, (e x).length = m
  one : ∀ x, ∀ u ∈ e x, u.oneCell' = true
variable {α : Type} {m : Nat}
def flatQ (E : Enc α m) : List (α × Bool) → List Value
  | [] => []
  | p :: t => (E.e p.1 ++ [.bool p.2]) ++ flatQ E t
theorem enc1_len (E : Enc α m) (p : α × Bool) : (E.e p.1 ++ [Value.bool p.2]).length = m + 1 := by rw [List.length_append, E.len]; rfl
theorem flatQ_len (E : Enc α m) (l : List (α × Bool)) : (flatQ E l).length = l.length * (m + 1) := by
  induction l with
  | nil => simp [flatQ]
  | cons p t ih =>
    show ((E.e p.1 ++ [Value.bool p.2]) ++ flatQ E t).length = _
    rw [List.length_append, enc1_len, ih, List.length_cons, Nat.add_mul]; omega
theorem flatQ_append (E : Enc α m) (l k : List (α × Bool)) : flatQ E (l ++ k) = flatQ E l ++ flatQ E k := by
  induction l with
  | nil => rfl
  | cons p t ih => simp only [List.cons_append, flatQ, ih, List.append_assoc]
theorem flatQ_one (E : Enc α m) (l : List (α × Bool)) : ∀ u ∈ flatQ E l, u.oneCell' = true := by
  induction l with
  | nil => intro u h; simp [flatQ] at h
  | cons p t ih =>
    intro u h
    simp only [flatQ, List.mem_append, List.mem_singleton] at h
    rcases h with (h | rfl) | h
    · exact E.one _ u h
    · rfl
    · exact ih u h
theorem flatQ_at (E : Enc α m) (l : List (α × Bool)) : ∀ (i : Nat) (h : i < l.length) (j : Nat), j < m + 1 → (flatQ E l)[i * (m + 1) + j]? = (E.e l[i].1 ++ [.bool l[i].2])[j]? := by
  induction l with
  | nil => intro i h; simp at h
  | cons p t ih =>
    intro i h j hj
    cases i with
    | zero =>
      simp only [flatQ, Nat.zero_mul, Nat.zero_add, List.getElem_cons_zero]
      rw [List.getElem?_append_left (by rw [enc1_len]; exact hj)]
    | succ i =>
      simp only [flatQ, List.getElem_cons_succ]
      rw [List.getElem?_append_right (by rw [enc1_len, Nat.add_mul]; omega), enc1_len, show (i + 1) * (m + 1) + j - (m + 1) = i * (m + 1) + j by rw [Nat.add_mul]; omega]
      exact ih i (by simpa using h) j hj
/-- One cell of a row is another one. -/
theorem flatQ_cell (E : Enc α m) (l : List (α × Bool)) : ∀ (i : Nat) (h : i < l.length) (j : Nat) (u : Value) (p : α × Bool), j < m + 1 → (E.e l[i].1 ++ [Value.bool l[i].2]).set j u = E.e p.1 ++ [Value.bool p.2] → (flatQ E l).set (i * (m + 1) + j) u = flatQ E (l.set i p) := by
  induction l with
  | nil => intro i h; simp at h
  | cons q t ih =>
    intro i h j u p hj hp
    cases i with
    | zero =>
      simp only [flatQ, Nat.zero_mul, Nat.zero_add, List.getElem_cons_zero, List.set_cons_zero] at hp ⊢
      rw [List.set_append_left _ _ (by rw [enc1_len]; exact hj), hp]
    | succ i =>
      simp only [flatQ, List.getElem_cons_succ, List.set_cons_succ] at hp ⊢
      rw [List.set_append_right _ _ (by rw [enc1_len, Nat.add_mul]; omega), enc1_len, show (i + 1) * (m + 1) + j - (m + 1) = i * (m + 1) + j by rw [Nat.add_mul]; omega, ih i (by simpa using h) j u p hj hp]
/-- Cells one behind the other. -/
def setL (xs : List Value) (o : Nat) : List Value → List Value
  | [] => xs
  | v :: vs => setL (xs.set o v) (o + 1) vs
theorem setL_append_left (xs ys : List Value) : ∀ (vs : List Value) (o : Nat), o + vs.length ≤ xs.length → setL (xs ++ ys) o vs = setL xs o vs ++ ys := by
  intro vs
  induction vs generalizing xs with
  | nil => intro o _; rfl
  | cons v vs ih =>
    intro o h
    simp only [List.length_cons] at h
    show setL ((xs ++ ys).set o v) (o + 1) vs = _
    rw [List.set_append_left _ _ (by omega), ih (xs.set o v) (o + 1) (by rw [List.length_set]; omega)]
    rfl
theorem setL_append_right (xs ys : List Value) : ∀ (vs : List Value) (o : Nat), setL (xs ++ ys) (xs.length + o) vs = xs ++ setL ys o vs := by
  intro vs
  induction vs generalizing ys with
  | nil => intro o; rfl
  | cons v vs ih =>
    intro o
    show setL ((xs ++ ys).set (xs.length + o) v) (xs.length + o + 1) vs = _
    rw [List.set_append_right _ _ (by omega), show xs.length + o - xs.length = o by omega, Nat.add_assoc, ih (ys.set o v) (o + 1)]
    rfl
theorem setL_all : ∀ (vs xs : List Value), xs.length = vs.length → setL xs 0 vs = vs := by
  intro vs
  induction vs with
  | nil => intro xs h; exact List.length_eq_zero_iff.1 h
  | cons v vs ih =>
    intro xs h
    cases xs with
    | nil => simp at h
    | cons x xs =>
      show setL (v :: xs) (0 + 1) vs = _
      have := setL_append_right [v] xs vs 0
      simp only [List.length_singleton, Nat.add_zero, List.singleton_append] at this
      rw [Nat.zero_add, this, ih xs (by simpa using h)]
/-- A place is written. -/
theorem flatQ_put (E : Enc α m) (l : List (α × Bool)) : ∀ (i : Nat) (h : i < l.length) (p : α × Bool), setL (flatQ E l) (i * (m + 1)) (E.e p.1 ++ [.bool p.2]) = flatQ E (l.set i p) := by
  induction l with
  | nil => intro i h; simp at h
  | cons q t ih =>
    intro i h p
    cases i with
    | zero =>
      simp only [flatQ, Nat.zero_mul, List.set_cons_zero]
      rw [setL_append_left _ _ _ _ (by rw [enc1_len, enc1_len]; omega), setL_all _ _ (by rw [enc1_len, enc1_len])]
    | succ i =>
      simp only [flatQ, List.set_cons_succ]
      rw [show (i + 1) * (m + 1) = (E.e q.1 ++ [Value.bool q.2]).length + i * (m + 1) by rw [enc1_len, Nat.add_mul]; omega, setL_append_right, ih i (by simpa using h) p]
/-- A thing is written; whether it is taken stays. -/
theorem flatQ_put1 (E : Enc α m) (l : List (α × Bool)) : ∀ (i : Nat) (h : i < l.length) (v : α) (b : Bool), l[i].2 = b → setL (flatQ E l) (i * (m + 1)) (E.e v) = flatQ E (l.set i (v, b)) := by
  induction l with
  | nil => intro i h; simp at h
  | cons q t ih =>
    intro i h v b hb
    cases i with
    | zero =>
      simp only [List.getElem_cons_zero] at hb
      subst hb
      simp only [flatQ, Nat.zero_mul, List.set_cons_zero]
      rw [setL_append_left _ _ _ _ (by rw [enc1_len, E.len]; omega), setL_append_left _ _ _ _ (by rw [E.len, E.len]; omega), setL_all _ _ (by rw [E.len, E.len])]
    | succ i =>
      simp only [flatQ, List.set_cons_succ]
      rw [show (i + 1) * (m + 1) = (E.e q.1 ++ [Value.bool q.2]).length + i * (m + 1) by rw [enc1_len, Nat.add_mul]; omega, setL_append_right, ih i (by simpa using h) v b (by simpa using hb)]
/-- Cells of a block, one behind the other. -/
def putQ (W : World) (g o : Nat) : List Value → World
  | [] => W
  | v :: vs => putQ (W.setCell ⟨g, o, none⟩ v) g (o + 1) vs
theorem own_putQ {base g cap n size : Nat} {e : TypeId} : ∀ (vs : List Value) {W : World} {xs : List Value} (o : Nat), W.ownsRow base e size (.slice (some ⟨g, 0, none⟩) n cap) n xs → (putQ W g o vs).ownsRow base e size (.slice (some ⟨g, 0, none⟩) n cap) n (setL xs o vs) := by
  intro vs
  induction vs with
  | nil => intro W xs o h; exact h
  | cons v vs ih => intro W xs o h; exact ih (o + 1) (own_put h o v)
theorem putQ_far {g b : Nat} {ob : Obj} (hne : b ≠ g) : ∀ (vs : List Value) {W : World} (o : Nat), W.heap[b]? = some ob → (putQ W g o vs).heap[b]? = some ob := by
  intro vs
  induction vs with
  | nil => intro W o h; exact h
  | cons v vs ih => intro W o h; exact ih (o + 1) (set_far h hne)
theorem putQ_kp {S : Nat → Prop} {w : World} {g : Nat} (hg : S g) : ∀ (vs : List Value) {W : World} (o : Nat), Kp S w W → Kp S w (putQ W g o vs) := by
  intro vs
  induction vs with
  | nil => intro W o h; exact h
  | cons v vs ih => intro W o h; exact ih (o + 1) (h.setCell ⟨g, o, none⟩ (.inl hg) v)
theorem putQ_next (g : Nat) : ∀ (vs : List Value) (W : World) (o j : Nat), vs.length ≤ j → (putQ W g o vs).cell? ⟨g, o + j, none⟩ = W.cell? ⟨g, o + j, none⟩ := by
  intro vs
  induction vs with
  | nil => intro W o j _; rfl
  | cons v vs ih =>
    intro W o j h
    simp only [List.length_cons] at h
    have h1 := ih (W.setCell ⟨g, o, none⟩ v) (o + 1) (j - 1) (by omega)
    rw [show o + 1 + (j - 1) = o + j by omega] at h1
    exact h1.trans (World.cell?_setCell_other _ _ _ _ (by simp <;> omega))
theorem putQ_frozen (g : Nat) (a : Addr) : ∀ (vs : List Value) (W : World) (o : Nat), (putQ W g o vs).frozen? a = W.frozen? a := by
  intro vs
  induction vs with
  | nil => intro W o; rfl
  | cons v vs ih => intro W o; exact (ih (W.setCell ⟨g, o, none⟩ v) (o + 1)).trans (World.frozen?_setCell ..)
/-- The arena: its struct, its row of places, its row of free ones. tA, tP: the types of the struct and of a place. -/
structure GAt (E : Enc α m) (tA tP : TypeId) (w : World) (base A : Nat) (room : Int) (pv fv : Value) (ps : List (α × Bool)) (fs : List Int) : Prop where
  box : w.heap[A]? = some (.cells #[.int .i64 room, pv, fv] tA (0, 0))
  prow : w.ownsRow base tP (m + 1) pv ps.length (flatQ E ps)
  frow : w.ownsRow base 3 1 fv fs.length (fs.map nv)
  le : base ≤ A
  ty : tA ≠ tP ∧ tA ≠ 3 ∧ tP ≠ 3
variable {E : Enc α m} {tA tP : TypeId} {w w' : World} {base A : Nat} {room : Int} {pv fv : Value} {ps : List (α × Bool)} {fs : List Int}
theorem GAt.lt (h : GAt E tA tP w base A room pv fv ps fs) : ∀ b, FP A pv fv b → base ≤ b ∧ b < w.heap.size := by
  rintro b (rfl | hb | hb)
  · exact ⟨h.le, lt_of_block h.box⟩
  · exact h.prow.lt b hb
  · exact h.frow.lt b hb
theorem GAt.kp {S : Nat → Prop} (h : GAt E tA tP w base A room pv fv ps fs) (hk : Kp S w w') (hn : ∀ b, FP A pv fv b → ¬ S b) : GAt E tA tP w' base A room pv fv ps fs :=
  ⟨hk.at h.box (hn A (.inl rfl)), own_kp h.prow hk (fun b hb => hn b (.inr (.inl hb))), own_kp h.frow hk (fun b hb => hn b (.inr (.inr hb))), h.le, h.ty⟩
theorem GAt.below (h : GAt E tA tP w base A room pv fv ps fs) (hb : Go.RowKit.Below w.heap.size w w') : GAt E tA tP w' base A room pv fv ps fs :=
  h.kp (S := fun _ => False) (Kp.of_below _ hb) (fun _ _ => id)
theorem GAt.alloc (h : GAt E tA tP w base A room pv fv ps fs) (o : Obj) : GAt E tA tP (w.alloc o) base A room pv fv ps fs := h.below (below_new w o)
theorem GAt.base_le (h : GAt E tA tP w base A room pv fv ps fs) : base ≤ w.heap.size := Nat.le_of_lt (Nat.lt_of_le_of_lt h.le (lt_of_block h.box))
theorem GAt.apart (h : GAt E tA tP w base A room pv fv ps fs) : (∀ b, pv.ownBlock = some b → b ≠ A) ∧ (∀ b, fv.ownBlock = some b → b ≠ A) ∧ ∀ b c, pv.ownBlock = some b → fv.ownBlock = some c → b ≠ c := by
  refine ⟨fun b hb => ?_, fun b hb => ?_, fun b c hb hc => ?_⟩
  · obtain ⟨cur, h1⟩ := own_type h.prow hb
    exact type_ne h1 h.box (fun e => h.ty.1 e.symm)
  · obtain ⟨cur, h1⟩ := own_type h.frow hb
    exact type_ne h1 h.box (fun e => h.ty.2.1 e.symm)
  · obtain ⟨cur, h1⟩ := own_type h.prow hb
    obtain ⟨cur', h2⟩ := own_type h.frow hc
    exact type_ne h1 h2 h.ty.2.2
/-- The place row's block, what is in a place, and that it may be written. -/
theorem GAt.at (h : GAt E tA tP w base A room pv fv ps fs) (i : Nat) (hi : i < ps.length) :
    ∃ g cap, pv = .slice (some ⟨g, 0, none⟩) ps.length cap ∧ g ≠ A ∧ (∀ j u, (E.e ps[i].1 ++ [.bool ps[i].2])[j]? = some u → w.cell? ⟨g, i * (m + 1) + j, none⟩ = some u) ∧ ∀ j, w.frozen? ⟨g, j, none⟩ = false := by
  rcases h.prow.2 with ⟨h1, h2⟩ | ⟨g, cap, cur, h1, hb, hh, hnc, hcm, hcs, htake⟩
  · omega
  · refine ⟨g, cap, h1, fun e => type_ne hh (e ▸ h.box) (fun e => h.ty.1 e.symm) rfl, fun j u hu => ?_, fun j => frozen_of_row _ _ _ _ _ hh⟩
    have hj : j < m + 1 := by
      have := (List.getElem?_eq_some_iff.1 hu).1
      rw [enc1_len] at this
      exact this
    have hf := flatQ_at E ps i hi j hj
    rw [hu, ← htake, List.getElem?_take] at hf
    split at hf
    · rw [cell_of_row _ _ _ cur _ _ hh]; simpa using hf
    · cases hf
theorem own_len {w : World} {base : Nat} {e : TypeId} {size : Nat} {v : Value} {n n' : Nat} {xs xs' : List Value} (h : w.ownsRow base e size v n xs) (hn : n' = n) (hx : xs' = xs) : w.ownsRow base e size v n' xs' := by subst hn; subst hx; exact h
/-- A place is written. -/
theorem GAt.put {g cap : Nat} (h : GAt E tA tP w base A room (.slice (some ⟨g, 0, none⟩) ps.length cap) fv ps fs) (n : Nat) (hn : n < ps.length) (p : α × Bool) :
    GAt E tA tP (putQ w g (n * (m + 1)) (E.e p.1 ++ [.bool p.2])) base A room (.slice (some ⟨g, 0, none⟩) ps.length cap) fv (ps.set n p) fs ∧
    Kp (FP A (.slice (some ⟨g, 0, none⟩) ps.length cap) fv) w (putQ w g (n * (m + 1)) (E.e p.1 ++ [.bool p.2])) := by
  obtain ⟨a1, a2, a3⟩ := h.apart
  have hgA := a1 g rfl
  have hk : Kp (FP A (.slice (some ⟨g, 0, none⟩) ps.length cap) fv) w (putQ w g (n * (m + 1)) (E.e p.1 ++ [.bool p.2])) := putQ_kp (.inr (.inl rfl)) _ _ (Kp.refl _ w)
  have hk2 : Kp (fun b => b = g) w (putQ w g (n * (m + 1)) (E.e p.1 ++ [.bool p.2])) := putQ_kp (S := fun b => b = g) rfl _ _ (Kp.refl _ w)
  refine ⟨⟨putQ_far (fun e => hgA e.symm) _ _ h.box, ?_, own_kp h.frow hk2 (fun b hb e => a3 g b rfl hb e.symm), h.le, h.ty⟩, hk⟩
  exact own_len (own_putQ _ _ h.prow) (by rw [List.length_set]) (flatQ_put E ps n hn p).symm
/-- A thing is written where it stands. -/
theorem GAt.put1 {g cap : Nat} (h : GAt E tA tP w base A room (.slice (some ⟨g, 0, none⟩) ps.length cap) fv ps fs) (n : Nat) (v : α) (hn : n < ps.length) (ht : ps[n].2 = true) :
    GAt E tA tP (putQ w g (n * (m + 1)) (E.e v)) base A room (.slice (some ⟨g, 0, none⟩) ps.length cap) fv (ps.set n (v, true)) fs ∧
    Kp (FP A (.slice (some ⟨g, 0, none⟩) ps.length cap) fv) w (putQ w g (n * (m + 1)) (E.e v)) := by
  obtain ⟨a1, a2, a3⟩ := h.apart
  have hgA := a1 g rfl
  have hk : Kp (FP A (.slice (some ⟨g, 0, none⟩) ps.length cap) fv) w (putQ w g (n * (m + 1)) (E.e v)) := putQ_kp (.inr (.inl rfl)) _ _ (Kp.refl _ w)
  have hk2 : Kp (fun b => b = g) w (putQ w g (n * (m + 1)) (E.e v)) := putQ_kp (S := fun b => b = g) rfl _ _ (Kp.refl _ w)
  refine ⟨⟨putQ_far (fun e => hgA e.symm) _ _ h.box, ?_, own_kp h.frow hk2 (fun b hb e => a3 g b rfl hb e.symm), h.le, h.ty⟩, hk⟩
  exact own_len (own_putQ _ _ h.prow) (by rw [List.length_set]) (flatQ_put1 E ps n hn v true ht).symm
/-- One cell of a thing is written where it stands. -/
theorem GAt.put2 {g cap : Nat} (h : GAt E tA tP w base A room (.slice (some ⟨g, 0, none⟩) ps.length cap) fv ps fs) (n j : Nat) (u : Value) (v : α) (hn : n < ps.length) (ht : ps[n].2 = true) (hj : j < m) (hv : (E.e ps[n].1).set j u = E.e v) :
    GAt E tA tP (w.setCell ⟨g, n * (m + 1) + j, none⟩ u) base A room (.slice (some ⟨g, 0, none⟩) ps.length cap) fv (ps.set n (v, true)) fs ∧
    Kp (FP A (.slice (some ⟨g, 0, none⟩) ps.length cap) fv) w (w.setCell ⟨g, n * (m + 1) + j, none⟩ u) := by
  obtain ⟨a1, a2, a3⟩ := h.apart
  have hgA := a1 g rfl
  refine ⟨⟨set_far h.box (fun e => hgA e.symm), ?_, own_far h.frow g _ _ (fun k hk => fun e => a3 g k rfl hk e.symm), h.le, h.ty⟩, (Kp.refl _ w).setCell ⟨g, n * (m + 1) + j, none⟩ (.inl (.inr (.inl rfl))) _⟩
  refine own_len (own_put h.prow (n * (m + 1) + j) u) (by rw [List.length_set]) (flatQ_cell E ps n hn j u (v, true) (by omega) ?_).symm
  rw [List.set_append_left _ _ (by rw [E.len]; exact hj), hv, ht]
theorem GAt.setF {w1 : World} {fv' : Value} {fs' : List Int} (h : GAt E tA tP w base A room pv fv ps fs) (hg : w.grownBy w1 fv.ownBlock) (hown : w1.ownsRow base 3 1 fv' fs'.length (fs'.map nv)) :
    GAt E tA tP (w1.setCell ⟨A, 2, none⟩ fv') base A room pv fv' ps fs' ∧ Kp (FP A pv fv) w (w1.setCell ⟨A, 2, none⟩ fv') := by
  obtain ⟨a1, a2, a3⟩ := h.apart
  have hA1 : w1.heap[A]? = some (.cells #[.int .i64 room, pv, fv] tA (0, 0)) := (hg.block A (lt_of_block h.box) (fun e => a2 A e.symm rfl)).trans h.box
  have hp1 : w1.ownsRow base tP (m + 1) pv ps.length (flatQ E ps) := h.prow.kept hg (by
    rcases hpo : pv.ownBlock with _ | b
    · exact .inl rfl
    · exact .inr (fun e => a3 b b hpo e.symm rfl))
  refine ⟨⟨heap_setCell_same _ _ _ _ _ _ hA1, own_far hp1 A _ _ a1, own_far hown A _ _ (fun k hk => ?_), h.le, h.ty⟩, ?_⟩
  · obtain ⟨cur, h1⟩ := own_type hown hk
    exact type_ne h1 hA1 (fun e => h.ty.2.1 e.symm)
  · exact ((Kp.refl _ w).grown hg (fun k hk => .inl (.inr (.inr hk)))).setCell ⟨A, 2, none⟩ (.inl (.inl rfl)) _
theorem GAt.setP {w1 : World} {pv' : Value} {ps' : List (α × Bool)} (h : GAt E tA tP w base A room pv fv ps fs) (hg : w.grownBy w1 pv.ownBlock) (hown : w1.ownsRow base tP (m + 1) pv' ps'.length (flatQ E ps')) :
    GAt E tA tP (w1.setCell ⟨A, 1, none⟩ pv') base A room pv' fv ps' fs ∧ Kp (FP A pv fv) w (w1.setCell ⟨A, 1, none⟩ pv') := by
  obtain ⟨a1, a2, a3⟩ := h.apart
  have hA1 : w1.heap[A]? = some (.cells #[.int .i64 room, pv, fv] tA (0, 0)) := (hg.block A (lt_of_block h.box) (fun e => a1 A e.symm rfl)).trans h.box
  have hf1 : w1.ownsRow base 3 1 fv fs.length (fs.map nv) := h.frow.kept hg (by
    rcases hfo : fv.ownBlock with _ | b
    · exact .inl rfl
    · exact .inr (fun e => a3 b b e.symm hfo rfl))
  refine ⟨⟨heap_setCell_same _ _ _ _ _ _ hA1, own_far hown A _ _ (fun k hk => ?_), own_far hf1 A _ _ a2, h.le, h.ty⟩, ?_⟩
  · obtain ⟨cur, h1⟩ := own_type hown hk
    exact type_ne h1 hA1 (fun e => h.ty.1 e.symm)
  · exact ((Kp.refl _ w).grown hg (fun k hk => .inl (.inr (.inl hk)))).setCell ⟨A, 1, none⟩ (.inl (.inl rfl)) _
/-- What a call that may turn the arena leaves. -/
def GPost (E : Enc α m) (tA tP : TypeId) (w : World) (base A : Nat) (room : Int) (pv fv : Value) (ps' : List (α × Bool)) (fs' : List Int) (ans : Value) (e : Ending) (w' : World) : Prop :=
  ∃ pv' fv', (e = .returned ans ∧ GAt E tA tP w' base A room pv' fv' ps' fs') ∧ Kp (FP A pv fv) w w' ∧ ∀ b, FP A pv' fv' b → FP A pv fv b ∨ w.heap.size ≤ b
/-- The block A is an arena as a says, in the blocks S. -/
def GIs (E : Enc α m) (d : α) (tA tP : TypeId) (w : World) (base A : Nat) (a : Ag α) (S : Nat → Prop) : Prop := ∃ pv fv, S = FP A pv fv ∧ GAt E tA tP w base A a.room pv fv (a.ps d) a.free
variable {d : α} {S : Nat → Prop} {a : Ag α}
theorem GIs.kp {T : Nat → Prop} (h : GIs E d tA tP w base A a S) (hk : Kp T w w') (hn : ∀ b, S b → ¬ T b) : GIs E d tA tP w' base A a S := by
  obtain ⟨pv, fv, rfl, h1⟩ := h
  exact ⟨pv, fv, rfl, h1.kp hk hn⟩
theorem GIs.below (h : GIs E d tA tP w base A a S) (hb : Go.RowKit.Below w.heap.size w w') : GIs E d tA tP w' base A a S := by
  obtain ⟨pv, fv, rfl, h1⟩ := h
  exact ⟨pv, fv, rfl, h1.below hb⟩
theorem GIs.lt (h : GIs E d tA tP w base A a S) : ∀ b, S b → base ≤ b ∧ b < w.heap.size := by
  obtain ⟨pv, fv, rfl, h1⟩ := h
  exact h1.lt
theorem GIs.base_le (h : GIs E d tA tP w base A a S) : base ≤ w.heap.size := by
  obtain ⟨pv, fv, rfl, h1⟩ := h
  exact h1.base_le
theorem GIs.type (h : GIs E d tA tP w base A a S) (b : Nat) (hb : S b) {cs : Array Value} {t : TypeId} (ho : w.heap[b]? = some (.cells cs t (0, 0))) : t = tA ∨ t = tP ∨ t = 3 := by
  obtain ⟨pv, fv, rfl, h1⟩ := h
  have key : ∀ {ds : Array Value} {u : TypeId}, w.heap[b]? = some (.cells ds u (0, 0)) → t = u := fun k => by
    rw [ho] at k; injection k with k; injection k with _ k _
  rcases hb with rfl | hb | hb
  · exact .inl (key h1.box)
  · obtain ⟨cur, k⟩ := own_type h1.prow hb; exact .inr (.inl (key k))
  · obtain ⟨cur, k⟩ := own_type h1.frow hb; exact .inr (.inr (key k))
def GMPost (E : Enc α m) (d : α) (tA tP : TypeId) (w : World) (base A : Nat) (S : Nat → Prop) (a' : Ag α) (ans : Value) (e : Ending) (w' : World) : Prop :=
  ∃ S', (e = .returned ans ∧ GIs E d tA tP w' base A a' S') ∧ Kp S w w' ∧ ∀ b, S' b → S b ∨ w.heap.size ≤ b
theorem gmpost_of {a' : Ag α} {ps' : List (α × Bool)} {fs' : List Int} {ans : Value} {e : Ending} (h : GPost E tA tP w base A room pv fv ps' fs' ans e w') (h1 : a'.room = room) (h2 : ps' = a'.ps d) (h3 : fs' = a'.free) : GMPost E d tA tP w base A (FP A pv fv) a' ans e w' := by
  obtain ⟨pv', fv', ⟨he, hA⟩, hk, hs⟩ := h
  subst h1; subst h2; subst h3
  exact ⟨FP A pv' fv', ⟨he, pv', fv', rfl, hA⟩, hk, hs⟩
theorem gmpost_same {ans : Value} {e : Ending} (h : GIs E d tA tP w base A a S) (he : e = .returned ans) (hb : Go.RowKit.Below w.heap.size w w') : GMPost E d tA tP w base A S a ans e w' :=
  ⟨S, ⟨he, h.below hb⟩, Kp.of_below _ hb, fun b hb => .inl hb⟩
end Go.Proofs.Ytakkmnhiaddnnaa

/- Contracts of the program's arena: New, Room, Len, At, Get, Set, Reset. -/
namespace Go.Proofs.Ytakkmnhiaddnnaa
open Go.RowKit Go.Sort Go.Proofs.Ytakkmnhiaddnnaa.Bo
set_option linter.unusedVariables false

abbrev aP (A : Nat) : Value := .pointer (some ⟨A, 0, none⟩)
end Go.Proofs.Ytakkmnhiaddnnaa

/- Contracts of the program's arena: Free, take, Put. -/
namespace Go.Proofs.Ytakkmnhiaddnnaa
open Go.RowKit Go.Sort Go.Proofs.Ytakkmnhiaddnnaa.Bo
set_option linter.unusedVariables false

theorem own_put' {w : World} {base g cap n m size : Nat} {e : TypeId} {xs ys : List Value} (h : w.ownsRow base e size (.slice (some ⟨g, 0, none⟩) n cap) n xs) (i : Nat) (v : Value) (hm : m = n) (hy : xs.set i v = ys) : (w.setCell ⟨g, i, none⟩ v).ownsRow base e size (.slice (some ⟨g, 0, none⟩) n cap) m ys := by
  subst hm; subst hy; exact own_put h i v
end Go.Proofs.Ytakkmnhiaddnnaa

/- Contracts of the program's arena: take, Put. -/
namespace Go.Proofs.Ytakkmnhiaddnnaa
open Go.RowKit Go.Sort Go.Proofs.Ytakkmnhiaddnnaa.Bo
set_option linter.unusedVariables false

theorem own_shrink {w : World} {base g fn fc : Nat} {e : TypeId} {fs : List Int} {f : Int} (h : w.ownsRow base e 1 (.slice (some ⟨g, 0, none⟩) fn fc) fn ((fs ++ [f]).map nv)) : w.ownsRow base e 1 (.slice (some ⟨g, 0, none⟩) (fn - 1) fc) fs.length (fs.map nv) ∧ fn = fs.length + 1 := by
  have hlen := h.1
  simp at hlen
  rcases h.2 with ⟨h1, h2⟩ | ⟨g', cap, cur, h1, hb, hh, hnc, hcm, hcs, htake⟩
  · cases h1
  · injection h1 with e1 e2 e3
    injection e1 with e1
    injection e1 with e1
    subst e1; subst e3
    refine ⟨⟨by simp, .inr ⟨g, fc, cur, by rw [← hlen]; rfl, hb, hh, by omega, hcm, hcs, ?_⟩⟩, by omega⟩
    have : (cur.toList.take (fn * 1)).take fs.length = fs.map nv := by
      rw [htake, List.map_append, List.take_left' (by simp)]
    rw [List.take_take] at this
    rw [Nat.mul_one, ← this]
    congr 1
    omega
end Go.Proofs.Ytakkmnhiaddnnaa

/- Segments, as five numbers; rows of them by rising keys. No Go in sight. -/
namespace Go.Proofs.Ytakkmnhiaddnnaa.Bo
structure G5 where
  ls : Int
  la : Int
  hs : Int
  ha : Int
  v : Int
/-- Where it begins. -/
def G5.key (g : G5) : Int := Bo.key g.ls g.la
def G5.ok (g : G5) : Prop := I64 g.la ∧ I64 g.ha ∧ I64 g.v
/-- Is its key the right one of a place? -/
def G5.is (g : G5) (k : Int) : Bool := g.ls == sd k && g.la == pa k
theorem G5.ky (g : G5) (h : g.ok) : Ky g.key := key_ky _ _ h.1
theorem G5.is_key (g : G5) (k : Int) (hk : Ky k) (h : g.is k = true) : g.key = k := by
  unfold G5.is at h
  simp at h
  unfold G5.key
  rw [h.1, h.2]
  exact key_back k hk
/-- The number of one of a key; the length: there is none. -/
def findG (l : List G5) (k : Int) : Nat := l.findIdx (fun g => g.is k)
theorem findG_le (l : List G5) (k : Int) : findG l k ≤ l.length := List.findIdx_le_length
def findV (l : List G5) (k : Int) : Int := if findG l k < l.length then (findG l k : Int) else -1
/-- May a segment be put? -/
def G5.may (g : G5) : Bool := g.is g.key && !decide (0 < g.ls)
/-- Put ahead of the first greater one. -/
def insG (s : G5) : List G5 → List G5
  | [] => [s]
  | g :: t => if s.key < g.key then s :: g :: t else g :: insG s t
theorem insG_len (s : G5) (l : List G5) : (insG s l).length = l.length + 1 := by
  induction l with
  | nil => rfl
  | cons g t ih => unfold insG; split <;> simp [ih]
/-- The part that is laid already, up to a place. -/
theorem insG_split (s : G5) (l : List G5) : ∃ n, n ≤ l.length ∧ insG s l = l.take n ++ s :: l.drop n ∧ (∀ j (h : j < l.length), j < n → ¬ s.key < l[j].key) ∧ (∀ h : n < l.length, s.key < l[n].key) := by
  induction l with
  | nil => exact ⟨0, Nat.le_refl _, rfl, fun j h => absurd h (by simp), fun h => absurd h (by simp)⟩
  | cons g t ih =>
    by_cases c : s.key < g.key
    · refine ⟨0, Nat.zero_le _, ?_, fun j _ h => absurd h (by omega), fun _ => c⟩
      unfold insG; rw [if_pos c]; rfl
    · obtain ⟨n, h1, h2, h3, h4⟩ := ih
      refine ⟨n + 1, by simp; exact h1, ?_, ?_, ?_⟩
      · unfold insG; rw [if_neg c, h2]; rfl
      · intro j hj hjn
        cases j with
        | zero => exact c
        | succ j => exact h3 j (by simpa using hj) (by omega)
      · intro h
        exact h4 (by simpa using h)
def putG (l : List G5) (room : Int) (s : G5) : List G5 × Int :=
  if s.may = false then (l, 1)
  else if findG l s.key < l.length then (l.set (findG l s.key) s, 0)
  else if room ≤ (l.length : Int) then (l, 50)
  else (insG s l, 0)
def delG (l : List G5) (k : Int) : List G5 × Bool :=
  if findG l k < l.length then (l.take (findG l k) ++ l.drop (findG l k + 1), true) else (l, false)
def doG (l : List G5) (room k : Int) (s : G5) : List G5 × Bool × Int :=
  if k = 0 then ((putG l room s).1, false, (putG l room s).2)
  else if k = 1 then ((delG l s.key).1, (delG l s.key).2, 0)
  else if k = 2 then ([], false, 0)
  else (l, false, 0)
/-- Are two segments the same? -/
def G5.eqb (g h : G5) : Bool := g.ls == h.ls && g.la == h.la && (g.hs == h.hs && g.ha == h.ha) && g.v == h.v
theorem G5.eqb_self (g : G5) : g.eqb g = true := by unfold G5.eqb; simp
theorem G5.eqb_iff (g h : G5) : g.eqb h = true ↔ g = h := by
  constructor
  · intro e
    unfold G5.eqb at e
    simp at e
    obtain ⟨a, b, c, d, x⟩ := g
    obtain ⟨a', b', c', d', x'⟩ := h
    simp only at e
    obtain ⟨⟨⟨rfl, rfl⟩, rfl, rfl⟩, rfl⟩ := e
    rfl
  · rintro rfl; exact g.eqb_self
end Go.Proofs.Ytakkmnhiaddnnaa.Bo

/- Rows of segments stay rows by rising keys, whatever is done. No Go in sight. -/
namespace Go.Proofs.Ytakkmnhiaddnnaa.Bo
/-- By rising keys, each as it may be put. -/
structure RowOk (l : List G5) : Prop where
  ris : ∀ i j (hi : i < l.length) (hj : j < l.length), i < j → l[i].key < l[j].key
  may : ∀ g ∈ l, g.may = true
theorem rowOk_nil : RowOk [] := ⟨fun i j hi => absurd hi (Nat.not_lt_zero _), fun g hg => by simp at hg⟩
theorem G5.may_is (g : G5) (h : g.may = true) : g.is g.key = true := by
  unfold G5.may at h
  simp at h
  exact h.1
theorem insG_mem (s g : G5) (l : List G5) : g ∈ insG s l ↔ g = s ∨ g ∈ l := by
  induction l with
  | nil => simp [insG]
  | cons a t ih =>
    unfold insG
    split
    · simp
    · rw [List.mem_cons, ih, List.mem_cons]
      constructor
      · rintro (h | h | h)
        · exact Or.inr (Or.inl h)
        · exact Or.inl h
        · exact Or.inr (Or.inr h)
      · rintro (h | h | h)
        · exact Or.inr (Or.inl h)
        · exact Or.inl h
        · exact Or.inr (Or.inr h)
theorem ris_iff (l : List G5) : (∀ i j (hi : i < l.length) (hj : j < l.length), i < j → l[i].key < l[j].key) ↔ l.Pairwise (fun a b => a.key < b.key) := by
  rw [List.pairwise_iff_getElem]
theorem insG_pair (s : G5) (l : List G5) (h : l.Pairwise (fun a b => a.key < b.key)) (hn : ∀ g ∈ l, g.key ≠ s.key) : (insG s l).Pairwise (fun a b => a.key < b.key) := by
  induction l with
  | nil => simp [insG]
  | cons a t ih =>
    rw [List.pairwise_cons] at h
    unfold insG
    split
    · rename_i hlt
      rw [List.pairwise_cons]
      refine ⟨fun b hb => ?_, List.pairwise_cons.2 h⟩
      rcases List.mem_cons.1 hb with rfl | hb
      · exact hlt
      · have := h.1 b hb; omega
    · rename_i hge
      rw [List.pairwise_cons]
      refine ⟨fun b hb => ?_, ih h.2 (fun g hg => hn g (List.mem_cons_of_mem _ hg))⟩
      rcases (insG_mem s b t).1 hb with rfl | hb
      · have := hn a (List.mem_cons_self ..); omega
      · exact h.1 b hb
theorem findG_none (l : List G5) (s : G5) (h : RowOk l) (hf : ¬ findG l s.key < l.length) : ∀ g ∈ l, g.key ≠ s.key := by
  intro g hg he
  apply hf
  unfold findG
  apply List.findIdx_lt_length_of_exists
  exact ⟨g, hg, by rw [← he]; exact g.may_is (h.may g hg)⟩
theorem findG_key (l : List G5) (k : Int) (hk : Ky k) (hf : findG l k < l.length) : l[findG l k].key = k := by
  have h := List.findIdx_getElem (w := hf)
  exact G5.is_key _ _ hk h
theorem putG_ok (l : List G5) (room : Int) (s : G5) (h : RowOk l) (hk : Ky s.key) : RowOk (putG l room s).1 := by
  unfold putG
  by_cases h1 : s.may = false
  · rw [if_pos h1]; exact h
  rw [if_neg h1]
  have hm : s.may = true := by cases hs : s.may with | true => rfl | false => exact absurd hs h1
  by_cases h2 : findG l s.key < l.length
  · rw [if_pos h2]
    have hkey := findG_key l s.key hk h2
    generalize findG l s.key = n at *
    refine ⟨fun i j hi hj hij => ?_, fun g hg => ?_⟩
    · simp only [List.length_set] at hi hj
      have h3 := h.ris i j hi hj hij
      show (l.set n s)[i].key < (l.set n s)[j].key
      rw [List.getElem_set, List.getElem_set]
      by_cases e1 : n = i
      · subst e1
        rw [if_pos rfl, if_neg (by omega)]
        omega
      · rw [if_neg e1]
        by_cases e2 : n = j
        · subst e2
          rw [if_pos rfl]
          omega
        · rw [if_neg e2]; exact h3
    · rcases List.mem_or_eq_of_mem_set hg with h3 | rfl
      · exact h.may g h3
      · exact hm
  rw [if_neg h2]
  by_cases h3 : room ≤ (l.length : Int)
  · rw [if_pos h3]; exact h
  · rw [if_neg h3]
    refine ⟨(ris_iff _).2 (insG_pair s l ((ris_iff l).1 h.ris) (findG_none l s h h2)), fun g hg => ?_⟩
    rcases (insG_mem s g l).1 hg with rfl | hg
    · exact hm
    · exact h.may g hg
theorem delG_ok (l : List G5) (k : Int) (h : RowOk l) : RowOk (delG l k).1 := by
  unfold delG
  by_cases h1 : findG l k < l.length
  · rw [if_pos h1]
    generalize findG l k = n at *
    have e : l.take n ++ l.drop (n + 1) = l.eraseIdx n := by rw [List.eraseIdx_eq_take_drop_succ]
    show RowOk (l.take n ++ l.drop (n + 1))
    rw [e]
    exact ⟨(ris_iff _).2 (((ris_iff l).1 h.ris).sublist (List.eraseIdx_sublist ..)), fun g hg => h.may g ((List.eraseIdx_sublist ..).subset hg)⟩
  · rw [if_neg h1]; exact h
theorem doG_ok (l : List G5) (room k : Int) (s : G5) (h : RowOk l) (hk : Ky s.key) : RowOk (doG l room k s).1 := by
  unfold doG
  by_cases h1 : k = 0
  · rw [if_pos h1]; exact putG_ok l room s h hk
  rw [if_neg h1]
  by_cases h2 : k = 1
  · rw [if_pos h2]; exact delG_ok l s.key h
  rw [if_neg h2]
  by_cases h3 : k = 2
  · rw [if_pos h3]; exact rowOk_nil
  · rw [if_neg h3]; exact h
end Go.Proofs.Ytakkmnhiaddnnaa.Bo

/- Trees of segments whose nodes stand in places; ways down to them; how they lie in an arena. No Go in sight. -/
namespace Go.Proofs.Ytakkmnhiaddnnaa.Bo
/-- A node: its segment, the place of its parent, of its children, its colour. -/
structure Nd where
  g : G5
  pa : Int
  c0 : Int
  c1 : Int
  red : Bool
/-- Sides: false is left. -/
def Nd.ch (n : Nd) (s : Bool) : Int := if s then n.c1 else n.c0
def Nd.setCh (n : Nd) (s : Bool) (j : Int) : Nd := if s then { n with c1 := j } else { n with c0 := j }
def Nd.setPa (n : Nd) (p : Int) : Nd := { n with pa := p }
def Nd.setRed (n : Nd) (b : Bool) : Nd := { n with red := b }
def Nd.setG (n : Nd) (g : G5) : Nd := { n with g := g }
/-- The node whose child on the side s is a, on the other one b. -/
def ndk (s : Bool) (g : G5) (p a b : Int) (c : Bool) : Nd := if s then ⟨g, p, b, a, c⟩ else ⟨g, p, a, b, c⟩
theorem ndk_ch (s : Bool) (g : G5) (p a b : Int) (c : Bool) : (ndk s g p a b c).ch s = a := by cases s <;> rfl
theorem ndk_ch2 (s : Bool) (g : G5) (p a b : Int) (c : Bool) : (ndk s g p a b c).ch (!s) = b := by cases s <;> rfl
theorem ndk_swap (s : Bool) (g : G5) (p a b : Int) (c : Bool) : ndk (!s) g p a b c = ndk s g p b a c := by cases s <;> rfl
theorem ndk_setCh (s : Bool) (g : G5) (p a b j : Int) (c : Bool) : (ndk s g p a b c).setCh s j = ndk s g p j b c := by cases s <;> rfl
theorem ndk_setCh2 (s : Bool) (g : G5) (p a b j : Int) (c : Bool) : (ndk s g p a b c).setCh (!s) j = ndk s g p a j c := by cases s <;> rfl
theorem ndk_setPa (s : Bool) (g : G5) (p a b q : Int) (c : Bool) : (ndk s g p a b c).setPa q = ndk s g q a b c := by cases s <;> rfl
theorem ndk_setRed (s : Bool) (g : G5) (p a b : Int) (c d : Bool) : (ndk s g p a b c).setRed d = ndk s g p a b d := by cases s <;> rfl
theorem ndk_setG (s : Bool) (g h : G5) (p a b : Int) (c : Bool) : (ndk s g p a b c).setG h = ndk s h p a b c := by cases s <;> rfl
theorem ndk_pa (s : Bool) (g : G5) (p a b : Int) (c : Bool) : (ndk s g p a b c).pa = p := by cases s <;> rfl
theorem ndk_red (s : Bool) (g : G5) (p a b : Int) (c : Bool) : (ndk s g p a b c).red = c := by cases s <;> rfl
theorem ndk_g (s : Bool) (g : G5) (p a b : Int) (c : Bool) : (ndk s g p a b c).g = g := by cases s <;> rfl

def ndZ : Nd := ⟨⟨0, 0, 0, 0, 0⟩, 0, 0, 0, false⟩
inductive Tr where
  | nil : Tr
  | node (c : Bool) (l : Tr) (i : Nat) (g : G5) (r : Tr) : Tr
namespace Tr
/-- Where it stands; -1: there is none. -/
def idx : Tr → Int
  | nil => -1
  | node _ _ i _ _ => (i : Int)
def ids : Tr → List Nat
  | nil => []
  | node _ l i _ r => l.ids ++ i :: r.ids
def ino : Tr → List G5
  | nil => []
  | node _ l _ g r => l.ino ++ g :: r.ino
def isRed : Tr → Bool
  | nil => false
  | node c _ _ _ _ => c
def paint (b : Bool) : Tr → Tr
  | nil => nil
  | node _ l i g r => node b l i g r
def height : Tr → Nat
  | nil => 0
  | node _ l _ _ r => 1 + max l.height r.height
/-- The node that has a on the side s, and b on the other one. -/
def mk (s : Bool) (c : Bool) (a : Tr) (i : Nat) (g : G5) (b : Tr) : Tr := if s then node c b i g a else node c a i g b
theorem mk_idx (s c : Bool) (a : Tr) (i : Nat) (g : G5) (b : Tr) : (mk s c a i g b).idx = (i : Int) := by cases s <;> rfl
theorem mk_red (s c : Bool) (a : Tr) (i : Nat) (g : G5) (b : Tr) : (mk s c a i g b).isRed = c := by cases s <;> rfl
theorem mk_swap (s c : Bool) (a : Tr) (i : Nat) (g : G5) (b : Tr) : mk (!s) c a i g b = mk s c b i g a := by cases s <;> rfl
theorem mk_paint (s c d : Bool) (a : Tr) (i : Nat) (g : G5) (b : Tr) : (mk s c a i g b).paint d = mk s d a i g b := by cases s <;> rfl
theorem mk_mem (s c : Bool) (a : Tr) (i : Nat) (g : G5) (b : Tr) (k : Nat) : k ∈ (mk s c a i g b).ids ↔ k = i ∨ k ∈ a.ids ∨ k ∈ b.ids := by
  cases s <;> simp [mk, ids, or_assoc, or_comm, or_left_comm]
theorem mk_nodup (s c : Bool) (a : Tr) (i : Nat) (g : G5) (b : Tr) : (mk s c a i g b).ids.Nodup ↔ a.ids.Nodup ∧ b.ids.Nodup ∧ i ∉ a.ids ∧ i ∉ b.ids ∧ ∀ k ∈ a.ids, k ∉ b.ids := by
  cases s
  · simp only [mk, ids, List.nodup_append, List.nodup_cons, Bool.false_eq_true, if_false]
    constructor
    · rintro ⟨h1, ⟨h2, h3⟩, h4⟩
      exact ⟨h1, h3, fun h => h4 i h i (by simp) rfl, h2, fun k h h' => h4 k h k (List.mem_cons_of_mem _ h') rfl⟩
    · rintro ⟨h1, h2, h3, h4, h5⟩
      refine ⟨h1, ⟨h4, h2⟩, fun x hx y hy e => ?_⟩
      subst e
      rcases List.mem_cons.1 hy with rfl | hy
      · exact h3 hx
      · exact h5 x hx hy
  · simp only [mk, ids, List.nodup_append, List.nodup_cons, if_true]
    constructor
    · rintro ⟨h1, ⟨h2, h3⟩, h4⟩
      exact ⟨h3, h1, h2, fun h => h4 i h i (by simp) rfl, fun k h h' => h4 k h' k (List.mem_cons_of_mem _ h) rfl⟩
    · rintro ⟨h1, h2, h3, h4, h5⟩
      refine ⟨h2, ⟨h3, h1⟩, fun x hx y hy e => ?_⟩
      subst e
      rcases List.mem_cons.1 hy with rfl | hy
      · exact h4 hx
      · exact h5 x hy hx
theorem nil_or (t : Tr) : t = nil ∨ ∀ s : Bool, ∃ c a i g b, t = mk s c a i g b := by
  cases t with
  | nil => exact .inl rfl
  | node c l i g r => exact .inr fun s => by cases s; exact ⟨c, l, i, g, r, rfl⟩; exact ⟨c, r, i, g, l, rfl⟩
theorem of_idx (t : Tr) (h : t.idx ≠ -1) (s : Bool) : ∃ c a i g b, t = mk s c a i g b := by
  rcases t.nil_or with rfl | h1
  · exact absurd rfl h
  · exact h1 s
theorem idx_nil (t : Tr) (h : t.idx = -1) : t = nil := by
  cases t with
  | nil => rfl
  | node => simp [idx] at h
theorem idx_ge (t : Tr) : -1 ≤ t.idx := by
  cases t with
  | nil => exact Int.le_refl _
  | node => simp only [idx]; omega
theorem of_red (t : Tr) (h : t.isRed = true) (s : Bool) : ∃ a i g b, t = mk s true a i g b := by
  cases t with
  | nil => cases h
  | node c l i g r =>
    simp only [isRed] at h; subst h
    cases s; exact ⟨l, i, g, r, rfl⟩; exact ⟨r, i, g, l, rfl⟩
theorem idx_mem (t : Tr) (k : Nat) (h : t.idx = (k : Int)) : k ∈ t.ids := by
  cases t with
  | nil => simp only [idx] at h; omega
  | node c l i g r =>
    simp only [idx] at h
    have : i = k := by omega
    subst this; simp [ids]
theorem paint_ids (t : Tr) (b : Bool) : (t.paint b).ids = t.ids := by cases t <;> rfl
theorem paint_ino (t : Tr) (b : Bool) : (t.paint b).ino = t.ino := by cases t <;> rfl
theorem paint_idx (t : Tr) (b : Bool) : (t.paint b).idx = t.idx := by cases t <;> rfl
end Tr
/-- A step of a way down: the node, on which side the way goes on, what is on the other one. -/
structure Fr where
  s : Bool
  c : Bool
  i : Nat
  g : G5
  o : Tr
def Fr.fill (f : Fr) (t : Tr) : Tr := Tr.mk f.s f.c t f.i f.g f.o
/-- What stands around a place: the innermost step first. -/
def plug : List Fr → Tr → Tr
  | [], t => t
  | f :: cx, t => plug cx (f.fill t)
def cpi : List Fr → Int
  | [] => -1
  | f :: _ => (f.i : Int)
def cids : List Fr → List Nat
  | [] => []
  | f :: cx => f.i :: f.o.ids ++ cids cx
/-- How a tree lies. -/
def RepT (f : Int → Option Nd) : Tr → Int → Prop
  | .nil, _ => True
  | .node c l i g r, p => f i = some ⟨g, p, l.idx, r.idx, c⟩ ∧ RepT f l i ∧ RepT f r i
def RepC (f : Int → Option Nd) : List Fr → Int → Prop
  | [], _ => True
  | k :: cx, h => f k.i = some (ndk k.s k.g (cpi cx) h k.o.idx k.c) ∧ RepT f k.o k.i ∧ RepC f cx k.i
variable {f f' : Int → Option Nd}
theorem repT_mk (s c : Bool) (a : Tr) (i : Nat) (g : G5) (b : Tr) (p : Int) : RepT f (Tr.mk s c a i g b) p ↔ f i = some (ndk s g p a.idx b.idx c) ∧ RepT f a i ∧ RepT f b i := by
  cases s
  · exact Iff.rfl
  · show (_ ∧ _ ∧ _) ↔ _
    exact ⟨fun ⟨h1, h2, h3⟩ => ⟨h1, h3, h2⟩, fun ⟨h1, h2, h3⟩ => ⟨h1, h3, h2⟩⟩
theorem repT_congr (t : Tr) : ∀ (p : Int), (∀ k ∈ t.ids, f' (k : Int) = f k) → RepT f t p → RepT f' t p := by
  induction t with
  | nil => intro p _ _; trivial
  | node c l i g r ih1 ih2 =>
    rintro p hk ⟨h1, h2, h3⟩
    exact ⟨(hk i (by simp [Tr.ids])).trans h1, ih1 _ (fun k h => hk k (by simp [Tr.ids, h])) h2, ih2 _ (fun k h => hk k (by simp [Tr.ids, h])) h3⟩
theorem repC_congr (cx : List Fr) : ∀ (h : Int), (∀ k ∈ cids cx, f' (k : Int) = f k) → RepC f cx h → RepC f' cx h := by
  induction cx with
  | nil => intro h _ _; trivial
  | cons x cx ih =>
    rintro h hk ⟨h1, h2, h3⟩
    exact ⟨(hk x.i (by simp [cids])).trans h1, repT_congr _ _ (fun k h => hk k (by simp [cids, h])) h2, ih _ (fun k h => hk k (by simp [cids, h])) h3⟩
theorem rep_plug (cx : List Fr) : ∀ t : Tr, RepT f (plug cx t) (-1) ↔ RepC f cx t.idx ∧ RepT f t (cpi cx) := by
  induction cx with
  | nil => intro t; exact ⟨fun h => ⟨trivial, h⟩, fun h => h.2⟩
  | cons x cx ih =>
    intro t
    show RepT f (plug cx (x.fill t)) (-1) ↔ _
    rw [ih]
    show RepC f cx (x.fill t).idx ∧ RepT f (Tr.mk x.s x.c t x.i x.g x.o) (cpi cx) ↔ (f x.i = some (ndk x.s x.g (cpi cx) t.idx x.o.idx x.c) ∧ RepT f x.o x.i ∧ RepC f cx x.i) ∧ RepT f t x.i
    rw [repT_mk, show (x.fill t).idx = (x.i : Int) from Tr.mk_idx ..]
    exact ⟨fun ⟨h1, h2, h3, h4⟩ => ⟨⟨h2, h4, h1⟩, h3⟩, fun ⟨⟨h1, h2, h3⟩, h4⟩ => ⟨h3, h1, h4, h2⟩⟩
theorem plug_mem (cx : List Fr) (k : Nat) : ∀ t : Tr, k ∈ (plug cx t).ids ↔ k ∈ cids cx ∨ k ∈ t.ids := by
  induction cx with
  | nil => intro t; simp [plug, cids]
  | cons x cx ih =>
    intro t
    show k ∈ (plug cx (x.fill t)).ids ↔ _
    rw [ih, show (k ∈ (x.fill t).ids ↔ _) from Tr.mk_mem ..]
    simp only [cids, List.cons_append, List.mem_cons, List.mem_append]
    constructor
    · rintro (h | h | h | h)
      · exact .inl (.inr (.inr h))
      · exact .inl (.inl h)
      · exact .inr h
      · exact .inl (.inr (.inl h))
    · rintro ((h | h | h) | h)
      · exact .inr (.inl h)
      · exact .inr (.inr (.inr h))
      · exact .inl h
      · exact .inr (.inr (.inl h))
theorem plug_nodup (cx : List Fr) : ∀ t : Tr, (plug cx t).ids.Nodup ↔ (cids cx).Nodup ∧ t.ids.Nodup ∧ ∀ k ∈ t.ids, k ∉ cids cx := by
  induction cx with
  | nil => intro t; simp [plug, cids]
  | cons x cx ih =>
    intro t
    show (plug cx (x.fill t)).ids.Nodup ↔ _
    rw [ih, show ((x.fill t).ids.Nodup ↔ _) from Tr.mk_nodup ..]
    simp only [cids, List.cons_append, List.nodup_cons, List.nodup_append, List.mem_append, List.mem_cons]
    constructor
    · rintro ⟨h1, ⟨h2, h3, h4, h5, h6⟩, h7⟩
      have m : ∀ k, k ∈ (x.fill t).ids ↔ k = x.i ∨ k ∈ t.ids ∨ k ∈ x.o.ids := fun k => Tr.mk_mem ..
      refine ⟨⟨fun h => ?_, h3, h1, fun a ha b hb e => ?_⟩, h2, fun k hk h => ?_⟩
      · rcases h with h | h
        · exact h5 h
        · exact h7 x.i ((m _).2 (.inl rfl)) h
      · subst e; exact h7 a ((m _).2 (.inr (.inr ha))) hb
      · rcases h with rfl | h | h
        · exact h4 hk
        · exact h6 k hk h
        · exact h7 k ((m _).2 (.inr (.inl hk))) h
    · rintro ⟨⟨h1, h2, h3, h4⟩, h5, h6⟩
      have m : ∀ k, k ∈ (x.fill t).ids ↔ k = x.i ∨ k ∈ t.ids ∨ k ∈ x.o.ids := fun k => Tr.mk_mem ..
      refine ⟨h3, ⟨h5, h2, fun h => h6 _ h (.inl rfl), fun h => h1 (.inl h), fun k hk h => h6 k hk (.inr (.inl h))⟩, fun k hk h => ?_⟩
      rcases (m k).1 hk with rfl | hk | hk
      · exact h1 (.inr h)
      · exact h6 k hk (.inr (.inr h))
      · exact h4 k hk k h rfl
theorem plug_append (cx cy : List Fr) (t : Tr) : plug (cx ++ cy) t = plug cy (plug cx t) := by
  induction cx generalizing t with
  | nil => rfl
  | cons x cx ih => exact ih _
/-- One node is another one. -/
def upd (f : Int → Option Nd) (i : Int) (v : Nd) : Int → Option Nd := fun j => if j = i then some v else f j
theorem upd_self (i : Int) (v : Nd) : upd f i v i = some v := if_pos rfl
theorem upd_ne (i j : Int) (v : Nd) (h : j ≠ i) : upd f i v j = f j := if_neg h
/-- One node is turned, if it is there. -/
def tw (f : Int → Option Nd) (i : Int) (t : Nd → Nd) : Int → Option Nd := fun j => if j = i then (f j).map t else f j
theorem tw_self (i : Int) (t : Nd → Nd) (n : Nd) (h : f i = some n) : tw f i t i = some (t n) := by unfold tw; rw [if_pos rfl, h]; rfl
theorem tw_ne (i j : Int) (t : Nd → Nd) (h : j ≠ i) : tw f i t j = f j := if_neg h
theorem tw_none (i : Int) (t : Nd → Nd) (h : f i = none) : tw f i t = f := by
  funext j; unfold tw
  split
  · rename_i e; subst e; rw [h]; rfl
  · rfl
theorem tw_some (i : Int) (t : Nd → Nd) (n : Nd) (h : f i = some n) : tw f i t = upd f i (t n) := by
  funext j; unfold tw upd
  split
  · rename_i e; subst e; rw [h]; rfl
  · rfl
/-- The child of p on the side s is j; j's parent is p. -/
def hangf (f : Int → Option Nd) (j p : Int) (s : Bool) : Int → Option Nd := tw (tw f p (·.setCh s j)) j (·.setPa p)
theorem repT_in (t : Tr) (p : Int) (h : RepT f t p) : ∀ k ∈ t.ids, ∃ n, f (k : Int) = some n := by
  induction t generalizing p with
  | nil => intro k hk; simp [Tr.ids] at hk
  | node c l i g r ih1 ih2 =>
    obtain ⟨h1, h2, h3⟩ := h
    intro k hk
    simp only [Tr.ids, List.mem_append, List.mem_cons] at hk
    rcases hk with hk | rfl | hk
    · exact ih1 _ h2 k hk
    · exact ⟨_, h1⟩
    · exact ih2 _ h3 k hk
/-- A tree is hung elsewhere. -/
theorem repT_move (t : Tr) (p q : Int) (h : RepT f t p) (hn : t.ids.Nodup) : RepT (tw f t.idx (·.setPa q)) t q := by
  cases t with
  | nil => trivial
  | node c l i g r =>
    obtain ⟨h1, h2, h3⟩ := h
    have hn' := (Tr.mk_nodup false c l i g r).1 hn
    refine ⟨(tw_self _ _ _ h1).trans rfl, repT_congr _ _ (fun k hk => tw_ne _ _ _ ?_) h2, repT_congr _ _ (fun k hk => tw_ne _ _ _ ?_) h3⟩
    · intro e
      have : k = i := by simp only [Tr.idx] at e; omega
      subst this; exact hn'.2.2.1 hk
    · intro e
      have : k = i := by simp only [Tr.idx] at e; omega
      subst this; exact hn'.2.2.2.1 hk
end Go.Proofs.Ytakkmnhiaddnnaa.Bo

/- The arena of bocage/rbtree.node: New, Room, Len, At, Get, Set, Reset. -/
namespace Go.Proofs.Ytakkmnhiaddnnaa
open Go.RowKit Go.Sort Go.Proofs.Ytakkmnhiaddnnaa.Bo
set_option linter.unusedVariables false

def rnZ : Nd := ndZ
def rnE : Enc Nd 9 := ⟨fun x => [.int .i64 x.g.ls, .int .i64 x.g.la, .int .i64 x.g.hs, .int .i64 x.g.ha, .int .i64 x.g.v, .int .i64 x.pa, .int .i64 x.c0, .int .i64 x.c1, .bool x.red], fun _ => rfl, fun x u hu => by
  simp only [List.mem_cons, List.not_mem_nil, or_false] at hu
  rcases hu with rfl | rfl | rfl | rfl | rfl | rfl | rfl | rfl | rfl <;> rfl⟩
abbrev rnO (room : Int) (pv fv : Value) : Obj := .cells #[.int .i64 room, pv, fv] 100 (0, 0)
abbrev rnAt (w : World) (base A : Nat) (room : Int) (pv fv : Value) (ps : List (Nd × Bool)) (fs : List Int) : Prop := GAt rnE 100 111 w base A room pv fv ps fs
abbrev rnIs (w : World) (base A : Nat) (a : Ag Nd) (S : Nat → Prop) : Prop := GIs rnE rnZ 100 111 w base A a S
abbrev rnPost (w : World) (base A : Nat) (S : Nat → Prop) (a' : Ag Nd) (ans : Value) (e : Ending) (w' : World) : Prop := GMPost rnE rnZ 100 111 w base A S a' ans e w'
theorem rnty : (100 : TypeId) ≠ 111 ∧ (100 : TypeId) ≠ 3 ∧ (111 : TypeId) ≠ 3 := by decide
set_option maxRecDepth 100000 in
theorem rnnew_ok (room : Int) (w : World) (h : 0 ≤ room ∧ room ≤ 65536) :
    Calls Try.prog 39 #[.int .i64 room] w fun e w' => e = .returned (.tuple #[aP w.heap.size, .int .i64 0]) ∧ w.alloc (rnO room (.slice none 0 0) (.slice none 0 0)) = w' := by
  have t1 : decide (room < 0) = false := decide_eq_false (by omega)
  have t2 : decide (65536 < room) = false := decide_eq_false (by omega)
  clear h
  go_enter Try.func39, Try.ntmps39
  go_wp2_with fail
  go_ret2
  exact ⟨rfl, rfl⟩
set_option maxRecDepth 100000 in
theorem rnnew_no (room : Int) (w : World) (h : ¬ (0 ≤ room ∧ room ≤ 65536)) :
    Calls Try.prog 39 #[.int .i64 room] w fun e w' => e = .returned (.tuple #[.pointer none, .int .i64 1]) ∧ w = w' := by
  by_cases h1 : room < 0
  · have t1 : decide (room < 0) = true := decide_eq_true h1
    clear h h1
    go_enter Try.func39, Try.ntmps39
    go_wp2_with fail
    go_ret2
    exact ⟨rfl, rfl⟩
  · have t1 : decide (room < 0) = false := decide_eq_false h1
    have t2 : decide (65536 < room) = true := decide_eq_true (by omega)
    clear h h1
    go_enter Try.func39, Try.ntmps39
    go_wp2_with fail
    go_ret2
    exact ⟨rfl, rfl⟩
theorem rnis_new (room : Int) (w : World) : rnIs (w.alloc (rnO room (.slice none 0 0) (.slice none 0 0))) w.heap.size w.heap.size (Ag.new room) (FP w.heap.size (.slice none 0 0) (.slice none 0 0)) :=
  ⟨_, _, rfl, ⟨heap_alloc_new _ _, World.ownsRow_nil _ _ _ _, World.ownsRow_nil _ _ _ _, Nat.le_refl _, rnty⟩⟩
set_option maxRecDepth 100000 in
theorem rnroom_core (A : Nat) (room : Int) (pv fv : Value) (w : World) (H : Hid (w.heap[A]? = some (rnO room pv fv))) :
    Calls Try.prog 40 #[aP A] w fun e w' => e = .returned (.int .i64 room) ∧ w = w' := by
  obtain ⟨⟨c1, c2, c3⟩, _⟩ := box3 H.out
  go_enter Try.func40, Try.ntmps40
  go_wp2_with fail
  go_ret
  exact ⟨rfl, rfl⟩
set_option maxRecDepth 100000 in
set_option maxHeartbeats 1000000 in
theorem rnlen_core (A pn pc fn fc : Nat) (pa fa : Option Addr) (room : Int) (w : World) (H : Hid (w.heap[A]? = some (rnO room (.slice pa pn pc) (.slice fa fn fc)))) (hp : pn ≤ 1000000) (hf : fn ≤ 1000000) :
    Calls Try.prog 43 #[aP A] w fun e w' => e = .returned (.int .i64 ((pn : Int) - (fn : Int))) ∧ Go.RowKit.Below w.heap.size w w' := by
  have mx := mixed
  obtain ⟨⟨c1, c2, c3⟩, _⟩ := box3 H.out
  have p2 := cell_regrown c2
  have p3 := cell_regrown c3
  have q : IntKind.i64.wrap ((pn : Int) - (fn : Int)) = (pn : Int) - (fn : Int) := IntWalk.i64_in _ (by omega)
  clear c1 c2 c3
  go_enter Try.func43, Try.ntmps43
  go_wp2_with fail
  refine wp_region_quiet_below (by assumption) (by kernel_rfl) ?_
  repeat (go_big_quiet_step (fail))
  refine wpQuiet_nil ?_
  intro _ hw'
  obtain ⟨⟨nq, osq⟩, hw''⟩ := hw'
  subst hw''
  have hB := below_regrown w nq osq
  show Exit.then _ _ Exit.normal _ (grow (redrawn w nq) osq)
  generalize grow (redrawn w nq) osq = Y at *
  clear p2 p3
  go_wp2_with fail
  go_ret
  exact ⟨rfl, hB⟩
set_option maxRecDepth 100000 in
set_option maxHeartbeats 1000000 in
theorem rnat_yes_core (A g pn pc n : Nat) (fv : Value) (room : Int) (w : World) (H : Hid (w.heap[A]? = some (rnO room (.slice (some ⟨g, 0, none⟩) pn pc) fv))) (hp : pn ≤ 1000000) (hn : n < pn) (HC : Hid (w.cell? ⟨g, n * 10 + 9, none⟩ = some (.bool true))) :
    Calls Try.prog 64 #[aP A, .int .i64 (n : Int)] w fun e w' => e = .returned (.pointer (some ⟨g, n * 10, none⟩)) ∧ w = w' := by
  obtain ⟨⟨c1, c2, c3⟩, _⟩ := box3 H.out
  have hc := HC.out
  have t1 : decide ((n : Int) < 0) = false := decide_eq_false (by omega)
  have t2 : decide ((pn : Int) ≤ (n : Int)) = false := decide_eq_false (by omega)
  have t3 : decide (pn ≤ n) = false := decide_eq_false (by omega)
  have i1 : (0 : Int) ≤ (n : Int) := by omega
  have i2 : (n : Int) < (pn : Int) := by omega
  go_enter Try.func64, Try.ntmps64
  go_wp2_with fail
  go_ret
  exact ⟨rfl, rfl⟩
set_option maxRecDepth 100000 in
set_option maxHeartbeats 1000000 in
theorem rnat_free_core (A g pn pc n : Nat) (fv : Value) (room : Int) (w : World) (H : Hid (w.heap[A]? = some (rnO room (.slice (some ⟨g, 0, none⟩) pn pc) fv))) (hp : pn ≤ 1000000) (hn : n < pn) (HC : Hid (w.cell? ⟨g, n * 10 + 9, none⟩ = some (.bool false))) :
    Calls Try.prog 64 #[aP A, .int .i64 (n : Int)] w fun e w' => e = .returned (.pointer none) ∧ w = w' := by
  obtain ⟨⟨c1, c2, c3⟩, _⟩ := box3 H.out
  have hc := HC.out
  have t1 : decide ((n : Int) < 0) = false := decide_eq_false (by omega)
  have t2 : decide ((pn : Int) ≤ (n : Int)) = false := decide_eq_false (by omega)
  have t3 : decide (pn ≤ n) = false := decide_eq_false (by omega)
  have i1 : (0 : Int) ≤ (n : Int) := by omega
  have i2 : (n : Int) < (pn : Int) := by omega
  go_enter Try.func64, Try.ntmps64
  go_wp2_with fail
  go_ret
  exact ⟨rfl, rfl⟩
set_option maxRecDepth 100000 in
set_option maxHeartbeats 1000000 in
theorem rnat_lo_core (A : Nat) (pv fv : Value) (i room : Int) (w : World) (H : Hid (w.heap[A]? = some (rnO room pv fv))) (hi : i < 0) :
    Calls Try.prog 64 #[aP A, .int .i64 i] w fun e w' => e = .returned (.pointer none) ∧ w = w' := by
  obtain ⟨⟨c1, c2, c3⟩, _⟩ := box3 H.out
  have t1 : decide (i < 0) = true := decide_eq_true hi
  clear hi
  go_enter Try.func64, Try.ntmps64
  go_wp2_with fail
  go_ret
  exact ⟨rfl, rfl⟩
set_option maxRecDepth 100000 in
set_option maxHeartbeats 1000000 in
theorem rnat_hi_core (A pn pc : Nat) (pa : Option Addr) (fv : Value) (i room : Int) (w : World) (H : Hid (w.heap[A]? = some (rnO room (.slice pa pn pc) fv))) (hi : (pn : Int) ≤ i) :
    Calls Try.prog 64 #[aP A, .int .i64 i] w fun e w' => e = .returned (.pointer none) ∧ w = w' := by
  obtain ⟨⟨c1, c2, c3⟩, _⟩ := box3 H.out
  have t1 : decide (i < 0) = false := decide_eq_false (by omega)
  have t2 : decide ((pn : Int) ≤ i) = true := decide_eq_true hi
  clear hi
  go_enter Try.func64, Try.ntmps64
  go_wp2_with fail
  go_ret
  exact ⟨rfl, rfl⟩
theorem rnat_yes {w : World} {base A : Nat} {room : Int} {pv fv : Value} {ps : List (Nd × Bool)} {fs : List Int} (h : rnAt w base A room pv fv ps fs) (hl : ps.length ≤ 1000000) (n g cap : Nat) (hn : n < ps.length) (ht : ps[n].2 = true) (hpv : pv = .slice (some ⟨g, 0, none⟩) ps.length cap) :
    Calls Try.prog 64 #[aP A, .int .i64 (n : Int)] w fun e w' => e = .returned (.pointer (some ⟨g, n * 10, none⟩)) ∧ w = w' := by
  obtain ⟨g', cap', e1, _, hc, _⟩ := h.at n hn
  have hb := h.box
  subst hpv
  injection e1 with e1 _ e3
  injection e1 with e1
  injection e1 with e1
  subst e1
  have hc1 := hc 9 (.bool ps[n].2) rfl
  rw [ht] at hc1
  exact rnat_yes_core A g ps.length cap n fv room w hb hl hn hc1
theorem rnat_no {w : World} {base A : Nat} {room : Int} {pv fv : Value} {ps : List (Nd × Bool)} {fs : List Int} (h : rnAt w base A room pv fv ps fs) (hl : ps.length ≤ 1000000) (i : Int) (hno : ∀ (n : Nat) (hn : n < ps.length), i = (n : Int) → ps[n].2 = false) :
    Calls Try.prog 64 #[aP A, .int .i64 i] w fun e w' => e = .returned (.pointer none) ∧ w = w' := by
  by_cases h0 : i < 0
  · exact rnat_lo_core A pv fv i room w h.box h0
  · by_cases h1 : i < (ps.length : Int)
    · obtain ⟨n, rfl⟩ : ∃ n : Nat, i = (n : Int) := ⟨i.toNat, by omega⟩
      obtain ⟨g, cap, e1, _, hc, _⟩ := h.at n (by omega)
      have hb := h.box
      have hc1 := hc 9 (.bool (ps[n]'(by omega)).2) rfl
      rw [hno n (by omega) rfl] at hc1
      rw [e1] at hb
      exact rnat_free_core A g ps.length cap n fv room w hb hl (by omega) hc1
    · obtain ⟨a, cap, e1, _⟩ := own_slice h.prow
      have hb := h.box
      rw [e1] at hb
      exact rnat_hi_core A ps.length cap a fv i room w hb (by omega)
set_option maxRecDepth 100000 in
set_option maxHeartbeats 1000000 in
theorem rnget_yes_core (A g n : Nat) (x : Nd) (w : World) (HA : Hid (∀ W, Go.RowKit.Below w.heap.size w W → Calls Try.prog 64 #[aP A, .int .i64 (n : Int)] W fun e w' => e = .returned (.pointer (some ⟨g, n * 10, none⟩)) ∧ W = w')) (h0 : Hid (w.cell? ⟨g, n * 10, none⟩ = some (.int .i64 x.g.ls))) (h1 : Hid (w.cell? ⟨g, n * 10 + 1, none⟩ = some (.int .i64 x.g.la))) (h2 : Hid (w.cell? ⟨g, n * 10 + 2, none⟩ = some (.int .i64 x.g.hs))) (h3 : Hid (w.cell? ⟨g, n * 10 + 3, none⟩ = some (.int .i64 x.g.ha))) (h4 : Hid (w.cell? ⟨g, n * 10 + 4, none⟩ = some (.int .i64 x.g.v))) (h5 : Hid (w.cell? ⟨g, n * 10 + 5, none⟩ = some (.int .i64 x.pa))) (h6 : Hid (w.cell? ⟨g, n * 10 + 6, none⟩ = some (.int .i64 x.c0))) (h7 : Hid (w.cell? ⟨g, n * 10 + 7, none⟩ = some (.int .i64 x.c1))) (h8 : Hid (w.cell? ⟨g, n * 10 + 8, none⟩ = some (.bool x.red))) :
    Calls Try.prog 69 #[aP A, .int .i64 (n : Int)] w fun e w' => e = .returned (.tuple #[.agg #[.int .i64 x.g.ls, .int .i64 x.g.la, .int .i64 x.g.hs, .int .i64 x.g.ha, .int .i64 x.g.v, .int .i64 x.pa, .int .i64 x.c0, .int .i64 x.c1, .bool x.red], .bool true]) ∧ Go.RowKit.Below w.heap.size w w' := by
  have hb := below_new w (.cells #[.int .i64 0, .int .i64 0, .int .i64 0, .int .i64 0, .int .i64 0, .int .i64 0, .int .i64 0, .int .i64 0, .bool false] 74)
  have hg : g < w.heap.size := World.block_lt_of_cell? w _ h0.out
  have c0 := (hb.cell (p := ⟨g, n * 10, none⟩) hg).trans h0.out
  have c1 := (hb.cell (p := ⟨g, n * 10 + 1, none⟩) hg).trans h1.out
  have c2 := (hb.cell (p := ⟨g, n * 10 + 2, none⟩) hg).trans h2.out
  have c3 := (hb.cell (p := ⟨g, n * 10 + 3, none⟩) hg).trans h3.out
  have c4 := (hb.cell (p := ⟨g, n * 10 + 4, none⟩) hg).trans h4.out
  have c5 := (hb.cell (p := ⟨g, n * 10 + 5, none⟩) hg).trans h5.out
  have c6 := (hb.cell (p := ⟨g, n * 10 + 6, none⟩) hg).trans h6.out
  have c7 := (hb.cell (p := ⟨g, n * 10 + 7, none⟩) hg).trans h7.out
  have c8 := (hb.cell (p := ⟨g, n * 10 + 8, none⟩) hg).trans h8.out
  have HB := Lib.hid hb
  go_enter Try.func69, Try.ntmps69
  go_wp2_with fail
  refine (HA.out _ HB.out).mono ?_
  rintro e w' ⟨rfl, rfl⟩
  go_wp2_with fail
  refine bodyPost_ret (v := .tuple #[.agg #[.int .i64 x.g.ls, .int .i64 x.g.la, .int .i64 x.g.hs, .int .i64 x.g.ha, .int .i64 x.g.v, .int .i64 x.pa, .int .i64 x.c0, .int .i64 x.c1, .bool x.red], .bool true]) (by simp [results, Try.results69, go_sem]) rfl ?_
  exact ⟨rfl, below_new _ _⟩
set_option maxRecDepth 100000 in
set_option maxHeartbeats 1000000 in
theorem rnget_no_core (A : Nat) (i : Int) (w : World) (HA : Hid (∀ W, Go.RowKit.Below w.heap.size w W → Calls Try.prog 64 #[aP A, .int .i64 i] W fun e w' => e = .returned (.pointer none) ∧ W = w')) :
    Calls Try.prog 69 #[aP A, .int .i64 i] w fun e w' => e = .returned (.tuple #[.agg #[.int .i64 0, .int .i64 0, .int .i64 0, .int .i64 0, .int .i64 0, .int .i64 0, .int .i64 0, .int .i64 0, .bool false], .bool false]) ∧ Go.RowKit.Below w.heap.size w w' := by
  have HB := Lib.hid (below_new w (.cells #[.int .i64 0, .int .i64 0, .int .i64 0, .int .i64 0, .int .i64 0, .int .i64 0, .int .i64 0, .int .i64 0, .bool false] 74))
  go_enter Try.func69, Try.ntmps69
  go_wp2_with fail
  refine (HA.out _ HB.out).mono ?_
  rintro e w' ⟨rfl, rfl⟩
  go_wp2_with fail
  refine bodyPost_ret (v := .tuple #[.agg #[.int .i64 0, .int .i64 0, .int .i64 0, .int .i64 0, .int .i64 0, .int .i64 0, .int .i64 0, .int .i64 0, .bool false], .bool false]) (by simp [results, Try.results69, go_sem]) rfl ?_
  exact ⟨rfl, bt (below_new _ _) (below_new _ _)⟩
end Go.Proofs.Ytakkmnhiaddnnaa
