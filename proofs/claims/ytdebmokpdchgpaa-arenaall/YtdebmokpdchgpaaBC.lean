/- A part of the proof: contracts of the functions that the statements reach. -/
import Derived.Test.YtdebmokpdchgpaaRows
import Derived.Test.YtdebmokpdchgpaaBA
import Derived.Test.YtdebmokpdchgpaaBB
import Derived.Deep.Upon

/- The document's arena, as lists of numbers. No Go in sight. -/
namespace Go.Proofs.Ytdebmokpdchgpaa.Bo
/-- Room, how many places were ever taken, which are free (in the order in which they were freed), what is where. -/
structure Ar where
  room : Int
  ever : Int
  free : List Int
  l : List Int
/-- What a call tells. -/
structure An where
  i : Int
  v : Int
  b : Bool
  e : Int
def an0 : An := ⟨0, 0, false, 0⟩
def Ar.is (a : Ar) (i : Int) : Bool := !(a.free.contains i) && (decide (0 ≤ i) && decide (i < a.ever))
def Ar.put (a : Ar) (v : Int) : Ar × An :=
  if a.room ≤ a.ever - a.free.length then (a, ⟨0, 0, false, 50⟩)
  else if 0 < a.free.length then ({ a with free := a.free.take (a.free.length - 1), l := a.l.set (a.free.getD (a.free.length - 1) 0).toNat v }, ⟨a.free.getD (a.free.length - 1) 0, 0, false, 0⟩)
  else ({ a with ever := a.ever + 1, l := a.l ++ [v] }, ⟨a.ever, 0, false, 0⟩)
def Ar.does (a : Ar) (k i v : Int) : Ar × An :=
  if k = 0 then a.put v
  else if k = 4 then (⟨a.room, 0, [], []⟩, an0)
  else if k < 0 ∨ 4 < k ∨ a.is i = false then (a, an0)
  else if k = 1 then (a, ⟨0, a.l.getD i.toNat 0, true, 0⟩)
  else if k = 2 then ({ a with l := a.l.set i.toNat v }, ⟨0, 0, true, 0⟩)
  else ({ a with free := a.free ++ [i] }, ⟨0, 0, true, 0⟩)
/-- As it must be: each free place was taken once, and is there once. -/
structure Ar.ok (a : Ar) : Prop where
  room : 0 ≤ a.room ∧ a.room ≤ 65536
  ever : a.ever = a.l.length
  free : ∀ i ∈ a.free, 0 ≤ i ∧ i < a.ever
  once : a.free.Nodup
  fits : a.ever - a.free.length ≤ a.room
  nums : ∀ z ∈ a.l, I64 z
theorem last_mem (l : List Int) (h : 0 < l.length) : l.getD (l.length - 1) 0 ∈ l := by
  rw [List.getD_eq_getElem?_getD, List.getElem?_eq_getElem (by omega)]
  exact List.getElem_mem _
theorem Ar.put_ok (a : Ar) (v : Int) (h : a.ok) (hv : I64 v) : (a.put v).1.ok := by
  unfold Ar.put
  by_cases h1 : a.room ≤ a.ever - a.free.length
  · rw [if_pos h1]; exact h
  · rw [if_neg h1]
    by_cases h2 : 0 < a.free.length
    · rw [if_pos h2]
      have hd : ∀ i ∈ a.free.take (a.free.length - 1), i ∈ a.free := fun i hi => List.mem_of_mem_take hi
      refine ⟨h.room, by show a.ever = _; rw [List.length_set]; exact h.ever, fun i hi => h.free i (hd i hi), ?_, ?_, ?_⟩
      · exact h.once.sublist (List.take_sublist _ _)
      · show a.ever - ((a.free.take (a.free.length - 1)).length : Int) ≤ a.room
        rw [List.length_take]; omega
      · intro z hz
        rcases List.mem_or_eq_of_mem_set hz with h3 | rfl
        · exact h.nums z h3
        · exact hv
    · rw [if_neg h2]
      have he := h.ever
      refine ⟨h.room, by show a.ever + 1 = _; rw [List.length_append]; simp; omega, fun i hi => ?_, h.once, ?_, ?_⟩
      · have := h.free i hi
        show 0 ≤ i ∧ i < a.ever + 1
        omega
      · show a.ever + 1 - (a.free.length : Int) ≤ a.room
        omega
      · intro z hz
        rcases List.mem_append.1 hz with h3 | h3
        · exact h.nums z h3
        · simp at h3; subst h3; exact hv
theorem Ar.is_in (a : Ar) (i : Int) (h : a.ok) (hi : a.is i = true) : 0 ≤ i ∧ i < a.ever ∧ i.toNat < a.l.length ∧ i ∉ a.free := by
  unfold Ar.is at hi
  simp at hi
  have := h.ever
  exact ⟨hi.2.1, hi.2.2, by omega, hi.1⟩
theorem nodup_len (n : Nat) : ∀ (l : List Int), l.Nodup → (∀ i ∈ l, 0 ≤ i ∧ i < (n : Int)) → l.length ≤ n := by
  induction n with
  | zero =>
    intro l _ h
    cases l with
    | nil => exact Nat.le_refl _
    | cons a t => have := h a (List.mem_cons_self ..); omega
  | succ n ih =>
    intro l hn h
    by_cases hm : (n : Int) ∈ l
    · have h1 := ih (l.erase n) (hn.erase _) (fun i hi => by
        have hm' := (hn.mem_erase_iff).1 hi
        have := h i hm'.2
        have hne := hm'.1
        omega)
      rw [List.length_erase_of_mem hm] at h1
      omega
    · have h1 := ih l hn (fun i hi => by
        have := h i hi
        have hne : i ≠ n := fun e => hm (e ▸ hi)
        omega)
      omega
theorem Ar.does_ok (a : Ar) (k i v : Int) (h : a.ok) (hv : I64 v) : (a.does k i v).1.ok := by
  unfold Ar.does
  by_cases h1 : k = 0
  · rw [if_pos h1]; exact a.put_ok v h hv
  · rw [if_neg h1]
    by_cases h2 : k = 4
    · rw [if_pos h2]
      exact ⟨h.room, rfl, by simp, List.nodup_nil, by show (0 : Int) - ((0 : Nat) : Int) ≤ a.room; have := h.room.1; omega, by simp⟩
    · rw [if_neg h2]
      by_cases h3 : k < 0 ∨ 4 < k ∨ a.is i = false
      · rw [if_pos h3]; exact h
      · rw [if_neg h3]
        have hi : a.is i = true := by
          cases e : a.is i with
          | true => rfl
          | false => exact absurd (.inr (.inr e)) h3
        obtain ⟨g1, g2, g3, g4⟩ := a.is_in i h hi
        by_cases h4 : k = 1
        · rw [if_pos h4]; exact h
        · rw [if_neg h4]
          by_cases h5 : k = 2
          · rw [if_pos h5]
            refine ⟨h.room, by show a.ever = _; rw [List.length_set]; exact h.ever, h.free, h.once, h.fits, ?_⟩
            intro z hz
            rcases List.mem_or_eq_of_mem_set hz with h6 | rfl
            · exact h.nums z h6
            · exact hv
          · rw [if_neg h5]
            refine ⟨h.room, h.ever, ?_, ?_, ?_, h.nums⟩
            · intro j hj
              rcases List.mem_append.1 hj with h6 | h6
              · exact h.free j h6
              · simp at h6; subst h6; exact ⟨g1, g2⟩
            · rw [List.nodup_append]
              exact ⟨h.once, by simp, fun x hx y hy => by simp at hy; subst hy; intro e; subst e; exact g4 hx⟩
            · show a.ever - ((a.free ++ [i]).length : Int) ≤ a.room
              have := h.fits
              rw [List.length_append]; simp; omega
theorem Ar.does_len (a : Ar) (k i v : Int) : (a.does k i v).1.l.length ≤ a.l.length + 1 ∧ (a.does k i v).1.free.length ≤ a.free.length + 1 := by
  unfold Ar.does Ar.put
  repeat' split
  all_goals simp
  all_goals omega
end Go.Proofs.Ytdebmokpdchgpaa.Bo

/- Rows of numbers; contracts of the reference's arena: New, Is, put, Do. -/
namespace Go.Proofs.Ytdebmokpdchgpaa
open Go.RowKit Go.Sort Go.Proofs.Ytdebmokpdchgpaa.Bo
set_option linter.unusedVariables false

def nv (z : Int) : Value := .int .i64 z
theorem nv_one (l : List Int) : ∀ u ∈ l.map nv, u.oneCell' = true := by
  intro u hu
  obtain ⟨d, _, rfl⟩ := List.mem_map.1 hu
  rfl
/-- A slice of numbers that holds zs, in a block of its elements' type. -/
def NRow (w : World) (t : TypeId) (a : Option Addr) (zs : List Int) : Prop := 0 < zs.length → ∃ b off, a = some ⟨b, off, none⟩ ∧ (∃ cur, w.heap[b]? = some (.cells cur t (0, 0))) ∧ ∀ (j : Nat) (h : j < zs.length), w.cell? ⟨b, off + j, none⟩ = some (.int .i64 zs[j])
theorem NRow.below {w w' : World} {t : TypeId} {a : Option Addr} {zs : List Int} (h : NRow w t a zs) (hb : Go.RowKit.Below w.heap.size w w') : NRow w' t a zs := by
  intro hp
  obtain ⟨b, off, e, ⟨cur, hh⟩, hc⟩ := h hp
  exact ⟨b, off, e, ⟨cur, box_on hh hb⟩, fun j hj => (hb.cell (p := ⟨b, off + j, none⟩) (World.block_lt_of_cell? w _ (hc j hj))).trans (hc j hj)⟩
theorem NRow.take {w : World} {t : TypeId} {a : Option Addr} {zs : List Int} (h : NRow w t a zs) (n : Nat) : NRow w t a (zs.take n) := by
  intro hp
  rw [List.length_take] at hp
  obtain ⟨b, off, e, hh, hc⟩ := h (by omega)
  refine ⟨b, off, e, hh, fun j hj => ?_⟩
  rw [List.length_take] at hj
  rw [hc j (by omega), List.getElem_take]
theorem nrow_nil (w : World) (t : TypeId) (a : Option Addr) : NRow w t a [] := fun h => by simp at h
theorem own_nrow {w : World} {base cap n : Nat} {e : TypeId} {a : Option Addr} {l : List Int} (h : w.ownsRow base e 1 (.slice a n cap) n (l.map nv)) (hn : n = l.length) : NRow w e a l := by
  intro hp
  rcases h.2 with ⟨h1, h2⟩ | ⟨g, cap', cur, h1, hb, hh, hnc, hcm, hcs, htake⟩
  · omega
  · injection h1 with e1 e2 e3
    subst e1
    refine ⟨g, 0, rfl, ⟨cur, hh⟩, fun j hj => ?_⟩
    rw [Nat.zero_add, cell_of_row _ _ j cur _ _ hh]
    have h2 : (cur.toList.take (n * 1))[j]? = some (nv l[j]) := by rw [htake]; simp [hj]
    rw [List.getElem?_take, if_pos (by omega)] at h2
    simpa [nv] using h2
theorem own_cap {w : World} {base cap n size : Nat} {e : TypeId} {a : Option Addr} {xs : List Value} (h : w.ownsRow base e size (.slice a n cap) n xs) : n ≤ cap := by
  rcases h.2 with ⟨h1, h2⟩ | ⟨g, cap', cur, h1, hb, hh, hnc, hcm, hcs, htake⟩
  · omega
  · injection h1 with e1 e2 e3
    subst e3
    exact hnc
/-- A place of a row of one's own: what is there, and that it may be written. -/
theorem own_at {w : World} {base cap n : Nat} {e : TypeId} {a : Option Addr} {l : List Int} (h : w.ownsRow base e 1 (.slice a n cap) n (l.map nv)) (hn : n = l.length) (i : Nat) (hi : i < n) :
    ∃ g, a = some ⟨g, 0, none⟩ ∧ base ≤ g ∧ w.cell? ⟨g, i, none⟩ = some (.int .i64 (l[i]'(by omega))) ∧ w.frozen? ⟨g, i, none⟩ = false := by
  rcases h.2 with ⟨h1, h2⟩ | ⟨g, cap', cur, h1, hb, hh, hnc, hcm, hcs, htake⟩
  · omega
  · injection h1 with e1 e2 e3
    subst e1
    refine ⟨g, rfl, hb, ?_, frozen_of_row _ _ i _ _ hh⟩
    rw [cell_of_row _ _ i cur _ _ hh]
    have h2 : (cur.toList.take (n * 1))[i]? = some (nv (l[i]'(by omega))) := by rw [htake]; simp [show i < l.length by omega]
    rw [List.getElem?_take, if_pos (by omega)] at h2
    simpa [nv] using h2
theorem own_set {w : World} {base cap n g : Nat} {e : TypeId} {l : List Int} (h : w.ownsRow base e 1 (.slice (some ⟨g, 0, none⟩) n cap) n (l.map nv)) (i : Nat) (z : Int) : (w.setCell ⟨g, i, none⟩ (.int .i64 z)).ownsRow base e 1 (.slice (some ⟨g, 0, none⟩) n cap) n ((l.set i z).map nv) := by
  have := own_put h i (.int .i64 z)
  rw [List.map_set]
  exact this
/-- append of a row of numbers, also of none. -/
theorem run_append_nums (w : World) (t ty e : TypeId) (base : Nat) (i : TypeInfo) (ht : Try.prog.underlying t = some (.slice e)) (hi : Try.prog.info? e = some i) (hz : i.zero = some (.int .i64 0))
    (hsize : i.size = 1) (hby : i.bytes = 8) (v : Value) (n : Nat) (xs : List Value) (hown : w.ownsRow base e 1 v n xs)
    (a : Option Addr) (c : Nat) (l : List Int) (te : TypeId) (hr : NRow w te a l) (h63 : n + l.length ≤ 1000000) (hbase : base ≤ w.heap.size) :
    ∃ a' cap w', (Builtin.append_ #[t, t] ty #[v, .slice a l.length c]).run Try.prog w = .ok (.slice a' (n + l.length) cap) w' ∧
      w'.ownsRow base e 1 (.slice a' (n + l.length) cap) (n + l.length) (xs ++ l.map nv) ∧ w.grownBy w' v.ownBlock := by
  rcases Nat.eq_zero_or_pos l.length with h0 | h0
  · obtain rfl : l = [] := List.length_eq_zero_iff.1 h0
    have hsrc : Src Try.prog i.size t (.slice a 0 c) 0 [] w := by
      cases a with
      | none => exact Src.ofNil w ht c
      | some ad => exact Src.ofSlice w ht ad 0 c [] (by simp) (by simp) (by simp)
    have key : ∀ base' cap', v = .slice base' n cap' → n ≤ cap' → (Builtin.append_ #[t, t] ty #[v, .slice a 0 c]).run Try.prog w = .ok (.slice base' n cap') w := by
      intro base' cap' hv hle
      rw [hv]
      exact run_append_nothing w t t ty e i ht hi base' n cap' hle _ hsrc
    have hxs : xs ++ ([] : List Int).map nv = xs := by simp
    rw [hxs]
    rcases hown.2 with ⟨hv, hn⟩ | ⟨g, cap, cur, hv, r⟩
    · subst hn
      refine ⟨none, 0, w, key none 0 hv (Nat.le_refl _), ?_, World.grownBy.refl _ _⟩
      rw [hv] at hown; exact hown
    · refine ⟨some ⟨g, 0, none⟩, cap, w, key _ _ hv r.2.2.1, ?_, World.grownBy.refl _ _⟩
      rw [hv] at hown; exact hown
  · obtain ⟨b, off, rfl, _, hc⟩ := hr h0
    obtain ⟨g, cap, w', h1, h2, h3, _, _⟩ := run_append_lies (P := Try.prog) w t ty base e i (.int .i64 0) 1 8 ht hi hz hsize hby rfl (by omega) v n xs hown ⟨b, off, none⟩ l.length c (l.map nv) (by simp) (fun j u hu => by
      have hj : j < l.length := by have := (List.getElem?_eq_some_iff.1 hu).1; simpa using this
      rw [Addr.add_lit, hc j hj]
      simp [hj, nv] at hu
      rw [hu]) (nv_one l) h0 (by unfold maxLen; omega) (by omega) hbase _ rfl
    exact ⟨_, cap, w', h1, h2, h3⟩
theorem wpList_append_nums {ops : Array Oper} {rest : List Oper} {o : Oper} {a : Act} {Q : Exit → Act → World → Prop} (w : World) (hgd : o.guard = none) (s x : Operand) (t : TypeId)
    (ho : o.op = .call { callee := .builtin .append, args := #[s, x], argTypes := #[t, t] })
    (base : Nat) (e : TypeId) (i : TypeInfo) (ht : Try.prog.underlying t = some (.slice e)) (hi : Try.prog.info? e = some i) (hz : i.zero = some (.int .i64 0))
    (hsize : i.size = 1) (hby : i.bytes = 8)
    (v : Value) (n : Nat) (xs : List Value) (hs : a.eval s = v) (hown : w.ownsRow base e 1 v n xs)
    (ax : Option Addr) (c : Nat) (l : List Int) (te : TypeId) (hx : a.eval x = .slice ax l.length c) (hr : NRow w te ax l)
    (h63 : n + l.length ≤ 1000000) (hbase : base ≤ w.heap.size)
    (h : ∀ a' cap w', w'.ownsRow base e 1 (.slice a' (n + l.length) cap) (n + l.length) (xs ++ l.map nv) → w.grownBy w' v.ownBlock → wpList Try.prog ops Q rest (a.put o.dst (.slice a' (n + l.length) cap)) w') : wpList Try.prog ops Q (o :: rest) a w := by
  refine wpList_plain hgd fun _ hK => ?_
  obtain ⟨a', cap, w', hr', h2, h3⟩ := run_append_nums w t o.type e base i ht hi hz hsize hby v n xs hown ax c l te hr h63 hbase
  unfold Oper.wp execOp
  simp only [ho, resolve, invoke, builtin, Sem.run_bind, Sem.run_pure, Result.andThen_ok, List.map_toArray, List.map_cons, List.map_nil, hs, hx, hr']
  exact hK _ _ (h a' cap w' h2 h3)
theorem Try.infoI64 : (Try.prog.info? 2).map (fun i => (i.zero, i.size, i.bytes)) = some (some (.int .i64 0), 1, 8) := by kernel_rfl
/-- A block of four cells: what is read there, and that it may be written. -/
theorem four_cells {W : World} {b : Nat} {x0 x1 x2 x3 : Value} {t : TypeId} (h : W.heap[b]? = some (.cells #[x0, x1, x2, x3] t (0, 0))) :
    (W.cell? ⟨b, 0, none⟩ = some x0 ∧ W.cell? ⟨b, 1, none⟩ = some x1 ∧ W.cell? ⟨b, 2, none⟩ = some x2 ∧ W.cell? ⟨b, 3, none⟩ = some x3) ∧ W.frozen? ⟨b, 0, none⟩ = false ∧ W.frozen? ⟨b, 1, none⟩ = false ∧ W.frozen? ⟨b, 2, none⟩ = false ∧ W.frozen? ⟨b, 3, none⟩ = false :=
  ⟨⟨(cell_of_row _ _ 0 _ _ _ h).trans rfl, (cell_of_row _ _ 1 _ _ _ h).trans rfl, (cell_of_row _ _ 2 _ _ _ h).trans rfl, (cell_of_row _ _ 3 _ _ _ h).trans rfl⟩, frozen_of_row _ _ 0 _ _ h, frozen_of_row _ _ 1 _ _ h, frozen_of_row _ _ 2 _ _ h, frozen_of_row _ _ 3 _ _ h⟩
abbrev set4 (W : World) (b : Nat) (y0 y1 y2 y3 : Value) : World := (((W.setCell ⟨b, 0, none⟩ y0).setCell ⟨b, 1, none⟩ y1).setCell ⟨b, 2, none⟩ y2).setCell ⟨b, 3, none⟩ y3
theorem four_put {W : World} {b : Nat} {x0 x1 x2 x3 : Value} {t : TypeId} (h : W.heap[b]? = some (.cells #[x0, x1, x2, x3] t (0, 0))) (y0 y1 y2 y3 : Value) : (set4 W b y0 y1 y2 y3).heap[b]? = some (.cells #[y0, y1, y2, y3] t (0, 0)) :=
  heap_setCell_same _ _ _ _ _ _ (heap_setCell_same _ _ _ _ _ _ (heap_setCell_same _ _ _ _ _ _ (heap_setCell_same _ _ _ _ _ _ h)))
theorem set_far {W : World} {b c i : Nat} {o : Obj} {v : Value} (h : W.heap[b]? = some o) (hne : b ≠ c) : (W.setCell ⟨c, i, none⟩ v).heap[b]? = some o := by
  rw [heap_setCell_other _ _ _ _ (by simpa using hne)]; exact h
theorem four_far {W : World} {b c : Nat} {o : Obj} (h : W.heap[b]? = some o) (hne : b ≠ c) (y0 y1 y2 y3 : Value) : (set4 W c y0 y1 y2 y3).heap[b]? = some o := set_far (set_far (set_far (set_far h hne) hne) hne) hne
theorem four_below {w W : World} {b : Nat} (h : Go.RowKit.Below w.heap.size w W) (hb : w.heap.size ≤ b) (y0 y1 y2 y3 : Value) : Go.RowKit.Below w.heap.size w (set4 W b y0 y1 y2 y3) := (((h.setCell hb _).setCell hb _).setCell hb _).setCell hb _
theorem cell_far {W : World} {b i c j : Nat} {v u : Value} (h : W.cell? ⟨b, i, none⟩ = some u) (hne : b ≠ c) : (W.setCell ⟨c, j, none⟩ v).cell? ⟨b, i, none⟩ = some u := (World.cell?_setCell_other _ _ _ _ (by simp <;> omega)).trans h
theorem nrow_far {W : World} {t : TypeId} {a : Option Addr} {zs : List Int} {c j : Nat} {v : Value} (h : NRow W t a zs) (hne : 0 < zs.length → ∀ b off, a = some ⟨b, off, none⟩ → b ≠ c) : NRow (W.setCell ⟨c, j, none⟩ v) t a zs := by
  intro hp
  obtain ⟨b, off, e, ⟨cur, hh⟩, hc⟩ := h hp
  exact ⟨b, off, e, ⟨cur, set_far hh (hne hp b off e)⟩, fun i hi => cell_far (hc i hi) (hne hp b off e)⟩
/-- A row is in no block of another type. -/
theorem nrow_ne {W : World} {t t' : TypeId} {a : Option Addr} {zs : List Int} {c : Nat} {cur' : Array Value} (h : NRow W t a zs) (hc : W.heap[c]? = some (.cells cur' t' (0, 0))) (ht : t' ≠ t) : 0 < zs.length → ∀ b off, a = some ⟨b, off, none⟩ → b ≠ c := by
  intro hp b off e hbc
  obtain ⟨b', off', e', ⟨cur, hh⟩, _⟩ := h hp
  rw [e] at e'
  injection e' with e'
  injection e' with e1
  subst e1
  subst hbc
  rw [hh] at hc
  injection hc with hc
  injection hc with _ hc _
  exact ht hc.symm
theorem nrow_set4 {W : World} {t t' : TypeId} {a : Option Addr} {zs : List Int} {c : Nat} {cur' : Array Value} (h : NRow W t a zs) (hc : W.heap[c]? = some (.cells cur' t' (0, 0))) (ht : t' ≠ t) (y0 y1 y2 y3 : Value) : NRow (set4 W c y0 y1 y2 y3) t a zs :=
  nrow_far (nrow_far (nrow_far (nrow_far h (nrow_ne h hc ht)) (nrow_ne h hc ht)) (nrow_ne h hc ht)) (nrow_ne h hc ht)
/-- The document's arena as a value, and its rows. -/
abbrev arV (a : Ar) (fa : Option Addr) (fc : Nat) (la : Option Addr) (lc : Nat) : Value := .agg #[.int .i64 a.room, .int .i64 a.ever, .slice fa a.free.length fc, .slice la a.l.length lc]
abbrev arB (a : Ar) (fa : Option Addr) (fc : Nat) (la : Option Addr) (lc : Nat) : Obj := .cells #[.int .i64 a.room, .int .i64 a.ever, .slice fa a.free.length fc, .slice la a.l.length lc] 31
abbrev arZ : Obj := .cells #[.int .i64 0, .int .i64 0, .slice none 0 0, .slice none 0 0] 31
abbrev anV (x : An) : Value := .agg #[.int .i64 x.i, .int .i64 x.v, .bool x.b, .int .i64 x.e]
abbrev anZ : Obj := .cells #[.int .i64 0, .int .i64 0, .bool false, .int .i64 0] 37
structure ArAt (w : World) (a : Ar) (fa : Option Addr) (fc : Nat) (la : Option Addr) (lc : Nat) : Prop where
  fr : NRow w 3 fa a.free
  fn : a.free.length ≤ fc
  lr : NRow w 2 la a.l
  ln : a.l.length ≤ lc
theorem ArAt.below {w w' : World} {a : Ar} {fa : Option Addr} {fc : Nat} {la : Option Addr} {lc : Nat} (h : ArAt w a fa fc la lc) (hb : Go.RowKit.Below w.heap.size w w') : ArAt w' a fa fc la lc := ⟨h.fr.below hb, h.fn, h.lr.below hb, h.ln⟩
/-- A row of free places is where the one ahead of the call was, or in a new block. -/
def Frm (w w' : World) (fa0 fa : Option Addr) : Prop := ∀ b off, fa = some ⟨b, off, none⟩ → (∃ o, fa0 = some ⟨b, o, none⟩) ∨ (w.heap.size ≤ b ∧ b < w'.heap.size)
theorem frm_same (w w' : World) (fa : Option Addr) : Frm w w' fa fa := fun b off h => .inl ⟨off, h⟩
theorem frm_none (w w' : World) (fa : Option Addr) : Frm w w' fa none := fun b off h => by cases h
theorem frm_new {w w' : World} {fa : Option Addr} {g o : Nat} (h : w.heap.size ≤ g) (h2 : g < w'.heap.size) : Frm w w' fa (some ⟨g, o, none⟩) := fun b off e => by injection e with e; injection e with e1; exact .inr (e1 ▸ ⟨h, h2⟩)
theorem Frm.up {w w' W W' : World} {fa0 fa : Option Addr} (h : Frm W W' fa0 fa) (hs : w.heap.size ≤ W.heap.size) (hs2 : W'.heap.size ≤ w'.heap.size) : Frm w w' fa0 fa := fun b off e => (h b off e).imp id (fun h2 => ⟨Nat.le_trans hs h2.1, Nat.lt_of_lt_of_le h2.2 hs2⟩)
theorem nrow_lt {W : World} {t : TypeId} {g o : Nat} {zs : List Int} (h : NRow W t (some ⟨g, o, none⟩) zs) (hp : 0 < zs.length) : g < W.heap.size := by
  obtain ⟨b, off, e, ⟨cur, hh⟩, _⟩ := h hp
  injection e with e
  injection e with e1
  subst e1
  exact lt_of_block hh
/-- What a call of the document's arena leaves. -/
def ArPost (x : Ar × An) (w : World) (fa0 : Option Addr) (e : Ending) (w' : World) : Prop := ∃ fa fc la lc, (e = .returned (.tuple #[arV x.1 fa fc la lc, anV x.2]) ∧ ArAt w' x.1 fa fc la lc) ∧ Go.RowKit.Below w.heap.size w w' ∧ Frm w w' fa0 fa

set_option maxRecDepth 100000 in
set_option maxHeartbeats 1000000 in
theorem rarnew_any (room : Int) (w : World) : Calls Try.prog 12 #[.int .i64 room] w fun e w' => e = .returned (.tuple #[.agg #[.int .i64 (if 0 ≤ room ∧ room ≤ 65536 then room else 0), .int .i64 0, .slice none 0 0, .slice none 0 0], .bool (decide (0 ≤ room ∧ room ≤ 65536))]) ∧ Go.RowKit.Below w.heap.size w w' := by
  by_cases h : 0 ≤ room ∧ room ≤ 65536
  · rw [if_pos h, decide_eq_true h]
    have t1 : decide (room < 0) = false := decide_eq_false (by omega)
    have t2 : decide (65536 < room) = false := decide_eq_false (by omega)
    clear h
    go_enter Try.func12, Try.ntmps12
    go_wp2_with fail
    refine bodyPost_ret (v := .tuple #[.agg #[.int .i64 room, .int .i64 0, .slice none 0 0, .slice none 0 0], .bool true]) (by simp [results, Try.results12, go_sem]) rfl ?_
    exact ⟨rfl, below_new _ _⟩
  · rw [if_neg h, decide_eq_false h]
    by_cases h1 : room < 0
    · have t1 : decide (room < 0) = true := decide_eq_true h1
      clear h h1
      go_enter Try.func12, Try.ntmps12
      go_wp2_with fail
      refine bodyPost_ret (v := .tuple #[.agg #[.int .i64 0, .int .i64 0, .slice none 0 0, .slice none 0 0], .bool false]) (by simp [results, Try.results12, go_sem]) rfl ?_
      exact ⟨rfl, below_new _ _⟩
    · have t1 : decide (room < 0) = false := decide_eq_false h1
      have t2 : decide (65536 < room) = true := decide_eq_true (by omega)
      clear h h1
      go_enter Try.func12, Try.ntmps12
      go_wp2_with fail
      refine bodyPost_ret (v := .tuple #[.agg #[.int .i64 0, .int .i64 0, .slice none 0 0, .slice none 0 0], .bool false]) (by simp [results, Try.results12, go_sem]) rfl ?_
      exact ⟨rfl, below_new _ _⟩

theorem contains_snoc (l : List Int) (z i : Int) : (l ++ [z]).contains i = (l.contains i || (z == i)) := by
  rw [Bool.eq_iff_iff, Bool.or_eq_true, List.contains_iff_mem, List.contains_iff_mem, List.mem_append, beq_iff_eq, List.mem_singleton]
  exact or_congr_right eq_comm
set_option maxRecDepth 100000 in
set_option maxHeartbeats 2000000 in
theorem raris_any (a : Ar) (fa : Option Addr) (fc : Nat) (la : Option Addr) (lc : Nat) (i : Int) (w : World) (h : ArAt w a fa fc la lc) (hl : a.free.length ≤ 100000) :
    Calls Try.prog 20 #[arV a fa fc la lc, .int .i64 i] w fun e w' => e = .returned (.bool (a.is i)) ∧ Go.RowKit.Below w.heap.size w w' := by
  have hb0 : (w.alloc (arB a fa fc la lc)).heap[w.heap.size]? = some (arB a fa fc la lc) := heap_alloc_new _ _
  have hL0 := below_new w (arB a fa fc la lc)
  have HF := Lib.hid (h.fr.below hL0)
  have HB := Lib.hid hb0
  obtain ⟨EV, hEV⟩ : ∃ EV, a.is i = EV := ⟨_, rfl⟩
  rw [hEV]
  have HEV := Lib.hid hEV
  clear h hEV hb0
  go_enter Try.func20, Try.ntmps20
  go_wp2_with fail
  generalize w.alloc (arB a fa fc la lc) = X at *
  go_loopw [5] (fun k wr => ∃ j : Nat, k = .int .i64 (j : Int) ∧ j ≤ a.free.length ∧ (a.free.take j).contains i = false ∧ Go.RowKit.Below X.heap.size X wr) (fun k _ => a.free.length - (intOf k).toNat)
  case atStart => exact ⟨0, rfl, Nat.zero_le _, rfl, Go.RowKit.Below.refl _ _⟩
  case round =>
    obtain ⟨j, rfl, hj, hno, hBr⟩ := hrel
    have HNO := Lib.hid hno
    obtain ⟨⟨c1, c2, c3, c4⟩, _⟩ := four_cells (box_on HB.out hBr)
    clear hno
    by_cases hlt : j < a.free.length
    · obtain ⟨b, off, rfl, _, hc⟩ := (HF.out.below hBr) (by omega)
      have hcj := hc j hlt
      have ti0 : (0 : Int) ≤ (j : Int) := by omega
      have ti1 : (j : Int) < (a.free.length : Int) := by omega
      have HTK : Hid ((a.free.take (j + 1)).contains i = ((a.free.take j).contains i || (a.free[j] == i))) := by
        show _ = _
        rw [List.take_succ_eq_append_getElem hlt, contains_snoc]
      clear hc
      have HIN : Hid (a.free[j] ∈ a.free) := List.getElem_mem _
      generalize a.free[j] = z at *
      by_cases hz : z = i
      · subst hz
        have HE : Hid (EV = false) := by
          show _ = _
          rw [← HEV.out]
          unfold Ar.is
          rw [show a.free.contains z = true from by simpa using HIN.out]; rfl
        have t1 : (z == z) = true := beq_self_eq_true _
        go_wp2_with fail
        go_ret
        refine ⟨?_, bt hL0 hBr⟩
        rw [HE.out]; rfl
      · have t1 : (z == i) = false := beq_eq_false_iff_ne.2 hz
        have HT2 : Hid ((a.free.take (j + 1)).contains i = false) := by
          show _ = _
          rw [HTK.out, HNO.out, t1]; rfl
        go_wp2_with fail
        go_roundw
        case rel => exact ⟨j + 1, by go_num, by omega, HT2.out, hBr⟩
        case measure => simp [intOf]; omega
    · obtain rfl : j = a.free.length := by omega
      have HE : Hid (EV = (decide (0 ≤ i) && decide (i < a.ever))) := by
        show _ = _
        have := HNO.out
        rw [List.take_length] at this
        rw [← HEV.out]
        unfold Ar.is
        rw [this]; rfl
      by_cases h0 : 0 ≤ i
      · have t1 : decide (0 ≤ i) = true := decide_eq_true h0
        go_wp2_with fail
        go_ret
        refine ⟨?_, bt hL0 hBr⟩
        rw [HE.out, t1]; rfl
      · have t1 : decide (0 ≤ i) = false := decide_eq_false h0
        go_wp2_with fail
        go_ret
        refine ⟨?_, bt hL0 hBr⟩
        rw [HE.out, t1]; rfl
end Go.Proofs.Ytdebmokpdchgpaa

/- Contracts of the reference's arena: put, Do. -/
namespace Go.Proofs.Ytdebmokpdchgpaa
open Go.RowKit Go.Sort Go.Proofs.Ytdebmokpdchgpaa.Bo
set_option linter.unusedVariables false

/-- The three blocks of a call: the arena's own, and the results'. -/
structure Ar3 (w : World) (r e f l : Value) (W : World) : Prop where
  bx : W.heap[w.heap.size]? = some (.cells #[r, e, f, l] 31 (0, 0))
  ra : W.heap[w.heap.size + 1]? = some (.cells #[.int .i64 0, .int .i64 0, .slice none 0 0, .slice none 0 0] 31 (0, 0))
  rn : W.heap[w.heap.size + 1 + 1]? = some (.cells #[.int .i64 0, .int .i64 0, .bool false, .int .i64 0] 37 (0, 0))
  be : Go.RowKit.Below w.heap.size w W
theorem new_at' {W : World} {n : Nat} (o : Obj) (h : W.heap.size = n) : (W.alloc o).heap[n]? = some o := h ▸ heap_alloc_new W o
theorem Ar3.on {w : World} {r e f l : Value} {W W' : World} (h : Ar3 w r e f l W) (hb : Go.RowKit.Below W.heap.size W W') : Ar3 w r e f l W' := ⟨box_on h.bx hb, box_on h.ra hb, box_on h.rn hb, bt h.be hb⟩
theorem Ar3.lt {w : World} {r e f l : Value} {W : World} (h : Ar3 w r e f l W) : w.heap.size + 2 < W.heap.size := lt_of_block h.rn
theorem Ar3.far {w : World} {r e f l : Value} {W : World} (h : Ar3 w r e f l W) (c i : Nat) (v : Value) (hc : w.heap.size + 2 < c) : Ar3 w r e f l (W.setCell ⟨c, i, none⟩ v) :=
  ⟨set_far h.bx (by omega), set_far h.ra (by omega), set_far h.rn (by omega), h.be.setCell (by show w.heap.size ≤ c; omega) _⟩
theorem Ar3.put1 {w : World} {r e f l : Value} {W : World} (h : Ar3 w r e f l W) (v : Value) : Ar3 w r v f l (W.setCell ⟨w.heap.size, 1, none⟩ v) := ⟨heap_setCell_same _ _ _ _ _ _ h.bx, set_far h.ra (by omega), set_far h.rn (by omega), h.be.setCell (Nat.le_refl _) _⟩
theorem Ar3.put2 {w : World} {r e f l : Value} {W : World} (h : Ar3 w r e f l W) (v : Value) : Ar3 w r e v l (W.setCell ⟨w.heap.size, 2, none⟩ v) := ⟨heap_setCell_same _ _ _ _ _ _ h.bx, set_far h.ra (by omega), set_far h.rn (by omega), h.be.setCell (Nat.le_refl _) _⟩
theorem Ar3.put3 {w : World} {r e f l : Value} {W : World} (h : Ar3 w r e f l W) (v : Value) : Ar3 w r e f v (W.setCell ⟨w.heap.size, 3, none⟩ v) := ⟨heap_setCell_same _ _ _ _ _ _ h.bx, set_far h.ra (by omega), set_far h.rn (by omega), h.be.setCell (Nat.le_refl _) _⟩
/-- The results are laid. -/
abbrev arEnd (w W : World) (x0 x1 x2 x3 y0 y1 y2 y3 : Value) : World := set4 (set4 W (w.heap.size + 1) x0 x1 x2 x3) (w.heap.size + 1 + 1) y0 y1 y2 y3
theorem Ar3.done {w : World} {r e f l : Value} {W : World} (h : Ar3 w r e f l W) (x0 x1 x2 x3 y0 y1 y2 y3 : Value) :
    ((arEnd w W x0 x1 x2 x3 y0 y1 y2 y3).heap[w.heap.size + 1]? = some (.cells #[x0, x1, x2, x3] 31 (0, 0)) ∧ (arEnd w W x0 x1 x2 x3 y0 y1 y2 y3).heap[w.heap.size + 1 + 1]? = some (.cells #[y0, y1, y2, y3] 37 (0, 0))) ∧
    (set4 W (w.heap.size + 1) x0 x1 x2 x3).heap[w.heap.size + 1 + 1]? = some (.cells #[.int .i64 0, .int .i64 0, .bool false, .int .i64 0] 37 (0, 0)) ∧
    Go.RowKit.Below w.heap.size w (arEnd w W x0 x1 x2 x3 y0 y1 y2 y3) :=
  ⟨⟨four_far (four_put h.ra _ _ _ _) (by omega) _ _ _ _, four_put (four_far h.rn (by omega) _ _ _ _) _ _ _ _⟩, four_far h.rn (by omega) _ _ _ _, four_below (four_below h.be (by omega) _ _ _ _) (by omega) _ _ _ _⟩
theorem Ar3.new (w : World) (a : Ar) (fa : Option Addr) (fc : Nat) (la : Option Addr) (lc : Nat) : Ar3 w (.int .i64 a.room) (.int .i64 a.ever) (.slice fa a.free.length fc) (.slice la a.l.length lc) (((w.alloc (arB a fa fc la lc)).alloc arZ).alloc anZ) :=
  ⟨box_on (box_on (heap_alloc_new w _) (below_new _ _)) (below_new _ _), box_on (new_at' _ (by simp)) (below_new _ _), new_at' _ (by simp), bt (bt (below_new _ _) (below_new _ _)) (below_new _ _)⟩
end Go.Proofs.Ytdebmokpdchgpaa

/- Contract of the reference's put. -/
namespace Go.Proofs.Ytdebmokpdchgpaa
open Go.RowKit Go.Sort Go.Proofs.Ytdebmokpdchgpaa.Bo
set_option linter.unusedVariables false
set_option maxRecDepth 100000 in
set_option maxHeartbeats 400000 in
theorem rarput_full (room ever v : Int) (fa : Option Addr) (fn fc : Nat) (la : Option Addr) (ln lc : Nat) (w : World) (h1 : 0 ≤ ever) (h2 : ever ≤ 10000) (h3 : fn ≤ 10000) (hfull : room ≤ ever - (fn : Int)) :
    Calls Try.prog 24 #[.agg #[.int .i64 room, .int .i64 ever, .slice fa fn fc, .slice la ln lc], .int .i64 v] w (fun e w' => e = .returned (.tuple #[.agg #[.int .i64 room, .int .i64 ever, .slice fa fn fc, .slice la ln lc], anV ⟨0, 0, false, 50⟩]) ∧ Go.RowKit.Below w.heap.size w w') := by
  have t1 : decide (room ≤ ever - (fn : Int)) = true := decide_eq_true hfull
  clear hfull
  go_enter Try.func24, Try.ntmps24
  go_upto_region 1 with fail
  have HX0 : Hid (Ar3 w (.int .i64 room) (.int .i64 ever) (.slice fa fn fc) (.slice la ln lc) (((w.alloc (.cells #[.int .i64 room, .int .i64 ever, .slice fa fn fc, .slice la ln lc] 31)).alloc arZ).alloc anZ)) := ⟨box_on (box_on (heap_alloc_new w _) (below_new _ _)) (below_new _ _), box_on (new_at' _ (by simp)) (below_new _ _), new_at' _ (by simp), bt (bt (below_new _ _) (below_new _ _)) (below_new _ _)⟩
  generalize (((w.alloc (.cells #[.int .i64 room, .int .i64 ever, .slice fa fn fc, .slice la ln lc] 31)).alloc arZ).alloc anZ) = X0 at *
  obtain ⟨⟨c1, c2, c3, c4⟩, _⟩ := four_cells HX0.out.bx
  obtain ⟨⟨d1, d2, d3, d4⟩, e1, e2, e3, e4⟩ := four_cells HX0.out.ra
  obtain ⟨⟨hf1, hf2⟩, hf3, hf4⟩ := HX0.out.done (.int .i64 room) (.int .i64 ever) (.slice fa fn fc ) (.slice la ln lc) (.int .i64 0) (.int .i64 0) (.bool false) (.int .i64 50)
  obtain ⟨⟨m1, m2, m3, m4⟩, n1, n2, n3, n4⟩ := four_cells hf3
  obtain ⟨⟨f1, f2, f3, f4⟩, _⟩ := four_cells hf1
  obtain ⟨⟨g1, g2, g3, g4⟩, _⟩ := four_cells hf2
  clear hf1 hf2 hf3
  go_upto_region 2 with fail
  go_wp2_with fail
  refine bodyPost_ret (v := .tuple #[.agg #[.int .i64 room, .int .i64 ever, .slice fa fn fc, .slice la ln lc], anV ⟨0, 0, false, 50⟩]) (by simp [results, Try.results24, go_sem, f1, f2, f3, f4, g1, g2, g3, g4]) rfl ?_
  exact ⟨rfl, hf4⟩
theorem ar3_new (w : World) (room ever : Int) (fa : Option Addr) (fn fc : Nat) (la : Option Addr) (ln lc : Nat) : Ar3 w (.int .i64 room) (.int .i64 ever) (.slice fa fn fc) (.slice la ln lc) (((w.alloc (.cells #[.int .i64 room, .int .i64 ever, .slice fa fn fc, .slice la ln lc] 31)).alloc arZ).alloc anZ) :=
  ⟨box_on (box_on (heap_alloc_new w _) (below_new _ _)) (below_new _ _), box_on (new_at' _ (by simp)) (below_new _ _), new_at' _ (by simp), bt (bt (below_new _ _) (below_new _ _)) (below_new _ _)⟩
theorem own_empty (X : World) (e : TypeId) : (X.alloc (.cells #[] e)).ownsRow X.heap.size e 1 (.slice (some ⟨X.heap.size, 0, none⟩) 0 0) 0 [] := ⟨rfl, .inr ⟨X.heap.size, 0, #[], rfl, Nat.le_refl _, heap_alloc_new _ _, Nat.le_refl _, Nat.zero_le _, rfl, rfl⟩⟩
theorem four_drew {W : World} {b : Nat} {o : Obj} (h : W.heap[b]? = some o) : W.drew.heap[b]? = some o := h
theorem nrow_drew {W : World} {t : TypeId} {a : Option Addr} {zs : List Int} (h : NRow W t a zs) : NRow W.drew t a zs := h
/-- What a put that takes a place leaves. -/
def PutPost5 (w : World) (R E : Int) (F : Value) (l' : List Int) (I : Int) (e : Ending) (w' : World) : Prop := ∃ (g cap : Nat), (e = .returned (.tuple #[.agg #[.int .i64 R, .int .i64 E, F, .slice (some ⟨g, 0, none⟩) l'.length cap], anV ⟨I, 0, false, 0⟩]) ∧ NRow w' 2 (some ⟨g, 0, none⟩) l' ∧ l'.length ≤ cap) ∧ Go.RowKit.Below w.heap.size w w'
set_option maxRecDepth 100000 in
set_option maxHeartbeats 2000000 in
theorem rarput_free (room ever v : Int) (fb foff fn fc iN : Nat) (la : Option Addr) (lc : Nat) (l : List Int) (w : World) (h1 : 0 ≤ ever) (h2 : ever ≤ 10000) (h3 : fn ≤ 10000) (h4 : 0 < fn) (h5 : fn ≤ fc) (h6 : l.length ≤ 10000) (hil : iN < l.length) (hno : ¬ room ≤ ever - (fn : Int)) (hr1 : 0 ≤ room) (hr2 : room ≤ 65536)
    (HL : Hid (NRow w 2 la l)) (HC : Hid (w.cell? ⟨fb, foff + (fn - 1), none⟩ = some (.int .i64 (iN : Int)))) :
    Calls Try.prog 24 #[.agg #[.int .i64 room, .int .i64 ever, .slice (some ⟨fb, foff, none⟩) fn fc, .slice la l.length lc], .int .i64 v] w (PutPost5 w room ever (.slice (some ⟨fb, foff, none⟩) (fn - 1) fc) (l.set iN v) (iN : Int)) := by
  obtain ⟨i0, hi, hz0, hz1, hz2⟩ := info_parts Try.infoI64
  have t1 : decide (room ≤ ever - (fn : Int)) = false := decide_eq_false hno
  have t2 : decide ((0 : Int) < (fn : Int)) = true := decide_eq_true (by omega)
  have HX0 := Lib.hid (ar3_new w room ever (some ⟨fb, foff, none⟩) fn fc la l.length lc)
  have hfb : fb < w.heap.size := World.block_lt_of_cell? w _ HC.out
  clear hno
  go_enter Try.func24, Try.ntmps24
  go_upto_region 1 with fail
  generalize (((w.alloc (.cells #[.int .i64 room, .int .i64 ever, .slice (some ⟨fb, foff, none⟩) fn fc, .slice la l.length lc] 31)).alloc arZ).alloc anZ) = X0 at *
  obtain ⟨⟨c1, c2, c3, c4⟩, _⟩ := four_cells HX0.out.bx
  go_upto_region 3 with fail
  have hB0 := below_new X0 (.cells #[] 2)
  obtain ⟨⟨b1, b2, b3, b4⟩, _⟩ := four_cells (box_on HX0.out.bx hB0)
  have HO0 := Lib.hid (own_empty X0 2)
  have HL0 := Lib.hid ((HL.out.below HX0.out.be).below hB0)
  have hX0l := HX0.out.lt
  go_upto_region 4 with (at_builtin; refine wpList_append_nums _ rfl _ _ 29 rfl X0.heap.size 2 i0 Try.underlying29 hi hz0 hz1 hz2 _ 0 [] (by rfl) HO0.out la lc l _ (by rfl) HL0.out (by omega) (by simp) ?_; intro a1 cap1 w1 hown1 hgrow1; rw [Nat.zero_add, List.nil_append] at hown1; have hB1 : Go.RowKit.Below X0.heap.size X0 w1 := hB0.grown hgrow1 (by simp) (fun k hk => (HO0.out.lt k hk).1); have HO1 := Lib.hid hown1; clear hown1 hgrow1)
  clear c1 c2 c3 c4 b1 b2 b3 b4 hB0 HL0 HO0
  have HA1 := Lib.hid (HX0.out.on hB1)
  have hcl := (hB1.cell (p := ⟨fb, foff + (fn - 1), none⟩) (by show fb < X0.heap.size; omega)).trans ((HX0.out.be.cell (p := ⟨fb, foff + (fn - 1), none⟩) hfb).trans HC.out)
  clear hB1 HX0 HC
  have HO2 := Lib.hid (own_far HO1.out w.heap.size 2 (.slice (some ⟨fb, foff, none⟩) (fn - 1) fc) (fun k hk => by have := (HO1.out.lt k hk).1; omega))
  obtain ⟨g, rfl, hg, hcg, hfg⟩ := own_at HO2.out rfl iN hil
  have HA2 := Lib.hid (HA1.out.put2 (.slice (some ⟨fb, foff, none⟩) (fn - 1) fc))
  have HA3 := Lib.hid (HA2.out.far g iN (.int .i64 v) (by omega))
  have HA4 := Lib.hid (HA3.out.put3 (.slice (some ⟨g, 0, none⟩) l.length cap1))
  have HO3 := Lib.hid (own_far (own_set HO2.out iN v) w.heap.size 3 (.slice (some ⟨g, 0, none⟩) l.length cap1) (fun k hk => by have := (HO2.out.lt k hk).1; omega))
  have HCAP := Lib.hid (own_cap HO1.out)
  generalize l[iN] = old at *
  obtain ⟨⟨c1, c2, c3, c4⟩, _, _, hz3, _⟩ := four_cells HA1.out.bx
  obtain ⟨⟨_, _, _, k4⟩, _, _, _, k5⟩ := four_cells HA3.out.bx
  obtain ⟨⟨o1, o2, o3, o4⟩, _⟩ := four_cells HA4.out.bx
  obtain ⟨⟨d1, d2, d3, d4⟩, e1, e2, e3, e4⟩ := four_cells HA4.out.ra
  obtain ⟨⟨hf1, hf2⟩, hf3, hf4⟩ := HA4.out.done (.int .i64 room) (.int .i64 ever) (.slice (some ⟨fb, foff, none⟩) (fn - 1) fc) (.slice (some ⟨g, 0, none⟩) l.length cap1) (.int .i64 (iN : Int)) (.int .i64 0) (.bool false) (.int .i64 0)
  obtain ⟨⟨m1, m2, m3, m4⟩, n1, n2, n3, n4⟩ := four_cells hf3
  obtain ⟨⟨f1, f2, f3, f4⟩, _⟩ := four_cells hf1
  obtain ⟨⟨g1, g2, g3, g4⟩, _⟩ := four_cells hf2
  have i1 : (0 : Int) ≤ (fn : Int) - 1 := by omega
  have i2 : (fn : Int) - 1 < (fn : Int) := by omega
  have i3 : ((fn : Int) - 1).toNat = fn - 1 := by omega
  have i4 : (fn : Int) - 1 ≤ (fc : Int) := by omega
  have i5 : (0 : Int) ≤ (iN : Int) := by omega
  have i6 : (iN : Int) < (l.length : Int) := by omega
  have HHF := Lib.hid hf4
  clear hf1 hf2 hf3 hf4 HA1 HA2 HA3 HA4 HO1 HO2
  go_wp2_with fail
  refine bodyPost_ret (v := .tuple #[.agg #[.int .i64 room, .int .i64 ever, .slice (some ⟨fb, foff, none⟩) (fn - 1) fc, .slice (some ⟨g, 0, none⟩) l.length cap1], anV ⟨(iN : Int), 0, false, 0⟩]) (by simp [results, Try.results24, go_sem, f1, f2, f3, f4, g1, g2, g3, g4]) rfl ?_
  refine ⟨g, cap1, ⟨by rw [List.length_set], ?_, by rw [List.length_set]; exact HCAP.out⟩, HHF.out⟩
  have h := own_nrow HO3.out (by simp)
  repeat (first | with_reducible exact h | refine nrow_far ?_ (fun _ b off e => by injection e with e; injection e with e1; omega))
set_option maxRecDepth 100000 in
set_option maxHeartbeats 2000000 in
theorem rarput_new (room ever v : Int) (fa : Option Addr) (fc : Nat) (la : Option Addr) (lc : Nat) (l : List Int) (w : World) (h1 : 0 ≤ ever) (h2 : ever ≤ 10000) (h6 : l.length ≤ 10000) (hno : ¬ room ≤ ever) (hr1 : 0 ≤ room) (hr2 : room ≤ 65536)
    (HL : Hid (NRow w 2 la l)) :
    Calls Try.prog 24 #[.agg #[.int .i64 room, .int .i64 ever, .slice fa 0 fc, .slice la l.length lc], .int .i64 v] w (PutPost5 w room (ever + 1) (.slice fa 0 fc) (l ++ [v]) ever) := by
  obtain ⟨i0, hi, hz0, hz1, hz2⟩ := info_parts Try.infoI64
  have t1 : decide (room ≤ ever) = false := decide_eq_false hno
  have HX0 := Lib.hid (ar3_new w room ever fa 0 fc la l.length lc)
  clear hno
  go_enter Try.func24, Try.ntmps24
  go_upto_region 1 with fail
  generalize (((w.alloc (.cells #[.int .i64 room, .int .i64 ever, .slice fa 0 fc, .slice la l.length lc] 31)).alloc arZ).alloc anZ) = X0 at *
  obtain ⟨⟨c1, c2, c3, c4⟩, _⟩ := four_cells HX0.out.bx
  go_upto_region 3 with fail
  have hB0 := below_new X0 (.cells #[] 2)
  obtain ⟨⟨b1, b2, b3, b4⟩, _⟩ := four_cells (box_on HX0.out.bx hB0)
  have HO0 := Lib.hid (own_empty X0 2)
  have HL0 := Lib.hid ((HL.out.below HX0.out.be).below hB0)
  have hX0l := HX0.out.lt
  go_upto_region 4 with (at_builtin; refine wpList_append_nums _ rfl _ _ 29 rfl X0.heap.size 2 i0 Try.underlying29 hi hz0 hz1 hz2 _ 0 [] (by rfl) HO0.out la lc l _ (by rfl) HL0.out (by omega) (by simp) ?_; intro a1 cap1 w1 hown1 hgrow1; rw [Nat.zero_add, List.nil_append] at hown1; have hB1 : Go.RowKit.Below X0.heap.size X0 w1 := hB0.grown hgrow1 (by simp) (fun k hk => (HO0.out.lt k hk).1); have HO1 := Lib.hid hown1; clear hown1 hgrow1)
  clear c1 c2 c3 c4 b1 b2 b3 b4 hB0 HL0 HO0
  have HA1 := Lib.hid (HX0.out.on hB1)
  have hsz1 := hB1.size
  obtain ⟨⟨c1, c2, c3, c4⟩, _⟩ := four_cells HA1.out.bx
  have hBn := below_new w1 (.cells #[.int .i64 v] 2)
  have HO1b := Lib.hid (own_on HO1.out hBn)
  have HN1 : Hid (NRow (w1.alloc (.cells #[.int .i64 v] 2)) 2 (some ⟨w1.heap.size, 0, none⟩) [v]) := by
    intro _
    refine ⟨w1.heap.size, 0, rfl, ⟨_, heap_alloc_new w1 _⟩, fun j hj => ?_⟩
    have : j = 0 := by simp at hj; exact hj
    subst this
    exact (cell_of_row _ _ 0 _ _ _ (heap_alloc_new w1 _)).trans rfl
  go_upto_region 11 with (at_builtin; refine wpList_append_nums _ rfl _ _ 29 rfl X0.heap.size 2 i0 Try.underlying29 hi hz0 hz1 hz2 _ l.length (l.map nv) (by rfl) HO1b.out (some ⟨w1.heap.size, 0, none⟩) 1 [v] 2 (by rfl) HN1.out (by simp; omega) (by simp; omega) ?_; intro a2 cap2 w2 hown2 hgrow2; have hB2 : Go.RowKit.Below X0.heap.size X0 w2 := (hB1.alloc (by omega) _).grown hgrow2 (by simp; omega) (fun k hk => (HO1b.out.lt k hk).1); have HO2 := Lib.hid hown2; have HA2 := Lib.hid (HX0.out.on hB2); obtain ⟨⟨_, _, _, k4⟩, _, _, _, k5⟩ := four_cells HA2.out.bx; clear hown2 hgrow2)
  have HOW : Hid (w2.ownsRow X0.heap.size 2 1 (.slice a2 (l ++ [v]).length cap2) (l ++ [v]).length ((l ++ [v]).map nv)) := by
    have h := HO2.out
    rw [List.map_append, List.length_append]
    exact h
  obtain ⟨g, rfl, hg, _, _⟩ := own_at HOW.out rfl 0 (by simp)
  have HCAP := Lib.hid (own_cap HOW.out)
  have HA3 := Lib.hid (HA2.out.put3 (.slice (some ⟨g, 0, none⟩) (l.length + 1) cap2))
  have HA4 := Lib.hid (HA3.out.put1 (.int .i64 (ever + 1)))
  have HNR := Lib.hid (nrow_far (nrow_far (own_nrow HOW.out rfl) (c := w.heap.size) (j := 3) (v := .slice (some ⟨g, 0, none⟩) (l.length + 1) cap2) (fun _ b off e => by injection e with e; injection e with e1; omega)) (c := w.heap.size) (j := 1) (v := .int .i64 (ever + 1)) (fun _ b off e => by injection e with e; injection e with e1; omega))
  obtain ⟨⟨c1, c2, c3, c4⟩, _, x2, _, _⟩ := four_cells HA3.out.bx
  clear k4 k5 HO2 HOW HN1 HO1b HO1 HA1 HA2 hB1 hB2 hBn HX0 hsz1
  go_upto_region 12 with fail
  generalize (w2.setCell ⟨w.heap.size, 3, none⟩ (.slice (some ⟨g, 0, none⟩) (l.length + 1) cap2)).setCell ⟨w.heap.size, 1, none⟩ (.int .i64 (ever + 1)) = X4 at *
  clear c1 c2 c3 c4 x2 HA3
  obtain ⟨⟨o1, o2, o3, o4⟩, _⟩ := four_cells HA4.out.bx
  obtain ⟨⟨d1, d2, d3, d4⟩, e1, e2, e3, e4⟩ := four_cells HA4.out.ra
  obtain ⟨⟨hf1, hf2⟩, hf3, hf4⟩ := HA4.out.done (.int .i64 room) (.int .i64 (ever + 1)) (.slice fa 0 fc) (.slice (some ⟨g, 0, none⟩) (l.length + 1) cap2) (.int .i64 ever) (.int .i64 0) (.bool false) (.int .i64 0)
  obtain ⟨⟨m1, m2, m3, m4⟩, n1, n2, n3, n4⟩ := four_cells hf3
  obtain ⟨⟨f1, f2, f3, f4⟩, _⟩ := four_cells (four_drew hf1)
  obtain ⟨⟨g1, g2, g3, g4⟩, _⟩ := four_cells (four_drew hf2)
  have HHF := Lib.hid hf4.drew
  have q1 : IntKind.i64.wrap ever = ever := IntWalk.i64_in _ (by omega)
  clear hf1 hf2 hf3 hf4
  have mx := mixed
  go_region_held3 (fun w' => w'.cell? ⟨w.heap.size, 0, none⟩ = some (.int .i64 room) ∧ w'.cell? ⟨w.heap.size, 1, none⟩ = some (.int .i64 (ever + 1)) ∧ w'.cell? ⟨w.heap.size, 2, none⟩ = some (.slice fa 0 fc) ∧ w'.cell? ⟨w.heap.size, 3, none⟩ = some (.slice (some ⟨g, 0, none⟩) (l.length + 1) cap2))
    (with_reducible first
      | exact (four_cells (four_drew HA4.out.bx)).1
      | exact (four_cells (four_drew (four_far HA4.out.bx (by omega) _ _ _ _))).1
      | exact (four_cells (four_drew (four_far (four_far HA4.out.bx (by omega) _ _ _ _) (by omega) _ _ _ _))).1)
    (fail)
  all_goals
    go_wp2_with fail
    refine bodyPost_ret (v := .tuple #[.agg #[.int .i64 room, .int .i64 (ever + 1), .slice fa 0 fc, .slice (some ⟨g, 0, none⟩) (l.length + 1) cap2], anV ⟨ever, 0, false, 0⟩]) (by simp [results, Try.results24, go_sem, f1, f2, f3, f4, g1, g2, g3, g4]) rfl ?_
    refine ⟨g, cap2, ⟨by rw [List.length_append]; rfl, ?_, HCAP.out⟩, HHF.out⟩
    refine nrow_drew ?_
    repeat (first | with_reducible exact HNR.out | refine nrow_far ?_ (fun _ b off e => by injection e with e; injection e with e1; omega))
end Go.Proofs.Ytdebmokpdchgpaa

/- Contract of the reference's Do. -/
namespace Go.Proofs.Ytdebmokpdchgpaa
open Go.RowKit Go.Sort Go.Proofs.Ytdebmokpdchgpaa.Bo
set_option linter.unusedVariables false

theorem rarput_any (a : Ar) (fa : Option Addr) (fc : Nat) (la : Option Addr) (lc : Nat) (v : Int) (w : World) (h : ArAt w a fa fc la lc) (hok : a.ok) (hn1 : a.l.length ≤ 9999) (hn2 : a.free.length ≤ 9999) :
    Calls Try.prog 24 #[arV a fa fc la lc, .int .i64 v] w (ArPost (a.put v) w fa) := by
  have hev := hok.ever
  have hro := hok.room
  unfold Ar.put
  by_cases hfull : a.room ≤ a.ever - (a.free.length : Int)
  · rw [if_pos hfull]
    refine (rarput_full a.room a.ever v fa a.free.length fc la a.l.length lc w (by omega) (by omega) (by omega) hfull).mono ?_
    rintro e w' ⟨rfl, hb⟩
    exact ⟨fa, fc, la, lc, ⟨rfl, h.below hb⟩, hb, frm_same _ _ _⟩
  · rw [if_neg hfull]
    by_cases hfr : 0 < a.free.length
    · rw [if_pos hfr]
      have hfi := hok.free _ (last_mem a.free hfr)
      obtain ⟨fb, foff, rfl, _, hc⟩ := h.fr hfr
      have hgd : a.free.getD (a.free.length - 1) 0 = a.free[a.free.length - 1]'(by omega) := by rw [List.getD_eq_getElem?_getD, List.getElem?_eq_getElem (by omega)]; rfl
      obtain ⟨iN, hiN⟩ : ∃ iN : Nat, a.free.getD (a.free.length - 1) 0 = (iN : Int) := ⟨(a.free.getD (a.free.length - 1) 0).toNat, by have := hfi.1; omega⟩
      rw [hiN] at hfi ⊢
      have hcl : w.cell? ⟨fb, foff + (a.free.length - 1), none⟩ = some (.int .i64 (iN : Int)) := by rw [hc (a.free.length - 1) (by omega), ← hiN, hgd]
      refine (rarput_free a.room a.ever v fb foff a.free.length fc iN la lc a.l w (by omega) (by omega) (by omega) hfr h.fn (by omega) (by omega) hfull hro.1 hro.2 h.lr hcl).mono ?_
      rintro e w' ⟨g, cap, ⟨rfl, hr, hcap⟩, hb⟩
      have hlt : (a.free.take (a.free.length - 1)).length = a.free.length - 1 := by rw [List.length_take]; omega
      refine ⟨some ⟨fb, foff, none⟩, fc, some ⟨g, 0, none⟩, cap, ⟨?_, ⟨(h.fr.below hb).take _, ?_, hr, hcap⟩⟩, hb, frm_same _ _ _⟩
      · show _ = Ending.returned (.tuple #[.agg #[.int .i64 a.room, .int .i64 a.ever, .slice (some ⟨fb, foff, none⟩) (a.free.take (a.free.length - 1)).length fc, .slice (some ⟨g, 0, none⟩) (a.l.set iN v).length cap], anV ⟨(iN : Int), 0, false, 0⟩])
        rw [hlt]
      · show (a.free.take (a.free.length - 1)).length ≤ fc
        rw [hlt]; have := h.fn; omega
    · rw [if_neg hfr]
      obtain ⟨room, ever, free, l⟩ := a
      obtain rfl : free = [] := List.eq_nil_of_length_eq_zero (by have : ¬ 0 < free.length := hfr; omega)
      refine (rarput_new room ever v fa fc la lc l w (by simp at hev; omega) (by simp at hev hn1; omega) (by simp at hn1; omega) (by simp at hfull; omega) hro.1 hro.2 h.lr).mono ?_
      rintro e w' ⟨g, cap, ⟨rfl, hr, hcap⟩, hb⟩
      exact ⟨fa, fc, some ⟨g, 0, none⟩, cap, ⟨rfl, ⟨nrow_nil _ _ _, Nat.zero_le _, hr, hcap⟩⟩, hb, frm_same _ _ _⟩

/-- The four blocks of Do. -/
structure Ar4 (w : World) (r e f l k i v : Value) (W : World) : Prop where
  bx : W.heap[w.heap.size]? = some (.cells #[r, e, f, l] 31 (0, 0))
  op : W.heap[w.heap.size + 1]? = some (.cells #[k, i, v] 35 (0, 0))
  ra : W.heap[w.heap.size + 1 + 1]? = some (.cells #[.int .i64 0, .int .i64 0, .slice none 0 0, .slice none 0 0] 31 (0, 0))
  rn : W.heap[w.heap.size + 1 + 1 + 1]? = some (.cells #[.int .i64 0, .int .i64 0, .bool false, .int .i64 0] 37 (0, 0))
  be : Go.RowKit.Below w.heap.size w W
theorem Ar4.on {w : World} {r e f l k i v : Value} {W W' : World} (h : Ar4 w r e f l k i v W) (hb : Go.RowKit.Below W.heap.size W W') : Ar4 w r e f l k i v W' := ⟨box_on h.bx hb, box_on h.op hb, box_on h.ra hb, box_on h.rn hb, bt h.be hb⟩
theorem Ar4.lt {w : World} {r e f l k i v : Value} {W : World} (h : Ar4 w r e f l k i v W) : w.heap.size + 3 < W.heap.size := lt_of_block h.rn
theorem Ar4.drew {w : World} {r e f l k i v : Value} {W : World} (h : Ar4 w r e f l k i v W) : Ar4 w r e f l k i v W.drew := ⟨h.bx, h.op, h.ra, h.rn, h.be.drew⟩
theorem Ar4.far {w : World} {r e f l k i v : Value} {W : World} (h : Ar4 w r e f l k i v W) (c j : Nat) (u : Value) (hc : w.heap.size + 3 < c) : Ar4 w r e f l k i v (W.setCell ⟨c, j, none⟩ u) :=
  ⟨set_far h.bx (by omega), set_far h.op (by omega), set_far h.ra (by omega), set_far h.rn (by omega), h.be.setCell (by show w.heap.size ≤ c; omega) _⟩
theorem Ar4.put2 {w : World} {r e f l k i v : Value} {W : World} (h : Ar4 w r e f l k i v W) (u : Value) : Ar4 w r e u l k i v (W.setCell ⟨w.heap.size, 2, none⟩ u) := ⟨heap_setCell_same _ _ _ _ _ _ h.bx, set_far h.op (by omega), set_far h.ra (by omega), set_far h.rn (by omega), h.be.setCell (Nat.le_refl _) _⟩
theorem Ar4.put3 {w : World} {r e f l k i v : Value} {W : World} (h : Ar4 w r e f l k i v W) (u : Value) : Ar4 w r e f u k i v (W.setCell ⟨w.heap.size, 3, none⟩ u) := ⟨heap_setCell_same _ _ _ _ _ _ h.bx, set_far h.op (by omega), set_far h.ra (by omega), set_far h.rn (by omega), h.be.setCell (Nat.le_refl _) _⟩
abbrev arEnd4 (w W : World) (x0 x1 x2 x3 y0 y1 y2 y3 : Value) : World := set4 (set4 W (w.heap.size + 1 + 1) x0 x1 x2 x3) (w.heap.size + 1 + 1 + 1) y0 y1 y2 y3
theorem end4_size (w W : World) (x0 x1 x2 x3 y0 y1 y2 y3 : Value) : (arEnd4 w W x0 x1 x2 x3 y0 y1 y2 y3).heap.size = W.heap.size := by simp [World.setCell]
theorem Ar4.done {w : World} {r e f l k i v : Value} {W : World} (h : Ar4 w r e f l k i v W) (x0 x1 x2 x3 y0 y1 y2 y3 : Value) :
    ((arEnd4 w W x0 x1 x2 x3 y0 y1 y2 y3).heap[w.heap.size + 1 + 1]? = some (.cells #[x0, x1, x2, x3] 31 (0, 0)) ∧ (arEnd4 w W x0 x1 x2 x3 y0 y1 y2 y3).heap[w.heap.size + 1 + 1 + 1]? = some (.cells #[y0, y1, y2, y3] 37 (0, 0))) ∧
    (set4 W (w.heap.size + 1 + 1) x0 x1 x2 x3).heap[w.heap.size + 1 + 1 + 1]? = some (.cells #[.int .i64 0, .int .i64 0, .bool false, .int .i64 0] 37 (0, 0)) ∧
    Go.RowKit.Below w.heap.size w (arEnd4 w W x0 x1 x2 x3 y0 y1 y2 y3) :=
  ⟨⟨four_far (four_put h.ra _ _ _ _) (by omega) _ _ _ _, four_put (four_far h.rn (by omega) _ _ _ _) _ _ _ _⟩, four_far h.rn (by omega) _ _ _ _, four_below (four_below h.be (by omega) _ _ _ _) (by omega) _ _ _ _⟩
theorem nrow_end4 {w W : World} {t : TypeId} {a : Option Addr} {zs : List Int} {r e f l k i v : Value} (h : NRow W t a zs) (h4 : Ar4 w r e f l k i v W) (h1 : 31 ≠ t) (h2 : 37 ≠ t) (x0 x1 x2 x3 y0 y1 y2 y3 : Value) : NRow (arEnd4 w W x0 x1 x2 x3 y0 y1 y2 y3) t a zs :=
  nrow_set4 (nrow_set4 h h4.ra h1 _ _ _ _) (four_far h4.rn (by omega) _ _ _ _) h2 _ _ _ _
theorem three_cells {W : World} {b : Nat} {x0 x1 x2 : Value} {t : TypeId} (h : W.heap[b]? = some (.cells #[x0, x1, x2] t (0, 0))) :
    W.cell? ⟨b, 0, none⟩ = some x0 ∧ W.cell? ⟨b, 1, none⟩ = some x1 ∧ W.cell? ⟨b, 2, none⟩ = some x2 :=
  ⟨(cell_of_row _ _ 0 _ _ _ h).trans rfl, (cell_of_row _ _ 1 _ _ _ h).trans rfl, (cell_of_row _ _ 2 _ _ _ h).trans rfl⟩
abbrev opB (k i v : Int) : Obj := .cells #[.int .i64 k, .int .i64 i, .int .i64 v] 35
abbrev opV (k i v : Int) : Value := .agg #[.int .i64 k, .int .i64 i, .int .i64 v]
theorem ar4_new (w : World) (room ever : Int) (fa : Option Addr) (fn fc : Nat) (la : Option Addr) (ln lc : Nat) (k i v : Int) : Ar4 w (.int .i64 room) (.int .i64 ever) (.slice fa fn fc) (.slice la ln lc) (.int .i64 k) (.int .i64 i) (.int .i64 v) ((((w.alloc (.cells #[.int .i64 room, .int .i64 ever, .slice fa fn fc, .slice la ln lc] 31)).alloc (opB k i v)).alloc arZ).alloc anZ) :=
  ⟨box_on (box_on (box_on (heap_alloc_new w _) (below_new _ _)) (below_new _ _)) (below_new _ _), box_on (box_on (new_at' _ (by simp)) (below_new _ _)) (below_new _ _), box_on (new_at' _ (by simp)) (below_new _ _), new_at' _ (by simp), bt (bt (bt (below_new _ _) (below_new _ _)) (below_new _ _)) (below_new _ _)⟩

/-- What a call leaves, over plain numbers. -/
def DoPost (w : World) (fa0 : Option Addr) (R E : Int) (F L : List Int) (I V : Int) (B : Bool) (ER : Int) (e : Ending) (w' : World) : Prop := ∃ fa fc la lc, (e = .returned (.tuple #[.agg #[.int .i64 R, .int .i64 E, .slice fa F.length fc, .slice la L.length lc], .agg #[.int .i64 I, .int .i64 V, .bool B, .int .i64 ER]]) ∧ (NRow w' 3 fa F ∧ F.length ≤ fc) ∧ NRow w' 2 la L ∧ L.length ≤ lc) ∧ Go.RowKit.Below w.heap.size w w' ∧ Frm w w' fa0 fa
set_option maxRecDepth 100000 in
set_option maxHeartbeats 1000000 in
theorem rardo_put (room ever i v R E I V ER : Int) (B : Bool) (F L : List Int) (fa : Option Addr) (fn fc : Nat) (la : Option Addr) (ln lc : Nat) (w : World)
    (HP : Hid (∀ W, Go.RowKit.Below w.heap.size w W → Calls Try.prog 24 #[.agg #[.int .i64 room, .int .i64 ever, .slice fa fn fc, .slice la ln lc], .int .i64 v] W (DoPost W fa R E F L I V B ER))) :
    Calls Try.prog 13 #[.agg #[.int .i64 room, .int .i64 ever, .slice fa fn fc, .slice la ln lc], opV 0 i v] w (DoPost w fa R E F L I V B ER) := by
  have HX0 := Lib.hid (ar4_new w room ever fa fn fc la ln lc 0 i v)
  go_enter Try.func13, Try.ntmps13
  go_upto_region 1 with fail
  generalize ((((w.alloc (.cells #[.int .i64 room, .int .i64 ever, .slice fa fn fc, .slice la ln lc] 31)).alloc (opB 0 i v)).alloc arZ).alloc anZ) = X0 at *
  obtain ⟨⟨c1, c2, c3, c4⟩, _⟩ := four_cells HX0.out.bx
  obtain ⟨o1, o2, o3⟩ := three_cells HX0.out.op
  go_wp2_with fail
  clear c1 c2 c3 c4 o1 o2 o3
  refine (HP.out _ HX0.out.be).mono ?_
  rintro e y1 ⟨fa', fc', la', lc', ⟨rfl, hq⟩, hB1, hfrm⟩
  have HQ := Lib.hid hq
  have HFR := Lib.hid hfrm
  have hsz0 := HX0.out.be.size
  clear hfrm
  have HX1 := Lib.hid (HX0.out.on hB1)
  clear hq hB1 HX0 HP
  obtain ⟨⟨d1, d2, d3, d4⟩, e1, e2, e3, e4⟩ := four_cells HX1.out.ra
  obtain ⟨⟨hf1, hf2⟩, hf3, hf4⟩ := HX1.out.done (.int .i64 R) (.int .i64 E) (.slice fa' F.length fc') (.slice la' L.length lc') (.int .i64 I) (.int .i64 V) (.bool B) (.int .i64 ER)
  obtain ⟨⟨m1, m2, m3, m4⟩, n1, n2, n3, n4⟩ := four_cells hf3
  obtain ⟨⟨f1, f2, f3, f4⟩, _⟩ := four_cells hf1
  obtain ⟨⟨g1, g2, g3, g4⟩, _⟩ := four_cells hf2
  have HHF := Lib.hid hf4
  clear hf1 hf2 hf3 hf4
  go_wp2_with fail
  refine bodyPost_ret (v := .tuple #[.agg #[.int .i64 R, .int .i64 E, .slice fa' F.length fc', .slice la' L.length lc'], .agg #[.int .i64 I, .int .i64 V, .bool B, .int .i64 ER]]) (by simp [results, Try.results13, go_sem, f1, f2, f3, f4, g1, g2, g3, g4]) rfl ?_
  exact ⟨fa', fc', la', lc', ⟨rfl, ⟨nrow_end4 HQ.out.1.1 HX1.out (by decide) (by decide) _ _ _ _ _ _ _ _, HQ.out.1.2⟩, nrow_end4 HQ.out.2.1 HX1.out (by decide) (by decide) _ _ _ _ _ _ _ _, HQ.out.2.2⟩, HHF.out, HFR.out.up hsz0 (Nat.le_of_eq (end4_size _ _ _ _ _ _ _ _ _ _).symm)⟩
end Go.Proofs.Ytdebmokpdchgpaa
