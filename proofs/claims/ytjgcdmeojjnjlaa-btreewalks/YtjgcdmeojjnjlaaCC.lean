/- A part of the proof: contracts of the functions that the statements reach. -/
import Derived.RangeFuncNested
import Derived.RangeFuncBound
import Derived.RangeFuncCalls
import Derived.RangeFuncLeaves
import Derived.Shelf.Abstract
import Derived.Shelf.RegionOpen
import Derived.WalkKit
import Derived.OwnWalkIn
import Derived.TacticsInMore
import Derived.LoopNIn
import Derived.LoopIn
import Derived.Shelf.SlSortCmp.WholeK
import Derived.WalkSpells
import Derived.WalkLawsBesides
import Derived.Lib.Hide
import Derived.Laws.StructEq
import Derived.Shelf.SlSortCmp.QuietGrown
import Derived.Laws.EntriesVeiled
import Derived.Deep.CutRange
import Derived.RegionTactic
import Derived.Lib.QuietBelow
import Derived.BigQuiet
import Derived.OpenShut
import Derived.Deep.RegionHeld3
import Derived.Deep.QuietTactic
import Derived.Maps.AppendAt
import Derived.Laws.IdiomCopy
import Derived.Deep.AppendLies
import Derived.Deep.LoopGhost
import Derived.Deep.Upon
import Derived.StillTailTactics
import Derived.Lib.SmallJoins
import Derived.Deep.SlicePairs
import Derived.Deep.Strs
import Derived.ChangeOld
import Derived.SizedLaws
import Derived.Lib.SliceRun
import Derived.Laws.CopyRow
import Derived.Below
import Derived.Laws.CopyOwn
import Derived.Deep.RegionLaw
import Derived.Test.YtjgcdmeojjnjlaaCB

/- Contract of the program's Copy. -/
namespace Go.Proofs.Ytjgcdmeojjnjlaa
open Go.RowKit Go.Sort Go.Proofs.Ytjgcdmeojjnjlaa.Bo
set_option linter.unusedVariables false
theorem own_none {w : World} {base : Nat} {e : TypeId} {size n cap : Nat} {xs : List Value} (h : w.ownsRow base e size (.slice none n cap) n xs) : n = 0 ∧ cap = 0 ∧ xs = [] := by
  rcases h.2 with ⟨h1, h2⟩ | ⟨g, c, cur, h1, _⟩
  · injection h1 with _ h3 h4
    refine ⟨h2, h4, ?_⟩
    have := h.1
    rw [h2, Nat.zero_mul] at this
    exact List.length_eq_zero_iff.1 this
  · cases h1
theorem own_some {w : World} {base : Nat} {e : TypeId} {size n cap : Nat} {x : Addr} {xs : List Value} (h : w.ownsRow base e size (.slice (some x) n cap) n xs) : ∃ g, x = ⟨g, 0, none⟩ := by
  rcases h.2 with ⟨h1, h2⟩ | ⟨g, c, cur, h1, _⟩
  · cases h1
  · injection h1 with h1 _ _
    injection h1 with h1
    exact ⟨g, h1⟩
theorem own_empty' (X : World) (e : TypeId) (size : Nat) : (X.alloc (.cells #[] e)).ownsRow X.heap.size e size (.slice (some ⟨X.heap.size, 0, none⟩) 0 0) 0 [] := ⟨by simp, .inr ⟨X.heap.size, 0, #[], rfl, Nat.le_refl _, heap_alloc_new _ _, Nat.le_refl _, Nat.zero_le _, by simp, by simp⟩⟩
theorem own_base {w : World} {base base' : Nat} {e : TypeId} {size : Nat} {v : Value} {n : Nat} {xs : List Value} (h : w.ownsRow base e size v n xs) (hb : base' ≤ base) : w.ownsRow base' e size v n xs := by
  refine ⟨h.1, ?_⟩
  rcases h.2 with hz | ⟨g, cap, cur, rfl, hb2, rest⟩
  · exact .inl hz
  · exact .inr ⟨g, cap, cur, rfl, Nat.le_trans hb hb2, rest⟩
/-- What a clone is: a row of its own making. -/
def ClPost (w : World) (e : TypeId) (size n : Nat) (xs : List Value) (en : Ending) (w' : World) : Prop := ∃ a cap, (en = .returned (.slice a n cap) ∧ w'.ownsRow w.heap.size e size (.slice a n cap) n xs) ∧ Go.RowKit.Below w.heap.size w w'
end Go.Proofs.Ytjgcdmeojjnjlaa
/- Rows of a call's own that are moved within their block: a row's head, copy, clear, append of what lies behind. Over any program. -/
namespace Go.Proofs.Ytjgcdmeojjnjlaa.Bs
open Go
set_option linter.unusedVariables false
variable {P : Program} {w : World} {base : Nat} {e : TypeId} {size : Nat}
/-- The first elements of an own row. -/
theorem own_pre {a : Option Addr} {n cap : Nat} {xs : List Value} (h : w.ownsRow base e size (.slice a n cap) n xs) (m : Nat) (hm : m ≤ n) : w.ownsRow base e size (.slice a m cap) m (xs.take (m * size)) := by
  refine ⟨by rw [List.length_take, h.1]; exact Nat.min_eq_left (Nat.mul_le_mul_right _ hm), ?_⟩
  rcases h.2 with ⟨hv, hn⟩ | ⟨g, c, cur, hv, hb, hg, h1, h2, h3, h4⟩
  · left
    cases hv
    obtain rfl : m = 0 := by omega
    exact ⟨rfl, rfl⟩
  · right
    cases hv
    refine ⟨g, _, cur, rfl, hb, hg, by omega, h2, h3, ?_⟩
    rw [← h4, List.take_take, Nat.min_eq_left (Nat.mul_le_mul_right _ hm)]
theorem own_cur {g n cap : Nat} {xs : List Value} (h : w.ownsRow base e size (.slice (some ⟨g, 0, none⟩) n cap) n xs) :
    ∃ cur, base ≤ g ∧ w.heap[g]? = some (.cells cur e (0, 0)) ∧ n ≤ cap ∧ cap ≤ maxLen ∧ cur.size = cap * size ∧ cur.toList.take (n * size) = xs := by
  rcases h.2 with ⟨hv, hn⟩ | ⟨g', c, cur, hv, hb, hg, h1, h2, h3, h4⟩
  · cases hv
  · cases hv
    exact ⟨cur, hb, hg, h1, h2, h3, h4⟩
theorem own_cell {g n cap : Nat} {xs : List Value} (h : w.ownsRow base e size (.slice (some ⟨g, 0, none⟩) n cap) n xs) (j : Nat) (u : Value) (hj : xs[j]? = some u) : w.cell? ⟨g, j, none⟩ = some u := by
  obtain ⟨cur, _, hg, _, _, _, h4⟩ := own_cur h
  rw [← h4] at hj
  have h5 : cur.toList[j]? = some u := by
    rw [List.getElem?_take] at hj
    split at hj
    · exact hj
    · cases hj
  simp only [World.cell?, hg]
  simpa using h5
/-- What is laid over the cells of a row's block. -/
theorem own_lay {g n cap : Nat} {xs : List Value} (h : w.ownsRow base e size (.slice (some ⟨g, 0, none⟩) n cap) n xs) (cur : Array Value) (hc : w.heap[g]? = some (.cells cur e (0, 0))) (o : Nat) (vs ys : List Value) (hf : o + vs.length ≤ cap * size)
    (hy : ys.length = n * size) (ht : (cur.toList.take o ++ vs ++ cur.toList.drop (o + vs.length)).take (n * size) = ys) :
    (w.setRow g (cur.toList.take o ++ vs ++ cur.toList.drop (o + vs.length)).toArray).ownsRow base e size (.slice (some ⟨g, 0, none⟩) n cap) n ys ∧ w.grownBy (w.setRow g (cur.toList.take o ++ vs ++ cur.toList.drop (o + vs.length)).toArray) (some g) := by
  obtain ⟨cur', hb, hg, h1, h2, h3, h4⟩ := own_cur h
  rw [hc] at hg
  cases hg
  refine ⟨⟨hy, .inr ⟨g, cap, _, rfl, hb, setRow_heap w g cur _ e _ hc, h1, h2, ?_, ht⟩⟩, ⟨rfl, rfl, rfl, by simp [World.setRow], fun k _ hk => setRow_other w g k _ (fun e => hk (by rw [e]))⟩⟩
  simp only [List.size_toArray, List.length_append, List.length_take, List.length_drop, Array.length_toList]
  omega
theorem lay_take {α : Type} (A M : List α) (o N : Nat) (h : o + M.length ≤ N) (hN : N ≤ A.length) : (A.take o ++ M ++ A.drop (o + M.length)).take N = (A.take N).take o ++ M ++ (A.take N).drop (o + M.length) := by
  apply List.ext_getElem?
  intro j
  simp only [List.getElem?_append, List.getElem?_take, List.getElem?_drop, List.length_append, List.length_take]
  repeat' split
  all_goals first | rfl | omega | (congr 1; omega) | (exfalso; omega)
/-- copy within a row. -/
theorem run_copy_own {g n cap : Nat} {xs : List Value} (dT ty : TypeId) (i : TypeInfo) (hu : P.underlying dT = some (.slice e)) (hi : P.info? e = some i) (hsz : i.size = size)
    (h : w.ownsRow base e size (.slice (some ⟨g, 0, none⟩) n cap) n xs) (h1 : ∀ u ∈ xs, u.oneCell' = true) (o k m dLen dCap sLen sCap : Nat) (hm : m = Nat.min sLen dLen) (ho : o + m ≤ n) (hk : k + m ≤ n) :
    ∃ w', (Builtin.copy_ #[dT, dT] ty #[.slice (some ⟨g, o * size, none⟩) dLen dCap, .slice (some ⟨g, k * size, none⟩) sLen sCap]).run P w = .ok (goInt m) w' ∧
      w'.ownsRow base e size (.slice (some ⟨g, 0, none⟩) n cap) n (xs.take (o * size) ++ (xs.drop (k * size)).take (m * size) ++ xs.drop ((o + m) * size)) ∧ w.grownBy w' (some g) := by
  obtain ⟨cur, hb, hg, hn, hcap, hcs, htk⟩ := own_cur h
  have hlen : xs.length = n * size := h.1
  have a1 : o * size + m * size ≤ n * size := by rw [← Nat.add_mul]; exact Nat.mul_le_mul_right _ ho
  have a2 : k * size + m * size ≤ n * size := by rw [← Nat.add_mul]; exact Nat.mul_le_mul_right _ hk
  have a3 : n * size ≤ cap * size := Nat.mul_le_mul_right _ hn
  have hcl : ((xs.drop (k * size)).take (m * size)).length = m * size := by
    rw [List.length_take, List.length_drop]; omega
  have hsrc : ∀ j v, ((xs.drop (k * size)).take (m * size))[j]? = some v → w.cell? ((⟨g, k * size, none⟩ : Addr).add j) = some v := by
    intro j v hj
    have hadd : (⟨g, k * size, none⟩ : Addr).add j = ⟨g, k * size + j, none⟩ := by unfold Addr.add; split <;> simp_all
    rw [hadd]
    refine own_cell h _ _ ?_
    rw [List.getElem?_take] at hj
    split at hj
    · rw [List.getElem?_drop] at hj; exact hj
    · cases hj
  have hl := run_loadCells_list (P := P) w _ _ hsrc
  rw [hcl] at hl
  have hst := run_storeCells_at P g (o * size) e ((xs.drop (k * size)).take (m * size)) 0 cur w hg (by rw [hcl]; omega) (fun v hv => h1 v (List.mem_of_mem_drop (List.mem_of_mem_take hv)))
  have hlay := own_lay h cur hg (o * size) ((xs.drop (k * size)).take (m * size)) (xs.take (o * size) ++ (xs.drop (k * size)).take (m * size) ++ xs.drop ((o + m) * size)) (by rw [hcl]; omega)
    (by simp only [List.length_append, hcl, List.length_take, List.length_drop, hlen, Nat.add_mul]; omega)
    (by
      have h6 := lay_take cur.toList ((xs.drop (k * size)).take (m * size)) (o * size) (n * size) (by rw [hcl]; omega) (by rw [Array.length_toList, hcs]; exact a3)
      rw [h6, htk, hcl, Nat.add_mul])
  refine ⟨_, ?_, hlay.1, hlay.2⟩
  subst hsz
  simp only [Nat.add_zero] at hst
  simp [Builtin.copy_, run_underlying hu, Builtin.lenOf, Builtin.firstCells, sizeOf, typeInfo, hi, ← hm, hl, hst]
theorem run_copy_zero (dT ty : TypeId) (i : TypeInfo) (hu : P.underlying dT = some (.slice e)) (hi : P.info? e = some i) (d a : Option Addr) (dLen dCap sLen sCap : Nat) (hn : Nat.min sLen dLen = 0) :
    (Builtin.copy_ #[dT, dT] ty #[.slice d dLen dCap, .slice a sLen sCap]).run P w = .ok (goInt 0) w := by
  have hl : ∀ (x : Addr), (loadCells x 0).run P w = .ok #[] w := fun x => by simpa using run_loadCells_list (P := P) w x [] (by simp)
  cases d <;> cases a <;> simp [Builtin.copy_, run_underlying hu, Builtin.lenOf, Builtin.firstCells, sizeOf, typeInfo, hi, hn, storeCells, hl]
theorem zeros_len (z : Array Value) (n : Nat) : (Builtin.zeroCells z n).toList.length = n * z.size := by simp [Builtin.zeroCells]
theorem zeros_one (z : Array Value) (n : Nat) (h : ∀ u ∈ z, u.oneCell' = true) : ∀ v ∈ (Builtin.zeroCells z n).toList, v.oneCell' = true := by
  intro v hv
  simp only [Builtin.zeroCells, Array.toList_map, Array.toList_range, List.mem_map, List.mem_range] at hv
  obtain ⟨j, hj, rfl⟩ := hv
  rcases Nat.eq_zero_or_pos z.size with h0 | h0
  · rw [h0, Nat.mul_zero] at hj; omega
  · have hlt := Nat.mod_lt j h0
    rw [getElem!_pos z (j % z.size) hlt]
    exact h _ (Array.getElem_mem hlt)
/-- clear behind a row's end, in its block. -/
theorem run_clear_own {g n cap : Nat} {xs : List Value} (t ty : TypeId) (i : TypeInfo) (z : Value) (hu : P.underlying t = some (.slice e)) (hi : P.info? e = some i) (hz : i.zero = some z) (hzs : z.cells.size = size) (hz1 : ∀ u ∈ z.cells, u.oneCell' = true)
    (h : w.ownsRow base e size (.slice (some ⟨g, 0, none⟩) n cap) n xs) (m c : Nat) (hm : n + m ≤ cap) :
    ∃ w', (Builtin.clear_ #[t] ty #[.slice (some ⟨g, n * size, none⟩) m c]).run P w = .ok (.tuple #[]) w' ∧ w'.ownsRow base e size (.slice (some ⟨g, 0, none⟩) n cap) n xs ∧ w.grownBy w' (some g) := by
  obtain ⟨cur, hb, hg, hn, hcap, hcs, htk⟩ := own_cur h
  rcases Nat.eq_zero_or_pos m with h0 | h0
  · subst h0
    refine ⟨w, ?_, h, ⟨rfl, rfl, rfl, Nat.le_refl _, fun _ _ _ => rfl⟩⟩
    simp [Builtin.clear_, run_underlying hu]
  · have hzl := zeros_len z.cells m
    rw [hzs] at hzl
    have a1 : n * size + m * size ≤ cap * size := by rw [← Nat.add_mul]; exact Nat.mul_le_mul_right _ hm
    have hst := run_storeCells_at P g (n * size) e (Builtin.zeroCells z.cells m).toList 0 cur w hg (by rw [hzl]; omega) (zeros_one _ _ hz1)
    have hlay := own_lay h cur hg (n * size) (Builtin.zeroCells z.cells m).toList xs (by rw [hzl]; omega) h.1 (by
      rw [List.append_assoc, List.take_append_of_le_length (by rw [List.length_take, Array.length_toList, hcs]; omega), List.take_take, Nat.min_self]
      exact htk)
    refine ⟨_, ?_, hlay.1, hlay.2⟩
    simp only [Nat.add_zero] at hst
    obtain ⟨m', rfl⟩ : ∃ m', m = m' + 1 := ⟨m - 1, by omega⟩
    simp [Builtin.clear_, run_underlying hu, zeroValue, typeInfo, hi, hz, hst]
/-- Cells that lie somewhere, one behind the other. -/
def Lies (w : World) (a : Option Addr) (xs : List Value) : Prop := 0 < xs.length → ∃ b off, a = some ⟨b, off, none⟩ ∧ ∀ j u, xs[j]? = some u → w.cell? ⟨b, off + j, none⟩ = some u
theorem Lies.nil (a : Option Addr) : Lies w a [] := fun h => absurd h (Nat.lt_irrefl 0)
theorem Lies.of_own {a : Option Addr} {n cap : Nat} {xs : List Value} (h : w.ownsRow base e size (.slice a n cap) n xs) : Lies w a xs := by
  intro h0
  rcases h.2 with ⟨hv, hn⟩ | ⟨g, c, cur, hv, _⟩
  · subst hn
    have := h.1
    omega
  · cases hv
    exact ⟨g, 0, rfl, fun j u hj => by rw [Nat.zero_add]; exact own_cell h j u hj⟩
/-- What lies behind the k-th element: the address as the walk spells it (at the row's end that of its head). -/
theorem Lies.drop {b off k cap : Nat} {xs : List Value} (h : Lies w (some ⟨b, off, none⟩) xs) (hk : xs.length ≤ cap * size) : Lies w (if cap = k then some ⟨b, off, none⟩ else some ⟨b, off + k * size, none⟩) (xs.drop (k * size)) := by
  intro h0
  rw [List.length_drop] at h0
  by_cases hc : cap = k
  · subst hc; omega
  · rw [if_neg hc]
    obtain ⟨b', off', e1, h2⟩ := h (by omega)
    cases e1
    refine ⟨b, off + k * size, rfl, fun j u hj => ?_⟩
    rw [List.getElem?_drop] at hj
    rw [Nat.add_assoc]
    exact h2 _ _ hj
theorem Lies.take {a : Option Addr} {xs : List Value} (h : Lies w a xs) (m : Nat) : Lies w a (xs.take m) := by
  intro h0
  rw [List.length_take] at h0
  obtain ⟨b, off, rfl, h2⟩ := h (by omega)
  refine ⟨b, off, rfl, fun j u hj => h2 j u ?_⟩
  rw [List.getElem?_take] at hj
  split at hj
  · exact hj
  · cases hj
theorem Lies.mono {w' : World} {a : Option Addr} {xs : List Value} (h : Lies w a xs) (hc : ∀ ad u, w.cell? ad = some u → w'.cell? ad = some u) : Lies w' a xs := fun h0 => by
  obtain ⟨b, off, e1, h2⟩ := h h0
  exact ⟨b, off, e1, fun j u hj => hc _ _ (h2 j u hj)⟩
theorem Lies.below {w' : World} {a : Option Addr} {xs : List Value} (h : Lies w a xs) (hb : Go.RowKit.Below w.heap.size w w') : Lies w' a xs :=
  h.mono fun ad u hu => (hb.cell (p := ad) (World.block_lt_of_cell? w _ hu)).trans hu
theorem run_append_row (t ty : TypeId) (i : TypeInfo) (z : Value) (bytes : Nat) (ht : P.underlying t = some (.slice e)) (hi : P.info? e = some i) (hz : i.zero = some z)
    (hsize : i.size = size) (hby : i.bytes = bytes) (hzs : z.cells.size = size) (hsz : 0 < size) (v : Value) (n : Nat) (xs : List Value) (hown : w.ownsRow base e size v n xs)
    (a : Option Addr) (m c : Nat) (news : List Value) (hl : news.length = m * size) (hr : Lies w a news) (h1 : ∀ u ∈ news, u.oneCell' = true) (h63 : n + m ≤ maxLen) (hbytes : (n + m) * bytes ≤ 140737488355328) (hbase : base ≤ w.heap.size) :
    ∃ a' cap w', (Builtin.append_ #[t, t] ty #[v, .slice a m c]).run P w = .ok (.slice a' (n + m) cap) w' ∧
      w'.ownsRow base e size (.slice a' (n + m) cap) (n + m) (xs ++ news) ∧ w.grownBy w' v.ownBlock ∧ ((Value.slice a' (n + m) cap).ownBlock = v.ownBlock ∨ (Value.slice a' (n + m) cap).ownBlock = some w.heap.size) := by
  rcases Nat.eq_zero_or_pos m with h0 | h0
  · subst h0
    obtain rfl : news = [] := List.eq_nil_of_length_eq_zero (by simpa using hl)
    have hsrc : Src P i.size t (.slice a 0 c) 0 [] w := by
      cases a with
      | none => exact Src.ofNil w ht c
      | some ad => exact Src.ofSlice w ht ad 0 c [] (by simp) (by simp) (by simp)
    have key : ∀ base' cap', v = .slice base' n cap' → n ≤ cap' → (Builtin.append_ #[t, t] ty #[v, .slice a 0 c]).run P w = .ok (.slice base' n cap') w := by
      intro base' cap' hv hle
      rw [hv]
      exact run_append_nothing w t t ty e i ht hi base' n cap' hle _ hsrc
    rw [List.append_nil]
    rcases hown.2 with ⟨hv, hn⟩ | ⟨g, cap, cur, hv, r⟩
    · subst hn
      refine ⟨none, 0, w, key none 0 hv (Nat.le_refl _), ?_, World.grownBy.refl _ _, .inl ?_⟩
      · rw [hv] at hown; exact hown
      · rw [hv]
    · refine ⟨some ⟨g, 0, none⟩, cap, w, key _ _ hv r.2.2.1, ?_, World.grownBy.refl _ _, .inl ?_⟩
      · rw [hv] at hown; exact hown
      · rw [hv]; rfl
  · have hnl : 0 < news.length := by rw [hl]; exact Nat.mul_pos h0 hsz
    obtain ⟨b, off, rfl, hc⟩ := hr hnl
    obtain ⟨g, cap, w', r1, h2, h3, h4, _⟩ := run_append_lies (P := P) w t ty base e i z size bytes ht hi hz hsize hby hzs hsz v n xs hown ⟨b, off, none⟩ m c news hl (fun j u hu => by
      have h4 := hc j u hu
      unfold Addr.add
      split
      · next e => subst e; exact h4
      · exact h4) h1 h0 h63 hbytes hbase _ rfl
    refine ⟨_, cap, w', r1, h2, h3, ?_⟩
    rcases h4 with h4 | h4
    · exact .inl h4.symm
    · exact .inr (by rw [h4]; rfl)
theorem wpList_append_row {ops : Array Oper} {rest : List Oper} {o : Oper} {ac : Act} {Q : Exit → Act → World → Prop} (w : World) (hgd : o.guard = none) (s x : Operand) (t : TypeId)
    (ho : o.op = .call { callee := .builtin .append, args := #[s, x], argTypes := #[t, t] })
    (base : Nat) (e : TypeId) (i : TypeInfo) (z : Value) (size bytes : Nat) (ht : P.underlying t = some (.slice e)) (hi : P.info? e = some i) (hz : i.zero = some z)
    (hsize : i.size = size) (hby : i.bytes = bytes) (hzs : z.cells.size = size) (hsz : 0 < size) (v : Value) (n : Nat) (xs : List Value) (hs : ac.eval s = v) (hown : w.ownsRow base e size v n xs)
    (a : Option Addr) (m c : Nat) (news : List Value) (hx : ac.eval x = .slice a m c) (hl : news.length = m * size) (hr : Lies w a news) (h1 : ∀ u ∈ news, u.oneCell' = true) (h63 : n + m ≤ maxLen) (hbytes : (n + m) * bytes ≤ 140737488355328) (hbase : base ≤ w.heap.size)
    (h : ∀ a' cap w', w'.ownsRow base e size (.slice a' (n + m) cap) (n + m) (xs ++ news) → w.grownBy w' v.ownBlock → ((Value.slice a' (n + m) cap).ownBlock = v.ownBlock ∨ (Value.slice a' (n + m) cap).ownBlock = some w.heap.size) → wpList P ops Q rest (ac.put o.dst (.slice a' (n + m) cap)) w') : wpList P ops Q (o :: rest) ac w := by
  refine wpList_plain hgd fun K hK => ?_
  obtain ⟨a', cap, w', hr', h2, h3, h4⟩ := run_append_row (P := P) (w := w) t o.type i z bytes ht hi hz hsize hby hzs hsz v n xs hown a m c news hl hr h1 h63 hbytes hbase
  unfold Oper.wp execOp
  simp only [ho, resolve, invoke, builtin, Sem.run_bind, Sem.run_pure, Result.andThen_ok, List.map_toArray, List.map_cons, List.map_nil, hs, hx, hr']
  exact hK _ _ (h a' cap w' h2 h3 h4)
theorem step_append_row {ops : Array Oper} {o : Oper} {ac : Act} {K : Act → World → Prop} {Q : Exit → Act → World → Prop} {E : Prop} (w : World) (hgd : o.guard = none) (s x : Operand) (t : TypeId)
    (ho : o.op = .call { callee := .builtin .append, args := #[s, x], argTypes := #[t, t] })
    (base : Nat) (e : TypeId) (i : TypeInfo) (z : Value) (size bytes : Nat) (ht : P.underlying t = some (.slice e)) (hi : P.info? e = some i) (hz : i.zero = some z)
    (hsize : i.size = size) (hby : i.bytes = bytes) (hzs : z.cells.size = size) (hsz : 0 < size) (v : Value) (n : Nat) (xs : List Value) (hs : ac.eval s = v) (hown : w.ownsRow base e size v n xs)
    (a : Option Addr) (m c : Nat) (news : List Value) (hx : ac.eval x = .slice a m c) (hl : news.length = m * size) (hr : Lies w a news) (h1 : ∀ u ∈ news, u.oneCell' = true) (h63 : n + m ≤ maxLen) (hbytes : (n + m) * bytes ≤ 140737488355328) (hbase : base ≤ w.heap.size)
    (h : ∀ a' cap w', w'.ownsRow base e size (.slice a' (n + m) cap) (n + m) (xs ++ news) → w.grownBy w' v.ownBlock → ((Value.slice a' (n + m) cap).ownBlock = v.ownBlock ∨ (Value.slice a' (n + m) cap).ownBlock = some w.heap.size) → K (ac.put o.dst (.slice a' (n + m) cap)) w') :
    if Region.wanted o (yielded ops ac.tmps) = true then Oper.wp P o ac w K Q else E := by
  have hw : Region.wanted o (yielded ops ac.tmps) = true := by simp [Region.wanted, hgd]
  rw [if_pos hw]
  obtain ⟨a', cap, w', hr', h2, h3, h4⟩ := run_append_row (P := P) (w := w) t o.type i z bytes ht hi hz hsize hby hzs hsz v n xs hown a m c news hl hr h1 h63 hbytes hbase
  unfold Oper.wp execOp
  simp only [ho, resolve, invoke, builtin, Sem.run_bind, Sem.run_pure, Result.andThen_ok, List.map_toArray, List.map_cons, List.map_nil, hs, hx, hr']
  exact h a' cap w' h2 h3 h4
/-- copy within a row, at a step of a region that draws its order: the addresses are asked for only where something moves. -/
theorem step_copy_row {ops : Array Oper} {o : Oper} {ac : Act} {K : Act → World → Prop} {Q : Exit → Act → World → Prop} {E : Prop} (w : World) (hgd : o.guard = none) (d s : Operand) (dT : TypeId)
    (ho : o.op = .call { callee := .builtin .copy, args := #[d, s], argTypes := #[dT, dT] }) (base : Nat) (e : TypeId) (i : TypeInfo) (size : Nat) (hu : P.underlying dT = some (.slice e)) (hi : P.info? e = some i) (hsz : i.size = size)
    (g n cap : Nat) (xs : List Value) (hown : w.ownsRow base e size (.slice (some ⟨g, 0, none⟩) n cap) n xs) (h1 : ∀ u ∈ xs, u.oneCell' = true)
    (dp sp : Option Addr) (dLen dCap sLen sCap : Nat) (hd : ac.eval d = .slice dp dLen dCap) (hs : ac.eval s = .slice sp sLen sCap) (po pk m : Nat) (hm : m = Nat.min sLen dLen)
    (hpos : 0 < m → dp = some ⟨g, po * size, none⟩ ∧ sp = some ⟨g, pk * size, none⟩ ∧ po + m ≤ n ∧ pk + m ≤ n)
    (h : ∀ w', w'.ownsRow base e size (.slice (some ⟨g, 0, none⟩) n cap) n (if m = 0 then xs else xs.take (po * size) ++ (xs.drop (pk * size)).take (m * size) ++ xs.drop ((po + m) * size)) → w.grownBy w' (some g) → K (ac.put o.dst (goInt m)) w') :
    if Region.wanted o (yielded ops ac.tmps) = true then Oper.wp P o ac w K Q else E := by
  have hw : Region.wanted o (yielded ops ac.tmps) = true := by simp [Region.wanted, hgd]
  rw [if_pos hw]
  rcases Nat.eq_zero_or_pos m with h0 | h0
  · have hrun := run_copy_zero (P := P) (w := w) dT o.type i hu hi dp sp dLen dCap sLen sCap (by omega)
    unfold Oper.wp execOp
    simp only [ho, resolve, invoke, builtin, Sem.run_bind, Sem.run_pure, Result.andThen_ok, List.map_toArray, List.map_cons, List.map_nil, hd, hs, hrun]
    subst h0
    exact h w hown (World.grownBy.refl _ _)
  · obtain ⟨rfl, rfl, ho1, hk1⟩ := hpos h0
    obtain ⟨w', hrun, h2, h3⟩ := run_copy_own (P := P) (w := w) dT o.type i hu hi hsz hown h1 po pk m dLen dCap sLen sCap hm ho1 hk1
    unfold Oper.wp execOp
    simp only [ho, resolve, invoke, builtin, Sem.run_bind, Sem.run_pure, Result.andThen_ok, List.map_toArray, List.map_cons, List.map_nil, hd, hs, hrun]
    refine h w' ?_ h3
    rw [if_neg (Nat.pos_iff_ne_zero.1 h0)]
    exact h2
theorem grown_cell (g i : Nat) (v : Value) : w.grownBy (w.setCell ⟨g, i, none⟩ v) (some g) :=
  ⟨rfl, rfl, rfl, by simp [World.setCell], fun k _ hk => by
    have hne : g ≠ k := fun e => hk (by rw [e])
    simp [World.setCell, Array.getElem?_modify, hne]⟩
theorem grown_trans {w1 w2 : World} {row : Option Nat} (h1 : w.grownBy w1 row) (h2 : w1.grownBy w2 row) : w.grownBy w2 row :=
  ⟨h2.os.trans h1.os, h2.tape.trans h1.tape, h2.output.trans h1.output, Nat.le_trans h1.size h2.size, fun k hk hn => (h2.block k (Nat.lt_of_lt_of_le hk h1.size) hn).trans (h1.block k hk hn)⟩
/-- What is laid into new memory, then into a row that is in the block of the one that came or in a new one. -/
theorem grown_chain {Y w1 w2 : World} {row : Option Nat} {g : Nat} (hL : Go.RowKit.Below w.heap.size w Y) (h1 : Y.grownBy w1 row) (hat : row = some g ∨ w.heap.size ≤ g) (h2 : w1.grownBy w2 (some g)) : w.grownBy w2 row :=
  ⟨(h2.os.trans h1.os).trans hL.os, (h2.tape.trans h1.tape).trans hL.tape, (h2.output.trans h1.output).trans hL.output, Nat.le_trans hL.size (Nat.le_trans h1.size h2.size), fun k hk hn => by
    have hk1 := Nat.lt_of_lt_of_le hk hL.size
    rw [h2.block k (Nat.lt_of_lt_of_le hk1 h1.size) (fun e => by
      cases e
      rcases hat with h | h
      · exact hn h.symm
      · omega), h1.block k hk1 hn]
    exact hL.block k hk⟩
theorem grown_below {Y : World} {row : Option Nat} (hL : Go.RowKit.Below w.heap.size w Y) : w.grownBy Y row := ⟨hL.os, hL.tape, hL.output, hL.size, fun k hk _ => hL.block k hk⟩
/-- append where there is room: it stays in its block, and has its capacity. -/
theorem run_append_fits (t ty : TypeId) (i : TypeInfo) (ht : P.underlying t = some (.slice e)) (hi : P.info? e = some i) (hsz : i.size = size) {g n cap : Nat} {xs : List Value} (h : w.ownsRow base e size (.slice (some ⟨g, 0, none⟩) n cap) n xs)
    (ad : Addr) (m c : Nat) (news : List Value) (hl : news.length = m * size) (hr : Lies w (some ad) news) (h1 : ∀ u ∈ news, u.oneCell' = true) (hroom : n + m ≤ cap) :
    ∃ w', (Builtin.append_ #[t, t] ty #[.slice (some ⟨g, 0, none⟩) n cap, .slice (some ad) m c]).run P w = .ok (.slice (some ⟨g, 0, none⟩) (n + m) cap) w' ∧
      w'.ownsRow base e size (.slice (some ⟨g, 0, none⟩) (n + m) cap) (n + m) (xs ++ news) ∧ w.grownBy w' (some g) := by
  obtain ⟨cur, hbg, hg, hnc, hcm, hcs, htake⟩ := own_cur h
  subst hsz
  have hnews : ∀ j u, news[j]? = some u → w.cell? (ad.add j) = some u := by
    intro j u hu
    have hpos : 0 < news.length := by
      rcases Nat.eq_zero_or_pos news.length with h0 | h0
      · rw [List.eq_nil_of_length_eq_zero h0] at hu; cases hu
      · exact h0
    obtain ⟨b, off, e1, hc⟩ := hr hpos
    cases e1
    have h4 := hc j u hu
    unfold Addr.add
    split
    · next e => subst e; exact h4
    · exact h4
  have hlen : (xs ++ news).length = (n + m) * i.size := by rw [List.length_append, h.1, hl, Nat.add_mul]
  have hfit : n * i.size + news.length ≤ cur.size := by rw [hl, hcs, ← Nat.add_mul]; exact Nat.mul_le_mul_right _ hroom
  have hr := run_append_room (P := P) w t ty e i ht hi g n cap cur hg ad m c news hl hnews h1 hroom hfit
  refine ⟨_, hr, ⟨hlen, .inr ⟨g, cap, _, rfl, hbg, setRow_heap w g cur _ e _ hg, hroom, hcm, ?_, ?_⟩⟩, ⟨rfl, rfl, rfl, by simp [World.setRow], fun k _ hk => setRow_other w g k _ (fun e => hk (by rw [e]))⟩⟩
  · simp only [List.size_toArray, List.length_append, List.length_take, List.length_drop, Array.length_toList]
    omega
  · rw [htake, ← hlen]
    exact List.take_left
theorem step_append_fits {ops : Array Oper} {o : Oper} {ac : Act} {K : Act → World → Prop} {Q : Exit → Act → World → Prop} {E : Prop} (w : World) (hgd : o.guard = none) (s x : Operand) (t : TypeId)
    (ho : o.op = .call { callee := .builtin .append, args := #[s, x], argTypes := #[t, t] })
    (base : Nat) (e : TypeId) (i : TypeInfo) (size : Nat) (ht : P.underlying t = some (.slice e)) (hi : P.info? e = some i) (hsz : i.size = size) (g n cap : Nat) (xs : List Value) (hs : ac.eval s = .slice (some ⟨g, 0, none⟩) n cap) (hown : w.ownsRow base e size (.slice (some ⟨g, 0, none⟩) n cap) n xs)
    (ap : Option Addr) (ad : Addr) (m c : Nat) (news : List Value) (hx : ac.eval x = .slice ap m c) (hap : ap = some ad) (hl : news.length = m * size) (hr : Lies w (some ad) news) (h1 : ∀ u ∈ news, u.oneCell' = true) (hroom : n + m ≤ cap)
    (h : ∀ w', w'.ownsRow base e size (.slice (some ⟨g, 0, none⟩) (n + m) cap) (n + m) (xs ++ news) → w.grownBy w' (some g) → K (ac.put o.dst (.slice (some ⟨g, 0, none⟩) (n + m) cap)) w') :
    if Region.wanted o (yielded ops ac.tmps) = true then Oper.wp P o ac w K Q else E := by
  have hw : Region.wanted o (yielded ops ac.tmps) = true := by simp [Region.wanted, hgd]
  rw [if_pos hw]
  subst hap
  obtain ⟨w', hr', h2, h3⟩ := run_append_fits (P := P) (w := w) t o.type i ht hi hsz hown ad m c news hl hr h1 hroom
  unfold Oper.wp execOp
  simp only [ho, resolve, invoke, builtin, Sem.run_bind, Sem.run_pure, Result.andThen_ok, List.map_toArray, List.map_cons, List.map_nil, hs, hx, hr']
  exact h w' h2 h3
end Go.Proofs.Ytjgcdmeojjnjlaa.Bs
/- Segments, as five numbers; rows of them by rising keys. No Go in sight. -/
namespace Go.Proofs.Ytjgcdmeojjnjlaa.Bo
structure G5 where
  ls : Int
  la : Int
  hs : Int
  ha : Int
  v : Int
/-- Where it begins. -/
def G5.key (g : G5) : Int := Bo.key g.ls g.la
def G5.ok (g : G5) : Prop := I64 g.la ∧ I64 g.ha ∧ I64 g.v
/-- Is its key the right one of a place? -/
def G5.is (g : G5) (k : Int) : Bool := g.ls == sd k && g.la == pa k
theorem G5.ky (g : G5) (h : g.ok) : Ky g.key := key_ky _ _ h.1
theorem G5.is_key (g : G5) (k : Int) (hk : Ky k) (h : g.is k = true) : g.key = k := by
  unfold G5.is at h
  simp at h
  unfold G5.key
  rw [h.1, h.2]
  exact key_back k hk
/-- The number of one of a key; the length: there is none. -/
def findG (l : List G5) (k : Int) : Nat := l.findIdx (fun g => g.is k)
def findV (l : List G5) (k : Int) : Int := if findG l k < l.length then (findG l k : Int) else -1
/-- May a segment be put? -/
def G5.may (g : G5) : Bool := g.is g.key && !decide (0 < g.ls)
/-- Put ahead of the first greater one. -/
def insG (s : G5) : List G5 → List G5
  | [] => [s]
  | g :: t => if s.key < g.key then s :: g :: t else g :: insG s t
theorem insG_len (s : G5) (l : List G5) : (insG s l).length = l.length + 1 := by
  induction l with
  | nil => rfl
  | cons g t ih => unfold insG; split <;> simp [ih]
/-- The part that is laid already, up to a place. -/
theorem insG_split (s : G5) (l : List G5) : ∃ n, n ≤ l.length ∧ insG s l = l.take n ++ s :: l.drop n ∧ (∀ j (h : j < l.length), j < n → ¬ s.key < l[j].key) ∧ (∀ h : n < l.length, s.key < l[n].key) := by
  induction l with
  | nil => exact ⟨0, Nat.le_refl _, rfl, fun j h => absurd h (by simp), fun h => absurd h (by simp)⟩
  | cons g t ih =>
    by_cases c : s.key < g.key
    · refine ⟨0, Nat.zero_le _, ?_, fun j _ h => absurd h (by omega), fun _ => c⟩
      unfold insG; rw [if_pos c]; rfl
    · obtain ⟨n, h1, h2, h3, h4⟩ := ih
      refine ⟨n + 1, by simp; exact h1, ?_, ?_, ?_⟩
      · unfold insG; rw [if_neg c, h2]; rfl
      · intro j hj hjn
        cases j with
        | zero => exact c
        | succ j => exact h3 j (by simpa using hj) (by omega)
      · intro h
        exact h4 (by simpa using h)
def putG (l : List G5) (room : Int) (s : G5) : List G5 × Int :=
  if s.may = false then (l, 1)
  else if findG l s.key < l.length then (l.set (findG l s.key) s, 0)
  else if room ≤ (l.length : Int) then (l, 50)
  else (insG s l, 0)
def delG (l : List G5) (k : Int) : List G5 × Bool :=
  if findG l k < l.length then (l.take (findG l k) ++ l.drop (findG l k + 1), true) else (l, false)
def doG (l : List G5) (room k : Int) (s : G5) : List G5 × Bool × Int :=
  if k = 0 then ((putG l room s).1, false, (putG l room s).2)
  else if k = 1 then ((delG l s.key).1, (delG l s.key).2, 0)
  else if k = 2 then ([], false, 0)
  else (l, false, 0)
/-- Are two segments the same? -/
def G5.eqb (g h : G5) : Bool := g.ls == h.ls && g.la == h.la && (g.hs == h.hs && g.ha == h.ha) && g.v == h.v
theorem G5.eqb_self (g : G5) : g.eqb g = true := by unfold G5.eqb; simp
theorem G5.eqb_iff (g h : G5) : g.eqb h = true ↔ g = h := by
  constructor
  · intro e
    unfold G5.eqb at e
    simp at e
    obtain ⟨a, b, c, d, x⟩ := g
    obtain ⟨a', b', c', d', x'⟩ := h
    simp only at e
    obtain ⟨⟨⟨rfl, rfl⟩, rfl, rfl⟩, rfl⟩ := e
    rfl
  · rintro rfl; exact g.eqb_self
end Go.Proofs.Ytjgcdmeojjnjlaa.Bo
/- Rows of segments; contracts of the reference's: key, Find, Same, Bits. -/
namespace Go.Proofs.Ytjgcdmeojjnjlaa
open Go.RowKit Go.Sort Go.Proofs.Ytjgcdmeojjnjlaa.Bo
set_option linter.unusedVariables false
abbrev vG (g : G5) : Value := .agg #[.int .i64 g.ls, .int .i64 g.la, .int .i64 g.hs, .int .i64 g.ha, .int .i64 g.v]
abbrev oG (g : G5) : Obj := .cells #[.int .i64 g.ls, .int .i64 g.la, .int .i64 g.hs, .int .i64 g.ha, .int .i64 g.v] 38
def Cells5 (w : World) (b o : Nat) (g : G5) : Prop := w.cell? ⟨b, o, none⟩ = some (.int .i64 g.ls) ∧ w.cell? ⟨b, o + 1, none⟩ = some (.int .i64 g.la) ∧ w.cell? ⟨b, o + 2, none⟩ = some (.int .i64 g.hs) ∧ w.cell? ⟨b, o + 3, none⟩ = some (.int .i64 g.ha) ∧ w.cell? ⟨b, o + 4, none⟩ = some (.int .i64 g.v)
theorem Cells5.below {w w' : World} {b o : Nat} {g : G5} (h : Cells5 w b o g) (hb : Go.RowKit.Below w.heap.size w w') : Cells5 w' b o g :=
  ⟨(hb.cell (World.block_lt_of_cell? w _ h.1)).trans h.1, (hb.cell (World.block_lt_of_cell? w _ h.2.1)).trans h.2.1, (hb.cell (World.block_lt_of_cell? w _ h.2.2.1)).trans h.2.2.1, (hb.cell (World.block_lt_of_cell? w _ h.2.2.2.1)).trans h.2.2.2.1, (hb.cell (World.block_lt_of_cell? w _ h.2.2.2.2)).trans h.2.2.2.2⟩
/-- A slice of segments that holds l. -/
def GRow (w : World) (a : Option Addr) (l : List G5) : Prop := 0 < l.length → ∃ b off, a = some ⟨b, off, none⟩ ∧ ∀ (j : Nat) (h : j < l.length), Cells5 w b (off + j * 5) l[j]
theorem GRow.below {w w' : World} {a : Option Addr} {l : List G5} (h : GRow w a l) (hb : Go.RowKit.Below w.heap.size w w') : GRow w' a l := by
  intro hp
  obtain ⟨b, off, e, hc⟩ := h hp
  exact ⟨b, off, e, fun j hj => (hc j hj).below hb⟩
theorem grow_nil (w : World) (a : Option Addr) : GRow w a [] := fun h => by simp at h
/-- A block of a segment. -/
theorem five_cells {W : World} {b : Nat} {g : G5} (h : W.heap[b]? = some (oG g)) : Cells5 W b 0 g :=
  ⟨(cell_of_row _ _ 0 _ _ _ h).trans rfl, (cell_of_row _ _ 1 _ _ _ h).trans rfl, (cell_of_row _ _ 2 _ _ _ h).trans rfl, (cell_of_row _ _ 3 _ _ _ h).trans rfl, (cell_of_row _ _ 4 _ _ _ h).trans rfl⟩
set_option maxRecDepth 100000 in
theorem rkey_any (g : G5) (w : World) : Calls Try.prog 45 #[vG g] w fun e w' => e = .returned (.agg #[.int .i64 g.ls, .int .i64 g.la]) ∧ Go.RowKit.Below w.heap.size w w' := by
  have h0 : ((w.alloc (oG g)).alloc (.cells #[.int .i64 0, .int .i64 0] 34)).heap[w.heap.size]? = some (oG g) := box_on (heap_alloc_new w _) (below_new _ _)
  have h1 : ((w.alloc (oG g)).alloc (.cells #[.int .i64 0, .int .i64 0] 34)).heap[w.heap.size + 1]? = some (.cells #[.int .i64 0, .int .i64 0] 34) := heap_alloc2_new _ _ _
  have hL := bt (below_new w (oG g)) (below_new _ (.cells #[.int .i64 0, .int .i64 0] 34))
  go_enter Try.func45, Try.ntmps45
  go_upto_region 1 with fail
  generalize ((w.alloc (oG g)).alloc (.cells #[.int .i64 0, .int .i64 0] 34)) = X at *
  obtain ⟨c1, c2, c3, c4, c5⟩ := five_cells h0
  obtain ⟨d1, d2, d3, d4⟩ := two_cells h1
  obtain ⟨f1, f2, _, _⟩ := two_cells (two_put (p := .int .i64 g.ls) (q := .int .i64 g.la) h1)
  have hL2 := (hL.setCell (p := ⟨w.heap.size + 1, 0, none⟩) (by show w.heap.size ≤ w.heap.size + 1; omega) (.int .i64 g.ls)).setCell (p := ⟨w.heap.size + 1, 1, none⟩) (by show w.heap.size ≤ w.heap.size + 1; omega) (.int .i64 g.la)
  clear h0 h1
  go_wp2_with fail
  refine bodyPost_ret (v := .agg #[.int .i64 g.ls, .int .i64 g.la]) (by simp [results, Try.results45, go_sem, f1, f2]) rfl ?_
  exact ⟨rfl, hL2⟩
theorem findG_step (l : List G5) (k : Int) (j : Nat) (hj : j < l.length) (hno : ∀ i (h : i < l.length), i < j → l[i].is k = false) (h : l[j].is k = true) : findV l k = (j : Int) := by
  have e : findG l k = j := by
    unfold findG
    rw [List.findIdx_eq hj]
    exact ⟨h, fun i hi => by have := hno i (by omega) hi; simpa using this⟩
  unfold findV
  rw [e, if_pos hj]
theorem findG_none (l : List G5) (k : Int) (hno : ∀ i (h : i < l.length), l[i].is k = false) : findV l k = -1 := by
  have e : ¬ findG l k < l.length := by
    unfold findG
    rw [List.findIdx_lt_length]
    rintro ⟨g, hg, h⟩
    obtain ⟨i, hi, rfl⟩ := List.getElem_of_mem hg
    rw [hno i hi] at h
    cases h
  unfold findV
  rw [if_neg e]
set_option maxRecDepth 100000 in
set_option maxHeartbeats 2000000 in
theorem rfind_any (a : Option Addr) (cap : Nat) (l : List G5) (s x : Int) (w : World) (hx : I64 x) (hr : GRow w a l) (hl : l.length ≤ 100000) :
    Calls Try.prog 29 #[.slice a l.length cap, .agg #[.int .i64 s, .int .i64 x]] w fun e w' => e = .returned (.int .i64 (findV l (key s x))) ∧ Go.RowKit.Below w.heap.size w w' := by
  have mx := mixed
  have HC := Lib.hid (fun W => rcanon_any s x W hx)
  have HK := Lib.hid rkey_any
  obtain ⟨EV, hEV⟩ : ∃ EV, findV l (key s x) = EV := ⟨_, rfl⟩
  rw [hEV]
  have HEV := Lib.hid hEV
  have HST := Lib.hid (findG_step l (key s x))
  have HNN := Lib.hid (findG_none l (key s x))
  have HIS : Hid (∀ g : G5, g.is (key s x) = (g.ls == sd (key s x) && g.la == pa (key s x))) := fun g => rfl
  generalize key s x = k at *
  generalize sd k = ks at *
  generalize pa k = kp at *
  have hb0 : (w.alloc (.cells #[.int .i64 s, .int .i64 x] 34)).heap[w.heap.size]? = some (.cells #[.int .i64 s, .int .i64 x] 34) := heap_alloc_new _ _
  have hL0 := below_new w (.cells #[.int .i64 s, .int .i64 x] 34)
  have HR := Lib.hid (hr.below hL0)
  clear hEV hr hx
  go_enter Try.func29, Try.ntmps29
  go_wp2_with fail
  generalize w.alloc (.cells #[.int .i64 s, .int .i64 x] 34) = X at *
  have HB := Lib.hid hb0
  clear hb0
  go_loopw [5] (fun i wr => ∃ j : Nat, i = .int .i64 (j : Int) ∧ j ≤ l.length ∧ (∀ i (h : i < l.length), i < j → l[i].is k = false) ∧ Go.RowKit.Below X.heap.size X wr) (fun i _ => l.length - (intOf i).toNat)
  case atStart => exact ⟨0, rfl, Nat.zero_le _, fun i _ h => by omega, Go.RowKit.Below.refl _ _⟩
  case round =>
    obtain ⟨j, rfl, hj, hno, hBr⟩ := hrel
    have HNO := Lib.hid hno
    clear hno
    by_cases hlt : j < l.length
    · obtain ⟨b, off, rfl, hc⟩ := (HR.out.below hBr) (by omega)
      have HC5 := Lib.hid (hc j hlt)
      have HB1 := Lib.hid (box_on HB.out hBr)
      have ti0 : (0 : Int) ≤ (j : Int) := by omega
      have ti1 : (j : Int) < (l.length : Int) := by omega
      have HISJ := Lib.hid (HIS.out l[j])
      have HSTJ := Lib.hid (fun h => HST.out j hlt HNO.out h)
      have HNOJ : Hid (l[j].is k = false → ∀ i (h : i < l.length), i < j + 1 → l[i].is k = false) := by
        intro h i hi hij
        rcases Nat.lt_or_ge i j with h2 | h2
        · exact HNO.out i hi h2
        · obtain rfl : i = j := by omega
          exact h
      clear hc
      generalize l[j] = g at *
      have hc5 := HC5.out
      obtain ⟨c1, c2, c3, c4, c5⟩ := hc5
      obtain ⟨d1, d2, _, _⟩ := two_cells HB1.out
      have p1 := cell_regrown c1
      have p2 := cell_regrown c2
      have p3 := cell_regrown c3
      have p4 := cell_regrown c4
      have p5 := cell_regrown c5
      have p6 := cell_regrown d1
      have p7 := cell_regrown d2
      have eqc := eql_cut g.ls g.la ks kp
      obtain ⟨D, hD⟩ : ∃ D, (g.ls == ks && g.la == kp) = D := ⟨_, rfl⟩
      rw [hD] at eqc HISJ
      clear c1 c2 c3 c4 c5 d1 d2 hD
      have HKg := Lib.hid (fun W => HK.out g W)
      go_wp2_with fail
      refine wp_region_quiet_below (by assumption) (by kernel_rfl) ?_
      repeat (go_big_quiet_step (first
        | (go_at_call 45; exact Calls.regrown_of (HKg.out _))
        | (go_at_call 60; exact Calls.regrown_of (HC.out _))))
      refine wpQuiet_nil ?_
      intro _ hw'
      obtain ⟨⟨nq, osq⟩, hw''⟩ := hw'
      subst hw''
      have hB5 := bt hBr (below_regrown wr nq osq)
      clear p1 p2 p3 p4 p5 p6 p7 eqc
      generalize grow (redrawn wr nq) osq = y5 at *
      cases D with
      | true =>
        have HE : Hid (EV = (j : Int)) := HEV.out.symm.trans (HSTJ.out HISJ.out)
        go_wp2_with fail
        go_ret
        refine ⟨?_, bt hL0 hB5⟩
        rw [HE.out]; rfl
      | false =>
        go_wp2_with fail
        go_roundw
        case rel => exact ⟨j + 1, by go_num, by omega, HNOJ.out HISJ.out, hB5⟩
        case measure => simp [intOf]; omega
    · obtain rfl : j = l.length := by omega
      have HE : Hid (EV = -1) := HEV.out.symm.trans (HNN.out fun i hi => HNO.out i hi hi)
      go_wp2_with fail
      go_ret
      refine ⟨?_, bt hL0 hBr⟩
      rw [HE.out]; rfl
end Go.Proofs.Ytjgcdmeojjnjlaa
/- Segments compared; contracts of the reference's Same, Bits; rows of segments appended. -/
namespace Go.Proofs.Ytjgcdmeojjnjlaa
open Go.RowKit Go.Sort Go.Proofs.Ytjgcdmeojjnjlaa.Bo
set_option linter.unusedVariables false
theorem eqIn_cut98 (s a t b : Int) (w : World) : (Op.equalIn 9998 34 (.agg #[.int .i64 s, .int .i64 a]) (.agg #[.int .i64 t, .int .i64 b])).run Try.prog w = .ok (s == t && a == b) w := by
  have hS : Try.prog.underlying 34 = some (.struct (Try.prog.fieldsOf 34)) := by kernel_rfl
  have hp : Try.prog.stoodInHeld 34 = false := by kernel_rfl
  have u3 := Try.underlying3
  have u2 := Try.underlying2
  rw [show (9998 : Nat) = 9997 + 1 from rfl, run_equalIn_agg w 9997 34 _ _ hS hp]
  simp only [Program.fieldsOf, Try.underlying34]
  go_simp
  by_cases h1 : s = t <;> by_cases h2 : a = b <;> simp [h1, h2]
theorem eqIn_span99 (q r : S4) (w : World) : (Op.equalIn 9999 36 (.agg #[.int .i64 q.ls, .int .i64 q.la, .int .i64 q.hs, .int .i64 q.ha]) (.agg #[.int .i64 r.ls, .int .i64 r.la, .int .i64 r.hs, .int .i64 r.ha])).run Try.prog w = .ok (q.ls == r.ls && q.la == r.la && (q.hs == r.hs && q.ha == r.ha)) w := by
  have hS : Try.prog.underlying 36 = some (.struct (Try.prog.fieldsOf 36)) := by kernel_rfl
  have hp : Try.prog.stoodInHeld 36 = false := by kernel_rfl
  have h1 := eqIn_cut98
  rw [show (9999 : Nat) = 9998 + 1 from rfl, run_equalIn_agg w 9998 36 _ _ hS hp]
  simp only [Program.fieldsOf, Try.underlying36]
  generalize 9998 = N at *
  simp [Op.eqFields, Sem.run_bind, part_low, part_high, h1, Result.andThen]
  by_cases a1 : q.ls = r.ls <;> by_cases a2 : q.la = r.la <;> by_cases a3 : q.hs = r.hs <;> by_cases a4 : q.ha = r.ha <;> simp [a1, a2, a3, a4]
theorem eqIn_i64 (a b : Int) (w : World) : (Op.equalIn 9999 2 (.int .i64 a) (.int .i64 b)).run Try.prog w = .ok (a == b) w := by
  have u2 := Try.underlying2
  rw [show (9999 : Nat) = 9998 + 1 from rfl]
  generalize 9998 = N
  go_simp
theorem part_span (a b c d e : Value) (w : World) : (part 36 #[a, b, c, d, e] 0).run Try.prog w = .ok (.agg #[a, b, c, d]) w := by
  have h1 := Try.isAgg36
  have h2 := Try.sizeOf36
  unfold part
  simp [Sem.run_bind, h1, h2, Result.andThen]
theorem part_v (a b c d e : Value) (w : World) : (part 2 #[a, b, c, d, e] 4).run Try.prog w = .ok e w := by
  have h1 := Try.isAgg2
  unfold part
  simp [Sem.run_bind, h1, Result.andThen]
theorem eqSeg_run (g h : G5) (w : World) : (Op.equalIn 10000 38 (vG g) (vG h)).run Try.prog w = .ok (g.eqb h) w := by
  have hS : Try.prog.underlying 38 = some (.struct (Try.prog.fieldsOf 38)) := by kernel_rfl
  have hp : Try.prog.stoodInHeld 38 = false := by kernel_rfl
  have h1 := eqIn_span99 ⟨g.ls, g.la, g.hs, g.ha⟩ ⟨h.ls, h.la, h.hs, h.ha⟩
  have h2 := eqIn_i64 g.v h.v
  dsimp only at h1
  rw [show (10000 : Nat) = 9999 + 1 from rfl, run_equalIn_agg w 9999 38 _ _ hS hp]
  simp only [Program.fieldsOf, Try.underlying38]
  generalize 9999 = N at *
  unfold G5.eqb
  simp [Op.eqFields, Sem.run_bind, part_span, part_v, h1, h2, Result.andThen]
  by_cases a1 : g.ls = h.ls <;> by_cases a2 : g.la = h.la <;> by_cases a3 : g.hs = h.hs <;> by_cases a4 : g.ha = h.ha <;> by_cases a5 : g.v = h.v <;> simp [a1, a2, a3, a4, a5]
theorem neq_seg (g h : G5) (w : World) : Sem.run Try.prog (binOp .neq 38 (vG g) (vG h)) w = .ok (.bool (!(g.eqb h))) w := by
  rw [run_neq_struct, eqSeg_run]; rfl
theorem Cells5.re {w : World} {b o : Nat} {g : G5} (h : Cells5 w b o g) : (∀ d os, (grow (redrawn w d) os).cell? ⟨b, o, none⟩ = some (.int .i64 g.ls)) ∧ (∀ d os, (grow (redrawn w d) os).cell? ⟨b, o + 1, none⟩ = some (.int .i64 g.la)) ∧ (∀ d os, (grow (redrawn w d) os).cell? ⟨b, o + 2, none⟩ = some (.int .i64 g.hs)) ∧ (∀ d os, (grow (redrawn w d) os).cell? ⟨b, o + 3, none⟩ = some (.int .i64 g.ha)) ∧ (∀ d os, (grow (redrawn w d) os).cell? ⟨b, o + 4, none⟩ = some (.int .i64 g.v)) :=
  ⟨cell_regrown h.1, cell_regrown h.2.1, cell_regrown h.2.2.1, cell_regrown h.2.2.2.1, cell_regrown h.2.2.2.2⟩
/-- The cells of a row of segments. -/
def flatG (l : List G5) : List Value := l.flatMap fun g => [.int .i64 g.ls, .int .i64 g.la, .int .i64 g.hs, .int .i64 g.ha, .int .i64 g.v]
theorem flatG_cons (g : G5) (l : List G5) : flatG (g :: l) = .int .i64 g.ls :: .int .i64 g.la :: .int .i64 g.hs :: .int .i64 g.ha :: .int .i64 g.v :: flatG l := rfl
theorem flatG_append (l m : List G5) : flatG (l ++ m) = flatG l ++ flatG m := by unfold flatG; rw [List.flatMap_append]
theorem flatG_len (l : List G5) : (flatG l).length = l.length * 5 := by
  induction l with
  | nil => rfl
  | cons a l ih => rw [flatG_cons]; simp only [List.length_cons, ih]; omega
theorem flatG_one (l : List G5) : ∀ u ∈ flatG l, u.oneCell' = true := by
  intro u hu
  unfold flatG at hu
  obtain ⟨g, _, h⟩ := List.mem_flatMap.1 hu
  simp at h
  rcases h with rfl | rfl | rfl | rfl | rfl <;> rfl
theorem cells_newsG (w : World) (b : Nat) (l : List G5) : ∀ (off : Nat), (∀ (j : Nat) (h : j < l.length), Cells5 w b (off + j * 5) l[j]) → ∀ j u, (flatG l)[j]? = some u → w.cell? ⟨b, off + j, none⟩ = some u := by
  induction l with
  | nil => intro off _ j u h; simp [flatG] at h
  | cons q l ih =>
    intro off hc j u h
    have h0 : Cells5 w b off q := by have := hc 0 (by simp); simpa using this
    rw [flatG_cons] at h
    match j, h with
    | 0, h => simp at h; subst h; exact h0.1
    | 1, h => simp at h; subst h; exact h0.2.1
    | 2, h => simp at h; subst h; exact h0.2.2.1
    | 3, h => simp at h; subst h; exact h0.2.2.2.1
    | 4, h => simp at h; subst h; exact h0.2.2.2.2
    | j + 5, h =>
      have := ih (off + 5) (fun i hi => by
        have h1 := hc (i + 1) (by simpa using hi)
        rw [show off + (i + 1) * 5 = off + 5 + i * 5 by omega] at h1
        simpa using h1) j u (by simpa using h)
      rw [show off + (j + 5) = off + 5 + j by omega]; exact this
theorem news_cellsG (w : World) (b : Nat) (l : List G5) : ∀ (off : Nat), (∀ j u, (flatG l)[j]? = some u → w.cell? ⟨b, off + j, none⟩ = some u) → ∀ (j : Nat) (h : j < l.length), Cells5 w b (off + j * 5) l[j] := by
  induction l with
  | nil => intro off _ j h; simp at h
  | cons q l ih =>
    intro off hc j h
    rw [flatG_cons] at hc
    cases j with
    | zero =>
      rw [Nat.zero_mul, Nat.add_zero]
      exact ⟨hc 0 _ (by simp), hc 1 _ (by simp), hc 2 _ (by simp), hc 3 _ (by simp), hc 4 _ (by simp)⟩
    | succ j =>
      have := ih (off + 5) (fun i u hi => by
        have h1 := hc (i + 5) u (by simpa using hi)
        rw [show off + (i + 5) = off + 5 + i by omega] at h1
        exact h1) j (by simpa using h)
      rw [show off + (j + 1) * 5 = off + 5 + j * 5 by omega]
      simpa using this
/-- A slice of segments of one's own reads as such. -/
theorem own_grow {w : World} {base cap n : Nat} {a : Option Addr} {l : List G5} (h : w.ownsRow base 38 5 (.slice a n cap) n (flatG l)) (hn : n = l.length) : GRow w a l := by
  intro hp
  rcases h.2 with ⟨h1, h2⟩ | ⟨g, cap', cur, h1, hb, hh, hnc, hcm, hcs, htake⟩
  · omega
  · injection h1 with e1 e2 e3
    subst e1
    refine ⟨g, 0, rfl, news_cellsG w g l 0 fun j u hu => ?_⟩
    rw [Nat.zero_add]
    rw [← htake, List.getElem?_take] at hu
    by_cases hj : j < n * 5
    · rw [if_pos hj] at hu
      exact (cell_of_row _ _ _ _ _ _ hh).trans (by simpa using hu)
    · rw [if_neg hj] at hu; cases hu
/-- append of a row of segments, also of none. -/
theorem run_append_segs (w : World) (t ty e : TypeId) (base : Nat) (i : TypeInfo) (z : Value) (bytes : Nat) (ht : Try.prog.underlying t = some (.slice e)) (hi : Try.prog.info? e = some i) (hz : i.zero = some z)
    (hsize : i.size = 5) (hby : i.bytes = bytes) (hzs : z.cells.size = 5) (v : Value) (n : Nat) (xs : List Value) (hown : w.ownsRow base e 5 v n xs)
    (a : Option Addr) (c : Nat) (l : List G5) (hr : GRow w a l) (h63 : n + l.length ≤ maxLen) (hbytes : (n + l.length) * bytes ≤ 140737488355328) (hbase : base ≤ w.heap.size) :
    ∃ a' cap w', (Builtin.append_ #[t, t] ty #[v, .slice a l.length c]).run Try.prog w = .ok (.slice a' (n + l.length) cap) w' ∧
      w'.ownsRow base e 5 (.slice a' (n + l.length) cap) (n + l.length) (xs ++ flatG l) ∧ w.grownBy w' v.ownBlock := by
  rcases Nat.eq_zero_or_pos l.length with h0 | h0
  · obtain rfl : l = [] := List.length_eq_zero_iff.1 h0
    have hsrc : Src Try.prog i.size t (.slice a 0 c) 0 [] w := by
      cases a with
      | none => exact Src.ofNil w ht c
      | some ad => exact Src.ofSlice w ht ad 0 c [] (by simp) (by simp) (by simp)
    have key : ∀ base' cap', v = .slice base' n cap' → n ≤ cap' → (Builtin.append_ #[t, t] ty #[v, .slice a 0 c]).run Try.prog w = .ok (.slice base' n cap') w := by
      intro base' cap' hv hle
      rw [hv]
      exact run_append_nothing w t t ty e i ht hi base' n cap' hle _ hsrc
    have hxs : xs ++ flatG [] = xs := by simp [flatG]
    rw [hxs]
    rcases hown.2 with ⟨hv, hn⟩ | ⟨g, cap, cur, hv, r⟩
    · subst hn
      refine ⟨none, 0, w, key none 0 hv (Nat.le_refl _), ?_, World.grownBy.refl _ _⟩
      rw [hv] at hown; exact hown
    · refine ⟨some ⟨g, 0, none⟩, cap, w, key _ _ hv r.2.2.1, ?_, World.grownBy.refl _ _⟩
      rw [hv] at hown; exact hown
  · obtain ⟨b, off, rfl, hc⟩ := hr h0
    obtain ⟨g, cap, w', h1, h2, h3, _, _⟩ := run_append_lies (P := Try.prog) w t ty base e i z 5 bytes ht hi hz hsize hby hzs (by omega) v n xs hown ⟨b, off, none⟩ l.length c (flatG l) (flatG_len l) (fun j u hu => by
      have h4 := cells_newsG w b l off hc j u hu
      unfold Addr.add
      split
      · next e => subst e; exact h4
      · exact h4) (flatG_one l) h0 h63 hbytes hbase _ rfl
    exact ⟨_, cap, w', h1, h2, h3⟩
theorem wpList_append_segs {ops : Array Oper} {rest : List Oper} {o : Oper} {a : Act} {Q : Exit → Act → World → Prop} (w : World) (hgd : o.guard = none) (s x : Operand) (t : TypeId)
    (ho : o.op = .call { callee := .builtin .append, args := #[s, x], argTypes := #[t, t] })
    (base : Nat) (e : TypeId) (i : TypeInfo) (z : Value) (bytes : Nat) (ht : Try.prog.underlying t = some (.slice e)) (hi : Try.prog.info? e = some i) (hz : i.zero = some z)
    (hsize : i.size = 5) (hby : i.bytes = bytes) (hzs : z.cells.size = 5)
    (v : Value) (n : Nat) (xs : List Value) (hs : a.eval s = v) (hown : w.ownsRow base e 5 v n xs)
    (ax : Option Addr) (c : Nat) (l : List G5) (hx : a.eval x = .slice ax l.length c) (hr : GRow w ax l)
    (h63 : n + l.length ≤ maxLen) (hbytes : (n + l.length) * bytes ≤ 140737488355328) (hbase : base ≤ w.heap.size)
    (h : ∀ a' cap w', w'.ownsRow base e 5 (.slice a' (n + l.length) cap) (n + l.length) (xs ++ flatG l) → w.grownBy w' v.ownBlock → wpList Try.prog ops Q rest (a.put o.dst (.slice a' (n + l.length) cap)) w') : wpList Try.prog ops Q (o :: rest) a w := by
  refine wpList_plain hgd fun _ hK => ?_
  obtain ⟨a', cap, w', hr', h2, h3⟩ := run_append_segs w t o.type e base i z bytes ht hi hz hsize hby hzs v n xs hown ax c l hr h63 hbytes hbase
  unfold Oper.wp execOp
  simp only [ho, resolve, invoke, builtin, Sem.run_bind, Sem.run_pure, Result.andThen_ok, List.map_toArray, List.map_cons, List.map_nil, hs, hx, hr']
  exact hK _ _ (h a' cap w' h2 h3)
theorem Try.infoSeg : (Try.prog.info? 38).map (fun i => (i.zero, i.size, i.bytes)) = some (some (.agg #[.int .i64 0, .int .i64 0, .int .i64 0, .int .i64 0, .int .i64 0]), 5, 40) := by kernel_rfl
/-- A block of one segment is a row of it. -/
theorem grow_one {W : World} {p : Nat} {g : G5} (h : W.heap[p]? = some (oG g)) : GRow W (some ⟨p, 0, none⟩) [g] := by
  intro _
  refine ⟨p, 0, rfl, fun j hj => ?_⟩
  have : j = 0 := by simp at hj; exact hj
  subst this
  exact five_cells h
end Go.Proofs.Ytjgcdmeojjnjlaa
/- Contract of the reference's Put over rows of segments. -/
namespace Go.Proofs.Ytjgcdmeojjnjlaa
open Go.RowKit Go.Sort Go.Proofs.Ytjgcdmeojjnjlaa.Bo
set_option linter.unusedVariables false
/-- Where a row that is answered lies: it is the one that came, or it lies in a block that was not there. -/
def NewOr (n : Nat) (a0 : Option Addr) (l0 : List G5) (a : Option Addr) (l : List G5) : Prop := (a = a0 ∧ l = l0) ∨ ∀ p, a = some p → n ≤ p.block
theorem NewOr.on {n m : Nat} {a0 a : Option Addr} {l0 l : List G5} (h : NewOr n a0 l0 a l) (hm : m ≤ n) : NewOr m a0 l0 a l := h.imp id fun h p hp => Nat.le_trans hm (h p hp)
theorem own_new {w : World} {base cap n k size : Nat} {e : TypeId} {a : Option Addr} {xs : List Value} (h : w.ownsRow base e size (.slice a n cap) n xs) (hk : k ≤ base) : ∀ p, a = some p → k ≤ p.block := by
  rintro p rfl
  rcases h.2 with ⟨h1, _⟩ | ⟨g, cap', cur, h1, hb, _⟩
  · cases h1
  · injection h1 with e1 _ _
    injection e1 with e1
    subst e1
    exact Nat.le_trans hk hb
/-- What a call that answers a row of segments leaves. -/
def PutG (a0 : Option Addr) (l0 : List G5) (x : List G5 × Int) (w : World) (e : Ending) (w' : World) : Prop := ∃ a cap, (e = .returned (.tuple #[.slice a x.1.length cap, .int .i64 x.2]) ∧ GRow w' a x.1 ∧ x.1.length ≤ cap ∧ NewOr w.heap.size a0 l0 a x.1) ∧ Go.RowKit.Below w.heap.size w w'
theorem own_emptyG (X : World) : (X.alloc (.cells #[] 38)).ownsRow X.heap.size 38 5 (.slice (some ⟨X.heap.size, 0, none⟩) 0 0) 0 [] := ⟨rfl, .inr ⟨X.heap.size, 0, #[], rfl, Nat.le_refl _, heap_alloc_new _ _, Nat.le_refl _, Nat.zero_le _, rfl, rfl⟩⟩
theorem own_capG {w : World} {base cap n size : Nat} {e : TypeId} {a : Option Addr} {xs : List Value} (h : w.ownsRow base e size (.slice a n cap) n xs) : n ≤ cap := by
  rcases h.2 with ⟨h1, h2⟩ | ⟨g, cap', cur, h1, hb, hh, hnc, hcm, hcs, htake⟩
  · omega
  · injection h1 with e1 e2 e3
    subst e3
    exact hnc
theorem flatG_set (l : List G5) (s : G5) : ∀ (i : Nat), i < l.length → flatG (l.set i s) = (((((flatG l).set (i * 5) (.int .i64 s.ls)).set (i * 5 + 1) (.int .i64 s.la)).set (i * 5 + 2) (.int .i64 s.hs)).set (i * 5 + 3) (.int .i64 s.ha)).set (i * 5 + 4) (.int .i64 s.v) := by
  induction l with
  | nil => intro i h; simp at h
  | cons g t ih =>
    intro i h
    cases i with
    | zero => simp [flatG_cons]
    | succ i =>
      rw [List.set_cons_succ, flatG_cons, flatG_cons, ih i (by simpa using h)]
      rw [show (i + 1) * 5 = i * 5 + 5 by omega, show i * 5 + 5 + 1 = i * 5 + 1 + 5 by omega, show i * 5 + 5 + 2 = i * 5 + 2 + 5 by omega, show i * 5 + 5 + 3 = i * 5 + 3 + 5 by omega, show i * 5 + 5 + 4 = i * 5 + 4 + 5 by omega]
      simp only [List.set_cons_succ]
abbrev set5 (W : World) (b o : Nat) (s : G5) : World := ((((W.setCell ⟨b, o, none⟩ (.int .i64 s.ls)).setCell ⟨b, o + 1, none⟩ (.int .i64 s.la)).setCell ⟨b, o + 2, none⟩ (.int .i64 s.hs)).setCell ⟨b, o + 3, none⟩ (.int .i64 s.ha)).setCell ⟨b, o + 4, none⟩ (.int .i64 s.v)
theorem own_setG {w : World} {base cap n g : Nat} {l : List G5} (h : w.ownsRow base 38 5 (.slice (some ⟨g, 0, none⟩) n cap) n (flatG l)) (i : Nat) (hi : i < l.length) (s : G5) : (set5 w g (i * 5) s).ownsRow base 38 5 (.slice (some ⟨g, 0, none⟩) n cap) n (flatG (l.set i s)) := by
  have := own_put (own_put (own_put (own_put (own_put h (i * 5) (.int .i64 s.ls)) (i * 5 + 1) (.int .i64 s.la)) (i * 5 + 2) (.int .i64 s.hs)) (i * 5 + 3) (.int .i64 s.ha)) (i * 5 + 4) (.int .i64 s.v)
  rw [flatG_set l s i hi]
  exact this
/-- A place of a row of one's own. -/
theorem own_atG {w : World} {base cap n : Nat} {a : Option Addr} {l : List G5} (h : w.ownsRow base 38 5 (.slice a n cap) n (flatG l)) (hn : n = l.length) (i : Nat) (hi : i < n) :
    ∃ g, a = some ⟨g, 0, none⟩ ∧ base ≤ g ∧ Cells5 w g (i * 5) (l[i]'(by omega)) ∧ ∀ x, w.frozen? ⟨g, x, none⟩ = false := by
  rcases h.2 with ⟨h1, h2⟩ | ⟨g, cap', cur, h1, hb, hh, hnc, hcm, hcs, htake⟩
  · omega
  · injection h1 with e1 e2 e3
    subst e1
    obtain ⟨b, off, e, hc⟩ := own_grow h hn (by omega)
    injection e with e
    injection e with e4 e5
    subst e4 e5
    refine ⟨g, rfl, hb, ?_, fun x => frozen_of_row _ _ x _ _ hh⟩
    have := hc i (by omega)
    rwa [Nat.zero_add] at this
set_option maxRecDepth 100000 in
set_option maxHeartbeats 2000000 in
/-- Not a key that may be. -/
theorem rputG_arg (a : Option Addr) (cap : Nat) (l : List G5) (room : Int) (s : G5) (w : World) (hs : s.ok) (hno : s.may = false) (hr : GRow w a l) (hc : l.length ≤ cap) :
    Calls Try.prog 36 #[.slice a l.length cap, .int .i64 room, vG s] w (PutG a l (l, 1) w) := by
  have mx := mixed
  have hfd : ∀ W : World, (Instr.field 34 (.agg #[.int .i64 s.ls, .int .i64 s.la]) 0).run Try.prog W = .ok (.int .i64 s.ls) W := fun _ => by kernel_rfl
  have HK := Lib.hid (fun W => rkey_any s W)
  have HC := Lib.hid (fun W => rcanon_any s.ls s.la W hs.1)
  have nec := neq_cut (sd (key s.ls s.la)) (pa (key s.ls s.la)) s.ls s.la
  have hD : ∀ D, (sd (key s.ls s.la) == s.ls && pa (key s.ls s.la) == s.la) = D → D = true → 0 < s.ls := by
    intro D h1 h2
    subst h2
    unfold G5.may G5.is G5.key at hno
    simp at h1 hno
    exact hno h1.1.symm h1.2.symm
  obtain ⟨D, hDe⟩ : ∃ D, (sd (key s.ls s.la) == s.ls && pa (key s.ls s.la) == s.la) = D := ⟨_, rfl⟩
  have hD2 := hD D hDe
  rw [hDe] at nec
  generalize sd (key s.ls s.la) = x1 at *
  generalize pa (key s.ls s.la) = x2 at *
  have HB : Hid ((w.alloc (oG s)).heap[w.heap.size]? = some (oG s)) := heap_alloc_new _ _
  have hL := below_new w (oG s)
  have HR := Lib.hid hr
  clear hD hDe hno hr hs
  go_enter Try.func36, Try.ntmps36
  go_upto_region 1 with fail
  generalize w.alloc (oG s) = X at *
  obtain ⟨p1, p2, p3, p4, p5⟩ := (five_cells HB.out).re
  cases D with
  | false =>
    refine wp_region_quiet_below (by assumption) (by kernel_rfl) ?_
    repeat (go_big_quiet_step (first
      | (go_at_call 45; exact Calls.regrown_of (HK.out _))
      | (go_at_call 60; exact Calls.regrown_of (HC.out _))))
    refine wpQuiet_nil ?_
    intro _ hw'
    obtain ⟨⟨nq, osq⟩, hw''⟩ := hw'
    subst hw''
    have hB := bt hL (below_regrown X nq osq)
    go_wp2_with fail
    go_ret2
    exact ⟨a, cap, ⟨rfl, HR.out.below hB, hc, .inl ⟨rfl, rfl⟩⟩, hB⟩
  | true =>
    have t1 : decide (0 < s.ls) = true := decide_eq_true (hD2 rfl)
    refine wp_region_quiet_below (by assumption) (by kernel_rfl) ?_
    repeat (go_big_quiet_step (first
      | (go_at_call 45; exact Calls.regrown_of (HK.out _))
      | (go_at_call 60; exact Calls.regrown_of (HC.out _))))
    refine wpQuiet_nil ?_
    intro _ hw'
    obtain ⟨⟨nq, osq⟩, hw''⟩ := hw'
    subst hw''
    have hB := bt hL (below_regrown X nq osq)
    go_wp2_with fail
    go_ret2
    exact ⟨a, cap, ⟨rfl, HR.out.below hB, hc, .inl ⟨rfl, rfl⟩⟩, hB⟩
set_option maxRecDepth 100000 in
set_option maxHeartbeats 4000000 in
theorem rputG_full (a : Option Addr) (cap : Nat) (l : List G5) (room : Int) (s : G5) (w : World) (hs : s.ok) (hmay : s.may = true) (hno : ¬ findG l s.key < l.length) (hfull : room ≤ (l.length : Int)) (hr : GRow w a l) (hc : l.length ≤ cap) (hl : l.length ≤ 10000) :
    Calls Try.prog 36 #[.slice a l.length cap, .int .i64 room, vG s] w (PutG a l (l, 50) w) := by
  have mx := mixed
  have hfd : ∀ W : World, (Instr.field 34 (.agg #[.int .i64 s.ls, .int .i64 s.la]) 0).run Try.prog W = .ok (.int .i64 s.ls) W := fun _ => by kernel_rfl
  obtain ⟨i0, hi0, hz0, hz1, hz2⟩ := info_parts Try.infoSeg
  have HK := Lib.hid (fun W => rkey_any s W)
  have HC := Lib.hid (fun W => rcanon_any s.ls s.la W hs.1)
  have nec := neq_cut (sd (key s.ls s.la)) (pa (key s.ls s.la)) s.ls s.la
  have hD : (sd (key s.ls s.la) == s.ls && pa (key s.ls s.la) == s.la) = true ∧ ¬ 0 < s.ls := by
    unfold G5.may G5.is G5.key at hmay
    simp at hmay ⊢
    exact ⟨⟨hmay.1.1.symm, hmay.1.2.symm⟩, hmay.2⟩
  have t1 : decide (0 < s.ls) = false := decide_eq_false hD.2
  rw [hD.1] at nec
  have HFI := Lib.hid (fun W (h : GRow W a l) => rfind_any a cap l s.ls s.la W hs.1 h (by omega))
  have hfv : findV l (key s.ls s.la) = -1 := by unfold findV; exact if_neg hno
  rw [hfv] at HFI
  have t2 : decide (room ≤ (l.length : Int)) = true := decide_eq_true hfull
  clear hfv hno
  generalize sd (key s.ls s.la) = x1 at *
  generalize pa (key s.ls s.la) = x2 at *
  have HB0 : Hid ((w.alloc (oG s)).heap[w.heap.size]? = some (oG s)) := heap_alloc_new _ _
  have hL := below_new w (oG s)
  have HR := Lib.hid hr
  clear hD hmay hr
  go_enter Try.func36, Try.ntmps36
  go_upto_region 1 with fail
  generalize w.alloc (oG s) = X at *
  obtain ⟨p1, p2, p3, p4, p5⟩ := (five_cells HB0.out).re
  refine wp_region_quiet_below (by assumption) (by kernel_rfl) ?_
  repeat (go_big_quiet_step (first
    | (go_at_call 45; exact Calls.regrown_of (HK.out _))
    | (go_at_call 60; exact Calls.regrown_of (HC.out _))))
  refine wpQuiet_nil ?_
  intro _ hw'
  obtain ⟨⟨nq, osq⟩, hw''⟩ := hw'
  subst hw''
  have hBq := below_regrown X nq osq
  have hL1 := bt hL hBq
  have HB1 := Lib.hid (box_on HB0.out hBq)
  clear p1 p2 p3 p4 p5 hBq HB0 hL HC nec t1
  generalize grow (redrawn X nq) osq = X1 at *
  obtain ⟨c1, c2, c3, c4, c5⟩ := five_cells HB1.out
  rw [Nat.zero_add] at c2 c3 c4 c5
  go_wp2_with fail
  clear c1 c2 c3 c4 c5
  refine (HK.out _).mono ?_
  rintro e y1 ⟨rfl, hB1⟩
  have hL2 := bt hL1 hB1
  have HB2 := Lib.hid (box_on HB1.out hB1)
  clear hB1 hL1 HB1
  go_wp2_with fail
  refine (HFI.out _ (HR.out.below hL2)).mono ?_
  rintro e y2 ⟨rfl, hB2⟩
  have hL3 := bt hL2 hB2
  have HB3 := Lib.hid (box_on HB2.out hB2)
  clear hB2 hL2 HB2 HFI
  go_wp2_with fail
  go_ret2
  exact ⟨a, cap, ⟨rfl, HR.out.below hL3, hc, .inl ⟨rfl, rfl⟩⟩, hL3⟩
set_option maxRecDepth 100000 in
set_option maxHeartbeats 4000000 in
theorem rputG_set (a : Option Addr) (cap : Nat) (l : List G5) (room : Int) (s : G5) (w : World) (hs : s.ok) (hmay : s.may = true) (kN : Nat) (hkN : kN = findG l s.key) (hk : kN < l.length) (hr : GRow w a l) (hc : l.length ≤ cap) (hl : l.length ≤ 10000) :
    Calls Try.prog 36 #[.slice a l.length cap, .int .i64 room, vG s] w (PutG a l (l.set kN s, 0) w) := by
  have mx := mixed
  have hfd : ∀ W : World, (Instr.field 34 (.agg #[.int .i64 s.ls, .int .i64 s.la]) 0).run Try.prog W = .ok (.int .i64 s.ls) W := fun _ => by kernel_rfl
  obtain ⟨i0, hi0, hz0, hz1, hz2⟩ := info_parts Try.infoSeg
  have HK := Lib.hid (fun W => rkey_any s W)
  have HC := Lib.hid (fun W => rcanon_any s.ls s.la W hs.1)
  have nec := neq_cut (sd (key s.ls s.la)) (pa (key s.ls s.la)) s.ls s.la
  have hD : (sd (key s.ls s.la) == s.ls && pa (key s.ls s.la) == s.la) = true ∧ ¬ 0 < s.ls := by
    unfold G5.may G5.is G5.key at hmay
    simp at hmay ⊢
    exact ⟨⟨hmay.1.1.symm, hmay.1.2.symm⟩, hmay.2⟩
  have t1 : decide (0 < s.ls) = false := decide_eq_false hD.2
  rw [hD.1] at nec
  have HFI := Lib.hid (fun W (h : GRow W a l) => rfind_any a cap l s.ls s.la W hs.1 h (by omega))
  have hfv : findV l (key s.ls s.la) = (kN : Int) := by subst hkN; unfold findV; exact if_pos hk
  rw [hfv] at HFI
  have i1 : (0 : Int) ≤ (kN : Int) := by omega
  have i2 : (kN : Int) < (l.length : Int) := by omega
  clear hfv hkN
  generalize sd (key s.ls s.la) = x1 at *
  generalize pa (key s.ls s.la) = x2 at *
  have HB0 : Hid ((w.alloc (oG s)).heap[w.heap.size]? = some (oG s)) := heap_alloc_new _ _
  have hL := below_new w (oG s)
  have HR := Lib.hid hr
  clear hD hmay hr
  go_enter Try.func36, Try.ntmps36
  go_upto_region 1 with fail
  generalize w.alloc (oG s) = X at *
  obtain ⟨p1, p2, p3, p4, p5⟩ := (five_cells HB0.out).re
  refine wp_region_quiet_below (by assumption) (by kernel_rfl) ?_
  repeat (go_big_quiet_step (first
    | (go_at_call 45; exact Calls.regrown_of (HK.out _))
    | (go_at_call 60; exact Calls.regrown_of (HC.out _))))
  refine wpQuiet_nil ?_
  intro _ hw'
  obtain ⟨⟨nq, osq⟩, hw''⟩ := hw'
  subst hw''
  have hBq := below_regrown X nq osq
  have hL1 := bt hL hBq
  have HB1 := Lib.hid (box_on HB0.out hBq)
  clear p1 p2 p3 p4 p5 hBq HB0 hL HC nec t1
  generalize grow (redrawn X nq) osq = X1 at *
  obtain ⟨c1, c2, c3, c4, c5⟩ := five_cells HB1.out
  rw [Nat.zero_add] at c2 c3 c4 c5
  go_wp2_with fail
  clear c1 c2 c3 c4 c5
  refine (HK.out _).mono ?_
  rintro e y1 ⟨rfl, hB1⟩
  have hL2 := bt hL1 hB1
  have HB2 := Lib.hid (box_on HB1.out hB1)
  clear hB1 hL1 HB1
  go_wp2_with fail
  refine (HFI.out _ (HR.out.below hL2)).mono ?_
  rintro e y2 ⟨rfl, hB2⟩
  have hL3 := bt hL2 hB2
  have HB3 := Lib.hid (box_on HB2.out hB2)
  clear hB2 hL2 HB2 HFI
  go_upto_region 5 with fail
  have hB0 := below_new y2 (.cells #[] 38)
  have HO0 := Lib.hid (own_emptyG y2)
  have HL0 := Lib.hid ((HR.out.below hL3).below hB0)
  go_upto_region 6 with (at_builtin; refine wpList_append_segs _ rfl _ _ 32 rfl y2.heap.size 38 i0 (.agg #[.int .i64 0, .int .i64 0, .int .i64 0, .int .i64 0, .int .i64 0]) 40 Try.underlying32 hi0 hz0 hz1 hz2 rfl _ 0 [] (by rfl) HO0.out a cap l (by rfl) HL0.out (by unfold maxLen; omega) (by omega) (by simp) ?_; intro a1 cap1 w1 hown1 hgrow1; rw [Nat.zero_add, List.nil_append] at hown1; have hBn : Go.RowKit.Below y2.heap.size y2 w1 := hB0.grown hgrow1 (by simp) (fun k hk => (HO0.out.lt k hk).1); have HO1 := Lib.hid hown1; clear hown1 hgrow1)
  have HB4 := Lib.hid (box_on HB3.out hBn)
  have hlt := lt_of_block HB3.out
  obtain ⟨g, rfl, hg, hc5, hfz⟩ := own_atG HO1.out rfl kN hk
  have HO2 := Lib.hid (own_setG HO1.out kN hk s)
  have HCAP := Lib.hid (own_capG HO1.out)
  obtain ⟨c1, c2, c3, c4, c5⟩ := five_cells HB4.out
  rw [Nat.zero_add] at c2 c3 c4 c5
  obtain ⟨d1, d2, d3, d4, d5⟩ := hc5
  have f1 := hfz (kN * 5)
  have f2 := hfz (kN * 5 + 1)
  have f3 := hfz (kN * 5 + 2)
  have f4 := hfz (kN * 5 + 3)
  have f5 := hfz (kN * 5 + 4)
  have hge : w.heap.size ≤ g := by have := hL3.size; omega
  have hLf := (((((bt hL3 hBn).setCell (p := ⟨g, kN * 5, none⟩) hge (.int .i64 s.ls)).setCell (p := ⟨g, kN * 5 + 1, none⟩) hge (.int .i64 s.la)).setCell (p := ⟨g, kN * 5 + 2, none⟩) hge (.int .i64 s.hs)).setCell (p := ⟨g, kN * 5 + 3, none⟩) hge (.int .i64 s.ha)).setCell (p := ⟨g, kN * 5 + 4, none⟩) hge (.int .i64 s.v)
  generalize l[kN] = old at *
  clear hfz hB0 HL0 HO0 HO1 hBn
  go_wp2_with fail
  go_ret2
  refine ⟨some ⟨g, 0, none⟩, cap1, ⟨by rw [List.length_set]; rfl, own_grow HO2.out (by simp), by rw [List.length_set]; exact HCAP.out, .inr fun p hp => by cases hp; exact hge⟩, hLf⟩
end Go.Proofs.Ytjgcdmeojjnjlaa
/- laid: a thing is laid into a row of the call's own, those behind it move on. -/
namespace Go.Proofs.Ytjgcdmeojjnjlaa
open Go.RowKit Go.Sort Go.Proofs.Ytjgcdmeojjnjlaa.Bo
set_option linter.unusedVariables false
/-- The answer is a row of the call's own: in the block of the one that came, or in a new one. -/
def OPost (w : World) (base : Nat) (e : TypeId) (size : Nat) (v : Value) (n : Nat) (xs : List Value) (en : Ending) (w' : World) : Prop :=
  ∃ a cap, (en = .returned (.slice a n cap) ∧ w'.ownsRow base e size (.slice a n cap) n xs) ∧ w.grownBy w' v.ownBlock ∧ ∀ b, (Value.slice a n cap).ownBlock = some b → v.ownBlock = some b ∨ w.heap.size ≤ b
theorem laid_list {α : Type} (l : List α) (s : α) (i : Nat) (hi : i ≤ l.length) :
    (if l.length - i = 0 then l ++ [s] else (l ++ [s]).take (i + 1) ++ ((l ++ [s]).drop i).take (l.length - i) ++ (l ++ [s]).drop (i + 1 + (l.length - i))).set i s = l.take i ++ s :: l.drop i := by
  apply List.ext_getElem?
  intro j
  split
  · next h =>
    have : i = l.length := by omega
    subst this
    simp only [List.getElem?_set, List.getElem?_append, List.length_append, List.length_cons, List.length_nil, List.length_take, List.getElem?_take, List.getElem?_cons, List.getElem?_drop]
    repeat' split
    all_goals first | rfl | omega | simp_all | skip
    all_goals first | omega | (exfalso; omega) | simp
  · next h =>
    simp only [List.getElem?_set, List.getElem?_append, List.length_append, List.length_cons, List.length_nil, List.length_take, List.length_drop, List.getElem?_take, List.getElem?_cons, List.getElem?_drop]
    repeat' split
    all_goals first | rfl | omega | (congr 1; omega) | (exfalso; omega) | skip
    all_goals first | (simp; omega) | simp_all | skip
theorem flatG_take : ∀ (l : List G5) (k : Nat), (flatG l).take (k * 5) = flatG (l.take k)
  | [], k => by simp [flatG]
  | g :: t, 0 => by simp [flatG]
  | g :: t, k + 1 => by
    have e : (k + 1) * 5 = k * 5 + 1 + 1 + 1 + 1 + 1 := by omega
    rw [e]
    show _ = flatG (g :: t.take k)
    simp only [flatG, List.flatMap_cons, List.cons_append, List.nil_append, List.take_succ_cons]
    rw [show t.flatMap _ = flatG t from rfl, flatG_take t k]
    rfl
theorem flatG_drop : ∀ (l : List G5) (k : Nat), (flatG l).drop (k * 5) = flatG (l.drop k)
  | [], k => by simp [flatG]
  | g :: t, 0 => by simp [flatG]
  | g :: t, k + 1 => by
    have e : (k + 1) * 5 = k * 5 + 1 + 1 + 1 + 1 + 1 := by omega
    rw [e]
    show _ = flatG (t.drop k)
    simp only [flatG, List.flatMap_cons, List.cons_append, List.nil_append, List.drop_succ_cons]
    rw [show t.flatMap _ = flatG t from rfl, flatG_drop t k]
    rfl
end Go.Proofs.Ytjgcdmeojjnjlaa
/- Rows of segments stay rows by rising keys, whatever is done. No Go in sight. -/
namespace Go.Proofs.Ytjgcdmeojjnjlaa.Bo
/-- By rising keys, each as it may be put. -/
structure RowOk (l : List G5) : Prop where
  ris : ∀ i j (hi : i < l.length) (hj : j < l.length), i < j → l[i].key < l[j].key
  may : ∀ g ∈ l, g.may = true
theorem rowOk_nil : RowOk [] := ⟨fun i j hi => absurd hi (Nat.not_lt_zero _), fun g hg => by simp at hg⟩
theorem G5.may_is (g : G5) (h : g.may = true) : g.is g.key = true := by
  unfold G5.may at h
  simp at h
  exact h.1
theorem insG_mem (s g : G5) (l : List G5) : g ∈ insG s l ↔ g = s ∨ g ∈ l := by
  induction l with
  | nil => simp [insG]
  | cons a t ih =>
    unfold insG
    split
    · simp
    · rw [List.mem_cons, ih, List.mem_cons]
      constructor
      · rintro (h | h | h)
        · exact Or.inr (Or.inl h)
        · exact Or.inl h
        · exact Or.inr (Or.inr h)
      · rintro (h | h | h)
        · exact Or.inr (Or.inl h)
        · exact Or.inl h
        · exact Or.inr (Or.inr h)
theorem ris_iff (l : List G5) : (∀ i j (hi : i < l.length) (hj : j < l.length), i < j → l[i].key < l[j].key) ↔ l.Pairwise (fun a b => a.key < b.key) := by
  rw [List.pairwise_iff_getElem]
theorem insG_pair (s : G5) (l : List G5) (h : l.Pairwise (fun a b => a.key < b.key)) (hn : ∀ g ∈ l, g.key ≠ s.key) : (insG s l).Pairwise (fun a b => a.key < b.key) := by
  induction l with
  | nil => simp [insG]
  | cons a t ih =>
    rw [List.pairwise_cons] at h
    unfold insG
    split
    · rename_i hlt
      rw [List.pairwise_cons]
      refine ⟨fun b hb => ?_, List.pairwise_cons.2 h⟩
      rcases List.mem_cons.1 hb with rfl | hb
      · exact hlt
      · have := h.1 b hb; omega
    · rename_i hge
      rw [List.pairwise_cons]
      refine ⟨fun b hb => ?_, ih h.2 (fun g hg => hn g (List.mem_cons_of_mem _ hg))⟩
      rcases (insG_mem s b t).1 hb with rfl | hb
      · have := hn a (List.mem_cons_self ..); omega
      · exact h.1 b hb
theorem findG_none (l : List G5) (s : G5) (h : RowOk l) (hf : ¬ findG l s.key < l.length) : ∀ g ∈ l, g.key ≠ s.key := by
  intro g hg he
  apply hf
  unfold findG
  apply List.findIdx_lt_length_of_exists
  exact ⟨g, hg, by rw [← he]; exact g.may_is (h.may g hg)⟩
theorem findG_key (l : List G5) (k : Int) (hk : Ky k) (hf : findG l k < l.length) : l[findG l k].key = k := by
  have h := List.findIdx_getElem (w := hf)
  exact G5.is_key _ _ hk h
theorem putG_ok (l : List G5) (room : Int) (s : G5) (h : RowOk l) (hk : Ky s.key) : RowOk (putG l room s).1 := by
  unfold putG
  by_cases h1 : s.may = false
  · rw [if_pos h1]; exact h
  rw [if_neg h1]
  have hm : s.may = true := by cases hs : s.may with | true => rfl | false => exact absurd hs h1
  by_cases h2 : findG l s.key < l.length
  · rw [if_pos h2]
    have hkey := findG_key l s.key hk h2
    generalize findG l s.key = n at *
    refine ⟨fun i j hi hj hij => ?_, fun g hg => ?_⟩
    · simp only [List.length_set] at hi hj
      have h3 := h.ris i j hi hj hij
      show (l.set n s)[i].key < (l.set n s)[j].key
      rw [List.getElem_set, List.getElem_set]
      by_cases e1 : n = i
      · subst e1
        rw [if_pos rfl, if_neg (by omega)]
        omega
      · rw [if_neg e1]
        by_cases e2 : n = j
        · subst e2
          rw [if_pos rfl]
          omega
        · rw [if_neg e2]; exact h3
    · rcases List.mem_or_eq_of_mem_set hg with h3 | rfl
      · exact h.may g h3
      · exact hm
  rw [if_neg h2]
  by_cases h3 : room ≤ (l.length : Int)
  · rw [if_pos h3]; exact h
  · rw [if_neg h3]
    refine ⟨(ris_iff _).2 (insG_pair s l ((ris_iff l).1 h.ris) (findG_none l s h h2)), fun g hg => ?_⟩
    rcases (insG_mem s g l).1 hg with rfl | hg
    · exact hm
    · exact h.may g hg
theorem delG_ok (l : List G5) (k : Int) (h : RowOk l) : RowOk (delG l k).1 := by
  unfold delG
  by_cases h1 : findG l k < l.length
  · rw [if_pos h1]
    generalize findG l k = n at *
    have e : l.take n ++ l.drop (n + 1) = l.eraseIdx n := by rw [List.eraseIdx_eq_take_drop_succ]
    show RowOk (l.take n ++ l.drop (n + 1))
    rw [e]
    exact ⟨(ris_iff _).2 (((ris_iff l).1 h.ris).sublist (List.eraseIdx_sublist ..)), fun g hg => h.may g ((List.eraseIdx_sublist ..).subset hg)⟩
  · rw [if_neg h1]; exact h
end Go.Proofs.Ytjgcdmeojjnjlaa.Bo
/- B-trees of segments whose nodes stand in places; ways down to them; how they lie in an arena. No Go in sight. -/
namespace Go.Proofs.Ytjgcdmeojjnjlaa.Bb
open Go.Proofs.Ytjgcdmeojjnjlaa.Bo
/-- A node's own: its segments, the places of its children. -/
structure Kn where
  segs : List G5
  kids : List Int
inductive Bt where
  | mk (i : Nat) (s : List G5) (ks : List Bt) : Bt
namespace Bt
def i : Bt → Nat
  | mk i _ _ => i
def s : Bt → List G5
  | mk _ s _ => s
def ks : Bt → List Bt
  | mk _ _ ks => ks
def idx (t : Bt) : Int := (t.i : Int)
theorem eta (t : Bt) : mk t.i t.s t.ks = t := by cases t; rfl
end Bt
/-- Rows, each with the segment behind it. -/
def wl : List (List G5) → List G5 → List G5
  | r :: rs, x :: xs => r ++ x :: wl rs xs
  | _, _ => []
/-- Rows, each with the segment ahead of it. -/
def wr : List G5 → List (List G5) → List G5
  | x :: xs, r :: rs => x :: (r ++ wr xs rs)
  | _, _ => []
theorem wl_nil (rs : List (List G5)) : wl rs [] = [] := by cases rs <;> rfl
theorem wr_append (xs ys : List G5) (rs qs : List (List G5)) (h : xs.length = rs.length) : wr (xs ++ ys) (rs ++ qs) = wr xs rs ++ wr ys qs := by
  induction xs generalizing rs with
  | nil => cases rs with
    | nil => rfl
    | cons r rs => simp at h
  | cons x xs ih => cases rs with
    | nil => simp at h
    | cons r rs => simp only [List.cons_append, wr, ih rs (by simpa using h), List.append_assoc]
theorem wl_append (xs ys : List G5) (rs qs : List (List G5)) (h : xs.length = rs.length) : wl (rs ++ qs) (xs ++ ys) = wl rs xs ++ wl qs ys := by
  induction xs generalizing rs with
  | nil => cases rs with
    | nil => rfl
    | cons r rs => simp at h
  | cons x xs ih => cases rs with
    | nil => simp at h
    | cons r rs => simp only [List.cons_append, wl, ih rs (by simpa using h), List.append_assoc]
namespace Bt
/-- The row of a tree of that height. -/
def ino : Nat → Bt → List G5
  | 0, t => t.s
  | h + 1, t => match t.ks with
    | [] => t.s
    | k :: rest => ino h k ++ wr t.s (rest.map (ino h))
def ids : Nat → Bt → List Nat
  | 0, t => [t.i]
  | h + 1, t => t.i :: t.ks.flatMap (ids h)
theorem ino_cons (h i : Nat) (x : G5) (s : List G5) (k q : Bt) (rest : List Bt) : ino (h + 1) (mk i (x :: s) (k :: q :: rest)) = ino h k ++ x :: ino (h + 1) (mk i s (q :: rest)) := by
  simp [ino, ks, Bt.s, wr]
theorem ino_split (h i : Nat) (l : List Bt) (t : Bt) (r : List Bt) : ∀ (s : List G5), s.length = l.length + r.length → ino (h + 1) (mk i s (l ++ t :: r)) = wl (l.map (ino h)) (s.take l.length) ++ (ino h t ++ wr (s.drop l.length) (r.map (ino h))) := by
  induction l with
  | nil => intro s _; simp [ino, ks, Bt.s, wl]
  | cons k l ih =>
    intro s hs
    cases s with
    | nil => simp at hs; omega
    | cons x s =>
      have hs' : s.length = l.length + r.length := by simp at hs; omega
      have := ih s hs'
      cases l with
      | nil =>
        rw [List.nil_append] at this
        simp only [List.cons_append, List.nil_append]
        rw [ino_cons, this]
        simp [wl]
      | cons q l =>
        rw [List.cons_append] at this
        simp only [List.cons_append]
        rw [ino_cons, this]
        simp [wl]
theorem i_mem (h : Nat) (t : Bt) : t.i ∈ ids h t := by cases h <;> simp [ids]
end Bt
/-- A step of a way down: the node, its segments, the children ahead of the way and behind it. -/
structure BF where
  i : Nat
  s : List G5
  l : List Bt
  r : List Bt
def BF.ok (y : BF) : Prop := y.s.length = y.l.length + y.r.length
def bplug : List BF → Bt → Bt
  | [], t => t
  | y :: cx, t => bplug cx (.mk y.i y.s (y.l ++ t :: y.r))
def bpre : Nat → List BF → List G5
  | _, [] => []
  | h, y :: cx => bpre (h + 1) cx ++ wl (y.l.map (Bt.ino h)) (y.s.take y.l.length)
def bpost : Nat → List BF → List G5
  | _, [] => []
  | h, y :: cx => wr (y.s.drop y.l.length) (y.r.map (Bt.ino h)) ++ bpost (h + 1) cx
def bcids : Nat → List BF → List Nat
  | _, [] => []
  | h, y :: cx => y.i :: (y.l.flatMap (Bt.ids h) ++ y.r.flatMap (Bt.ids h) ++ bcids (h + 1) cx)
theorem hsucc (h : Nat) (y : BF) (cx : List BF) : h + 1 + cx.length = h + (y :: cx).length := by simp only [List.length_cons]; omega
theorem ino_plug (cx : List BF) : ∀ (h : Nat) (t : Bt), (∀ y ∈ cx, y.ok) → Bt.ino (h + cx.length) (bplug cx t) = bpre h cx ++ (Bt.ino h t ++ bpost h cx) := by
  induction cx with
  | nil => intro h t _; simp [bplug, bpre, bpost]
  | cons y cx ih =>
    intro h t hok
    have h1 := ih (h + 1) (.mk y.i y.s (y.l ++ t :: y.r)) (fun z hz => hok z (List.mem_cons_of_mem _ hz))
    rw [hsucc h y cx, Bt.ino_split h y.i y.l t y.r y.s (hok y (List.mem_cons_self ..))] at h1
    rw [show bplug (y :: cx) t = bplug cx (.mk y.i y.s (y.l ++ t :: y.r)) from rfl, h1]
    simp [bpre, bpost]
theorem ids_plug (cx : List BF) : ∀ (h : Nat) (t : Bt), (Bt.ids (h + cx.length) (bplug cx t)).Perm (bcids h cx ++ Bt.ids h t) := by
  induction cx with
  | nil => intro h t; simp [bplug, bcids]
  | cons y cx ih =>
    intro h t
    have h1 := ih (h + 1) (.mk y.i y.s (y.l ++ t :: y.r))
    rw [hsucc h y cx] at h1
    refine h1.trans ?_
    simp only [Bt.ids, Bt.i, Bt.ks, List.flatMap_append, List.flatMap_cons, bcids, List.cons_append]
    refine (List.perm_middle).trans ?_
    refine List.Perm.cons _ ?_
    have e : ∀ (a b c d : List Nat), (a ++ (b ++ (c ++ d))).Perm (b ++ d ++ a ++ c) := by
      intro a b c d
      have p1 : (a ++ (b ++ (c ++ d))).Perm ((b ++ (c ++ d)) ++ a) := List.perm_append_comm
      refine p1.trans ?_
      have p2 : (c ++ d).Perm (d ++ c) := List.perm_append_comm
      have p3 : (b ++ (c ++ d) ++ a).Perm (b ++ (d ++ c) ++ a) := (p2.append_left b).append_right a
      refine p3.trans ?_
      rw [List.append_assoc, List.append_assoc, List.append_assoc, List.append_assoc]
      have p4 : (c ++ a).Perm (a ++ c) := List.perm_append_comm
      exact (p4.append_left d).append_left b
    exact e _ _ _ _
/-- How a tree lies in an arena told as place to node. -/
def nodeAt (f : Int → Option Kn) (t : Bt) : Prop := f (t.i : Int) = some ⟨t.s, t.ks.map Bt.idx⟩
def RepB (f : Int → Option Kn) : Nat → Bt → Prop
  | 0, t => nodeAt f t ∧ t.ks = []
  | h + 1, t => nodeAt f t ∧ t.ks.length = t.s.length + 1 ∧ ∀ k ∈ t.ks, RepB f h k
def RepX (f : Int → Option Kn) : Nat → List BF → Int → Prop
  | _, [], _ => True
  | h, y :: cx, c => f (y.i : Int) = some ⟨y.s, y.l.map Bt.idx ++ c :: y.r.map Bt.idx⟩ ∧ y.ok ∧ (∀ k ∈ y.l ++ y.r, RepB f h k) ∧ RepX f (h + 1) cx (y.i : Int)
theorem RepB.node {f : Int → Option Kn} {h : Nat} {t : Bt} (r : RepB f h t) : nodeAt f t := by cases h <;> exact r.1
theorem rep_plug {f : Int → Option Kn} (cx : List BF) : ∀ (h : Nat) (t : Bt), RepB f (h + cx.length) (bplug cx t) ↔ RepX f h cx t.idx ∧ RepB f h t := by
  induction cx with
  | nil => intro h t; simp [bplug, RepX]
  | cons y cx ih =>
    intro h t
    have h1 := ih (h + 1) (.mk y.i y.s (y.l ++ t :: y.r))
    rw [hsucc h y cx] at h1
    rw [show bplug (y :: cx) t = bplug cx (.mk y.i y.s (y.l ++ t :: y.r)) from rfl, h1]
    simp only [RepX, RepB, nodeAt, Bt.i, Bt.s, Bt.ks, Bt.idx, List.map_append, List.map_cons, List.length_append, List.length_cons, BF.ok]
    constructor
    · rintro ⟨h2, h3, h4, h5⟩
      exact ⟨⟨h3, by omega, fun k hk => h5 k (by simp at hk ⊢; rcases hk with hk | hk; exact .inl hk; exact .inr (.inr hk)), h2⟩, h5 t (by simp)⟩
    · rintro ⟨⟨h3, h4, h5, h2⟩, h6⟩
      refine ⟨h2, h3, by omega, fun k hk => ?_⟩
      simp at hk
      rcases hk with hk | rfl | hk
      · exact h5 k (by simp [hk])
      · exact h6
      · exact h5 k (by simp [hk])
theorem repX_ok {f : Int → Option Kn} (cx : List BF) : ∀ (h : Nat) (c : Int), RepX f h cx c → ∀ y ∈ cx, y.ok := by
  induction cx with
  | nil => intro h c _ y hy; simp at hy
  | cons z cx ih =>
    rintro h c ⟨_, h2, _, h4⟩ y hy
    rcases List.mem_cons.1 hy with rfl | hy
    · exact h2
    · exact ih _ _ h4 y hy
theorem repB_congr {f g : Int → Option Kn} : ∀ (h : Nat) (t : Bt), (∀ k ∈ Bt.ids h t, g (k : Int) = f (k : Int)) → RepB f h t → RepB g h t := by
  intro h
  induction h with
  | zero => rintro t hk ⟨h1, h2⟩; exact ⟨(hk t.i (by simp [Bt.ids])).trans h1, h2⟩
  | succ h ih =>
    rintro t hk ⟨h1, h2, h3⟩
    exact ⟨(hk t.i (by simp [Bt.ids])).trans h1, h2, fun k hm => ih k (fun j hj => hk j (by simp only [Bt.ids, List.mem_cons, List.mem_flatMap]; exact .inr ⟨k, hm, hj⟩)) (h3 k hm)⟩
theorem repX_congr {f g : Int → Option Kn} (cx : List BF) : ∀ (h : Nat) (c : Int), (∀ k ∈ bcids h cx, g (k : Int) = f (k : Int)) → RepX f h cx c → RepX g h cx c := by
  induction cx with
  | nil => intro h c _ _; trivial
  | cons y cx ih =>
    rintro h c hk ⟨h1, h2, h3, h4⟩
    refine ⟨(hk y.i (by simp [bcids])).trans h1, h2, fun k hm => repB_congr h k (fun j hj => hk j ?_) (h3 k hm), ih _ _ (fun j hj => hk j (by simp [bcids, hj])) h4⟩
    simp only [bcids, List.mem_cons, List.mem_append, List.mem_flatMap]
    rcases List.mem_append.1 hm with hm | hm
    · exact .inr (.inl (.inl ⟨k, hm, hj⟩))
    · exact .inr (.inl (.inr ⟨k, hm, hj⟩))
/-- How many segments nodes have: each but the root. -/
def Deg (d : Nat) : Nat → Bt → Prop
  | 0, t => d ≤ t.s.length + 1 ∧ t.s.length + 1 ≤ 2 * d
  | h + 1, t => (d ≤ t.s.length + 1 ∧ t.s.length + 1 ≤ 2 * d) ∧ ∀ k ∈ t.ks, Deg d h k
/-- The root. -/
def DegR (d : Nat) : Nat → Bt → Prop
  | 0, t => 1 ≤ t.s.length ∧ t.s.length + 1 ≤ 2 * d
  | h + 1, t => (1 ≤ t.s.length ∧ t.s.length + 1 ≤ 2 * d) ∧ ∀ k ∈ t.ks, Deg d h k
def DegX (d : Nat) : Nat → List BF → Prop
  | _, [] => True
  | h, y :: cx => (∀ k ∈ y.l ++ y.r, Deg d h k) ∧ y.s.length + 1 ≤ 2 * d ∧ (if cx = [] then 1 ≤ y.s.length else d ≤ y.s.length + 1) ∧ DegX d (h + 1) cx
theorem deg_plug (d : Nat) (cx : List BF) : ∀ (h : Nat) (t : Bt), DegR d (h + cx.length) (bplug cx t) ↔ DegX d h cx ∧ (if cx = [] then DegR d h t else Deg d h t) := by
  induction cx with
  | nil => intro h t; simp [bplug, DegX]
  | cons y cx ih =>
    intro h t
    have h1 := ih (h + 1) (.mk y.i y.s (y.l ++ t :: y.r))
    rw [hsucc h y cx] at h1
    rw [show bplug (y :: cx) t = bplug cx (.mk y.i y.s (y.l ++ t :: y.r)) from rfl, h1]
    simp only [DegX, Deg, DegR, Bt.s, Bt.ks]
    have hm : (∀ k ∈ y.l ++ t :: y.r, Deg d h k) ↔ (∀ k ∈ y.l ++ y.r, Deg d h k) ∧ Deg d h t := by
      simp only [List.mem_append, List.mem_cons]
      constructor
      · intro h2; exact ⟨fun k hk => h2 k (hk.elim .inl (fun h => .inr (.inr h))), h2 t (.inr (.inl rfl))⟩
      · rintro ⟨h2, h3⟩ k (hk | rfl | hk)
        · exact h2 k (.inl hk)
        · exact h3
        · exact h2 k (.inr hk)
    rw [hm]
    by_cases e : cx = []
    · subst e
      simp
      constructor
      · rintro ⟨h2, ⟨h3, h4⟩, h5, h6⟩; exact ⟨⟨h5, h4, h3, h2⟩, h6⟩
      · rintro ⟨⟨h5, h4, h3, h2⟩, h6⟩; exact ⟨h2, ⟨h3, h4⟩, h5, h6⟩
    · simp [e]
      constructor
      · rintro ⟨h2, ⟨h3, h4⟩, h5, h6⟩; exact ⟨⟨h5, h4, h3, h2⟩, h6⟩
      · rintro ⟨⟨h5, h4, h3, h2⟩, h6⟩; exact ⟨h2, ⟨h3, h4⟩, h5, h6⟩
end Go.Proofs.Ytjgcdmeojjnjlaa.Bb
/- The nearest segments of a row. No Go in sight. -/
namespace Go.Proofs.Ytjgcdmeojjnjlaa.Bo
def g0 : G5 := ⟨0, 0, 0, 0, 0⟩
/-- One of a row: is it the one that is sought, or a nearer one? 0 Floor, 1 Lower, 2 Ceiling, 3 Higher. -/
def hit1 (which k : Int) : Bool := (which == 0 && decide (k ≤ 0)) || (which == 1 && decide (k < 0))
def hit2 (which k : Int) : Bool := (which == 2 && decide (0 ≤ k)) || (which == 3 && decide (0 < k))
def nstep (which c : Int) (s : G5 × Bool) (g : G5) : G5 × Bool := if hit1 which (kcmp g.key c) = true then (g, true) else if s.2 = false ∧ hit2 which (kcmp g.key c) = true then (g, true) else s
def nearG (l : List G5) (c which : Int) : G5 × Bool := l.foldl (nstep which c) (g0, false)
/-- What is told of one that may not be there. -/
def opt (o : Option G5) : G5 × Bool := match o with | some g => (g, true) | none => (g0, false)
theorem kcmp_le (a b : Int) : decide (kcmp a b ≤ 0) = decide (a ≤ b) := by
  unfold kcmp; split
  · simp; omega
  · split <;> simp <;> omega
theorem kcmp_lt0 (a b : Int) : decide (kcmp a b < 0) = decide (a < b) := by
  unfold kcmp; split
  · simp; omega
  · split <;> simp <;> omega
theorem kcmp_ge (a b : Int) : decide (0 ≤ kcmp a b) = decide (b ≤ a) := by
  unfold kcmp; split
  · simp; omega
  · split <;> simp <;> omega
theorem kcmp_gt0 (a b : Int) : decide (0 < kcmp a b) = decide (b < a) := by
  unfold kcmp; split
  · simp; omega
  · split <;> simp <;> omega
theorem near_last (q : G5 → Bool) (w c : Int) (h1 : ∀ g, hit1 w (kcmp g.key c) = q g) (h2 : ∀ k, hit2 w k = false) (l : List G5) : nearG l c w = opt ((l.filter q).getLast?) := by
  have : ∀ (l : List G5) (s : G5 × Bool), l.foldl (nstep w c) s = match (l.filter q).getLast? with | some g => (g, true) | none => s := by
    intro l
    induction l with
    | nil => intro s; rfl
    | cons a l ih =>
      intro s
      rw [List.foldl_cons, ih]
      have e : nstep w c s a = if q a = true then (a, true) else s := by
        unfold nstep; rw [h1, h2]; simp
      rw [e]
      by_cases qa : q a = true
      · rw [if_pos qa, List.filter_cons_of_pos qa, List.getLast?_cons]
        cases (l.filter q).getLast? <;> rfl
      · rw [if_neg qa, List.filter_cons_of_neg qa]
  unfold nearG
  rw [this]
  unfold opt
  rfl
theorem near_first (q : G5 → Bool) (w c : Int) (h1 : ∀ k, hit1 w k = false) (h2 : ∀ g, hit2 w (kcmp g.key c) = q g) (l : List G5) : nearG l c w = opt ((l.filter q).head?) := by
  have ht : ∀ (l : List G5) (g : G5), l.foldl (nstep w c) (g, true) = (g, true) := by
    intro l
    induction l with
    | nil => intro g; rfl
    | cons a l ih => intro g; rw [List.foldl_cons, show nstep w c (g, true) a = (g, true) by unfold nstep; rw [h1]; simp, ih]
  unfold nearG
  induction l with
  | nil => rfl
  | cons a l ih =>
    rw [List.foldl_cons]
    have e : nstep w c (g0, false) a = if q a = true then (a, true) else (g0, false) := by
      unfold nstep; rw [h1, h2]; simp
    rw [e]
    by_cases qa : q a = true
    · rw [if_pos qa, ht, List.filter_cons_of_pos qa]; rfl
    · rw [if_neg qa, ih, List.filter_cons_of_neg qa]
theorem near0 (l : List G5) (c : Int) : nearG l c 0 = opt ((l.filter (fun g => decide (g.key ≤ c))).getLast?) :=
  near_last _ 0 c (fun g => by unfold hit1; rw [kcmp_le]; simp) (fun k => by unfold hit2; simp) l
theorem near1 (l : List G5) (c : Int) : nearG l c 1 = opt ((l.filter (fun g => decide (g.key < c))).getLast?) :=
  near_last _ 1 c (fun g => by unfold hit1; rw [kcmp_lt0]; simp) (fun k => by unfold hit2; simp) l
theorem near2 (l : List G5) (c : Int) : nearG l c 2 = opt ((l.filter (fun g => decide (c ≤ g.key))).head?) :=
  near_first _ 2 c (fun k => by unfold hit1; simp) (fun g => by unfold hit2; rw [kcmp_ge]; simp) l
theorem near3 (l : List G5) (c : Int) : nearG l c 3 = opt ((l.filter (fun g => decide (c < g.key))).head?) :=
  near_first _ 3 c (fun k => by unfold hit1; simp) (fun g => by unfold hit2; rw [kcmp_gt0]; simp) l
end Go.Proofs.Ytjgcdmeojjnjlaa.Bo
