/- A part of the proof: contracts of the functions that the statements reach. -/
import Derived.Test.YtakkmnhiaddnnaaRows
import Derived.Test.YtakkmnhiaddnnaaCA
import Derived.Test.YtakkmnhiaddnnaaCB
import Derived.Test.YtakkmnhiaddnnaaCC
import Derived.Test.YtakkmnhiaddnnaaCD
import Derived.Test.YtakkmnhiaddnnaaCE
import Derived.Test.YtakkmnhiaddnnaaCF
import Derived.Test.YtakkmnhiaddnnaaCG
import Derived.Test.YtakkmnhiaddnnaaCH
import Derived.Test.YtakkmnhiaddnnaaCI
import Derived.Test.YtakkmnhiaddnnaaCJ
import Derived.Test.YtakkmnhiaddnnaaCK
import Derived.Test.YtakkmnhiaddnnaaCL
import Derived.Test.YtakkmnhiaddnnaaCM
import Derived.Test.YtakkmnhiaddnnaaCN
import Derived.Test.YtakkmnhiaddnnaaCO
import Derived.Lib.SmallJoins
import Derived.Deep.SlicePairs
import Derived.Deep.Strs
import Derived.OpenShut
import Derived.ChangeOld
import Derived.SizedLaws
import Derived.Deep.LoopGhost
import Derived.Deep.RegionHeld3
import Derived.Lib.SliceRun

/- Contract of the laws' does. -/
namespace Go.Proofs.Ytakkmnhiaddnnaa
open Go.RowKit Go.Sort Go.Proofs.Ytakkmnhiaddnnaa.Bo
set_option linter.unusedVariables false

/-- What does touches of its own. -/
def OwnD (w : World) : Nat → Prop := fun b => b = w.heap.size + 1 ∨ b = w.heap.size + 1 + 1
theorem own1 (w w1 : World) (j : Nat) (u : Value) : Kp (OwnD w) w1 (w1.setCell ⟨w.heap.size + 1 + 1, j, none⟩ u) := (Kp.refl _ _).setCell ⟨w.heap.size + 1 + 1, j, none⟩ (.inl (.inr rfl)) _
theorem own2 {w w1 X : World} (h : Kp (OwnD w) w1 X) (j : Nat) (u : Value) : Kp (OwnD w) w1 (X.setCell ⟨w.heap.size + 1 + 1, j, none⟩ u) := h.setCell ⟨w.heap.size + 1 + 1, j, none⟩ (.inl (.inr rfl)) _
theorem own4 {w w1 X : World} (h : Kp (OwnD w) w1 X) (y0 y1 y2 y3 : Value) : Kp (OwnD w) w1 (set4 X (w.heap.size + 1) y0 y1 y2 y3) :=
  (((h.setCell ⟨w.heap.size + 1, 0, none⟩ (.inl (.inl rfl)) _).setCell ⟨w.heap.size + 1, 1, none⟩ (.inl (.inl rfl)) _).setCell ⟨w.heap.size + 1, 2, none⟩ (.inl (.inl rfl)) _).setCell ⟨w.heap.size + 1, 3, none⟩ (.inl (.inl rfl)) _
end Go.Proofs.Ytakkmnhiaddnnaa

/- The laws' alive. -/
namespace Go.Proofs.Ytakkmnhiaddnnaa
open Go.RowKit Go.Sort Go.Proofs.Ytakkmnhiaddnnaa.Bo
set_option linter.unusedVariables false

theorem i64_small (z : Int) (h : -1000 ≤ z ∧ z ≤ 1000) : I64 z := by unfold I64; omega
end Go.Proofs.Ytakkmnhiaddnnaa

/- Calls of the document's arena as arguments: one by value, a slice of them. -/
namespace Go.Proofs.Ytakkmnhiaddnnaa
open Go.ChangeShapes Go.WideShapes Go.ChangeAt Go.RowKit Go.Sort Go.Joins Go.Proofs.Ytakkmnhiaddnnaa.Bo
set_option linter.unusedVariables false

/-- A call: its kind, a place, a number. -/
structure O3 where
  k : Int
  i : Int
  v : Int
def O3.ok (o : O3) : Prop := I64 o.k ∧ I64 o.i ∧ I64 o.v
abbrev vO (o : O3) : Value := .agg #[.int .i64 o.k, .int .i64 o.i, .int .i64 o.v]
def Cells3 (w : World) (b x : Nat) (o : O3) : Prop := w.cell? ⟨b, x, none⟩ = some (.int .i64 o.k) ∧ w.cell? ⟨b, x + 1, none⟩ = some (.int .i64 o.i) ∧ w.cell? ⟨b, x + 2, none⟩ = some (.int .i64 o.v)
theorem Cells3.below {w w' : World} {b x : Nat} {o : O3} (h : Cells3 w b x o) (hb : Go.RowKit.Below w.heap.size w w') : Cells3 w' b x o :=
  ⟨(hb.cell (World.block_lt_of_cell? w _ h.1)).trans h.1, (hb.cell (World.block_lt_of_cell? w _ h.2.1)).trans h.2.1, (hb.cell (World.block_lt_of_cell? w _ h.2.2)).trans h.2.2⟩
/-- A slice of calls that holds l. -/
def ORow (w : World) (a : Option Addr) (l : List O3) : Prop := 0 < l.length → ∃ b off, a = some ⟨b, off, none⟩ ∧ ∀ (j : Nat) (h : j < l.length), Cells3 w b (off + j * 3) l[j]
theorem ORow.below {w w' : World} {a : Option Addr} {l : List O3} (h : ORow w a l) (hb : Go.RowKit.Below w.heap.size w w') : ORow w' a l := by
  intro hp
  obtain ⟨b, off, e, hc⟩ := h hp
  exact ⟨b, off, e, fun j hj => (hc j hj).below hb⟩
/-- A slice of calls. -/
def IsOps (w : World) (a : Option Addr) (len : Nat) (l : List O3) : Prop := len = l.length ∧ (∀ q ∈ l, q.ok) ∧ ORow w a l
theorem isOps_nil (w : World) : IsOps w none 0 [] := ⟨rfl, by simp, fun h => by simp at h⟩
theorem isOps_of (w : World) (x : Addr) (len m : Nat) (hlm : len ≤ m) (hi : ∀ i, i < m → ∃ o : O3, (∀ j u, [Value.int .i64 o.k, .int .i64 o.i, .int .i64 o.v][j]? = some u → w.cell? (x.add (i * 3 + j)) = some u) ∧ o.ok) : ∃ l, IsOps w (some x) len l := by
  have h' : ∀ i, ∃ o : O3, i < m → (∀ j u, [Value.int .i64 o.k, .int .i64 o.i, .int .i64 o.v][j]? = some u → w.cell? (x.add (i * 3 + j)) = some u) ∧ o.ok := by
    intro i
    by_cases h : i < m
    · obtain ⟨o, h1⟩ := hi i h
      exact ⟨o, fun _ => h1⟩
    · exact ⟨⟨0, 0, 0⟩, fun h2 => absurd h2 h⟩
  obtain ⟨f, hf⟩ := Classical.axiomOfChoice h'
  refine ⟨(List.range len).map f, by simp, ?_, ?_⟩
  · intro c hc
    obtain ⟨i, hi2, rfl⟩ := List.mem_map.1 hc
    exact (hf i (by have := List.mem_range.1 hi2; omega)).2
  · intro hp
    have hp' : 0 < len := by simpa using hp
    obtain ⟨b, off, spot⟩ := x
    have hspot : spot = none := by simpa [Addr.add] using World.cell?_spot ((hf 0 (by omega)).1 0 _ rfl)
    subst hspot
    refine ⟨b, off, rfl, fun j hj => ?_⟩
    have hj' : j < len := by simpa using hj
    have h1 := (hf j (by omega)).1
    simp only [List.getElem_map, List.getElem_range]
    have g0 := h1 0 _ rfl
    have g1 := h1 1 _ rfl
    have g2 := h1 2 _ rfl
    rw [Addr.add_lit] at g0 g1 g2
    exact ⟨g0, by rw [Nat.add_assoc]; exact g1, by rw [Nat.add_assoc]; exact g2⟩
end Go.Proofs.Ytakkmnhiaddnnaa

/- Scripts of calls on the document's arena; what holds of an arena behind any script. -/
namespace Go.Proofs.Ytakkmnhiaddnnaa
open Go.RowKit Go.Sort Go.Proofs.Ytakkmnhiaddnnaa.Bo
set_option linter.unusedVariables false

structure AG (a : Ar) (room : Int) : Prop where
  ok : a.ok
  rm : a.room = room
  le : a.ever ≤ room
theorem AG.new (room : Int) (h : 0 ≤ room ∧ room ≤ 65536) : AG (Ar.new room) room := ⟨Ar.new_ok room h, rfl, h.1⟩
theorem AG.does {a : Ar} {room : Int} (h : AG a room) (k i v : Int) (hv : I64 v) : AG (a.does k i v).1 room := by
  have hr := h.ok.room
  have h2 := a.does_le k i v hr.1 (by rw [h.rm]; exact h.le)
  exact ⟨a.does_ok k i v h.ok hv, h2.2.trans h.rm, by rw [← h.rm]; exact h2.1⟩
theorem AG.put {a : Ar} {room : Int} (h : AG a room) (v : Int) (hv : I64 v) : AG (a.put v).1 room := by
  have h2 := a.put_le v (by rw [h.rm]; exact h.le)
  exact ⟨a.put_ok v h.ok hv, h2.2.trans h.rm, by rw [← h.rm]; exact h2.1⟩
theorem AG.len {a : Ar} {room : Int} (h : AG a room) : a.l.length ≤ 65536 ∧ a.free.length ≤ 65536 := by
  have h1 := h.ok.ever
  have h2 := h.ok.room
  have h3 := h.le
  have h4 := h.rm
  have h5 := nodup_len a.l.length a.free h.ok.once (fun i hi => by have := h.ok.free i hi; omega)
  omega
theorem AG.len2 {a : Ar} {room : Int} (h : AG a room) : 0 ≤ a.len ∧ a.len ≤ room := by
  have h1 := h.ok.ever
  have h3 := h.ok.fits
  have h4 := h.rm
  have h5 := nodup_len a.l.length a.free h.ok.once (fun i hi => by have := h.ok.free i hi; omega)
  unfold Ar.len
  omega
/-- Behind a script. -/
def arun (a : Ar) (os : List O3) : Ar := os.foldl (fun a o => (a.does o.k o.i o.v).1) a
theorem arun_nil (a : Ar) : arun a [] = a := rfl
theorem arun_snoc (a : Ar) (os : List O3) (o : O3) : arun a (os ++ [o]) = ((arun a os).does o.k o.i o.v).1 := by unfold arun; rw [List.foldl_append]; rfl
theorem arun_step (a : Ar) (z : List O3) (j : Nat) (h : j < z.length) : arun a (z.take (j + 1)) = ((arun a (z.take j)).does z[j].k z[j].i z[j].v).1 := by
  rw [List.take_succ_eq_append_getElem h, arun_snoc]
theorem arun_ag {room : Int} (hr : 0 ≤ room ∧ room ≤ 65536) (z : List O3) (hz : ∀ o ∈ z, o.ok) : ∀ j, j ≤ z.length → AG (arun (Ar.new room) (z.take j)) room := by
  intro j
  induction j with
  | zero => intro _; exact AG.new room hr
  | succ j ih =>
    intro hj
    rw [arun_step _ _ _ (by omega)]
    exact (ih (by omega)).does _ _ _ (hz _ (List.getElem_mem _)).2.2
theorem arun_len (a : Ar) (z : List O3) : ∀ j, j ≤ z.length → (arun a (z.take j)).l.length ≤ a.l.length + j ∧ (arun a (z.take j)).free.length ≤ a.free.length + j := by
  intro j
  induction j with
  | zero => intro _; exact ⟨Nat.le_refl _, Nat.le_refl _⟩
  | succ j ih =>
    intro hj
    rw [arun_step _ _ _ (by omega)]
    have h1 := Ar.does_len (arun a (z.take j)) z[j].k z[j].i z[j].v
    have h2 := ih (by omega)
    omega
end Go.Proofs.Ytakkmnhiaddnnaa

/- Contract of the program's Copy. -/
namespace Go.Proofs.Ytakkmnhiaddnnaa
open Go.RowKit Go.Sort Go.Proofs.Ytakkmnhiaddnnaa.Bo
set_option linter.unusedVariables false

/-- append of an owned row, also of an empty one. -/
theorem run_append_src (w : World) (t ty e : TypeId) (base base' : Nat) (i : TypeInfo) (z : Value) (size bytes : Nat) (ht : Try.prog.underlying t = some (.slice e)) (hi : Try.prog.info? e = some i) (hz : i.zero = some z)
    (hsize : i.size = size) (hby : i.bytes = bytes) (hzs : z.cells.size = size) (hsz : 0 < size) (v : Value) (n : Nat) (xs : List Value) (hown : w.ownsRow base e size v n xs)
    (g m c : Nat) (ys : List Value) (hsrc : w.ownsRow base' e size (.slice (some ⟨g, 0, none⟩) m c) m ys) (h1 : ∀ u ∈ ys, u.oneCell' = true) (h63 : n + m ≤ 1000000) (hbt : bytes ≤ 1000) (hbase : base ≤ w.heap.size) :
    ∃ a' cap w', (Builtin.append_ #[t, t] ty #[v, .slice (some ⟨g, 0, none⟩) m c]).run Try.prog w = .ok (.slice a' (n + m) cap) w' ∧
      w'.ownsRow base e size (.slice a' (n + m) cap) (n + m) (xs ++ ys) ∧ w.grownBy w' v.ownBlock := by
  rcases Nat.eq_zero_or_pos m with h0 | h0
  · subst h0
    have hys : ys = [] := by
      have := hsrc.1
      rw [Nat.zero_mul] at this
      exact List.length_eq_zero_iff.1 this
    subst hys
    have hs : Src Try.prog i.size t (.slice (some ⟨g, 0, none⟩) 0 c) 0 [] w := Src.ofSlice w ht ⟨g, 0, none⟩ 0 c [] (by simp) (by simp) (by simp)
    have key : ∀ base' cap', v = .slice base' n cap' → n ≤ cap' → (Builtin.append_ #[t, t] ty #[v, .slice (some ⟨g, 0, none⟩) 0 c]).run Try.prog w = .ok (.slice base' n cap') w := by
      intro base' cap' hv hle
      rw [hv]
      exact run_append_nothing w t t ty e i ht hi base' n cap' hle _ hs
    rw [List.append_nil]
    rcases hown.2 with ⟨hv, hn⟩ | ⟨g', cap, cur, hv, r⟩
    · subst hn
      refine ⟨none, 0, w, key none 0 hv (Nat.le_refl _), ?_, World.grownBy.refl _ _⟩
      rw [hv] at hown; exact hown
    · refine ⟨some ⟨g', 0, none⟩, cap, w, key _ _ hv r.2.2.1, ?_, World.grownBy.refl _ _⟩
      rw [hv] at hown; exact hown
  · have hb : (n + m) * bytes ≤ 140737488355328 := Nat.le_trans (Nat.mul_le_mul h63 hbt) (by decide)
    obtain ⟨g', cap, w', k1, k2, k3, _, _⟩ := run_append_lies (P := Try.prog) w t ty base e i z size bytes ht hi hz hsize hby hzs hsz v n xs hown ⟨g, 0, none⟩ m c ys hsrc.1 (hsrc.cells rfl) h1 h0 (by unfold maxLen; omega) hb hbase _ rfl
    exact ⟨_, cap, w', k1, k2, k3⟩
theorem wpList_append_src {ops : Array Oper} {rest : List Oper} {o : Oper} {a : Act} {Q : Exit → Act → World → Prop} (w : World) (hgd : o.guard = none) (s x : Operand) (t : TypeId)
    (ho : o.op = .call { callee := .builtin .append, args := #[s, x], argTypes := #[t, t] })
    (base base' : Nat) (e : TypeId) (i : TypeInfo) (z : Value) (size bytes : Nat) (ht : Try.prog.underlying t = some (.slice e)) (hi : Try.prog.info? e = some i) (hz : i.zero = some z)
    (hsize : i.size = size) (hby : i.bytes = bytes) (hzs : z.cells.size = size) (hsz : 0 < size)
    (v : Value) (n : Nat) (xs : List Value) (hs : a.eval s = v) (hown : w.ownsRow base e size v n xs)
    (g m c : Nat) (ys : List Value) (hx : a.eval x = .slice (some ⟨g, 0, none⟩) m c) (hsrc : w.ownsRow base' e size (.slice (some ⟨g, 0, none⟩) m c) m ys) (h1 : ∀ u ∈ ys, u.oneCell' = true)
    (h63 : n + m ≤ 1000000) (hbt : bytes ≤ 1000) (hbase : base ≤ w.heap.size)
    (h : ∀ a' cap w', w'.ownsRow base e size (.slice a' (n + m) cap) (n + m) (xs ++ ys) → w.grownBy w' v.ownBlock → wpList Try.prog ops Q rest (a.put o.dst (.slice a' (n + m) cap)) w') : wpList Try.prog ops Q (o :: rest) a w := by
  refine wpList_plain hgd fun _ hK => ?_
  obtain ⟨a', cap, w', hr', h2, h3⟩ := run_append_src w t o.type e base base' i z size bytes ht hi hz hsize hby hzs hsz v n xs hown g m c ys hsrc h1 h63 hbt hbase
  unfold Oper.wp execOp
  simp only [ho, resolve, invoke, builtin, Sem.run_bind, Sem.run_pure, Result.andThen_ok, List.map_toArray, List.map_cons, List.map_nil, hs, hx, hr']
  exact hK _ _ (h a' cap w' h2 h3)
theorem own_none {w : World} {base : Nat} {e : TypeId} {size n cap : Nat} {xs : List Value} (h : w.ownsRow base e size (.slice none n cap) n xs) : n = 0 ∧ cap = 0 ∧ xs = [] := by
  rcases h.2 with ⟨h1, h2⟩ | ⟨g, c, cur, h1, _⟩
  · injection h1 with _ h3 h4
    refine ⟨h2, h4, ?_⟩
    have := h.1
    rw [h2, Nat.zero_mul] at this
    exact List.length_eq_zero_iff.1 this
  · cases h1
theorem own_some {w : World} {base : Nat} {e : TypeId} {size n cap : Nat} {x : Addr} {xs : List Value} (h : w.ownsRow base e size (.slice (some x) n cap) n xs) : ∃ g, x = ⟨g, 0, none⟩ := by
  rcases h.2 with ⟨h1, h2⟩ | ⟨g, c, cur, h1, _⟩
  · cases h1
  · injection h1 with h1 _ _
    injection h1 with h1
    exact ⟨g, h1⟩
theorem own_empty' (X : World) (e : TypeId) (size : Nat) : (X.alloc (.cells #[] e)).ownsRow X.heap.size e size (.slice (some ⟨X.heap.size, 0, none⟩) 0 0) 0 [] := ⟨by simp, .inr ⟨X.heap.size, 0, #[], rfl, Nat.le_refl _, heap_alloc_new _ _, Nat.le_refl _, Nat.zero_le _, by simp, by simp⟩⟩
theorem own_base {w : World} {base base' : Nat} {e : TypeId} {size : Nat} {v : Value} {n : Nat} {xs : List Value} (h : w.ownsRow base e size v n xs) (hb : base' ≤ base) : w.ownsRow base' e size v n xs := by
  refine ⟨h.1, ?_⟩
  rcases h.2 with hz | ⟨g, cap, cur, rfl, hb2, rest⟩
  · exact .inl hz
  · exact .inr ⟨g, cap, cur, rfl, Nat.le_trans hb hb2, rest⟩
/-- What a clone is: a row of its own making. -/
def ClPost (w : World) (e : TypeId) (size n : Nat) (xs : List Value) (en : Ending) (w' : World) : Prop := ∃ a cap, (en = .returned (.slice a n cap) ∧ w'.ownsRow w.heap.size e size (.slice a n cap) n xs) ∧ Go.RowKit.Below w.heap.size w w'
set_option maxRecDepth 100000 in
set_option maxHeartbeats 1000000 in
theorem clone_f {w : World} {base n cap : Nat} {a : Option Addr} {xs : List Value} (h : w.ownsRow base 3 1 (.slice a n cap) n xs) (h1 : ∀ u ∈ xs, u.oneCell' = true) (hn : n ≤ 1000000) :
    Calls Try.prog 82 #[.slice a n cap] w (ClPost w 3 1 n xs) := by
  obtain ⟨i0, hi, hz0, hz1, hz2⟩ := info_parts Try.infoInt
  have q22 : ∀ (w : World) (a : Option Addr) (n c n' c' : Nat), (binOp .eql 98 (.slice a n c) (.slice none n' c')).run Try.prog w = .ok (.bool a.isNone) w := fun w a n c n' c' => Lib.run_eql_slice_nil w _ _ a n c n' c' Try.underlying98
  cases a with
  | none =>
    obtain ⟨rfl, rfl, rfl⟩ := own_none h
    clear h h1
    go_enter Try.func82, Try.ntmps82
    go_wp2_with fail
    go_ret
    exact ⟨none, 0, ⟨rfl, World.ownsRow_nil _ _ _ _⟩, Go.RowKit.Below.refl _ _⟩
  | some x =>
    obtain ⟨g, rfl⟩ := own_some h
    have HO := Lib.hid (h.alloc (.cells #[] 3))
    have HE := Lib.hid (own_empty' w 3 1)
    have HB := Lib.hid (below_new w (.cells #[] 3))
    have H1 := Lib.hid h1
    clear h h1
    go_enter Try.func82, Try.ntmps82
    go_wp2_with (at_builtin; refine wpList_append_src _ rfl _ _ 98 rfl w.heap.size base 3 i0 _ 1 8 Try.underlying98 hi hz0 hz1 hz2 rfl (by omega) _ 0 [] (by rfl) HE.out g n cap xs (by rfl) HO.out H1.out (by omega) (by omega) (by simp) ?_; intro a1 cap1 w1 hown1 hgrow1; rw [Nat.zero_add, List.nil_append] at hown1; have HO1 := Lib.hid hown1; have HB1 : Hid (Go.RowKit.Below w.heap.size w w1) := HB.out.grown hgrow1 (by simp) (fun k hk => (HE.out.lt k hk).1); clear hown1 hgrow1)
    go_ret
    refine ⟨a1, cap1, ⟨?_, HO1.out⟩, HB1.out⟩
    first | rfl | rw [Nat.zero_add]

theorem box3_drew {W : World} {b : Nat} {o : Obj} (h : W.heap[b]? = some o) : W.drew.heap[b]? = some o := h
end Go.Proofs.Ytakkmnhiaddnnaa

/- The arena of bocage/rbtree.node: Copy. -/
namespace Go.Proofs.Ytakkmnhiaddnnaa
open Go.RowKit Go.Sort Go.Proofs.Ytakkmnhiaddnnaa.Bo
set_option linter.unusedVariables false

set_option maxRecDepth 100000 in
set_option maxHeartbeats 1000000 in
theorem rnclone {w : World} {base n cap : Nat} {a : Option Addr} {xs : List Value} (h : w.ownsRow base 111 10 (.slice a n cap) n xs) (h1 : ∀ u ∈ xs, u.oneCell' = true) (hn : n ≤ 1000000) :
    Calls Try.prog 81 #[.slice a n cap] w (ClPost w 111 10 n xs) := by
  obtain ⟨i0, hi, hz0, hz1, hz2⟩ := info_parts Try.infoNd
  have q22 : ∀ (w : World) (a : Option Addr) (n c n' c' : Nat), (binOp .eql 97 (.slice a n c) (.slice none n' c')).run Try.prog w = .ok (.bool a.isNone) w := fun w a n c n' c' => Lib.run_eql_slice_nil w _ _ a n c n' c' Try.underlying97
  cases a with
  | none =>
    obtain ⟨rfl, rfl, rfl⟩ := own_none h
    clear h h1
    go_enter Try.func81, Try.ntmps81
    go_wp2_with fail
    go_ret
    exact ⟨none, 0, ⟨rfl, World.ownsRow_nil _ _ _ _⟩, Go.RowKit.Below.refl _ _⟩
  | some x =>
    obtain ⟨g, rfl⟩ := own_some h
    have HO := Lib.hid (h.alloc (.cells #[] 111))
    have HE := Lib.hid (own_empty' w 111 10)
    have HB := Lib.hid (below_new w (.cells #[] 111))
    have H1 := Lib.hid h1
    clear h h1
    go_enter Try.func81, Try.ntmps81
    go_wp2_with (at_builtin; refine wpList_append_src _ rfl _ _ 97 rfl w.heap.size base 111 i0 _ 10 80 Try.underlying97 hi hz0 hz1 hz2 rfl (by omega) _ 0 [] (by rfl) HE.out g n cap xs (by rfl) HO.out H1.out (by omega) (by omega) (by simp) ?_; intro a1 cap1 w1 hown1 hgrow1; rw [Nat.zero_add, List.nil_append] at hown1; have HO1 := Lib.hid hown1; have HB1 : Hid (Go.RowKit.Below w.heap.size w w1) := HB.out.grown hgrow1 (by simp) (fun k hk => (HE.out.lt k hk).1); clear hown1 hgrow1)
    go_ret
    refine ⟨a1, cap1, ⟨?_, HO1.out⟩, HB1.out⟩
    first | rfl | rw [Nat.zero_add]
/-- What a copy is. -/
def rnCpPost (w : World) (a : Ag Nd) (e : Ending) (w' : World) : Prop := ∃ C S, (e = .returned (aP C) ∧ rnIs w' w.heap.size C a S) ∧ Go.RowKit.Below w.heap.size w w'
set_option maxRecDepth 100000 in
set_option maxHeartbeats 2000000 in
theorem rncopy_core (A base pn pc fn fc : Nat) (pa fa : Option Addr) (a : Ag Nd) (w : World) (HS : Hid (rnAt w base A a.room (.slice pa pn pc) (.slice fa fn fc) (a.ps rnZ) a.free)) (RM : Int) (HRM : Hid (RM = a.room)) (HPN : Hid (pn = (a.ps rnZ).length)) (HFN : Hid (fn = a.free.length)) (hp : pn ≤ 1000000) (hf : fn ≤ 1000000)
    (HX : Hid (w.heap[A]? = some (rnO RM (.slice pa pn pc) (.slice fa fn fc)))) :
    Calls Try.prog 61 #[aP A] w (rnCpPost w a) := by
  have mx := mixed
  have hsz : A < w.heap.size := lt_of_block HX.out
  have HX0 := Lib.hid (box3_drew HX.out)
  have hS0 := Lib.hid (box3 HX0.out).1
  have HP : Hid (∀ W, Go.RowKit.Below w.heap.size w W → Calls Try.prog 81 #[.slice pa pn pc] W (ClPost W 111 10 pn (flatQ rnE (a.ps rnZ)))) := fun W hb => by
    have h := (HS.out.below hb).prow
    rw [← HPN.out] at h
    exact rnclone h (flatQ_one _ _) hp
  have HF : Hid (∀ W, Go.RowKit.Below w.heap.size w W → Calls Try.prog 82 #[.slice fa fn fc] W (ClPost W 3 1 fn (a.free.map nv))) := fun W hb => by
    have h := (HS.out.below hb).frow
    rw [← HFN.out] at h
    exact clone_f h (nv_one _) hf
  have HB0 := Lib.hid ((Go.RowKit.Below.refl w.heap.size w).drew)
  go_enter Try.func61, Try.ntmps61
  go_wp2_with fail
  go_region_held3 (fun w' => w'.cell? ⟨A, 0, none⟩ = some (.int .i64 RM) ∧ w'.cell? ⟨A, 1, none⟩ = some (.slice pa pn pc) ∧ w'.cell? ⟨A, 2, none⟩ = some (.slice fa fn fc))
    (with_reducible first | exact hS0.out | exact hS1.out | exact hS2.out | exact hS3.out)
    (first
      | (go_at_call 81; refine (HP.out _ HB0.out).mono ?_; rintro e y1 ⟨a1, cap1, ⟨rfl, ho1⟩, hb1⟩; have HO1 := Lib.hid ho1; have HX1 := Lib.hid (box_on HX0.out hb1); have hS1 := Lib.hid (box3 HX1.out).1; have HB1 := Lib.hid (bt HB0.out hb1); clear ho1 hb1)
      | (go_at_call 82; refine (HF.out _ HB1.out).mono ?_; rintro e y2 ⟨a2, cap2, ⟨rfl, ho2⟩, hb2⟩; have HO2 := Lib.hid ho2; have HX2 := Lib.hid (box_on HX1.out hb2); have hS2 := Lib.hid (box3 HX2.out).1; have HB2 := Lib.hid (bt HB1.out hb2); have HO3 := Lib.hid (own_on HO1.out hb2); have HNB := Lib.hid (HB1.out.size); have hS3 := Lib.hid (box3 (box_on HX2.out (below_new y2 (.cells #[.int .i64 RM, .slice a1 pn cap1, .slice a2 fn cap2] 100)))).1; clear ho2 hb2))
  all_goals
    go_wp2_with fail
    go_ret
    refine ⟨y2.heap.size, FP y2.heap.size (.slice a1 pn cap1) (.slice a2 fn cap2), ⟨rfl, .slice a1 pn cap1, .slice a2 fn cap2, rfl, ?_⟩, bt HB2.out (below_new _ _)⟩
    refine ⟨by rw [← HRM.out]; exact heap_alloc_new _ _, ?_, ?_, HB2.out.size, rnty⟩
    · have h := own_base (HO3.out.alloc (.cells #[.int .i64 RM, .slice a1 pn cap1, .slice a2 fn cap2] 100)) (Nat.le_refl w.heap.size)
      rw [← HPN.out]
      exact h
    · have h := own_base (HO2.out.alloc (.cells #[.int .i64 RM, .slice a1 pn cap1, .slice a2 fn cap2] 100)) HNB.out
      rw [← HFN.out]
      exact h
theorem rncopy_any {S : Nat → Prop} {w : World} {base A : Nat} {a : Ag Nd} (h : rnIs w base A a S) (hok : a.ok) : Calls Try.prog 61 #[aP A] w (rnCpPost w a) := by
  obtain ⟨pv, fv, rfl, hA⟩ := h
  obtain ⟨pa, pc, rfl, _⟩ := own_slice hA.prow
  obtain ⟨fa, fc, rfl, _⟩ := own_slice hA.frow
  have hl := a.lens hok
  have hpl := a.ps_len rnZ
  exact rncopy_core A base (a.ps rnZ).length pc a.free.length fc pa fa a w hA a.room rfl rfl rfl (by omega) (by omega) hA.box
end Go.Proofs.Ytakkmnhiaddnnaa

/- A tree of a call's own: what its calls leave of all else. -/
namespace Go.Proofs.Ytakkmnhiaddnnaa
open Go.RowKit Go.Sort Go.Proofs.Ytakkmnhiaddnnaa.Bo
set_option linter.unusedVariables false
set_option maxRecDepth 100000

/-- Blocks of other types than a tree's stay. -/
def Oth (W W' : World) : Prop := ∀ (b : Nat) (cs : Array Value) (t : TypeId), W.heap[b]? = some (.cells cs t (0, 0)) → t ≠ 76 → t ≠ 100 → t ≠ 111 → t ≠ 3 → W'.heap[b]? = some (.cells cs t (0, 0))
theorem Oth.refl (W : World) : Oth W W := fun b cs t h _ _ _ _ => h
theorem Oth.trans {X Y Z : World} (h : Oth X Y) (k : Oth Y Z) : Oth X Z := fun b cs t a h1 h2 h3 h4 => k b cs t (h b cs t a h1 h2 h3 h4) h1 h2 h3 h4
theorem Oth.below {W W' : World} (h : Go.RowKit.Below W.heap.size W W') : Oth W W' := fun b cs t a _ _ _ _ => box_on a h
theorem Oth.seg {W W' : World} (h : Oth W W') {b : Nat} {g : G5} (k : W.heap[b]? = some (oG g)) : W'.heap[b]? = some (oG g) := h b _ _ k (by decide) (by decide) (by decide) (by decide)
theorem RtIs.type {W : World} {base T A : Nat} {t : Rt} {S : Nat → Prop} (h : RtIs W base T A t S) (b : Nat) (hb : S b) {cs : Array Value} {u : TypeId} (ho : W.heap[b]? = some (.cells cs u (0, 0))) : u = 76 ∨ u = 100 ∨ u = 111 ∨ u = 3 := by
  obtain ⟨S0, rfl, h1, h2, h3⟩ := h
  rcases hb with rfl | hb
  · rw [ho] at h1
    injection h1 with h1
    injection h1 with _ h1 _
    exact .inl h1
  · exact .inr (h3.type b hb ho)
theorem oth_kp {W W' : World} {base T A : Nat} {t : Rt} {S : Nat → Prop} (h : RtIs W base T A t S) (hk : Kp S W W') : Oth W W' := fun b cs u ho h1 h2 h3 h4 =>
  hk.at ho fun hS => by rcases h.type b hS ho with e | e | e | e; exact h1 e; exact h2 e; exact h3 e; exact h4 e
/-- The call's own tree holds L. -/
structure TrW (w : World) (T A : Nat) (R : Int) (L : List G5) (W : World) : Prop where
  tr : ∃ t S, RtIs W w.heap.size T A t S ∧ t.ar.room = R ∧ Fin t L
  be : Go.RowKit.Below w.heap.size w W
  row : RowOk L
  ok : ∀ g ∈ L, g.ok
theorem TrW.bc {w : World} {T A : Nat} {R : Int} {L : List G5} : Bc (TrW w T A R L) := by
  rintro W W' ⟨⟨t, S, h1, h2, h3⟩, h4, h5, h6⟩ hb
  exact ⟨⟨t, S, h1.below hb, h2, h3⟩, bt h4 hb, h5, h6⟩
/-- A call that turns the tree's row from L to M. -/
theorem TrW.call {w W : World} {T A : Nat} {R : Int} {L M : List G5} {f : Nat} {args : Array Value} {v : Value} (h : TrW w T A R L W) (hM : RowOk M) (hG : ∀ g ∈ M, g.ok)
    (hc : ∀ S, TrAt W S w.heap.size T A R L W → Rd f args v (TrAt W S w.heap.size T A R M) W) : Calls Try.prog f args W fun e w' => e = .returned v ∧ TrW w T A R M w' ∧ Oth W w' := by
  obtain ⟨⟨t, S, h1, h2, h3⟩, h4, h5, h6⟩ := h
  refine (hc S ⟨t, h1.start, h2, h3⟩).mono ?_
  rintro e w' ⟨rfl, t', ⟨S', k1, k2, k3⟩, k4, k5⟩
  exact ⟨rfl, ⟨⟨t', S', k1, k4, k5⟩, h4.trans (k2.to_below _ h4.size (fun b hb => (h1.lt b hb).1)), hM, hG⟩, oth_kp h1 k2⟩
theorem TrW.r {w W : World} {T A : Nat} {R : Int} {L : List G5} (h : TrW w T A R L W) : ∃ t x S, TrR W w.heap.size T A t x S ∧ x.ino = L ∧ t.ar.room = R := by
  obtain ⟨⟨t, S, h1, h2, x, h3, h4, h5⟩, _, h6, h7⟩ := h
  subst h5
  exact ⟨t, x, S, ⟨h1, h3, h4, h6, h7⟩, rfl, h2⟩
theorem insG_ok (s : G5) (l : List G5) (hs : s.ok) (h : ∀ g ∈ l, g.ok) : ∀ g ∈ insG s l, g.ok := fun g hg => by
  rcases (insG_mem s g l).1 hg with rfl | hg
  · exact hs
  · exact h g hg
theorem putG_oks (l : List G5) (R : Int) (s : G5) (hs : s.ok) (h : ∀ g ∈ l, g.ok) : ∀ g ∈ (putG l R s).1, g.ok := by
  unfold putG
  split
  · exact h
  · split
    · intro g hg
      rcases List.mem_or_eq_of_mem_set hg with k | rfl
      · exact h g k
      · exact hs
    · split
      · exact h
      · exact insG_ok s l hs h
theorem delG_oks (l : List G5) (k : Int) (h : ∀ g ∈ l, g.ok) : ∀ g ∈ (delG l k).1, g.ok := by
  unfold delG
  split
  · intro g hg
    rcases List.mem_append.1 hg with e | e
    · exact h g (List.mem_of_mem_take e)
    · exact h g (List.mem_of_mem_drop e)
  · exact h
theorem doG_oks (l : List G5) (R k : Int) (s : G5) (hs : s.ok) (h : ∀ g ∈ l, g.ok) : ∀ g ∈ (doG l R k s).1, g.ok := by
  unfold doG
  split
  · exact putG_oks l R s hs h
  · split
    · exact delG_oks l _ h
    · split
      · intro g hg; simp at hg
      · exact h
theorem TrW.does {w W : World} {T A : Nat} {R : Int} {L : List G5} (h : TrW w T A R L W) (k : Int) (s : G5) (hs : s.ok) :
    Calls Try.prog 14 #[aP T, vOp k s] W fun e w' => e = .returned (.tuple #[.bool (doG L R k s).2.1, .int .i64 (doG L R k s).2.2]) ∧ TrW w T A R (doG L R k s).1 w' ∧ Oth W w' :=
  h.call (doG_ok L R k s h.row (s.ky hs)) (doG_oks L R k s hs h.ok) (fun S hS => rdoes_any hS h.row h.ok k s hs)
theorem TrW.put {w W : World} {T A : Nat} {R : Int} {L : List G5} (h : TrW w T A R L W) (s : G5) (hs : s.ok) :
    Calls Try.prog 36 #[aP T, vG s] W fun e w' => e = .returned (.int .i64 (putG L R s).2) ∧ TrW w T A R (putG L R s).1 w' ∧ Oth W w' :=
  h.call (putG_ok L R s h.row (s.ky hs)) (putG_oks L R s hs h.ok) (fun S hS => rput_any hS h.row h.ok s hs)
theorem TrW.delete {w W : World} {T A : Nat} {R : Int} {L : List G5} (h : TrW w T A R L W) (a b : Int) (hb : I64 b) :
    Calls Try.prog 38 #[aP T, .agg #[.int .i64 a, .int .i64 b]] W fun e w' => e = .returned (.bool (delG L (key a b)).2) ∧ TrW w T A R (delG L (key a b)).1 w' ∧ Oth W w' :=
  h.call (delG_ok L _ h.row) (delG_oks L _ h.ok) (fun S hS => rdel_any hS h.row h.ok a b hb)
/-- New, in a call's own world. -/
theorem trw_new {w : World} (room : Int) (h : 0 ≤ room ∧ room ≤ 4096) (W : World) (hW : Go.RowKit.Below w.heap.size w W) :
    Calls Try.prog 11 #[.int .i64 room] W fun e w' => ∃ T A, (e = .returned (.tuple #[aP T, .int .i64 0]) ∧ TrW w T A room [] w') ∧ Go.RowKit.Below W.heap.size W w' := by
  refine (rbnew_ok room W h).mono ?_
  rintro e w' ⟨T, A, S, ⟨rfl, hi⟩, hb⟩
  refine ⟨T, A, ⟨rfl, ⟨⟨_, S, ?_, rfl, empty_fin room ⟨h.1, by omega⟩⟩, bt hW hb, rowOk_nil, fun g hg => by simp at hg⟩⟩, hb⟩
  obtain ⟨S0, rfl, h1, h2, pv, fv, hS0, h3⟩ := hi
  exact ⟨S0, rfl, h1, Nat.le_trans hW.size h2, pv, fv, hS0, ⟨h3.box, own_base h3.prow hW.size, own_base h3.frow hW.size, Nat.le_trans hW.size h3.le, h3.ty⟩⟩
end Go.Proofs.Ytakkmnhiaddnnaa

/- The laws' alive. -/
namespace Go.Proofs.Ytakkmnhiaddnnaa
open Go.RowKit Go.Sort Go.Proofs.Ytakkmnhiaddnnaa.Bo
set_option linter.unusedVariables false
set_option maxRecDepth 100000

abbrev sgN (n : Int) : G5 := ⟨0, n, 0, 0, n⟩
set_option maxHeartbeats 1000000 in
theorem rseg_any (n : Int) (w : World) : Calls Try.prog 35 #[.int .i64 n] w fun e w' => e = .returned ((vG (sgN n))) ∧ Go.RowKit.Below w.heap.size w w' := by
  have hR := heap_alloc_new w zG
  obtain ⟨q0, q1, q2, q3, q4⟩ := five_cells (five_put (g := g0) hR (sgN n))
  have HE := Lib.hid (seg5_below (b := w.heap.size) (below_new w zG) (Nat.le_refl _) (sgN n))
  obtain ⟨d0, d1, d2, d3, d4⟩ := five_cells (g := g0) hR
  have z0 := five_frozen (g := g0) hR 0
  have z1 := five_frozen (g := g0) hR 1
  have z2 := five_frozen (g := g0) hR 2
  have z3 := five_frozen (g := g0) hR 3
  have z4 := five_frozen (g := g0) hR 4
  simp only [Nat.zero_add] at d1 d2 d3 d4 q1 q2 q3 q4
  clear hR
  go_enter Try.func35, Try.ntmps35
  go_upto_region 1 with fail
  generalize w.alloc zG = X at *
  go_wp2_with fail
  refine bodyPost_ret (v := vG (sgN n)) (by simp [results, Try.results35, go_sem, q0, q1, q2, q3, q4]) rfl ?_
  exact ⟨rfl, HE.out⟩
theorem sg_ok (n : Int) (h : 0 ≤ n ∧ n ≤ 100) : (sgN n).ok := ⟨by show I64 n; unfold I64; omega, by show I64 0; unfold I64; omega, by show I64 n; unfold I64; omega⟩
theorem rb3 (x : Tr) (n : Nat) (h : RB x n) (hr : x.isRed = false) (h3 : x.ids.length = 3) : x.height = 2 := by
  have small : ∀ (y : Tr) (m : Nat), RB y m → y.ids.length ≤ 1 → y.height = y.ids.length := by
    intro y m hy hl
    cases y with
    | nil => rfl
    | node c l i g r =>
      simp only [Tr.ids, List.length_append, List.length_cons] at hl ⊢
      have e1 := height_le l
      have e2 := height_le r
      simp only [Tr.height]; omega
  cases x with
  | nil => simp [Tr.ids] at h3
  | node c l i g r =>
    simp only [Tr.isRed] at hr
    subst hr
    obtain ⟨m, rfl, h1, h2⟩ := h
    simp only [Tr.ids, List.length_append, List.length_cons] at h3
    have two : ∀ (y : Tr), RB y 0 → y.ids.length ≤ 1 := by
      intro y hy
      cases y with
      | nil => simp [Tr.ids]
      | node c l i g r =>
        cases c with
        | true =>
          obtain ⟨q1, q2, q3, q4⟩ := hy
          have z : ∀ (z : Tr), RB z 0 → z.isRed = false → z = .nil := by
            intro z hz hzr
            cases z with
            | nil => rfl
            | node c l i g r =>
              simp only [Tr.isRed] at hzr
              subst hzr
              obtain ⟨m, hm, _⟩ := hz
              omega
          rw [z l q1 q3, z r q2 q4]; simp [Tr.ids]
        | false => obtain ⟨m, hm, _⟩ := hy; omega
    have pos : ∀ (y : Tr) (m : Nat), RB y (m + 1) → 1 ≤ y.ids.length := by
      intro y m hy
      cases y with
      | nil => have : m + 1 = 0 := hy; omega
      | node c l i g r => simp [Tr.ids]; omega
    have hl1 : l.ids.length ≤ 1 ∧ r.ids.length ≤ 1 := by
      cases m with
      | zero => exact ⟨two l h1, two r h2⟩
      | succ m =>
        have := pos l m h1
        have := pos r m h2
        omega
    have e1 := small l m h1 hl1.1
    have e2 := small r m h2 hl1.2
    simp only [Tr.height]; omega
set_option maxHeartbeats 2000000 in
theorem ralive_any (w : World) : Calls Try.prog 10 #[] w fun e w' => e = .returned (.bool true) ∧ Go.RowKit.Below w.heap.size w w' := by
  have mx := mixed
  have HN := Lib.hid (trw_new (w := w) 5 (by decide) w (Go.RowKit.Below.refl _ _))
  have HSG := Lib.hid rseg_any
  have HP1 : Hid (∀ (T A : Nat) W, TrW w T A 5 [] W → Calls Try.prog 36 #[aP T, vG (sgN 3)] W fun e w' => e = .returned (.int .i64 0) ∧ TrW w T A 5 [sgN 3] w' ∧ Oth W w') := fun T A W h => by
    have := h.put (sgN 3) (sg_ok _ (by decide))
    rw [show putG [] 5 (sgN 3) = ([sgN 3], 0) by kernel_rfl] at this
    exact this
  have HP2 : Hid (∀ (T A : Nat) W, TrW w T A 5 [sgN 3] W → Calls Try.prog 36 #[aP T, vG (sgN 1)] W fun e w' => e = .returned (.int .i64 0) ∧ TrW w T A 5 [sgN 1, sgN 3] w' ∧ Oth W w') := fun T A W h => by
    have := h.put (sgN 1) (sg_ok _ (by decide))
    rw [show putG [sgN 3] 5 (sgN 1) = ([sgN 1, sgN 3], 0) by kernel_rfl] at this
    exact this
  have HP3 : Hid (∀ (T A : Nat) W, TrW w T A 5 [sgN 1, sgN 3] W → Calls Try.prog 36 #[aP T, vG (sgN 2)] W fun e w' => e = .returned (.int .i64 0) ∧ TrW w T A 5 [sgN 1, sgN 2, sgN 3] w' ∧ Oth W w') := fun T A W h => by
    have := h.put (sgN 2) (sg_ok _ (by decide))
    rw [show putG [sgN 1, sgN 3] 5 (sgN 2) = ([sgN 1, sgN 2, sgN 3], 0) by kernel_rfl] at this
    exact this
  have HFl : Hid (∀ (T A : Nat) W, TrW w T A 5 [sgN 1, sgN 2, sgN 3] W → Calls Try.prog 19 #[aP T, .agg #[.int .i64 0, .int .i64 5]] W fun e w' => e = .returned (.tuple #[vG (sgN 3), .bool true]) ∧ Go.RowKit.Below W.heap.size W w') := fun T A W h => by
    obtain ⟨t, x, S, hr, hx, _⟩ := h.r
    have := rfloor_any hr 0 5 (by unfold I64; omega)
    rw [hx, show nearG [sgN 1, sgN 2, sgN 3] (key 0 5) 0 = (sgN 3, true) by kernel_rfl] at this
    exact this
  have HLo : Hid (∀ (T A : Nat) W, TrW w T A 5 [sgN 1, sgN 2, sgN 3] W → Calls Try.prog 20 #[aP T, .agg #[.int .i64 0, .int .i64 2]] W fun e w' => e = .returned (.tuple #[vG (sgN 1), .bool true]) ∧ Go.RowKit.Below W.heap.size W w') := fun T A W h => by
    obtain ⟨t, x, S, hr, hx, _⟩ := h.r
    have := rlower_any hr 0 2 (by unfold I64; omega)
    rw [hx, show nearG [sgN 1, sgN 2, sgN 3] (key 0 2) 1 = (sgN 1, true) by kernel_rfl] at this
    exact this
  have HHt : Hid (∀ (T A : Nat) W, TrW w T A 5 [sgN 1, sgN 2, sgN 3] W → Calls Try.prog 29 #[aP T] W fun e w' => e = .returned (.int .i64 2) ∧ Go.RowKit.Below W.heap.size W w') := fun T A W h => by
    obtain ⟨t, x, S, hr, hx, _⟩ := h.r
    have := rHeight_any hr
    obtain ⟨⟨n, hn⟩, hred⟩ := hr.rbt
    rw [rb3 x n hn hred (by rw [← ino_len, hx]; rfl)] at this
    exact this
  have HCk : Hid (∀ (T A : Nat) W, TrW w T A 5 [sgN 1, sgN 2, sgN 3] W → Calls Try.prog 28 #[aP T] W fun e w' => e = .returned (.bool true) ∧ Go.RowKit.Below W.heap.size W w') := fun T A W h => by
    obtain ⟨t, x, S, hr, hx, _⟩ := h.r
    exact rCheck_any hr
  have HD1 : Hid (∀ (T A : Nat) W, TrW w T A 5 [sgN 1, sgN 2, sgN 3] W → Calls Try.prog 38 #[aP T, .agg #[.int .i64 0, .int .i64 2]] W fun e w' => e = .returned (.bool true) ∧ TrW w T A 5 [sgN 1, sgN 3] w' ∧ Oth W w') := fun T A W h => by
    have := h.delete 0 2 (by unfold I64; omega)
    rw [show delG [sgN 1, sgN 2, sgN 3] (key 0 2) = ([sgN 1, sgN 3], true) by kernel_rfl] at this
    exact this
  have HD2 : Hid (∀ (T A : Nat) W, TrW w T A 5 [sgN 1, sgN 3] W → Calls Try.prog 38 #[aP T, .agg #[.int .i64 0, .int .i64 2]] W fun e w' => e = .returned (.bool false) ∧ TrW w T A 5 [sgN 1, sgN 3] w' ∧ Oth W w') := fun T A W h => by
    have := h.delete 0 2 (by unfold I64; omega)
    rw [show delG [sgN 1, sgN 3] (key 0 2) = ([sgN 1, sgN 3], false) by kernel_rfl] at this
    exact this
  have HLn : Hid (∀ (T A : Nat) W, TrW w T A 5 [sgN 1, sgN 3] W → Calls Try.prog 17 #[aP T] W fun e w' => e = .returned (.int .i64 2) ∧ Go.RowKit.Below W.heap.size W w') := fun T A W h => by
    obtain ⟨t, x, S, hr, hx, _⟩ := h.r
    obtain ⟨S0, _, hbox, _, hrn⟩ := hr.is
    have := rnlen_any hrn hr.rep.ok
    rw [hr.rep.len, hx] at this
    exact rlen_core T A t.root _ W hbox this
  go_enter Try.func10, Try.ntmps10
  go_wp2_with fail
  refine HN.out.mono ?_
  rintro e y0 ⟨T, A, ⟨rfl, ht⟩, hb⟩
  have HT := Lib.hid ht
  clear ht hb
  go_wp2_with fail
  refine (HSG.out 3 _).mono ?_
  rintro e u3 ⟨rfl, hb⟩
  replace HT := Lib.hid (TrW.bc _ _ HT.out hb)
  clear hb
  go_wp2_with fail
  refine (HP1.out T A _ HT.out).mono ?_
  rintro e v3 ⟨rfl, ht, _⟩
  replace HT := Lib.hid ht
  clear ht
  go_wp2_with fail
  refine (HSG.out 1 _).mono ?_
  rintro e u1 ⟨rfl, hb⟩
  replace HT := Lib.hid (TrW.bc _ _ HT.out hb)
  clear hb
  go_wp2_with fail
  refine (HP2.out T A _ HT.out).mono ?_
  rintro e v1 ⟨rfl, ht, _⟩
  replace HT := Lib.hid ht
  clear ht
  go_wp2_with fail
  refine (HSG.out 2 _).mono ?_
  rintro e u2 ⟨rfl, hb⟩
  replace HT := Lib.hid (TrW.bc _ _ HT.out hb)
  clear hb
  go_wp2_with fail
  refine (HP3.out T A _ HT.out).mono ?_
  rintro e v2 ⟨rfl, ht, _⟩
  replace HT := Lib.hid ht
  clear ht
  clear HP1 HP2 HP3 HSG HN
  go_wp2_with fail
  refine (HFl.out T A _ HT.out).mono ?_
  rintro e y1 ⟨rfl, hb⟩
  replace HT := Lib.hid (TrW.bc _ _ (TrW.bc _ _ HT.out hb) (below_new _ (oG (sgN 3))))
  have HA := Lib.hid (heap_alloc_new y1 (oG (sgN 3)))
  clear hb
  go_wp2_with fail
  refine (HLo.out T A _ HT.out).mono ?_
  rintro e y2 ⟨rfl, hb⟩
  replace HT := Lib.hid (TrW.bc _ _ (TrW.bc _ _ HT.out hb) (below_new _ (oG (sgN 1))))
  replace HA := Lib.hid (box_on (box_on HA.out hb) (below_new _ (oG (sgN 1))))
  have HB := Lib.hid (heap_alloc_new y2 (oG (sgN 1)))
  have k1 : (y2.alloc (oG (sgN 1))).cell? ⟨y1.heap.size, 4, none⟩ = some (.int .i64 3) := (cell_of_row _ _ 4 _ _ _ HA.out).trans rfl
  have k2 : (y2.alloc (oG (sgN 1))).cell? ⟨y2.heap.size, 4, none⟩ = some (.int .i64 1) := (cell_of_row _ _ 4 _ _ _ HB.out).trans rfl
  clear hb HFl HLo
  go_wp2_with fail
  refine (HHt.out T A _ HT.out).mono ?_
  rintro e x1 ⟨rfl, hb⟩
  replace HT := Lib.hid (TrW.bc _ _ HT.out hb)
  clear hb k1 k2
  go_wp2_with fail
  refine (HCk.out T A _ HT.out).mono ?_
  rintro e x2 ⟨rfl, hb⟩
  replace HT := Lib.hid (TrW.bc _ _ HT.out hb)
  clear hb
  go_wp2_with fail
  refine (HD1.out T A _ HT.out).mono ?_
  rintro e x3 ⟨rfl, ht, _⟩
  replace HT := Lib.hid ht
  clear ht
  go_wp2_with fail
  refine (HD2.out T A _ HT.out).mono ?_
  rintro e x4 ⟨rfl, ht, _⟩
  replace HT := Lib.hid ht
  clear ht
  go_wp2_with fail
  refine (HLn.out T A _ HT.out).mono ?_
  rintro e x5 ⟨rfl, hb⟩
  replace HT := Lib.hid (TrW.bc _ _ HT.out hb)
  clear hb
  go_wp2_with fail
  go_ret
  exact ⟨rfl, HT.out.be⟩
end Go.Proofs.Ytakkmnhiaddnnaa

/- How high a red-black tree may be. No Go in sight. -/
namespace Go.Proofs.Ytakkmnhiaddnnaa.Bo
theorem rb_size (x : Tr) : ∀ n, RB x n → 2 ^ n ≤ x.ids.length + 1 := by
  induction x with
  | nil => intro n h; have : n = 0 := h; subst this; simp [Tr.ids]
  | node c l i g r ih1 ih2 =>
    intro n h
    simp only [Tr.ids, List.length_append, List.length_cons]
    cases c with
    | true => have := ih1 n h.1; omega
    | false =>
      obtain ⟨m, rfl, h1, h2⟩ := h
      have := ih1 m h1
      have := ih2 m h2
      rw [Nat.pow_succ]
      omega
theorem rb_height (x : Tr) : ∀ n, RB x n → x.height ≤ 2 * n + (if x.isRed then 1 else 0) := by
  induction x with
  | nil => intro n _; simp [Tr.height]
  | node c l i g r ih1 ih2 =>
    intro n h
    simp only [Tr.height, Tr.isRed]
    cases c with
    | true =>
      have a := ih1 n h.1
      have b := ih2 n h.2.1
      rw [h.2.2.1] at a
      rw [h.2.2.2] at b
      simp at a b ⊢
      omega
    | false =>
      obtain ⟨m, rfl, h1, h2⟩ := h
      have a := ih1 m h1
      have b := ih2 m h2
      have e1 : (if l.isRed = true then 1 else 0) ≤ 1 := by split <;> omega
      have e2 : (if r.isRed = true then 1 else 0) ≤ 1 := by split <;> omega
      simp only [Bool.false_eq_true, if_false]
      omega
theorem rbt_high (x : Tr) (h : Rbt x) : x.height ≤ 2 * (Nat.log2 (x.ids.length + 1) + 1) := by
  obtain ⟨⟨n, h1⟩, h2⟩ := h
  have a := rb_size x n h1
  have b := rb_height x n h1
  rw [h2] at b
  simp at b
  have c : n ≤ Nat.log2 (x.ids.length + 1) := (Nat.le_log2 (by omega)).2 a
  omega
theorem height_zero (x : Tr) : (x.height = 0) ↔ x.ids.length = 0 := by
  cases x with
  | nil => simp [Tr.height, Tr.ids]
  | node c l i g r => simp [Tr.height, Tr.ids]
end Go.Proofs.Ytakkmnhiaddnnaa.Bo

/- Spans as arguments: one by value, a slice of them. -/
namespace Go.Proofs.Ytakkmnhiaddnnaa
open Go.ChangeShapes Go.WideShapes Go.ChangeAt Go.RowKit Go.Sort Go.Joins Go.Proofs.Ytakkmnhiaddnnaa.Bo
set_option linter.unusedVariables false

set_option maxRecDepth 100000 in
theorem trod_cut2 {H : Type} {enc : TypeId × Value → H} {w : World} {base : Nat} {spare : Nat → Bool} {held : Bool} {n : Nat} {cs : List Value} {y : DataW H × List MemPlace} (h : DataW.trod enc Try.prog w base spare held n 31 cs = some y) :
    ∃ s a : Int, cs = [.int .i64 s, .int .i64 a] ∧ I64 a := by
  obtain ⟨y0, y1, n', hx, hlen, h0, h1⟩ := trod_struct2 Try.underlying31 h
  rw [show Try.prog.cellsOf 31 = 2 by kernel_rfl] at hlen
  obtain ⟨s, es, _, _⟩ := DataW.trod_int Try.underlying3 h0
  obtain ⟨a, ea, _, wa⟩ := DataW.trod_int Try.underlying2 h1
  match cs, hlen with
  | [v0, v1], _ =>
    rw [show Try.prog.cellsOf 3 = 1 by kernel_rfl] at es
    rw [show Try.prog.cellsOf 2 = 1 by kernel_rfl] at ea
    simp at es ea
    exact ⟨s, a, by rw [es, ea], i64_of_wf2 wa⟩
set_option maxRecDepth 100000 in
theorem trod_span {H : Type} {enc : TypeId × Value → H} {w : World} {base : Nat} {spare : Nat → Bool} {held : Bool} {n : Nat} {cs : List Value} {y : DataW H × List MemPlace} (h : DataW.trod enc Try.prog w base spare held n 33 cs = some y) :
    ∃ q : S4, cs = [.int .i64 q.ls, .int .i64 q.la, .int .i64 q.hs, .int .i64 q.ha] ∧ q.ok := by
  obtain ⟨y0, y1, n', hx, hlen, h0, h1⟩ := trod_struct2 Try.underlying33 h
  rw [show Try.prog.cellsOf 33 = 4 by kernel_rfl] at hlen
  obtain ⟨ls, la, e1, o1⟩ := trod_cut2 h0
  obtain ⟨hs, ha, e2, o2⟩ := trod_cut2 h1
  match cs, hlen with
  | [v0, v1, v2, v3], _ =>
    rw [show Try.prog.cellsOf 31 = 2 by kernel_rfl] at e1 e2
    simp at e1 e2
    exact ⟨⟨ls, la, hs, ha⟩, by rw [e1.1, e1.2, e2.1, e2.2], o1, o2⟩
set_option maxRecDepth 100000 in
/-- A span by value. -/
theorem open_span {H : Type} {enc : TypeId × Value → H} {w : World} {base : Nat} {spare : Nat → Bool} {held : Bool} {r : Reach} {b0 : Nat} {v : Value} {d : DataW H} {p : List MemPlace} (hv : Value.okWide Try.prog w r b0 33 v) (h : DataW.Trod enc Try.prog w base spare held 33 v d p) :
    ∃ q : S4, v = vS q ∧ q.ok := by
  obtain ⟨cs, rfl, hsz⟩ := okWide_struct Try.underlying33 hv
  obtain ⟨fuel, hf⟩ := h
  obtain ⟨q, e, ok⟩ := trod_span hf
  refine ⟨q, ?_, ok⟩
  have e2 : cs.toList = [.int .i64 q.ls, .int .i64 q.la, .int .i64 q.hs, .int .i64 q.ha] := by simpa [Value.cells] using e
  have : cs = #[.int .i64 q.ls, .int .i64 q.la, .int .i64 q.hs, .int .i64 q.ha] := by rw [← Array.toArray_toList (xs := cs), e2]
  rw [this]
/-- A slice of spans. -/
def IsSpans (w : World) (a : Option Addr) (len : Nat) (l : List S4) : Prop := len = l.length ∧ (∀ q ∈ l, q.ok) ∧ SRow w a l
theorem isSpans_nil (w : World) : IsSpans w none 0 [] := ⟨rfl, by simp, fun h => by simp at h⟩
theorem isSpans_of (w : World) (x : Addr) (len m : Nat) (hlm : len ≤ m) (hi : ∀ i, i < m → ∃ q : S4, (∀ j u, [Value.int .i64 q.ls, .int .i64 q.la, .int .i64 q.hs, .int .i64 q.ha][j]? = some u → w.cell? (x.add (i * 4 + j)) = some u) ∧ q.ok) : ∃ l, IsSpans w (some x) len l := by
  have h' : ∀ i, ∃ q : S4, i < m → (∀ j u, [Value.int .i64 q.ls, .int .i64 q.la, .int .i64 q.hs, .int .i64 q.ha][j]? = some u → w.cell? (x.add (i * 4 + j)) = some u) ∧ q.ok := by
    intro i
    by_cases h : i < m
    · obtain ⟨q, h1⟩ := hi i h
      exact ⟨q, fun _ => h1⟩
    · exact ⟨⟨0, 0, 0, 0⟩, fun h2 => absurd h2 h⟩
  obtain ⟨f, hf⟩ := Classical.axiomOfChoice h'
  refine ⟨(List.range len).map f, by simp, ?_, ?_⟩
  · intro c hc
    obtain ⟨i, hi2, rfl⟩ := List.mem_map.1 hc
    exact (hf i (by have := List.mem_range.1 hi2; omega)).2
  · intro hp
    have hp' : 0 < len := by simpa using hp
    obtain ⟨b, off, spot⟩ := x
    have hspot : spot = none := by simpa [Addr.add] using World.cell?_spot ((hf 0 (by omega)).1 0 _ rfl)
    subst hspot
    refine ⟨b, off, rfl, fun j hj => ?_⟩
    have hj' : j < len := by simpa using hj
    have h1 := (hf j (by omega)).1
    simp only [List.getElem_map, List.getElem_range]
    have g0 := h1 0 _ rfl
    have g1 := h1 1 _ rfl
    have g2 := h1 2 _ rfl
    have g3 := h1 3 _ rfl
    rw [Addr.add_lit] at g0 g1 g2 g3
    exact ⟨g0, by rw [Nat.add_assoc]; exact g1, by rw [Nat.add_assoc]; exact g2, by rw [Nat.add_assoc]; exact g3⟩
end Go.Proofs.Ytakkmnhiaddnnaa
