/- A part of the proof: contracts of the functions that the statements reach. -/
import Derived.Test.YtakkmnhiaddnnaaRows
import Derived.Test.YtakkmnhiaddnnaaCA
import Derived.Test.YtakkmnhiaddnnaaCB
import Derived.Test.YtakkmnhiaddnnaaCC
import Derived.Test.YtakkmnhiaddnnaaCD
import Derived.Test.YtakkmnhiaddnnaaCE
import Derived.Test.YtakkmnhiaddnnaaCF
import Derived.Test.YtakkmnhiaddnnaaCG
import Derived.Test.YtakkmnhiaddnnaaCH
import Derived.Test.YtakkmnhiaddnnaaCI
import Derived.Test.YtakkmnhiaddnnaaCJ
import Derived.Test.YtakkmnhiaddnnaaCK
import Derived.Test.YtakkmnhiaddnnaaCL
import Derived.Test.YtakkmnhiaddnnaaCM
import Derived.Lib.QuietBelow

/- The place of a key. -/
namespace Go.Proofs.Ytakkmnhiaddnnaa
open Go.RowKit Go.Sort Go.Proofs.Ytakkmnhiaddnnaa.Bo
set_option linter.unusedVariables false

set_option maxRecDepth 100000 in
set_option maxHeartbeats 2000000 in
theorem rplace_no_core (T A : Nat) (x y r root : Int) (w : World) (HT : Hid (w.heap[T]? = some (tO A root)))
    (HN : Hid (∀ W, Go.RowKit.Below w.heap.size w W → Calls Try.prog 45 #[aP T, .agg #[.int .i64 x, .int .i64 y]] W fun e w' => e = .returned (.int .i64 r) ∧ Go.RowKit.Below W.heap.size W w'))
    (HA : Hid (∀ W, Go.RowKit.Below w.heap.size w W → Calls Try.prog 64 #[aP A, .int .i64 r] W fun e w' => e = .returned (.pointer none) ∧ Go.RowKit.Below W.heap.size W w')) :
    Calls Try.prog 52 #[aP T, .agg #[.int .i64 x, .int .i64 y]] w fun e w' => e = .returned (.int .i64 (-1)) ∧ Go.RowKit.Below w.heap.size w w' := by
  have mx := mixed
  have HB0 := Lib.hid (below_new w (.cells #[.int .i64 x, .int .i64 y] 31))
  have HK0 := Lib.hid (heap_alloc_new w (.cells #[.int .i64 x, .int .i64 y] 31))
  go_enter Try.func52, Try.ntmps52
  go_wp2_with fail
  refine (HN.out _ HB0.out).mono ?_
  rintro e y1 ⟨rfl, hb⟩
  have HB1 := Lib.hid (bt HB0.out hb)
  have HK1 := Lib.hid (box_on HK0.out hb)
  clear hb
  have c0 : y1.cell? ⟨T, 0, none⟩ = some (aP A) := (HB1.out.cell (p := ⟨T, 0, none⟩) (lt_of_block HT.out)).trans ((cell_of_row _ _ 0 _ _ _ HT.out).trans rfl)
  go_wp2_with fail
  refine (HA.out _ HB1.out).mono ?_
  rintro e y2 ⟨rfl, hb⟩
  have HB2 := Lib.hid (bt HB1.out hb)
  have hK2 := box_on HK1.out hb
  clear hb c0
  obtain ⟨d1, d2, _, _⟩ := two_cells hK2
  have p1 := cell_regrown d1
  have p2 := cell_regrown d2
  clear d1 d2 hK2
  go_wp2_with fail
  refine wp_region_quiet_below (by assumption) (by kernel_rfl) ?_
  repeat (go_big_quiet_step (fail))
  refine wpQuiet_nil ?_
  intro _ hw'
  obtain ⟨⟨nq, osq⟩, hw''⟩ := hw'
  subst hw''
  have HB3 := Lib.hid (bt HB2.out (below_regrown y2 nq osq))
  clear p1 p2
  generalize grow (redrawn y2 nq) osq = y3 at *
  go_wp2_with fail
  go_ret
  exact ⟨rfl, HB3.out⟩
set_option maxRecDepth 100000 in
set_option maxHeartbeats 2000000 in
theorem rplace_core (T A g n : Nat) (x y ls la root : Int) (B : Bool) (w : World) (hy : I64 y) (hla : I64 la) (HT : Hid (w.heap[T]? = some (tO A root)))
    (HN : Hid (∀ W, Go.RowKit.Below w.heap.size w W → Calls Try.prog 45 #[aP T, .agg #[.int .i64 x, .int .i64 y]] W fun e w' => e = .returned (.int .i64 (n : Int)) ∧ Go.RowKit.Below W.heap.size W w'))
    (HA : Hid (∀ W, Go.RowKit.Below w.heap.size w W → Calls Try.prog 64 #[aP A, .int .i64 (n : Int)] W fun e w' => e = .returned (.pointer (some ⟨g, n * 10, none⟩)) ∧ Go.RowKit.Below W.heap.size W w'))
    (HC1 : Hid (w.cell? ⟨g, n * 10, none⟩ = some (.int .i64 ls))) (HC2 : Hid (w.cell? ⟨g, n * 10 + 1, none⟩ = some (.int .i64 la))) (HQ : Hid ((kcmp (key ls la) (key x y) == 0) = B)) :
    Calls Try.prog 52 #[aP T, .agg #[.int .i64 x, .int .i64 y]] w fun e w' => e = .returned (.int .i64 (if B then (n : Int) else -1)) ∧ Go.RowKit.Below w.heap.size w w' := by
  have mx := mixed
  have HC := Lib.hid (fun W => compare_any ls la x y W hla hy)
  generalize kcmp (key ls la) (key x y) = K at *
  have HB0 := Lib.hid (below_new w (.cells #[.int .i64 x, .int .i64 y] 31))
  have HK0 := Lib.hid (heap_alloc_new w (.cells #[.int .i64 x, .int .i64 y] 31))
  go_enter Try.func52, Try.ntmps52
  go_wp2_with fail
  refine (HN.out _ HB0.out).mono ?_
  rintro e y1 ⟨rfl, hb⟩
  have HB1 := Lib.hid (bt HB0.out hb)
  have HK1 := Lib.hid (box_on HK0.out hb)
  clear hb
  have c0 : y1.cell? ⟨T, 0, none⟩ = some (aP A) := (HB1.out.cell (p := ⟨T, 0, none⟩) (lt_of_block HT.out)).trans ((cell_of_row _ _ 0 _ _ _ HT.out).trans rfl)
  go_wp2_with fail
  refine (HA.out _ HB1.out).mono ?_
  rintro e y2 ⟨rfl, hb⟩
  have HB2 := Lib.hid (bt HB1.out hb)
  have hK2 := box_on HK1.out hb
  clear hb c0
  have HKY : Hid (∀ W, Go.RowKit.Below y2.heap.size y2 W → Calls Try.prog 73 #[.pointer (some ⟨g, n * 10, none⟩)] W fun e w' => e = .returned (.agg #[.int .i64 ls, .int .i64 la]) ∧ Go.RowKit.Below W.heap.size W w') := fun W hb => by
    have hbw := bt HB2.out hb
    exact rnkey_core g n ls la W ((hbw.cell (World.block_lt_of_cell? w _ HC1.out)).trans HC1.out) ((hbw.cell (World.block_lt_of_cell? w _ HC2.out)).trans HC2.out)
  obtain ⟨d1, d2, _, _⟩ := two_cells hK2
  have p1 := cell_regrown d1
  have p2 := cell_regrown d2
  clear d1 d2 hK2
  go_wp2_with fail
  refine wp_region_quiet_below (by assumption) (by kernel_rfl) ?_
  repeat (go_big_quiet_step (first
    | (go_at_call 73; exact Calls.regrown_of (HKY.out _ (below_regrown _ _ _)))
    | (go_at_call 48; exact Calls.regrown_of ((HC.out _).mono fun _ _ h => ⟨h.1, h.2.1⟩))))
  refine wpQuiet_nil ?_
  intro _ hw'
  obtain ⟨⟨nq, osq⟩, hw''⟩ := hw'
  subst hw''
  have HB3 := Lib.hid (bt HB2.out (below_regrown y2 nq osq))
  clear p1 p2
  generalize grow (redrawn y2 nq) osq = y3 at *
  have hQ := HQ.out
  cases B with
  | true =>
    have e : K = 0 := by simpa using hQ
    subst e
    go_wp2_with fail
    go_ret
    exact ⟨rfl, HB3.out⟩
  | false =>
    go_wp2_with fail
    go_ret
    exact ⟨rfl, HB3.out⟩
end Go.Proofs.Ytakkmnhiaddnnaa

/- Which node is taken out of a tree. No Go in sight. -/
namespace Go.Proofs.Ytakkmnhiaddnnaa.Bo
/-- A node that may be taken out: it has one child at most; what is left then. -/
def OutInv (t : Rt) (i : Int) (L : List G5) : Prop := ∃ cx s c y j g, i = ((j : Nat) : Int) ∧ Rep t (plug cx (Tr.mk s c y j g .nil)) ∧ Rbt (plug cx (Tr.mk s c y j g .nil)) ∧ cpre cx ++ y.ino ++ cpost cx = L
theorem node_of {t : Rt} {b : List Fr} {s c : Bool} {A B : Tr} {i : Nat} {g : G5} (h : Rep t (plug b (Tr.mk s c A i g B))) : t.ch i false = (if s then B.idx else A.idx) ∧ t.ch i true = (if s then A.idx else B.idx) := by
  have h1 := h.ch
  have h2 := h.ch2
  cases s
  · exact ⟨h1, h2⟩
  · exact ⟨h2, h1⟩
/-- A node with two children gives its place to the next one. -/
theorem del_two {t : Rt} {x : Tr} (h : Rep t x) (hb : Rbt x) (hR : RowOk x.ino) (k : Int) (hk : Ky k) (y : Fr) (hy : plF k x = some y) (h2 : t.ch y.i true ≠ -1) :
    ∃ f : Fr, fnr false (dn (wyLe k) x []) = some f ∧ (∃ p c0 c1 c, t.look (f.i : Int) = some ⟨f.g, p, c0, c1, c⟩) ∧ t.ar.is (y.i : Int) = true ∧ OutInv (t.tw y.i (·.setG f.g)) f.i (delG x.ino k).1 ∧ (delG x.ino k).2 = true := by
  obtain ⟨a, b, q1, q2, q3, q4, _⟩ := pl_some x _ y hy
  obtain ⟨q5, q6⟩ := pl_row x _ y a b q1 q2 q3
  have hdel := del_at _ _ _ k (q6 ▸ hR) hk q4
  have hx : Rep t (plug b (Tr.mk true y.c (plug a .nil) y.i y.g y.o)) := q5 ▸ h
  have hbx : Rbt (plug b (Tr.mk true y.c (plug a .nil) y.i y.g y.o)) := q5 ▸ hb
  obtain ⟨n1, n2⟩ := node_of hx
  simp only [if_true] at n1 n2
  rw [n2] at h2
  cases a with
  | nil => exact absurd rfl h2
  | cons f a =>
    have hf := q3 f (by simp)
    have ha := fun z hz => q3 z (List.mem_cons_of_mem f hz)
    have e1 : plug (f :: a) .nil = plug a (Tr.mk false f.c .nil f.i f.g f.o) := by show plug a (Tr.mk f.s _ _ _ _ _) = _; rw [hf]
    have e2 : ∀ g, plug b (Tr.mk true y.c (plug (f :: a) .nil) y.i g y.o) = plug (a ++ ⟨true, y.c, y.i, g, y.o⟩ :: b) (Tr.mk true f.c f.o f.i f.g .nil) := by
      intro g
      rw [e1, plug_append]
      show plug b (Tr.mk true y.c _ y.i g y.o) = plug b (Tr.mk true y.c (plug a (Tr.mk true f.c f.o f.i f.g .nil)) y.i g y.o)
      rfl
    have hfn : fnr false (dn (wyLe k) x []) = some f := by
      rw [q1]
      show (if f.s = false then some f else _) = some f
      rw [if_pos hf]
    have hrepf : Rep t (plug (a ++ ⟨true, y.c, y.i, y.g, y.o⟩ :: b) (Tr.mk true f.c f.o f.i f.g .nil)) := by rw [← e2]; exact hx
    refine ⟨f, hfn, ⟨_, _, _, _, hrepf.node⟩, hx.is, ⟨a ++ ⟨true, y.c, y.i, f.g, y.o⟩ :: b, true, f.c, f.o, f.i, f.g, rfl, ?_, ?_, ?_⟩, ?_⟩
    · rw [← e2]; exact hx.turn (·.setG f.g) (fun p => ndk_setG ..)
    · rw [← e2]; exact rbt_setG _ _ _ _ _ _ _ _ hbx
    · rw [q6, hdel, cpre_app, cpost_app]
      simp [cpre, cpost, cpre_left a ha, hf]
    · rw [q6, hdel]
theorem del_one {t : Rt} {x : Tr} (h : Rep t x) (hb : Rbt x) (hR : RowOk x.ino) (k : Int) (hk : Ky k) (y : Fr) (hy : plF k x = some y) (h1 : t.ch y.i false = -1 ∨ t.ch y.i true = -1) :
    OutInv t y.i (delG x.ino k).1 ∧ (delG x.ino k).2 = true := by
  obtain ⟨a, b, q1, q2, q3, q4, _⟩ := pl_some x _ y hy
  obtain ⟨q5, q6⟩ := pl_row x _ y a b q1 q2 q3
  have hdel := del_at _ _ _ k (q6 ▸ hR) hk q4
  have hx : Rep t (plug b (Tr.mk true y.c (plug a .nil) y.i y.g y.o)) := q5 ▸ h
  have hbx : Rbt (plug b (Tr.mk true y.c (plug a .nil) y.i y.g y.o)) := q5 ▸ hb
  obtain ⟨n1, n2⟩ := node_of hx
  simp only [if_true] at n1 n2
  have e2 : (plug a Tr.nil).ino = cpost a := by rw [ino_plug, cpre_left a q3]; simp [Tr.ino]
  rw [n1, n2] at h1
  rcases h1 with h1 | h1
  · have ho := Tr.idx_nil _ h1
    rw [ho] at hx hbx q6 hdel
    refine ⟨⟨b, true, y.c, plug a .nil, y.i, y.g, rfl, hx, hbx, ?_⟩, ?_⟩
    · rw [q6, hdel, e2]; simp [Tr.ino]
    · rw [q6, hdel]
  · have ho := Tr.idx_nil _ h1
    rw [ho, show Tr.mk true y.c .nil y.i y.g y.o = Tr.mk false y.c y.o y.i y.g .nil from rfl] at hx hbx
    rw [ho] at e2
    have e3 : cpost a = [] := e2.symm
    refine ⟨⟨b, false, y.c, y.o, y.i, y.g, rfl, hx, hbx, ?_⟩, ?_⟩
    · rw [q6, hdel, e3]; simp
    · rw [q6, hdel]
end Go.Proofs.Ytakkmnhiaddnnaa.Bo

/- The tree told by its row: what is told of a cut. -/
namespace Go.Proofs.Ytakkmnhiaddnnaa
open Go.RowKit Go.Sort Go.Proofs.Ytakkmnhiaddnnaa.Bo
set_option linter.unusedVariables false
set_option maxRecDepth 100000

/-- A tree of a row of segments, in the blocks S. -/
structure TrR (w : World) (base T A : Nat) (t : Rt) (x : Tr) (S : Nat → Prop) : Prop where
  is : RtIs w base T A t S
  rep : Rep t x
  rbt : Rbt x
  row : RowOk x.ino
  ok : ∀ g ∈ x.ino, g.ok
theorem TrR.below {w w' : World} {base T A : Nat} {t : Rt} {x : Tr} {S : Nat → Prop} (h : TrR w base T A t x S) (hb : Go.RowKit.Below w.heap.size w w') : TrR w' base T A t x S := ⟨h.is.below hb, h.rep, h.rbt, h.row, h.ok⟩
section
variable {w : World} {base T A : Nat} {t : Rt} {x : Tr} {S : Nat → Prop}
theorem rnab_any (h : TrR w base T A t x S) (a b : Int) (hb : I64 b) : Calls Try.prog 45 #[aP T, .agg #[.int .i64 a, .int .i64 b]] w fun e w' => e = .returned (.int .i64 (fni true (dn (wyLe (key a b)) x []))) ∧ Go.RowKit.Below w.heap.size w w' := by
  refine rnab_core T a b _ w (Lib.hid ?_)
  have hB := below_new w (.cells #[.int .i64 a, .int .i64 b] 31)
  have := routm_any (h.is.below hB) h.rep.ok h.rep.l h.ok true 70 (fun _ _ => rfl) (.pointer (some ⟨w.heap.size, 0, none⟩)) (fun g => decide (g.key ≤ key a b))
    (fun W hW g hg => rfit_le w.heap.size a b g.ls g.la W hb hg.1 (box_on (heap_alloc_new w _) hW))
  rw [wy_le_t] at this
  exact this
theorem rabv_any (h : TrR w base T A t x S) (a b : Int) (hb : I64 b) : Calls Try.prog 50 #[aP T, .agg #[.int .i64 a, .int .i64 b]] w fun e w' => e = .returned (.int .i64 (fni false (dn (wyLe (key a b)) x []))) ∧ Go.RowKit.Below w.heap.size w w' := by
  refine rabv_core T a b _ w (Lib.hid ?_)
  have hB := below_new w (.cells #[.int .i64 a, .int .i64 b] 31)
  have := routm_any (h.is.below hB) h.rep.ok h.rep.l h.ok false 76 (fun _ _ => rfl) (.pointer (some ⟨w.heap.size, 0, none⟩)) (fun g => decide (g.key > key a b))
    (fun W hW g hg => rfit_gt w.heap.size a b g.ls g.la W hb hg.1 (box_on (heap_alloc_new w _) hW))
  rw [wy_gt_f] at this
  exact this
theorem rlow_om (h : TrR w base T A t x S) (a b : Int) (hb : I64 b) (W : World) (hW : Go.RowKit.Below w.heap.size w W) (c : Nat) (hc : W.heap[c]? = some (.cells #[.int .i64 a, .int .i64 b] 31)) :
    Calls Try.prog 46 #[aP T, .int .i64 1, .func (.func 47) #[] #[.pointer (some ⟨c, 0, none⟩)]] W fun e w' => e = .returned (.int .i64 (fni true (dn (wyLt (key a b)) x []))) ∧ Go.RowKit.Below W.heap.size W w' := by
  have := routm_any (h.is.below hW) h.rep.ok h.rep.l h.ok true 47 (fun _ _ => rfl) (.pointer (some ⟨c, 0, none⟩)) (fun g => decide (g.key < key a b))
    (fun W' hW' g hg => rfit_lt c a b g.ls g.la W' hb hg.1 (box_on hc hW'))
  rw [wy_lt_t] at this
  exact this
theorem rceil_om (h : TrR w base T A t x S) (a b : Int) (hb : I64 b) (W : World) (hW : Go.RowKit.Below w.heap.size w W) (c : Nat) (hc : W.heap[c]? = some (.cells #[.int .i64 a, .int .i64 b] 31)) :
    Calls Try.prog 46 #[aP T, .int .i64 0, .func (.func 49) #[] #[.pointer (some ⟨c, 0, none⟩)]] W fun e w' => e = .returned (.int .i64 (fni false (dn (wyLt (key a b)) x []))) ∧ Go.RowKit.Below W.heap.size W w' := by
  have := routm_any (h.is.below hW) h.rep.ok h.rep.l h.ok false 49 (fun _ _ => rfl) (.pointer (some ⟨c, 0, none⟩)) (fun g => decide (g.key ≥ key a b))
    (fun W' hW' g hg => rfit_ge c a b g.ls g.la W' hb hg.1 (box_on hc hW'))
  rw [wy_ge_f] at this
  exact this
theorem repC_look {f : Int → Option Nd} (cx : List Fr) : ∀ (hh : Int), RepC f cx hh → ∀ y ∈ cx, ∃ p c, f (y.i : Int) = some (ndk y.s y.g p c y.o.idx y.c) := by
  induction cx with
  | nil => intro hh _ y hy; simp at hy
  | cons z cx ih =>
    rintro hh ⟨h1, h2, h3⟩ y hy
    rcases List.mem_cons.1 hy with rfl | hy
    · exact ⟨_, _, h1⟩
    · exact ih _ h3 y hy
theorem fnr_mem (s : Bool) (cx : List Fr) (y : Fr) (h : fnr s cx = some y) : y ∈ cx := by
  obtain ⟨a, b, rfl, _, _⟩ := fnr_split s cx y h
  simp
/-- A step of a way down the tree is a node. -/
theorem TrR.stepNode (h : TrR w base T A t x S) (wy : G5 → Bool) (y : Fr) (hy : y ∈ dn wy x []) : ∃ n, t.look (y.i : Int) = some n ∧ n.g = y.g ∧ t.ar.is (y.i : Int) = true := by
  have hr := h.rep.rep
  have e : x = plug (dn wy x []) .nil := (dn_plug wy x []).symm
  rw [e, rep_plug] at hr
  obtain ⟨p, c, hl⟩ := repC_look _ _ hr.1 y hy
  exact ⟨_, hl, ndk_g .., (t.ar.look_some _ _ hl).1⟩
theorem fr_ino (cx : List Fr) (y : Fr) (hy : y ∈ cx) : y.g ∈ cpre cx ∨ y.g ∈ cpost cx := by
  induction cx with
  | nil => simp at hy
  | cons z cx ih =>
    rcases List.mem_cons.1 hy with rfl | hy
    · cases e : y.s
      · exact .inr (by simp [cpost, e])
      · exact .inl (by simp [cpre, e])
    · rcases ih hy with k | k
      · exact .inl (by simp [cpre, k])
      · exact .inr (by simp [cpost, k])
theorem step_ino (wy : G5 → Bool) (x : Tr) (y : Fr) (hy : y ∈ dn wy x []) : y.g ∈ x.ino := by
  have e : x = plug (dn wy x []) .nil := (dn_plug wy x []).symm
  rw [e, ino_plug]
  rcases fr_ino _ y hy with k | k
  · simp [k]
  · simp [k]
def fidx (o : Option Fr) : Int := match o with | some y => (y.i : Int) | none => -1
theorem fni_eq (s : Bool) (cx : List Fr) : fni s cx = fidx (fnr s cx) := rfl
/-- told of a node that may not be there. -/
theorem rtold_any (h : TrR w base T A t x S) (o : Option Fr) (ho : ∀ y, o = some y → ∃ n, t.look (y.i : Int) = some n ∧ n.g = y.g ∧ t.ar.is (y.i : Int) = true) :
    Calls Try.prog 44 #[aP T, (.int .i64 (fidx o))] w fun e w' => e = .returned (.tuple #[vG (tl o).1, .bool (tl o).2]) ∧ Go.RowKit.Below w.heap.size w w' := by
  cases o with
  | none =>
    have hno : t.ar.is (-1) = false := (t.ar.look_none _).1 t.ar.look_neg
    obtain ⟨S0, _, hbox, _, hrn⟩ := h.is
    exact rtold_core T A t.root (-1) ndZ false w hbox (Lib.hid fun W hW => rnget_no (hrn.below hW) h.rep.ok (-1) hno)
  | some y =>
    obtain ⟨n, h1, h2, h3⟩ := ho y rfl
    obtain ⟨S0, _, hbox, _, hrn⟩ := h.is
    have hl := (t.ar.look_some _ _ h1).2
    rw [Int.toNat_natCast] at hl
    have := rtold_core T A t.root (y.i : Int) n true w hbox (Lib.hid fun W hW => rnget_yes (hrn.below hW) h.rep.ok y.i h3 n hl)
    rw [h2] at this
    exact this
theorem rfloor_any (h : TrR w base T A t x S) (a b : Int) (hb : I64 b) : Calls Try.prog 19 #[aP T, .agg #[.int .i64 a, .int .i64 b]] w fun e w' => e = .returned (.tuple #[vG (nearG x.ino (key a b) 0).1, .bool (nearG x.ino (key a b) 0).2]) ∧ Go.RowKit.Below w.heap.size w w' := by
  have ht := tl_floor x (key a b) (ris_of _ h.row)
  have hd : ∀ W, Go.RowKit.Below w.heap.size w W → Calls Try.prog 44 #[aP T, .int .i64 (fni true (dn (wyLe (key a b)) x []))] W fun e w' => e = .returned (.tuple #[vG (tl (fnr true (dn (wyLe (key a b)) x []))).1, .bool (tl (fnr true (dn (wyLe (key a b)) x []))).2]) ∧ Go.RowKit.Below W.heap.size W w' := fun W hW => by
    rw [fni_eq]
    exact rtold_any (h.below hW) _ (fun y hy => h.stepNode _ y (fnr_mem _ _ _ hy))
  have hn := fun W (hW : Go.RowKit.Below w.heap.size w W) => rnab_any (h.below hW) a b hb
  generalize fni true (dn (wyLe (key a b)) x []) = i at *
  generalize tl (fnr true (dn (wyLe (key a b)) x [])) = z at *
  subst ht
  exact rfloor_core T a b i _ _ w (Lib.hid hn) (Lib.hid hd)
theorem rhigher_any (h : TrR w base T A t x S) (a b : Int) (hb : I64 b) : Calls Try.prog 22 #[aP T, .agg #[.int .i64 a, .int .i64 b]] w fun e w' => e = .returned (.tuple #[vG (nearG x.ino (key a b) 3).1, .bool (nearG x.ino (key a b) 3).2]) ∧ Go.RowKit.Below w.heap.size w w' := by
  have ht := tl_higher x (key a b) (ris_of _ h.row)
  have hd : ∀ W, Go.RowKit.Below w.heap.size w W → Calls Try.prog 44 #[aP T, .int .i64 (fni false (dn (wyLe (key a b)) x []))] W fun e w' => e = .returned (.tuple #[vG (tl (fnr false (dn (wyLe (key a b)) x []))).1, .bool (tl (fnr false (dn (wyLe (key a b)) x []))).2]) ∧ Go.RowKit.Below W.heap.size W w' := fun W hW => by
    rw [fni_eq]
    exact rtold_any (h.below hW) _ (fun y hy => h.stepNode _ y (fnr_mem _ _ _ hy))
  have hn := fun W (hW : Go.RowKit.Below w.heap.size w W) => rabv_any (h.below hW) a b hb
  generalize fni false (dn (wyLe (key a b)) x []) = i at *
  generalize tl (fnr false (dn (wyLe (key a b)) x [])) = z at *
  subst ht
  exact rhigher_core T a b i _ _ w (Lib.hid hn) (Lib.hid hd)
theorem rlower_any (h : TrR w base T A t x S) (a b : Int) (hb : I64 b) : Calls Try.prog 20 #[aP T, .agg #[.int .i64 a, .int .i64 b]] w fun e w' => e = .returned (.tuple #[vG (nearG x.ino (key a b) 1).1, .bool (nearG x.ino (key a b) 1).2]) ∧ Go.RowKit.Below w.heap.size w w' := by
  have ht := tl_lower x (key a b) (ris_of _ h.row)
  have hd : ∀ W, Go.RowKit.Below w.heap.size w W → Calls Try.prog 44 #[aP T, .int .i64 (fni true (dn (wyLt (key a b)) x []))] W fun e w' => e = .returned (.tuple #[vG (tl (fnr true (dn (wyLt (key a b)) x []))).1, .bool (tl (fnr true (dn (wyLt (key a b)) x []))).2]) ∧ Go.RowKit.Below W.heap.size W w' := fun W hW => by
    rw [fni_eq]
    exact rtold_any (h.below hW) _ (fun y hy => h.stepNode _ y (fnr_mem _ _ _ hy))
  have hn := fun W (hW : Go.RowKit.Below w.heap.size w W) (hc : W.heap[w.heap.size]? = some (.cells #[.int .i64 a, .int .i64 b] 31)) => rlow_om h a b hb W hW _ hc
  generalize fni true (dn (wyLt (key a b)) x []) = i at *
  generalize tl (fnr true (dn (wyLt (key a b)) x [])) = z at *
  subst ht
  exact rlower_core T a b i _ _ w (Lib.hid hn) (Lib.hid hd)
theorem rceiling_any (h : TrR w base T A t x S) (a b : Int) (hb : I64 b) : Calls Try.prog 21 #[aP T, .agg #[.int .i64 a, .int .i64 b]] w fun e w' => e = .returned (.tuple #[vG (nearG x.ino (key a b) 2).1, .bool (nearG x.ino (key a b) 2).2]) ∧ Go.RowKit.Below w.heap.size w w' := by
  have ht := tl_ceiling x (key a b) (ris_of _ h.row)
  have hd : ∀ W, Go.RowKit.Below w.heap.size w W → Calls Try.prog 44 #[aP T, .int .i64 (fni false (dn (wyLt (key a b)) x []))] W fun e w' => e = .returned (.tuple #[vG (tl (fnr false (dn (wyLt (key a b)) x []))).1, .bool (tl (fnr false (dn (wyLt (key a b)) x []))).2]) ∧ Go.RowKit.Below W.heap.size W w' := fun W hW => by
    rw [fni_eq]
    exact rtold_any (h.below hW) _ (fun y hy => h.stepNode _ y (fnr_mem _ _ _ hy))
  have hn := fun W (hW : Go.RowKit.Below w.heap.size w W) (hc : W.heap[w.heap.size]? = some (.cells #[.int .i64 a, .int .i64 b] 31)) => rceil_om h a b hb W hW _ hc
  generalize fni false (dn (wyLt (key a b)) x []) = i at *
  generalize tl (fnr false (dn (wyLt (key a b)) x [])) = z at *
  subst ht
  exact rceiling_core T a b i _ _ w (Lib.hid hn) (Lib.hid hd)
theorem i64_0 : I64 0 := by unfold I64; omega
theorem rfirst_any (h : TrR w base T A t x S) : Calls Try.prog 26 #[aP T] w fun e w' => e = .returned (.tuple #[vG (nearG x.ino (key (-1) 0) 2).1, .bool (nearG x.ino (key (-1) 0) 2).2]) ∧ Go.RowKit.Below w.heap.size w w' :=
  rfirst_core T _ _ w (Lib.hid fun W => (first_any W).mono fun _ _ h => ⟨h.1, h.2.1⟩) (Lib.hid fun W hW => rceiling_any (h.below hW) (-1) 0 i64_0)
theorem rlast_any (h : TrR w base T A t x S) : Calls Try.prog 27 #[aP T] w fun e w' => e = .returned (.tuple #[vG (nearG x.ino (key 1 0) 0).1, .bool (nearG x.ino (key 1 0) 0).2]) ∧ Go.RowKit.Below w.heap.size w w' :=
  rlast_core T _ _ w (Lib.hid fun W => (last_any W).mono fun _ _ h => ⟨h.1, h.2.1⟩) (Lib.hid fun W hW => rfloor_any (h.below hW) 1 0 i64_0)
/-- The place of a key. -/
def plI (k : Int) (x : Tr) : Int := match plF k x with | some y => (y.i : Int) | none => -1
theorem rplace_any (h : TrR w base T A t x S) (a b : Int) (hb : I64 b) : Calls Try.prog 52 #[aP T, .agg #[.int .i64 a, .int .i64 b]] w fun e w' => e = .returned (.int .i64 (plI (key a b) x)) ∧ Go.RowKit.Below w.heap.size w w' := by
  have hbox := h.is
  obtain ⟨S0, _, hbox, _, _⟩ := hbox
  have hN := fun W hW => rnab_any (h.below (w' := W) hW) a b hb
  unfold plI plF
  unfold fni at hN
  cases e : fnr true (dn (wyLe (key a b)) x []) with
  | none =>
    rw [e] at hN
    obtain ⟨_, k2⟩ := h.is.nil h.rep.ok (-1) ((t.ar.look_none _).1 t.ar.look_neg)
    exact rplace_no_core T A a b (-1) t.root w hbox (Lib.hid hN) (Lib.hid fun W hW => (k2 W hW).mono fun e w' ⟨he, hw⟩ => ⟨he, hw ▸ Go.RowKit.Below.refl _ _⟩)
  | some y =>
    rw [e] at hN
    obtain ⟨n, h1, h2, h3⟩ := h.stepNode _ y (fnr_mem _ _ _ e)
    obtain ⟨gb, _, k2, k3, _, _⟩ := h.is.cellset h.rep.ok y.i h3
    have hl := (t.ar.look_some _ _ h1).2
    rw [Int.toNat_natCast] at hl
    rw [hl] at k3
    have hgx : y.g ∈ x.ino := step_ino _ x y (fnr_mem _ _ _ e)
    have hg := h.ok _ hgx
    have := rplace_core T A gb y.i a b y.g.ls y.g.la t.root (kcmp (key y.g.ls y.g.la) (key a b) == 0) w hb hg.1 hbox (Lib.hid hN) (Lib.hid fun W hW => (k2 W hW).mono fun e w' ⟨he, hw⟩ => ⟨he, hw ▸ Go.RowKit.Below.refl _ _⟩) (by have := k3 0 _ rfl; rw [h2] at this; exact this) (by have := k3 1 _ rfl; rw [h2] at this; exact this) rfl
    have hiff : (kcmp (key y.g.ls y.g.la) (key a b) == 0) = decide (y.g.key = key a b) := by
      show (kcmp y.g.key (key a b) == 0) = _
      unfold kcmp
      split
      · simp; omega
      · split
        · simp; omega
        · simp; omega
    rw [hiff] at this
    by_cases hk : y.g.key = key a b
    · simp only [hk, decide_true, if_true] at this ⊢; exact this
    · simp only [hk, decide_false, if_false] at this ⊢; exact this
end
end Go.Proofs.Ytakkmnhiaddnnaa

/- A node is taken out. -/
namespace Go.Proofs.Ytakkmnhiaddnnaa
open Go.RowKit Go.Sort Go.Proofs.Ytakkmnhiaddnnaa.Bo
set_option linter.unusedVariables false

theorem RtAt.post {w0 w w' : World} {S : Nat → Prop} {base T A : Nat} {t : Rt} {a' : Ag Nd} {ans : Value} {e : Ending} (h : RtAt w0 S base T A t w) (hp : ∀ S0, rnIs w base A t.ar S0 → rnPost w base A S0 a' ans e w') : e = .returned ans ∧ RtAt w0 S base T A { t with ar := a' } w' := by
  obtain ⟨S1, ⟨S0, rfl, hb, hT, hr⟩, h2, h3⟩ := h
  obtain ⟨S', ⟨he, hr'⟩, hk, hs⟩ := hp S0 hr
  refine ⟨he, RtAt.step (S1 := fun b => b = T ∨ S0 b) (S2 := fun b => b = T ∨ S' b) ⟨S0, rfl, hb, hT, hr⟩ h2 h3 ⟨S', rfl, hk.at hb (rt_type hb hr), hT, hr'⟩ (hk.mono fun b hb => .inr hb) ?_⟩
  rintro b (rfl | hb')
  · exact .inl (.inl rfl)
  · exact (hs b hb').imp .inr id
theorem rpost_calls {w0 w : World} {S : Nat → Prop} {base T A : Nat} {t : Rt} {a' : Ag Nd} {ans : Value} {f : Nat} {args : Array Value} (h : RtAt w0 S base T A t w) (hc : ∀ S0, rnIs w base A t.ar S0 → Calls Try.prog f args w (rnPost w base A S0 a' ans)) : Rd f args ans (RtAt w0 S base T A { t with ar := a' }) w := by
  have h' := h
  obtain ⟨S1, ⟨S0, rfl, hb, hT, hr⟩, h2, h3⟩ := h
  refine (hc S0 hr).mono fun e w' hp => ?_
  obtain ⟨S', ⟨he, hr'⟩, hk, hs⟩ := hp
  refine ⟨he, RtAt.step (S1 := fun b => b = T ∨ S0 b) (S2 := fun b => b = T ∨ S' b) ⟨S0, rfl, hb, hT, hr⟩ h2 h3 ⟨S', rfl, hk.at hb (rt_type hb hr), hT, hr'⟩ (hk.mono fun b hb => .inr hb) ?_⟩
  rintro b (rfl | hb')
  · exact .inl (.inl rfl)
  · exact (hs b hb').imp .inr id
theorem rfree_any {w0 w : World} {S : Nat → Prop} {base T A : Nat} {t : Rt} (h : RtAt w0 S base T A t w) (hok : t.ar.ok) (n : Nat) (hi : t.ar.is (n : Int) = true) : Rd 92 #[aP A, .int .i64 (n : Int)] (.bool true) (RtAt w0 S base T A { t with ar := t.ar.drop (n : Int) }) w :=
  rpost_calls h (fun S0 hr => rnfree_yes hr hok n hi)
set_option maxRecDepth 100000 in
set_option maxHeartbeats 4000000 in
theorem rtake_one (T A : Nat) (i c1 p sd : Int) (r rc fb : Bool) (P0 P1 P2 PF : World → Prop) (w : World) (h0 : Hid (P0 w))
    (HC0 : Hid (RdC T i 0 (-1) P0))
    (HC1 : Hid (RdC T i 1 c1 P0))
    (HP : Hid (RdP T i p P0)) (HD : Hid (RdS T i sd P0)) (HR : Hid (RdR T i r P0))
    (HH : Hid (∀ W, P0 W → Rd 85 #[aP T, .int .i64 c1, .int .i64 p, .int .i64 sd] (.tuple #[]) P1 W))
    (HTc : Hid (∀ W, P1 W → W.cell? ⟨T, 0, none⟩ = some (aP A)))
    (HF : Hid (∀ W, P1 W → Rd 92 #[aP A, .int .i64 i] (.bool fb) P2 W))
    (HE : Hid (r = true → ∀ W, P2 W → PF W)) (HRc : Hid (r = false → RdR T c1 rc P2)) (HPt : Hid (r = false → rc = true → RdPt T c1 false P2 PF))
    (HM : Hid (r = false → rc = false → ∀ W, P2 W → Rd 93 #[aP T, .int .i64 p, .int .i64 sd] (.tuple #[]) PF W)) :
    Rd 67 #[aP T, .int .i64 i] (.tuple #[]) PF w := by
  have mx := mixed
  have HS := h0
  clear h0
  go_enter Try.func67, Try.ntmps67
  go_wp2_with fail
  refine (HC0.out _ HS.out).mono ?_
  rintro e y1 ⟨rfl, hs⟩
  replace HS := Lib.hid hs
  clear hs
  go_wp2_with fail
  refine (HC1.out _ HS.out).mono ?_
  rintro e y2 ⟨rfl, hs⟩
  replace HS := Lib.hid hs
  clear hs
  go_wp2_with fail
  refine (HP.out _ HS.out).mono ?_
  rintro e y3 ⟨rfl, hs⟩
  replace HS := Lib.hid hs
  clear hs
  go_wp2_with fail
  refine (HD.out _ HS.out).mono ?_
  rintro e y4 ⟨rfl, hs⟩
  replace HS := Lib.hid hs
  clear hs
  go_wp2_with fail
  refine (HR.out _ HS.out).mono ?_
  rintro e y5 ⟨rfl, hs⟩
  replace HS := Lib.hid hs
  clear hs
  go_wp2_with fail
  refine (HH.out _ HS.out).mono ?_
  rintro e y6 ⟨rfl, hs⟩
  replace HS := Lib.hid hs
  clear hs
  have d0 := HTc.out _ HS.out
  go_wp2_with fail
  refine (HF.out _ HS.out).mono ?_
  rintro e y7 ⟨rfl, hs⟩
  replace HS := Lib.hid hs
  clear hs
  clear d0
  cases r with
  | true =>
    go_wp2_with fail
    go_end0
    exact ⟨rfl, HE.out (by simp) _ HS.out⟩
  | false =>
    replace HRc := Lib.hid (HRc.out rfl)
    go_wp2_with fail
    refine (HRc.out _ HS.out).mono ?_
    rintro e y8 ⟨rfl, hs⟩
    replace HS := Lib.hid hs
    clear hs
    cases rc with
    | true =>
      replace HPt := Lib.hid (HPt.out (by simp) (by simp))
      go_wp2_with fail
      refine (HPt.out _ HS.out).mono ?_
      rintro e y9 ⟨rfl, hs⟩
      replace HS := Lib.hid hs
      clear hs
      go_wp2_with fail
      go_end0
      exact ⟨rfl, HS.out⟩
    | false =>
      replace HM := Lib.hid (HM.out (by simp) (by simp))
      go_wp2_with fail
      refine (HM.out _ HS.out).mono ?_
      rintro e y10 ⟨rfl, hs⟩
      replace HS := Lib.hid hs
      clear hs
      go_wp2_with fail
      go_end0
      exact ⟨rfl, HS.out⟩
set_option maxRecDepth 100000 in
set_option maxHeartbeats 4000000 in
theorem rtake_two (T A : Nat) (i c0 p sd : Int) (r rc fb : Bool) (P0 P1 P2 PF : World → Prop) (w : World) (h0 : Hid (P0 w))
    (HC0 : Hid (RdC T i 0 c0 P0)) (hne : (c0 == -1) = false)
    (HP : Hid (RdP T i p P0)) (HD : Hid (RdS T i sd P0)) (HR : Hid (RdR T i r P0))
    (HH : Hid (∀ W, P0 W → Rd 85 #[aP T, .int .i64 c0, .int .i64 p, .int .i64 sd] (.tuple #[]) P1 W))
    (HTc : Hid (∀ W, P1 W → W.cell? ⟨T, 0, none⟩ = some (aP A)))
    (HF : Hid (∀ W, P1 W → Rd 92 #[aP A, .int .i64 i] (.bool fb) P2 W))
    (HE : Hid (r = true → ∀ W, P2 W → PF W)) (HRc : Hid (r = false → RdR T c0 rc P2)) (HPt : Hid (r = false → rc = true → RdPt T c0 false P2 PF))
    (HM : Hid (r = false → rc = false → ∀ W, P2 W → Rd 93 #[aP T, .int .i64 p, .int .i64 sd] (.tuple #[]) PF W)) :
    Rd 67 #[aP T, .int .i64 i] (.tuple #[]) PF w := by
  have mx := mixed
  have HS := h0
  clear h0
  go_enter Try.func67, Try.ntmps67
  go_wp2_with fail
  refine (HC0.out _ HS.out).mono ?_
  rintro e y11 ⟨rfl, hs⟩
  replace HS := Lib.hid hs
  clear hs
  go_wp2_with fail
  refine (HP.out _ HS.out).mono ?_
  rintro e y12 ⟨rfl, hs⟩
  replace HS := Lib.hid hs
  clear hs
  go_wp2_with fail
  refine (HD.out _ HS.out).mono ?_
  rintro e y13 ⟨rfl, hs⟩
  replace HS := Lib.hid hs
  clear hs
  go_wp2_with fail
  refine (HR.out _ HS.out).mono ?_
  rintro e y14 ⟨rfl, hs⟩
  replace HS := Lib.hid hs
  clear hs
  go_wp2_with fail
  refine (HH.out _ HS.out).mono ?_
  rintro e y15 ⟨rfl, hs⟩
  replace HS := Lib.hid hs
  clear hs
  have d0 := HTc.out _ HS.out
  go_wp2_with fail
  refine (HF.out _ HS.out).mono ?_
  rintro e y16 ⟨rfl, hs⟩
  replace HS := Lib.hid hs
  clear hs
  clear d0
  cases r with
  | true =>
    go_wp2_with fail
    go_end0
    exact ⟨rfl, HE.out (by simp) _ HS.out⟩
  | false =>
    replace HRc := Lib.hid (HRc.out rfl)
    go_wp2_with fail
    refine (HRc.out _ HS.out).mono ?_
    rintro e y17 ⟨rfl, hs⟩
    replace HS := Lib.hid hs
    clear hs
    cases rc with
    | true =>
      replace HPt := Lib.hid (HPt.out (by simp) (by simp))
      go_wp2_with fail
      refine (HPt.out _ HS.out).mono ?_
      rintro e y18 ⟨rfl, hs⟩
      replace HS := Lib.hid hs
      clear hs
      go_wp2_with fail
      go_end0
      exact ⟨rfl, HS.out⟩
    | false =>
      replace HM := Lib.hid (HM.out (by simp) (by simp))
      go_wp2_with fail
      refine (HM.out _ HS.out).mono ?_
      rintro e y19 ⟨rfl, hs⟩
      replace HS := Lib.hid hs
      clear hs
      go_wp2_with fail
      go_end0
      exact ⟨rfl, HS.out⟩
theorem rtakeOut_any {w0 w : World} {S : Nat → Prop} {base T A : Nat} {t : Rt} {R : Int} {L : List G5} (h : RtAt w0 S base T A t w) (hR : t.ar.room = R) {i : Int} (hi : OutInv t i L) : Rd 67 #[aP T, .int .i64 i] (.tuple #[]) (TrAt w0 S base T A R L) w := by
  obtain ⟨cx, s, c, y, j, g, rfl, hr, hb, hL⟩ := hi
  have hok := hr.ok
  obtain ⟨n1, n2⟩ := node_of hr
  have his := hr.is
  have hpa := hr.pa
  have hsd := hr.sd
  have hred : t.red (j : Int) = c := by have := hr.red; rw [Tr.mk_idx, Tr.mk_red] at this; exact this
  have hout := hr.out
  have hino : (plug cx y).ino = L := by rw [ino_plug]; exact hL
  obtain ⟨z1, z2, z3⟩ := out_rb hout hb
  rw [hino] at z1 z2 z3
  have hok1 := t.hang_ok y.idx (cpi cx) (csd cx) hok
  have his1 : (t.hang y.idx (cpi cx) (csd cx)).ar.is (j : Int) = true := by rw [t.hang_is]; exact his
  have hroom : (Rt.mk ((t.hang y.idx (cpi cx) (csd cx)).ar.drop (j : Int)) (t.hang y.idx (cpi cx) (csd cx)).root).ar.room = R := by
    show (t.hang y.idx (cpi cx) (csd cx)).ar.room = R
    rw [t.hang_room, hR]
  have HP : Hid (RdP T (j : Int) (cpi cx) (RtAt w0 S base T A t)) := fun W hW => by have := rpar_any hW hok _ his; rw [hpa] at this; exact this
  have HD : Hid (RdS T (j : Int) (sv (csd cx)) (RtAt w0 S base T A t)) := fun W hW => by have := rside_any hW hok _ his; rw [hsd] at this; exact this
  have HR : Hid (RdR T (j : Int) c (RtAt w0 S base T A t)) := fun W hW => by have := rred_any hW hok (j : Int); rw [hred] at this; exact this
  have HH : Hid (∀ W, RtAt w0 S base T A t W → Rd 85 #[aP T, .int .i64 y.idx, .int .i64 (cpi cx), .int .i64 (sv (csd cx))] (.tuple #[]) (RtAt w0 S base T A (t.hang y.idx (cpi cx) (csd cx))) W) := fun W hW => rhang_any hW hok _ _ _
  have HTc : Hid (∀ W, RtAt w0 S base T A (t.hang y.idx (cpi cx) (csd cx)) W → W.cell? ⟨T, 0, none⟩ = some (aP A)) := fun W hW => (cell_of_row _ _ 0 _ _ _ hW.root).trans rfl
  have HF : Hid (∀ W, RtAt w0 S base T A (t.hang y.idx (cpi cx) (csd cx)) W → Rd 92 #[aP A, .int .i64 (j : Int)] (.bool true) (RtAt w0 S base T A ⟨(t.hang y.idx (cpi cx) (csd cx)).ar.drop (j : Int), (t.hang y.idx (cpi cx) (csd cx)).root⟩) W) := fun W hW => rfree_any hW hok1 j his1
  have hok2 := hout.ok
  generalize Rt.mk ((t.hang y.idx (cpi cx) (csd cx)).ar.drop (j : Int)) (t.hang y.idx (cpi cx) (csd cx)).root = t2 at *
  have HE : Hid (c = true → ∀ W, RtAt w0 S base T A t2 W → TrAt w0 S base T A R L W) := fun e W hW => ⟨t2, hW, hroom, z1 e⟩
  have hrc : t2.red y.idx = y.isRed := hout.red
  have HRc : Hid (c = false → RdR T y.idx y.isRed (RtAt w0 S base T A t2)) := fun _ W hW => by have := rred_any hW hok2 y.idx; rw [hrc] at this; exact this
  have HPt : Hid (c = false → y.isRed = true → RdPt T y.idx false (RtAt w0 S base T A t2) (TrAt w0 S base T A R L)) := fun e e2 W hW => by
    obtain ⟨q1, q2⟩ := z2 e e2
    exact (rpaint_any hW hok2 _ false q1).mono fun e w' ⟨he, hw⟩ => ⟨he, _, hw, (paint_room _ _).trans hroom, q2⟩
  have HM : Hid (c = false → y.isRed = false → ∀ W, RtAt w0 S base T A t2 W → Rd 93 #[aP T, .int .i64 (cpi cx), .int .i64 (sv (csd cx))] (.tuple #[]) (TrAt w0 S base T A R L) W) := fun e e2 W hW => rmendShort_any hW hroom (z3 e e2)
  by_cases e0 : t.ch (j : Int) false = -1
  · have e1 : t.ch (j : Int) true = y.idx := by
      cases s
      · simp only [Bool.false_eq_true, if_false] at n1 n2
        rw [n1] at e0
        rw [n2, e0]; rfl
      · simp only [if_true] at n2; exact n2
    exact rtake_one T A _ _ _ _ c y.isRed true (RtAt w0 S base T A t) _ _ _ w h (Lib.hid fun W hW => by have := rchild_any hW hok _ false his; rw [e0] at this; exact this) (Lib.hid fun W hW => by have := rchild_any hW hok _ true his; rw [e1] at this; exact this) HP HD HR HH HTc HF HE HRc HPt HM
  · have e1 : t.ch (j : Int) false = y.idx := by
      cases s
      · simp only [Bool.false_eq_true, if_false] at n1; exact n1
      · simp only [if_true] at n1
        rw [n1] at e0
        exact absurd rfl e0
    rw [e1] at e0
    exact rtake_two T A _ _ _ _ c y.isRed true (RtAt w0 S base T A t) _ _ _ w h (Lib.hid fun W hW => by have := rchild_any hW hok _ false his; rw [e1] at this; exact this) (by simpa using e0) HP HD HR HH HTc HF HE HRc HPt HM
end Go.Proofs.Ytakkmnhiaddnnaa

/- A new node is hung in: the closure, the walk. -/
namespace Go.Proofs.Ytakkmnhiaddnnaa
open Go.RowKit Go.Sort Go.Proofs.Ytakkmnhiaddnnaa.Bo
set_option linter.unusedVariables false

set_option maxRecDepth 100000 in
set_option maxHeartbeats 2000000 in
theorem raddc_core (g n po so ko : Nat) (ls la x y p0 s0 : Int) (b : Bool) (P0 P1 P2 : World → Prop) (w : World) (hla : I64 la) (hy : I64 y) (hps : po ≠ so) (h0 : Hid (P0 w)) (hB : Hid (Bc P1))
    (HPo : Hid (∀ W, P0 W → W.cell? ⟨po, 0, none⟩ = some (.int .i64 p0))) (HPf : Hid (∀ W, P0 W → W.frozen? ⟨po, 0, none⟩ = false)) (HSo : Hid (∀ W, P0 W → W.cell? ⟨so, 0, none⟩ = some (.int .i64 s0))) (HSf : Hid (∀ W, P0 W → W.frozen? ⟨so, 0, none⟩ = false))
    (H1 : Hid (∀ W, P0 W → P1 ((W.setCell ⟨po, 0, none⟩ (.int .i64 (n : Int))).setCell ⟨so, 0, none⟩ (.int .i64 0))))
    (HS1 : Hid (∀ W, P1 W → W.cell? ⟨so, 0, none⟩ = some (.int .i64 0))) (HS1f : Hid (∀ W, P1 W → W.frozen? ⟨so, 0, none⟩ = false))
    (HK1 : Hid (∀ W, P1 W → W.cell? ⟨ko, 0, none⟩ = some (.int .i64 x))) (HK2 : Hid (∀ W, P1 W → W.cell? ⟨ko, 1, none⟩ = some (.int .i64 y)))
    (HK : Hid (∀ W, P1 W → Calls Try.prog 73 #[.pointer (some ⟨g, n * 10, none⟩)] W fun e w' => e = .returned (.agg #[.int .i64 ls, .int .i64 la]) ∧ Go.RowKit.Below W.heap.size W w'))
    (HQ : Hid (decide (kcmp (key ls la) (key x y) < 0) = b))
    (HT : Hid (b = true → ∀ W, P1 W → P2 (W.setCell ⟨so, 0, none⟩ (.int .i64 1)))) (HN : Hid (b = false → ∀ W, P1 W → P2 W)) :
    Calls Try.prog 84 #[.int .i64 (n : Int), .pointer (some ⟨g, n * 10, none⟩), .pointer (some ⟨po, 0, none⟩), .pointer (some ⟨so, 0, none⟩), .pointer (some ⟨ko, 0, none⟩)] w fun e w' => e = .returned (.int .i64 (sv b)) ∧ P2 w' := by
  have mx := mixed
  have HC := Lib.hid (fun W => compare_any ls la x y W hla hy)
  generalize kcmp (key ls la) (key x y) = K at *
  have c1 := HPo.out _ h0.out
  have c2 := HPf.out _ h0.out
  have c3 : (w.setCell ⟨po, 0, none⟩ (.int .i64 (n : Int))).cell? ⟨so, 0, none⟩ = some (.int .i64 s0) := (World.cell?_setCell_other w ⟨po, 0, none⟩ ⟨so, 0, none⟩ (.int .i64 (n : Int)) (by simp <;> omega)).trans (HSo.out _ h0.out)
  have c4 : (w.setCell ⟨po, 0, none⟩ (.int .i64 (n : Int))).frozen? ⟨so, 0, none⟩ = false := (World.frozen?_setCell ..).trans (HSf.out _ h0.out)
  have HW1 := Lib.hid (H1.out _ h0.out)
  go_enter Try.func84, Try.ntmps84
  go_upto_region 2 with fail
  clear c1 c2 c3 c4
  generalize ((w.setCell ⟨po, 0, none⟩ (.int .i64 (n : Int))).setCell ⟨so, 0, none⟩ (.int .i64 0)) = X at *
  have p1 := cell_regrown (HK1.out _ HW1.out)
  have p2 := cell_regrown (HK2.out _ HW1.out)
  refine wp_region_quiet_below (by assumption) (by kernel_rfl) ?_
  repeat (go_big_quiet_step (first
    | (go_at_call 73; exact Calls.regrown_of (HK.out _ (hB.out _ _ HW1.out (below_regrown _ _ _))))
    | (go_at_call 48; exact Calls.regrown_of ((HC.out _).mono fun _ _ h => ⟨h.1, h.2.1⟩))))
  refine wpQuiet_nil ?_
  intro _ hw'
  obtain ⟨⟨nq, osq⟩, hw''⟩ := hw'
  subst hw''
  have HY := Lib.hid (hB.out _ _ HW1.out (below_regrown X nq osq))
  clear p1 p2
  generalize grow (redrawn X nq) osq = Y at *
  have c1 := HS1.out _ HY.out
  have c2 := HS1f.out _ HY.out
  have hQ := HQ.out
  cases b with
  | true =>
    have hk : K < 0 := by simpa using hQ
    have hk2 : ¬ 0 ≤ K := by omega
    clear hQ
    go_wp2_with fail
    go_ret
    exact ⟨rfl, HT.out (by simp) _ HY.out⟩
  | false =>
    have hk : ¬ K < 0 := by simpa using hQ
    have hk2 : 0 ≤ K := by omega
    clear hQ
    go_wp2_with fail
    go_ret
    exact ⟨rfl, HN.out (by simp) _ HY.out⟩
/-- The blocks of add. -/
structure AdAt (y : World) (ls la p s : Int) (W : World) : Prop where
  ko : W.heap[y.heap.size]? = some (.cells #[.int .i64 ls, .int .i64 la] 31)
  po : W.heap[y.heap.size + 1]? = some (iO p)
  so : W.heap[y.heap.size + 1 + 1]? = some (iO s)
  be : Go.RowKit.Below y.heap.size y W
theorem AdAt.bc {y : World} {ls la p s : Int} : Bc (AdAt y ls la p s) := fun W W' h hb => ⟨box_on h.ko hb, box_on h.po hb, box_on h.so hb, bt h.be hb⟩
theorem ad_new (y : World) (ls la : Int) : AdAt y ls la (-1) 0 (((y.alloc (.cells #[.int .i64 ls, .int .i64 la] 31)).alloc (iO (-1))).alloc (iO 0)) :=
  ⟨box_on (box_on (heap_alloc_new y _) (below_new _ _)) (below_new _ _), box_on (new_at' _ (by simp)) (below_new _ _), new_at' _ (by simp), bt (bt (below_new _ _) (below_new _ _)) (below_new _ _)⟩
theorem AdAt.put {y W : World} {ls la p s : Int} (h : AdAt y ls la p s W) (n : Int) : AdAt y ls la n 0 ((W.setCell ⟨y.heap.size + 1, 0, none⟩ (.int .i64 n)).setCell ⟨y.heap.size + 1 + 1, 0, none⟩ (.int .i64 0)) :=
  ⟨set_far (set_far h.ko (by omega)) (by omega), set_far (heap_setCell_same _ _ _ _ _ _ h.po) (by omega), heap_setCell_same _ _ _ _ _ _ (set_far h.so (by omega)),
    (h.be.setCell (p := ⟨y.heap.size + 1, 0, none⟩) (by show y.heap.size ≤ y.heap.size + 1; omega) _).setCell (p := ⟨y.heap.size + 1 + 1, 0, none⟩) (by show y.heap.size ≤ y.heap.size + 1 + 1; omega) _⟩
theorem AdAt.putS {y W : World} {ls la p s : Int} (h : AdAt y ls la p s W) (n : Int) : AdAt y ls la p n (W.setCell ⟨y.heap.size + 1 + 1, 0, none⟩ (.int .i64 n)) :=
  ⟨set_far h.ko (by omega), set_far h.po (by omega), heap_setCell_same _ _ _ _ _ _ h.so, h.be.setCell (p := ⟨y.heap.size + 1 + 1, 0, none⟩) (by show y.heap.size ≤ y.heap.size + 1 + 1; omega) _⟩
set_option maxRecDepth 100000 in
set_option maxHeartbeats 2000000 in
theorem radd_core (T A i g : Nat) (ls la pf sf root : Int) (P1 P2 PF : World → Prop) (w : World) (HT : Hid (w.heap[T]? = some (tO A root)))
    (HA : Hid (Calls Try.prog 64 #[aP A, .int .i64 (i : Int)] w fun e w' => e = .returned (.pointer (some ⟨g, i * 10, none⟩)) ∧ w = w'))
    (HK : Hid (Calls Try.prog 73 #[.pointer (some ⟨g, i * 10, none⟩)] w fun e w' => e = .returned (.agg #[.int .i64 ls, .int .i64 la]) ∧ Go.RowKit.Below w.heap.size w w'))
    (HD : Hid (∀ y, Go.RowKit.Below w.heap.size w y → ∀ W, AdAt y ls la (-1) 0 W → Rd 71 #[aP T, .func (.func 84) #[] #[.pointer (some ⟨y.heap.size + 1, 0, none⟩), .pointer (some ⟨y.heap.size + 1 + 1, 0, none⟩), .pointer (some ⟨y.heap.size, 0, none⟩)]] (.tuple #[]) (AdAt y ls la pf sf) W))
    (HH : Hid (∀ W, Go.RowKit.Below w.heap.size w W → Rd 85 #[aP T, .int .i64 (i : Int), .int .i64 pf, .int .i64 sf] (.tuple #[]) P1 W))
    (HP : Hid (RdPt T (i : Int) true P1 P2)) (HM : Hid (∀ W, P2 W → Rd 87 #[aP T, .int .i64 (i : Int)] (.tuple #[]) PF W)) :
    Rd 66 #[aP T, .int .i64 (i : Int)] (.tuple #[]) PF w := by
  have mx := mixed
  have c0 : w.cell? ⟨T, 0, none⟩ = some (aP A) := (cell_of_row _ _ 0 _ _ _ HT.out).trans rfl
  go_enter Try.func66, Try.ntmps66
  go_wp2_with fail
  refine HA.out.mono ?_
  rintro e y1 ⟨rfl, rfl⟩
  go_wp2_with fail
  refine HK.out.mono ?_
  rintro e y2 ⟨rfl, hb⟩
  have HB2 := Lib.hid hb
  have HN := Lib.hid (ad_new y2 ls la)
  clear hb c0
  go_wp2_with fail
  refine (HD.out _ HB2.out _ HN.out).mono ?_
  rintro e y3 ⟨rfl, hy⟩
  have c1 := one_cell hy.po
  have c2 := one_cell hy.so
  have HB3 := Lib.hid (bt HB2.out hy.be)
  clear hy
  go_wp2_with fail
  refine (HH.out _ HB3.out).mono ?_
  rintro e y4 ⟨rfl, hs⟩
  have HS := Lib.hid hs
  clear hs c1 c2
  go_wp2_with fail
  refine (HP.out _ HS.out).mono ?_
  rintro e y5 ⟨rfl, hs⟩
  replace HS := Lib.hid hs
  clear hs
  go_wp2_with fail
  refine (HM.out _ HS.out).mono ?_
  rintro e y6 ⟨rfl, hs⟩
  replace HS := Lib.hid hs
  clear hs
  go_wp2_with fail
  go_end0
  exact ⟨rfl, HS.out⟩
end Go.Proofs.Ytakkmnhiaddnnaa

/- A new node is hung in. -/
namespace Go.Proofs.Ytakkmnhiaddnnaa
open Go.RowKit Go.Sort Go.Proofs.Ytakkmnhiaddnnaa.Bo
set_option linter.unusedVariables false
set_option maxRecDepth 100000

set_option maxHeartbeats 1000000 in
/-- The way down a tree, whatever is told at each step. -/
theorem rdown_tree {w : World} {base T A : Nat} {t : Rt} {S1 : Nat → Prop} {x : Tr} (h : RtIs w base T A t S1) (hok : t.ar.ok) (hx : RepL t x) (wy : G5 → Bool) (fid : Nat) (eg : ∀ args w, (callFunc fid args).run Try.prog w = .ok (.enter fid args) w) (c1 c2 c3 : Value) (Q : List Fr → World → Prop)
    (hB : ∀ cx, Bc (Q cx)) (hW : ∀ cx W, Q cx W → Go.RowKit.Below w.heap.size w W)
    (HC : ∀ (cx : List Fr) (c : Bool) (n : Nat) (g : G5) (o : Tr) (gb : Nat) (W : World), g ∈ x.ino → Q cx W → (∀ W, Q cx W → W.cell? ⟨gb, n * 10, none⟩ = some (.int .i64 g.ls) ∧ W.cell? ⟨gb, n * 10 + 1, none⟩ = some (.int .i64 g.la)) → (∀ W, Go.RowKit.Below w.heap.size w W → W.cell? ⟨gb, n * 10, none⟩ = some (.int .i64 g.ls) ∧ W.cell? ⟨gb, n * 10 + 1, none⟩ = some (.int .i64 g.la)) →
      Calls Try.prog fid #[.int .i64 (n : Int), .pointer (some ⟨gb, n * 10, none⟩), c1, c2, c3] W fun e w' => e = .returned (.int .i64 (sv (wy g))) ∧ Q (⟨wy g, c, n, g, o⟩ :: cx) w') (W0 : World) (h0 : Q [] W0) :
    Rd 71 #[aP T, .func (.func fid) #[] #[c1, c2, c3]] (.tuple #[]) (Q (dn wy x [])) W0 := by
  have hT := h
  obtain ⟨S0, _, hbox, _⟩ := hT
  refine rdown_core T A fid eg c1 c2 c3 (fun k i nv W => ∃ cx y, k = y.ids.length ∧ plug cx y = x ∧ dn wy y cx = dn wy x [] ∧ i = y.idx ∧ Q cx W ∧ NV w y (cpi cx) nv) (Q (dn wy x [])) t.root x.ids.length W0 ?_ ?_ ?_
  · exact box_on hbox (hW _ _ h0)
  · have := at_tree h hok x (-1) hx.rep W0 (hW _ _ h0)
    rw [← hx.root] at this
    refine this.mono ?_
    rintro e w' ⟨nv, he, hnv, rfl⟩
    exact ⟨nv, he, [], x, rfl, rfl, rfl, hx.root, h0, hnv⟩
  · rintro k i nv W ⟨cx, y, rfl, hp, hd, rfl, hQ, hnv⟩
    cases y with
    | nil => exact .inl ⟨hnv, by rw [← hd]; exact hQ⟩
    | node c l n g r =>
      obtain ⟨gb, rfl, hcells⟩ := hnv
      have hgx : g ∈ x.ino := by rw [← hp, ino_plug]; simp [Tr.ino]
      have hrep : RepT t.look (plug cx (.node c l n g r)) (-1) := by rw [hp]; exact hx.rep
      have hsub := ((rep_plug cx _).1 hrep).2
      have hk : ∀ W, Go.RowKit.Below w.heap.size w W → W.cell? ⟨gb, n * 10, none⟩ = some (.int .i64 g.ls) ∧ W.cell? ⟨gb, n * 10 + 1, none⟩ = some (.int .i64 g.la) := fun W hb =>
        ⟨(hb.cell (World.block_lt_of_cell? w _ (hcells 0 _ rfl))).trans (hcells 0 _ rfl), (hb.cell (World.block_lt_of_cell? w _ (hcells 1 _ rfl))).trans (hcells 1 _ rfl)⟩
      have hgo : ∀ (z : Bool) (ch : Tr) (o : Tr), wy g = z → plug (⟨z, c, n, g, o⟩ :: cx) ch = x → dn wy ch (⟨z, c, n, g, o⟩ :: cx) = dn wy x [] → ch.ids.length < (Tr.node c l n g r).ids.length → RepT t.look ch n →
          w.cell? ⟨gb, n * 10 + 6 + (sv z).toNat, none⟩ = some (.int .i64 ch.idx) →
          DnRound T A fid c1 c2 c3 (fun k i nv W => ∃ cx y, k = y.ids.length ∧ plug cx y = x ∧ dn wy y cx = dn wy x [] ∧ i = y.idx ∧ Q cx W ∧ NV w y (cpi cx) nv) (Q (dn wy x [])) (Tr.node c l n g r).ids.length (n : Int) (.pointer (some ⟨gb, n * 10, none⟩)) W := by
        intro z ch o hz hpl hdn hlen hrch hcell
        subst hz
        refine .inr ⟨gb, n, sv (wy g), ch.idx, Q cx, Q (⟨wy g, c, n, g, o⟩ :: cx), hQ, hB cx, rfl, rfl, (sv_nat _).1, (sv_nat _).2.1, fun W hQ => HC cx c n g o gb W hgx hQ (fun W hQ => hk W (hW _ _ hQ)) hk, fun W' hW' => ?_, fun W' hW' => ?_, fun W' hW' => ?_, ch.ids.length, hlen, fun W' hW' => ?_⟩
        · exact ((hW _ _ hW').cell (World.block_lt_of_cell? w _ hcell)).trans hcell
        · exact ((hW _ _ hW').cell (World.block_lt_of_cell? w _ hcell)).trans hcell
        · have hb := box_on hbox (hW _ _ hW')
          exact (cell_of_row _ _ 0 _ _ _ hb).trans rfl
        · refine (at_tree h hok ch n hrch W' (hW _ _ hW')).mono ?_
          rintro e w' ⟨nv, he, hnv, rfl⟩
          exact ⟨nv, he, _, ch, rfl, hpl, hdn, rfl, hW', hnv⟩
      cases hz : wy g with
      | false => exact hgo false l r hz (by rw [← hp]; rfl) (by rw [← hd]; exact (dn_step _ false c l n g r cx hz).symm) (by simp [Tr.ids]) hsub.2.1 (hcells 6 _ rfl)
      | true => exact hgo true r l hz (by rw [← hp]; rfl) (by rw [← hd]; exact (dn_step _ true c r n g l cx hz).symm) (by simp [Tr.ids]; omega) hsub.2.2 (hcells 7 _ rfl)
theorem radd_down {w y : World} {base T A : Nat} {t : Rt} {S1 : Nat → Prop} {x : Tr} (h : RtIs w base T A t S1) (hok : t.ar.ok) (hx : RepL t x) (hG : ∀ g ∈ x.ino, g.ok) (ls la : Int) (hla : I64 la) (hy : Go.RowKit.Below w.heap.size w y) (W0 : World) (h0 : AdAt y ls la (-1) 0 W0) :
    Rd 71 #[aP T, .func (.func 84) #[] #[.pointer (some ⟨y.heap.size + 1, 0, none⟩), .pointer (some ⟨y.heap.size + 1 + 1, 0, none⟩), .pointer (some ⟨y.heap.size, 0, none⟩)]] (.tuple #[]) (AdAt y ls la (cpi (dn (wyLt (key ls la)) x [])) (sv (csd (dn (wyLt (key ls la)) x [])))) W0 := by
  refine rdown_tree h hok hx (wyLt (key ls la)) 84 (fun _ _ => rfl) _ _ _ (fun cx W => AdAt y ls la (cpi cx) (sv (csd cx)) W) (fun cx => AdAt.bc) (fun cx W hW => bt hy hW.be) ?_ W0 h0
  intro cx c n g o gb W hg hQ hk hk2
  have hgo := hG g hg
  refine raddc_core gb n (y.heap.size + 1) (y.heap.size + 1 + 1) y.heap.size g.ls g.la ls la _ _ (wyLt (key ls la) g) (AdAt y ls la (cpi cx) (sv (csd cx))) (AdAt y ls la (n : Int) 0) _ W hgo.1 hla (by omega) hQ AdAt.bc
    (fun W hW => one_cell hW.po) (fun W hW => frozen_of_row _ _ _ _ _ hW.po) (fun W hW => one_cell hW.so) (fun W hW => frozen_of_row _ _ _ _ _ hW.so) (fun W hW => hW.put _) (fun W hW => one_cell hW.so) (fun W hW => frozen_of_row _ _ _ _ _ hW.so)
    (fun W hW => (two_cells hW.ko).1) (fun W hW => (two_cells hW.ko).2.1) (fun W hW => ?_) ?_ (fun e W hW => ?_) (fun e W hW => ?_)
  · obtain ⟨k1, k2⟩ := hk2 W (bt hy hW.be)
    exact rnkey_core gb n g.ls g.la W k1 k2
  · exact kcmp_lt0 _ _
  · rw [e]; exact hW.putS 1
  · rw [e]; exact hW
theorem radd_any {w0 w : World} {S : Nat → Prop} {base T A : Nat} {t : Rt} {x : Tr} {g : G5} {i : Nat} {b : Ag Nd} {R : Int} (h : RtAt w0 S base T A ⟨b, t.root⟩ w) (hr : Rep t x) (hb : Rbt x) (hG : ∀ g ∈ x.ino, g.ok) (hg : g.ok) (hp : Puts t.ar ⟨g, 0, -1, -1, false⟩ i b) (hR : b.room = R) :
    Rd 66 #[aP T, .int .i64 (i : Int)] (.tuple #[]) (TrAt w0 S base T A R (cpre (dn (wyLt g.key) x []) ++ g :: cpost (dn (wyLt g.key) x []))) w := by
  have hI := h
  obtain ⟨S1, hI, hk, hs⟩ := hI
  obtain ⟨hl, hni⟩ := hr.puts hp
  have his : b.is (i : Int) = true := (hp.is _).2 (.inl rfl)
  obtain ⟨gb, k1, k2, k3, _, _⟩ := hI.cellset hp.ok i his
  have hv : b.l.getD i ndZ = ⟨g, 0, -1, -1, false⟩ := by
    have h1 : b.look (i : Int) = some ⟨g, 0, -1, -1, false⟩ := by rw [hp.look]; exact upd_self _ _
    have := (b.look_some _ _ h1).2
    rw [Int.toNat_natCast] at this; exact this
  rw [show (Rt.mk b t.root).ar.l.getD i ndZ = b.l.getD i ndZ from rfl, hv] at k3
  have hpl : plug (dn (wyLt g.key) x []) .nil = x := dn_plug _ x []
  have hadd := Rep.add (cx := dn (wyLt g.key) x []) (by rw [hpl]; exact hr) hp
  have hred := add_red hadd (by rw [hpl]; exact hb)
  have hok1 := Rt.hang_ok ⟨b, t.root⟩ (i : Int) (cpi (dn (wyLt g.key) x [])) (csd (dn (wyLt g.key) x [])) hp.ok
  refine radd_core T A i gb g.ls g.la (cpi (dn (wyLt g.key) x [])) (sv (csd (dn (wyLt g.key) x []))) t.root (RtAt w0 S base T A ((⟨b, t.root⟩ : Rt).hang i (cpi (dn (wyLt g.key) x [])) (csd (dn (wyLt g.key) x [])))) (RtAt w0 S base T A (((⟨b, t.root⟩ : Rt).hang i (cpi (dn (wyLt g.key) x [])) (csd (dn (wyLt g.key) x []))).paint i true)) _ w k1 (k2 _ (Go.RowKit.Below.refl _ _))
    (rnkey_core gb i g.ls g.la w (k3 0 _ rfl) (k3 1 _ rfl)) (Lib.hid fun y hy W0 h0 => radd_down hI hp.ok hl hG g.ls g.la hg.1 hy W0 h0)
    (Lib.hid fun W hW => rhang_any (rtAt_bc _ _ h hW) hp.ok _ _ _) (Lib.hid fun W hW => rpaint_any hW hok1 _ true (by rw [Rt.hang_is]; exact his)) (Lib.hid fun W hW => rmendRed_any hW ?_ hred)
  rw [paint_room, Rt.hang_room]; exact hR
end Go.Proofs.Ytakkmnhiaddnnaa

/- Put: the walks. -/
namespace Go.Proofs.Ytakkmnhiaddnnaa
open Go.RowKit Go.Sort Go.Proofs.Ytakkmnhiaddnnaa.Bo
set_option linter.unusedVariables false
set_option maxRecDepth 100000

/-- The blocks of Put. -/
structure PuAt (w : World) (s : G5) (W : World) : Prop where
  sb : W.heap[w.heap.size]? = some (oG s)
  kb : W.heap[w.heap.size + 1]? = some (.cells #[.int .i64 s.ls, .int .i64 s.la] 31)
  be : Go.RowKit.Below w.heap.size w W
theorem PuAt.bc {w : World} {s : G5} : Bc (PuAt w s) := fun W W' h hb => ⟨box_on h.sb hb, box_on h.kb hb, bt h.be hb⟩
theorem pu_new (w : World) (s : G5) : PuAt w s ((w.alloc (oG s)).alloc (.cells #[.int .i64 s.ls, .int .i64 s.la] 31)) :=
  ⟨box_on (heap_alloc_new w _) (below_new _ _), new_at' _ (by simp), bt (below_new _ _) (below_new _ _)⟩
set_option maxHeartbeats 4000000 in
theorem rput_bad1 (T A : Nat) (s : G5) (w : World) (hs : s.ok) (hRB : (s.ls == sd (key s.ls s.la) && s.la == pa (key s.ls s.la)) = false) :
    Calls Try.prog 36 #[aP T, vG s] w fun e w' => e = .returned (.int .i64 1) ∧ Go.RowKit.Below w.heap.size w w' := by
  have mx := mixed
  have HRI := Lib.hid (fun W => right_any s.ls s.la W hs.1)
  have HLA := Lib.hid last_any
  rw [hRB] at HRI
  have hN := pu_new w s
  have HN := Lib.hid hN
  obtain ⟨g0', g1', g2', g3', g4'⟩ := five_cells (show ((w.alloc (oG s)).alloc (.cells #[.int .i64 s.ls, .int .i64 s.la] 31)).heap[w.heap.size]? = some (oG s) from hN.sb)
  simp only [Nat.zero_add] at g1' g2' g3' g4'
  obtain ⟨d1, d2, _, _⟩ := two_cells hN.kb
  clear hN
  go_enter Try.func36, Try.ntmps36
  go_upto_region 2 with fail
  generalize ((w.alloc (oG s)).alloc (.cells #[.int .i64 s.ls, .int .i64 s.la] 31)) = X at *
  have p1 := cell_regrown d1
  have p2 := cell_regrown d2
  clear d1 d2 g0' g1' g2' g3' g4'
  refine wp_region_quiet_below (by assumption) (by kernel_rfl) ?_
  repeat (go_big_quiet_step (first
    | (go_at_call 63; exact Calls.regrown_of ((HRI.out _).mono fun _ _ h => ⟨h.1, h.2.1⟩))
    | (go_at_call 55; exact Calls.regrown_of ((HLA.out _).mono fun _ _ h => ⟨h.1, h.2.1⟩))))
  refine wpQuiet_nil ?_
  intro _ hw'
  obtain ⟨⟨nq, osq⟩, hw''⟩ := hw'
  subst hw''
  have HY := Lib.hid (PuAt.bc _ _ HN.out (below_regrown X nq osq))
  clear p1 p2
  generalize grow (redrawn X nq) osq = Y at *
  go_wp2_with fail
  go_ret
  exact ⟨rfl, HY.out.be⟩
set_option maxHeartbeats 4000000 in
theorem rput_bad2 (T A : Nat) (s : G5) (w : World) (hs : s.ok) (hRB : (s.ls == sd (key s.ls s.la) && s.la == pa (key s.ls s.la)) = true) (hD : (s.ls == 1 && s.la == 0) = true) :
    Calls Try.prog 36 #[aP T, vG s] w fun e w' => e = .returned (.int .i64 1) ∧ Go.RowKit.Below w.heap.size w w' := by
  have mx := mixed
  have HRI := Lib.hid (fun W => right_any s.ls s.la W hs.1)
  have HLA := Lib.hid last_any
  rw [hRB] at HRI
  have hN := pu_new w s
  have HN := Lib.hid hN
  obtain ⟨g0', g1', g2', g3', g4'⟩ := five_cells (show ((w.alloc (oG s)).alloc (.cells #[.int .i64 s.ls, .int .i64 s.la] 31)).heap[w.heap.size]? = some (oG s) from hN.sb)
  simp only [Nat.zero_add] at g1' g2' g3' g4'
  obtain ⟨d1, d2, _, _⟩ := two_cells hN.kb
  clear hN
  have eqc := eql_cut s.ls s.la 1 0
  rw [hD] at eqc
  go_enter Try.func36, Try.ntmps36
  go_upto_region 2 with fail
  generalize ((w.alloc (oG s)).alloc (.cells #[.int .i64 s.ls, .int .i64 s.la] 31)) = X at *
  have p1 := cell_regrown d1
  have p2 := cell_regrown d2
  clear d1 d2 g0' g1' g2' g3' g4'
  refine wp_region_quiet_below (by assumption) (by kernel_rfl) ?_
  repeat (go_big_quiet_step (first
    | (go_at_call 63; exact Calls.regrown_of ((HRI.out _).mono fun _ _ h => ⟨h.1, h.2.1⟩))
    | (go_at_call 55; exact Calls.regrown_of ((HLA.out _).mono fun _ _ h => ⟨h.1, h.2.1⟩))))
  refine wpQuiet_nil ?_
  intro _ hw'
  obtain ⟨⟨nq, osq⟩, hw''⟩ := hw'
  subst hw''
  have HY := Lib.hid (PuAt.bc _ _ HN.out (below_regrown X nq osq))
  clear p1 p2 eqc
  generalize grow (redrawn X nq) osq = Y at *
  go_wp2_with fail
  go_ret
  exact ⟨rfl, HY.out.be⟩
/-- A segment is written over a node's. -/
abbrev segQ (W : World) (b o : Nat) (g : G5) : World := ((((W.setCell ⟨b, o, none⟩ (.int .i64 g.ls)).setCell ⟨b, o + 1, none⟩ (.int .i64 g.la)).setCell ⟨b, o + 2, none⟩ (.int .i64 g.hs)).setCell ⟨b, o + 3, none⟩ (.int .i64 g.ha)).setCell ⟨b, o + 4, none⟩ (.int .i64 g.v)
set_option maxHeartbeats 4000000 in
theorem rput_set (T A : Nat) (root pl : Int) (gb n : Nat) (PF : World → Prop) (s : G5) (w : World) (hs : s.ok) (hRB : (s.ls == sd (key s.ls s.la) && s.la == pa (key s.ls s.la)) = true) (hD : (s.ls == 1 && s.la == 0) = false)
    (HT : Hid (w.heap[T]? = some (tO A root)))
    (HPl : Hid (∀ W, Go.RowKit.Below w.heap.size w W → Calls Try.prog 52 #[aP T, .agg #[.int .i64 s.ls, .int .i64 s.la]] W fun e w' => e = .returned (.int .i64 pl) ∧ Go.RowKit.Below W.heap.size W w'))
    (HAt : Hid (∀ W, Go.RowKit.Below w.heap.size w W → Calls Try.prog 64 #[aP A, .int .i64 pl] W fun e w' => e = .returned (.pointer (some ⟨gb, n * 10, none⟩)) ∧ Go.RowKit.Below W.heap.size W w'))
    (HCe : Hid (∀ W, Go.RowKit.Below w.heap.size w W → (∃ o0 o1 o2 o3 o4, W.cell? ⟨gb, n * 10, none⟩ = some o0 ∧ W.cell? ⟨gb, n * 10 + 1, none⟩ = some o1 ∧ W.cell? ⟨gb, n * 10 + 2, none⟩ = some o2 ∧ W.cell? ⟨gb, n * 10 + 3, none⟩ = some o3 ∧ W.cell? ⟨gb, n * 10 + 4, none⟩ = some o4) ∧ ∀ j, W.frozen? ⟨gb, j, none⟩ = false))
    (HF : Hid (∀ W, Go.RowKit.Below w.heap.size w W → PF (segQ W gb (n * 10) s))) :
    Calls Try.prog 36 #[aP T, vG s] w fun e w' => e = .returned (.int .i64 0) ∧ PF w' := by
  have mx := mixed
  have HRI := Lib.hid (fun W => right_any s.ls s.la W hs.1)
  have HLA := Lib.hid last_any
  rw [hRB] at HRI
  have hN := pu_new w s
  have HN := Lib.hid hN
  obtain ⟨g0', g1', g2', g3', g4'⟩ := five_cells (show ((w.alloc (oG s)).alloc (.cells #[.int .i64 s.ls, .int .i64 s.la] 31)).heap[w.heap.size]? = some (oG s) from hN.sb)
  simp only [Nat.zero_add] at g1' g2' g3' g4'
  obtain ⟨d1, d2, _, _⟩ := two_cells hN.kb
  clear hN
  have eqc := eql_cut s.ls s.la 1 0
  rw [hD] at eqc
  go_enter Try.func36, Try.ntmps36
  go_upto_region 2 with fail
  generalize ((w.alloc (oG s)).alloc (.cells #[.int .i64 s.ls, .int .i64 s.la] 31)) = X at *
  have p1 := cell_regrown d1
  have p2 := cell_regrown d2
  clear d1 d2 g0' g1' g2' g3' g4'
  refine wp_region_quiet_below (by assumption) (by kernel_rfl) ?_
  repeat (go_big_quiet_step (first
    | (go_at_call 63; exact Calls.regrown_of ((HRI.out _).mono fun _ _ h => ⟨h.1, h.2.1⟩))
    | (go_at_call 55; exact Calls.regrown_of ((HLA.out _).mono fun _ _ h => ⟨h.1, h.2.1⟩))))
  refine wpQuiet_nil ?_
  intro _ hw'
  obtain ⟨⟨nq, osq⟩, hw''⟩ := hw'
  subst hw''
  have HY := Lib.hid (PuAt.bc _ _ HN.out (below_regrown X nq osq))
  clear p1 p2 eqc
  generalize grow (redrawn X nq) osq = Y at *
  have hT1 := box_on HT.out HY.out.be
  have p0 := cell_regrown ((cell_of_row _ _ 0 _ _ _ hT1).trans rfl : Y.cell? ⟨T, 0, none⟩ = some (aP A))
  obtain ⟨k1, k2, _, _⟩ := two_cells HY.out.kb
  have p1 := cell_regrown k1
  have p2 := cell_regrown k2
  clear hT1 k1 k2
  go_upto_region 4 with fail
  refine wp_region_quiet_below (by assumption) (by kernel_rfl) ?_
  repeat (go_big_quiet_step (first
    | (go_at_call 52; exact Calls.regrown_of (HPl.out _ (bt HY.out.be (below_regrown _ _ _))))
    | (go_at_call 64; exact Calls.regrown_of (HAt.out _ (bt HY.out.be (below_regrown _ _ _))))))
  refine wpQuiet_nil ?_
  intro _ hw'
  obtain ⟨⟨nq2, osq2⟩, hw''⟩ := hw'
  subst hw''
  have HZ := Lib.hid (PuAt.bc _ _ HY.out (below_regrown Y nq2 osq2))
  clear p0 p1 p2
  generalize grow (redrawn Y nq2) osq2 = Z at *
  have hZ := HZ.out.sb
  obtain ⟨q0, q1, q2, q3, q4⟩ := five_cells hZ
  simp only [Nat.zero_add] at q1 q2 q3 q4
  obtain ⟨⟨o0, o1, o2, o3, o4, u0, u1, u2, u3, u4⟩, hfz⟩ := HCe.out _ HZ.out.be
  have z0 := hfz (n * 10)
  have z1 := hfz (n * 10 + 1)
  have z2 := hfz (n * 10 + 2)
  have z3 := hfz (n * 10 + 3)
  have z4 := hfz (n * 10 + 4)
  have HFZ := Lib.hid (HF.out _ HZ.out.be)
  clear hfz hZ
  go_wp2_with fail
  go_ret
  exact ⟨rfl, HFZ.out⟩
set_option maxHeartbeats 4000000 in
theorem rput_full (T A : Nat) (root pl i : Int) (P1 : World → Prop) (s : G5) (w : World) (hs : s.ok) (hRB : (s.ls == sd (key s.ls s.la) && s.la == pa (key s.ls s.la)) = true) (hD : (s.ls == 1 && s.la == 0) = false)
    (HT : Hid (w.heap[T]? = some (tO A root)))
    (HPl : Hid (∀ W, Go.RowKit.Below w.heap.size w W → Calls Try.prog 52 #[aP T, .agg #[.int .i64 s.ls, .int .i64 s.la]] W fun e w' => e = .returned (.int .i64 pl) ∧ Go.RowKit.Below W.heap.size W w'))
    (HAt : Hid (∀ W, Go.RowKit.Below w.heap.size w W → Calls Try.prog 64 #[aP A, .int .i64 pl] W fun e w' => e = .returned (.pointer none) ∧ Go.RowKit.Below W.heap.size W w'))
    (HPu : Hid (∀ W, PuAt w s W → Calls Try.prog 65 #[aP A, .agg #[.int .i64 s.ls, .int .i64 s.la, .int .i64 s.hs, .int .i64 s.ha, .int .i64 s.v, .int .i64 0, .int .i64 (-1), .int .i64 (-1), .bool false]] W fun e w' => e = .returned (.tuple #[.int .i64 i, .int .i64 50]) ∧ P1 w'))
    (HPc : Hid (∀ W, P1 W → W.cell? ⟨w.heap.size, 0, none⟩ = some (.int .i64 s.ls) ∧ W.cell? ⟨w.heap.size, 1, none⟩ = some (.int .i64 s.la) ∧ W.cell? ⟨w.heap.size, 2, none⟩ = some (.int .i64 s.hs) ∧ W.cell? ⟨w.heap.size, 3, none⟩ = some (.int .i64 s.ha) ∧ W.cell? ⟨w.heap.size, 4, none⟩ = some (.int .i64 s.v) ∧ W.cell? ⟨T, 0, none⟩ = some (aP A))) :
    Calls Try.prog 36 #[aP T, vG s] w fun e w' => e = .returned (.int .i64 50) ∧ P1 w' := by
  have mx := mixed
  have HRI := Lib.hid (fun W => right_any s.ls s.la W hs.1)
  have HLA := Lib.hid last_any
  rw [hRB] at HRI
  have hN := pu_new w s
  have HN := Lib.hid hN
  obtain ⟨g0', g1', g2', g3', g4'⟩ := five_cells (show ((w.alloc (oG s)).alloc (.cells #[.int .i64 s.ls, .int .i64 s.la] 31)).heap[w.heap.size]? = some (oG s) from hN.sb)
  simp only [Nat.zero_add] at g1' g2' g3' g4'
  obtain ⟨d1, d2, _, _⟩ := two_cells hN.kb
  clear hN
  have eqc := eql_cut s.ls s.la 1 0
  rw [hD] at eqc
  go_enter Try.func36, Try.ntmps36
  go_upto_region 2 with fail
  generalize ((w.alloc (oG s)).alloc (.cells #[.int .i64 s.ls, .int .i64 s.la] 31)) = X at *
  have p1 := cell_regrown d1
  have p2 := cell_regrown d2
  clear d1 d2 g0' g1' g2' g3' g4'
  refine wp_region_quiet_below (by assumption) (by kernel_rfl) ?_
  repeat (go_big_quiet_step (first
    | (go_at_call 63; exact Calls.regrown_of ((HRI.out _).mono fun _ _ h => ⟨h.1, h.2.1⟩))
    | (go_at_call 55; exact Calls.regrown_of ((HLA.out _).mono fun _ _ h => ⟨h.1, h.2.1⟩))))
  refine wpQuiet_nil ?_
  intro _ hw'
  obtain ⟨⟨nq, osq⟩, hw''⟩ := hw'
  subst hw''
  have HY := Lib.hid (PuAt.bc _ _ HN.out (below_regrown X nq osq))
  clear p1 p2 eqc
  generalize grow (redrawn X nq) osq = Y at *
  have hT1 := box_on HT.out HY.out.be
  have p0 := cell_regrown ((cell_of_row _ _ 0 _ _ _ hT1).trans rfl : Y.cell? ⟨T, 0, none⟩ = some (aP A))
  obtain ⟨k1, k2, _, _⟩ := two_cells HY.out.kb
  have p1 := cell_regrown k1
  have p2 := cell_regrown k2
  clear hT1 k1 k2
  go_upto_region 4 with fail
  refine wp_region_quiet_below (by assumption) (by kernel_rfl) ?_
  repeat (go_big_quiet_step (first
    | (go_at_call 52; exact Calls.regrown_of (HPl.out _ (bt HY.out.be (below_regrown _ _ _))))
    | (go_at_call 64; exact Calls.regrown_of (HAt.out _ (bt HY.out.be (below_regrown _ _ _))))))
  refine wpQuiet_nil ?_
  intro _ hw'
  obtain ⟨⟨nq2, osq2⟩, hw''⟩ := hw'
  subst hw''
  have HZ := Lib.hid (PuAt.bc _ _ HY.out (below_regrown Y nq2 osq2))
  clear p0 p1 p2
  generalize grow (redrawn Y nq2) osq2 = Z at *
  have hZ := HZ.out.sb
  obtain ⟨q0, q1, q2, q3, q4⟩ := five_cells hZ
  simp only [Nat.zero_add] at q1 q2 q3 q4
  have hT2 := box_on HT.out HZ.out.be
  have c0 : Z.cell? ⟨T, 0, none⟩ = some (aP A) := (cell_of_row _ _ 0 _ _ _ hT2).trans rfl
  clear hZ hT2
  go_upto_region 8 with fail
  have HU := Lib.hid (PuAt.bc _ _ HZ.out (Go.RowKit.Below.refl _ _).drew)
  have b1 : ∀ W : World, (Instr.build 72 #[(0, .int .i64 (-1)), (1, .int .i64 (-1))]).run Try.prog W = .ok (.agg #[.int .i64 (-1), .int .i64 (-1)]) W := fun W => run_build W _ _ _ (by kernel_rfl)
  have b2 : ∀ W : World, (Instr.build 74 #[(0, vG s), (2, .agg #[.int .i64 (-1), .int .i64 (-1)])]).run Try.prog W = .ok (.agg #[.int .i64 s.ls, .int .i64 s.la, .int .i64 s.hs, .int .i64 s.ha, .int .i64 s.v, .int .i64 0, .int .i64 (-1), .int .i64 (-1), .bool false]) W := fun W => run_build W _ _ _ (by kernel_rfl)
  have HS1 : Hid (Z.drew.cell? ⟨w.heap.size, 0, none⟩ = some (.int .i64 s.ls) ∧ Z.drew.cell? ⟨w.heap.size, 1, none⟩ = some (.int .i64 s.la) ∧ Z.drew.cell? ⟨w.heap.size, 2, none⟩ = some (.int .i64 s.hs) ∧ Z.drew.cell? ⟨w.heap.size, 3, none⟩ = some (.int .i64 s.ha) ∧ Z.drew.cell? ⟨w.heap.size, 4, none⟩ = some (.int .i64 s.v) ∧ Z.drew.cell? ⟨T, 0, none⟩ = some (aP A)) := ⟨q0, q1, q2, q3, q4, c0⟩
  clear q0 q1 q2 q3 q4 c0
  go_region_held3 (fun w' => w'.cell? ⟨w.heap.size, 0, none⟩ = some (.int .i64 s.ls) ∧ w'.cell? ⟨w.heap.size, 1, none⟩ = some (.int .i64 s.la) ∧ w'.cell? ⟨w.heap.size, 2, none⟩ = some (.int .i64 s.hs) ∧ w'.cell? ⟨w.heap.size, 3, none⟩ = some (.int .i64 s.ha) ∧ w'.cell? ⟨w.heap.size, 4, none⟩ = some (.int .i64 s.v) ∧ w'.cell? ⟨T, 0, none⟩ = some (aP A))
    (with_reducible first | exact HS2.out | exact HS1.out)
    (first
      | (go_at_call 65; refine (HPu.out _ HU.out).mono ?_; rintro e y1 ⟨rfl, hp⟩; have HP1 := Lib.hid hp; have HS2 := Lib.hid (HPc.out _ hp); clear hp))
  go_wp2_with fail
  go_ret
  exact ⟨rfl, HP1.out⟩
set_option maxHeartbeats 4000000 in
theorem rput_add (T A : Nat) (root pl i : Int) (P1 PF : World → Prop) (s : G5) (w : World) (hs : s.ok) (hRB : (s.ls == sd (key s.ls s.la) && s.la == pa (key s.ls s.la)) = true) (hD : (s.ls == 1 && s.la == 0) = false)
    (HT : Hid (w.heap[T]? = some (tO A root)))
    (HPl : Hid (∀ W, Go.RowKit.Below w.heap.size w W → Calls Try.prog 52 #[aP T, .agg #[.int .i64 s.ls, .int .i64 s.la]] W fun e w' => e = .returned (.int .i64 pl) ∧ Go.RowKit.Below W.heap.size W w'))
    (HAt : Hid (∀ W, Go.RowKit.Below w.heap.size w W → Calls Try.prog 64 #[aP A, .int .i64 pl] W fun e w' => e = .returned (.pointer none) ∧ Go.RowKit.Below W.heap.size W w'))
    (HPu : Hid (∀ W, PuAt w s W → Calls Try.prog 65 #[aP A, .agg #[.int .i64 s.ls, .int .i64 s.la, .int .i64 s.hs, .int .i64 s.ha, .int .i64 s.v, .int .i64 0, .int .i64 (-1), .int .i64 (-1), .bool false]] W fun e w' => e = .returned (.tuple #[.int .i64 i, .int .i64 0]) ∧ P1 w'))
    (HPc : Hid (∀ W, P1 W → W.cell? ⟨w.heap.size, 0, none⟩ = some (.int .i64 s.ls) ∧ W.cell? ⟨w.heap.size, 1, none⟩ = some (.int .i64 s.la) ∧ W.cell? ⟨w.heap.size, 2, none⟩ = some (.int .i64 s.hs) ∧ W.cell? ⟨w.heap.size, 3, none⟩ = some (.int .i64 s.ha) ∧ W.cell? ⟨w.heap.size, 4, none⟩ = some (.int .i64 s.v) ∧ W.cell? ⟨T, 0, none⟩ = some (aP A)))
    (HAd : Hid (∀ W, P1 W → Rd 66 #[aP T, .int .i64 i] (.tuple #[]) PF W)) :
    Calls Try.prog 36 #[aP T, vG s] w fun e w' => e = .returned (.int .i64 0) ∧ PF w' := by
  have mx := mixed
  have HRI := Lib.hid (fun W => right_any s.ls s.la W hs.1)
  have HLA := Lib.hid last_any
  rw [hRB] at HRI
  have hN := pu_new w s
  have HN := Lib.hid hN
  obtain ⟨g0', g1', g2', g3', g4'⟩ := five_cells (show ((w.alloc (oG s)).alloc (.cells #[.int .i64 s.ls, .int .i64 s.la] 31)).heap[w.heap.size]? = some (oG s) from hN.sb)
  simp only [Nat.zero_add] at g1' g2' g3' g4'
  obtain ⟨d1, d2, _, _⟩ := two_cells hN.kb
  clear hN
  have eqc := eql_cut s.ls s.la 1 0
  rw [hD] at eqc
  go_enter Try.func36, Try.ntmps36
  go_upto_region 2 with fail
  generalize ((w.alloc (oG s)).alloc (.cells #[.int .i64 s.ls, .int .i64 s.la] 31)) = X at *
  have p1 := cell_regrown d1
  have p2 := cell_regrown d2
  clear d1 d2 g0' g1' g2' g3' g4'
  refine wp_region_quiet_below (by assumption) (by kernel_rfl) ?_
  repeat (go_big_quiet_step (first
    | (go_at_call 63; exact Calls.regrown_of ((HRI.out _).mono fun _ _ h => ⟨h.1, h.2.1⟩))
    | (go_at_call 55; exact Calls.regrown_of ((HLA.out _).mono fun _ _ h => ⟨h.1, h.2.1⟩))))
  refine wpQuiet_nil ?_
  intro _ hw'
  obtain ⟨⟨nq, osq⟩, hw''⟩ := hw'
  subst hw''
  have HY := Lib.hid (PuAt.bc _ _ HN.out (below_regrown X nq osq))
  clear p1 p2 eqc
  generalize grow (redrawn X nq) osq = Y at *
  have hT1 := box_on HT.out HY.out.be
  have p0 := cell_regrown ((cell_of_row _ _ 0 _ _ _ hT1).trans rfl : Y.cell? ⟨T, 0, none⟩ = some (aP A))
  obtain ⟨k1, k2, _, _⟩ := two_cells HY.out.kb
  have p1 := cell_regrown k1
  have p2 := cell_regrown k2
  clear hT1 k1 k2
  go_upto_region 4 with fail
  refine wp_region_quiet_below (by assumption) (by kernel_rfl) ?_
  repeat (go_big_quiet_step (first
    | (go_at_call 52; exact Calls.regrown_of (HPl.out _ (bt HY.out.be (below_regrown _ _ _))))
    | (go_at_call 64; exact Calls.regrown_of (HAt.out _ (bt HY.out.be (below_regrown _ _ _))))))
  refine wpQuiet_nil ?_
  intro _ hw'
  obtain ⟨⟨nq2, osq2⟩, hw''⟩ := hw'
  subst hw''
  have HZ := Lib.hid (PuAt.bc _ _ HY.out (below_regrown Y nq2 osq2))
  clear p0 p1 p2
  generalize grow (redrawn Y nq2) osq2 = Z at *
  have hZ := HZ.out.sb
  obtain ⟨q0, q1, q2, q3, q4⟩ := five_cells hZ
  simp only [Nat.zero_add] at q1 q2 q3 q4
  have hT2 := box_on HT.out HZ.out.be
  have c0 : Z.cell? ⟨T, 0, none⟩ = some (aP A) := (cell_of_row _ _ 0 _ _ _ hT2).trans rfl
  clear hZ hT2
  go_upto_region 8 with fail
  have HU := Lib.hid (PuAt.bc _ _ HZ.out (Go.RowKit.Below.refl _ _).drew)
  have b1 : ∀ W : World, (Instr.build 72 #[(0, .int .i64 (-1)), (1, .int .i64 (-1))]).run Try.prog W = .ok (.agg #[.int .i64 (-1), .int .i64 (-1)]) W := fun W => run_build W _ _ _ (by kernel_rfl)
  have b2 : ∀ W : World, (Instr.build 74 #[(0, vG s), (2, .agg #[.int .i64 (-1), .int .i64 (-1)])]).run Try.prog W = .ok (.agg #[.int .i64 s.ls, .int .i64 s.la, .int .i64 s.hs, .int .i64 s.ha, .int .i64 s.v, .int .i64 0, .int .i64 (-1), .int .i64 (-1), .bool false]) W := fun W => run_build W _ _ _ (by kernel_rfl)
  have HS1 : Hid (Z.drew.cell? ⟨w.heap.size, 0, none⟩ = some (.int .i64 s.ls) ∧ Z.drew.cell? ⟨w.heap.size, 1, none⟩ = some (.int .i64 s.la) ∧ Z.drew.cell? ⟨w.heap.size, 2, none⟩ = some (.int .i64 s.hs) ∧ Z.drew.cell? ⟨w.heap.size, 3, none⟩ = some (.int .i64 s.ha) ∧ Z.drew.cell? ⟨w.heap.size, 4, none⟩ = some (.int .i64 s.v) ∧ Z.drew.cell? ⟨T, 0, none⟩ = some (aP A)) := ⟨q0, q1, q2, q3, q4, c0⟩
  clear q0 q1 q2 q3 q4 c0
  go_region_held3 (fun w' => w'.cell? ⟨w.heap.size, 0, none⟩ = some (.int .i64 s.ls) ∧ w'.cell? ⟨w.heap.size, 1, none⟩ = some (.int .i64 s.la) ∧ w'.cell? ⟨w.heap.size, 2, none⟩ = some (.int .i64 s.hs) ∧ w'.cell? ⟨w.heap.size, 3, none⟩ = some (.int .i64 s.ha) ∧ w'.cell? ⟨w.heap.size, 4, none⟩ = some (.int .i64 s.v) ∧ w'.cell? ⟨T, 0, none⟩ = some (aP A))
    (with_reducible first | exact HS2.out | exact HS1.out)
    (first
      | (go_at_call 65; refine (HPu.out _ HU.out).mono ?_; rintro e y1 ⟨rfl, hp⟩; have HP1 := Lib.hid hp; have HS2 := Lib.hid (HPc.out _ hp); clear hp))
  go_wp2_with fail
  refine (HAd.out _ HP1.out).mono ?_
  rintro e y2 ⟨rfl, hp⟩
  have HP2 := Lib.hid hp
  clear hp
  go_wp2_with fail
  go_ret
  exact ⟨rfl, HP2.out⟩
end Go.Proofs.Ytakkmnhiaddnnaa

/- Put, told by the row. -/
namespace Go.Proofs.Ytakkmnhiaddnnaa
open Go.RowKit Go.Sort Go.Proofs.Ytakkmnhiaddnnaa.Bo
set_option linter.unusedVariables false
set_option maxRecDepth 100000

theorem TrAt.bc {w0 : World} {S : Nat → Prop} {base T A : Nat} {R : Int} {L : List G5} : Bc (TrAt w0 S base T A R L) := by
  rintro W W' ⟨t, h1, h2, h3⟩ hb
  exact ⟨t, rtAt_bc _ _ h1 hb, h2, h3⟩
/-- A segment is written over a node's. -/
theorem rn_set5 {S : Nat → Prop} {w : World} {base A : Nat} {a : Ag Nd} (h : rnIs w base A a S) (hok : a.ok) (n : Nat) (hi : a.is (n : Int) = true) (s : G5) :
    ∃ g, S g ∧ (∀ W, Go.RowKit.Below w.heap.size w W → ∀ j u, (rnE.e (a.l.getD n ndZ))[j]? = some u → W.cell? ⟨g, n * 10 + j, none⟩ = some u) ∧ (∀ W, Go.RowKit.Below w.heap.size w W → Calls Try.prog 64 #[aP A, .int .i64 (n : Int)] W fun e w' => e = .returned (.pointer (some ⟨g, n * 10, none⟩)) ∧ W = w') ∧
      (∀ W, Go.RowKit.Below w.heap.size w W → (∃ o0 o1 o2 o3 o4, W.cell? ⟨g, n * 10, none⟩ = some o0 ∧ W.cell? ⟨g, n * 10 + 1, none⟩ = some o1 ∧ W.cell? ⟨g, n * 10 + 2, none⟩ = some o2 ∧ W.cell? ⟨g, n * 10 + 3, none⟩ = some o3 ∧ W.cell? ⟨g, n * 10 + 4, none⟩ = some o4) ∧ ∀ j, W.frozen? ⟨g, j, none⟩ = false) ∧
      (∀ W, Go.RowKit.Below w.heap.size w W → rnIs (segQ W g (n * 10) s) base A (a.set n ((a.l.getD n ndZ).setG s)) S ∧ Kp S W (segQ W g (n * 10) s)) := by
  obtain ⟨pv, fv, rfl, h1⟩ := h
  have hl := a.lens hok
  obtain ⟨_, _, h3, _⟩ := a.is_in n hok hi
  rw [Int.toNat_natCast] at h3
  have hn : n < (a.ps rnZ).length := by rw [a.ps_len]; exact h3
  have hy := ag_ps_yes rnZ a n hn hi
  obtain ⟨g, cap, e1, hgA, hat, hfz⟩ := h1.at n hn
  rw [hy] at hat
  have cells : ∀ W, Go.RowKit.Below w.heap.size w W → ∀ j u, (rnE.e (a.l.getD n rnZ) ++ [.bool true])[j]? = some u → W.cell? ⟨g, n * 10 + j, none⟩ = some u := fun W hb j u hu =>
    (hb.cell (World.block_lt_of_cell? w _ (hat j u hu))).trans (hat j u hu)
  have hgl : g < w.heap.size := World.block_lt_of_cell? w _ (hat 0 _ rfl)
  refine ⟨g, .inr (.inl (by rw [e1]; rfl)), fun W hb j u hu => cells W hb j u (by rw [List.getElem?_append_left (by have := (List.getElem?_eq_some_iff.1 hu).1; exact this)]; exact hu), fun W hb => rnat_yes (h1.below hb) (by rw [a.ps_len]; omega) n g cap hn (by rw [hy]) e1, fun W hb => ⟨⟨_, _, _, _, _, cells W hb 0 _ rfl, cells W hb 1 _ rfl, cells W hb 2 _ rfl, cells W hb 3 _ rfl, cells W hb 4 _ rfl⟩, fun j => (hb.frozen (p := ⟨g, j, none⟩) hgl).trans (hfz j)⟩, fun W hb => ?_⟩
  subst e1
  have hW := h1.below hb
  generalize hx : a.l.getD n rnZ = x at *
  have len : ∀ v, n < ((a.ps rnZ).set n (v, true)).length := fun v => by rw [List.length_set]; exact hn
  have get : ∀ v, ((a.ps rnZ).set n (v, true))[n]'(len v) = (v, true) := fun v => by simp
  have sets : ∀ v v', ((a.ps rnZ).set n (v, true)).set n (v', true) = (a.ps rnZ).set n (v', true) := fun v v' => List.set_set ..
  have leq : ∀ v, ((a.ps rnZ).set n (v, true)).length = (a.ps rnZ).length := fun v => List.length_set ..
  obtain ⟨z1, k1⟩ := hW.put2 n 0 (.int .i64 s.ls) (x.setG { x.g with ls := s.ls }) hn (by rw [hy]) (by omega) (by rw [hy]; rfl)
  rw [← leq (x.setG { x.g with ls := s.ls })] at z1
  obtain ⟨z2, k2⟩ := z1.put2 n 1 (.int .i64 s.la) (x.setG { x.g with ls := s.ls, la := s.la }) (len _) (by rw [get]) (by omega) (by rw [get]; rfl)
  rw [sets, leq, ← leq (x.setG { x.g with ls := s.ls, la := s.la })] at z2
  obtain ⟨z3, k3⟩ := z2.put2 n 2 (.int .i64 s.hs) (x.setG { x.g with ls := s.ls, la := s.la, hs := s.hs }) (len _) (by rw [get]) (by omega) (by rw [get]; rfl)
  rw [sets, leq, ← leq (x.setG { x.g with ls := s.ls, la := s.la, hs := s.hs })] at z3
  obtain ⟨z4, k4⟩ := z3.put2 n 3 (.int .i64 s.ha) (x.setG { x.g with ls := s.ls, la := s.la, hs := s.hs, ha := s.ha }) (len _) (by rw [get]) (by omega) (by rw [get]; rfl)
  rw [sets, leq, ← leq (x.setG { x.g with ls := s.ls, la := s.la, hs := s.hs, ha := s.ha })] at z4
  obtain ⟨z5, k5⟩ := z4.put2 n 4 (.int .i64 s.v) (x.setG s) (len _) (by rw [get]) (by omega) (by rw [get]; rfl)
  rw [sets, leq] at z5
  rw [leq] at k2 k3 k4 k5
  rw [a.ps_set rnZ n _ hok hi] at z5
  have hxz : a.l.getD n ndZ = x := hx
  rw [hxz]
  exact ⟨⟨_, fv, rfl, z5⟩, (((k1.trans k2 (fun _ _ h => h)).trans k3 (fun _ _ h => h)).trans k4 (fun _ _ h => h)).trans k5 (fun _ _ h => h)⟩
theorem TrR.of {w : World} {base T A : Nat} {t : Rt} {x : Tr} {S1 : Nat → Prop} (h : RtIs w base T A t S1) (hr : Rep t x) (hb : Rbt x) (hR : RowOk x.ino) (hG : ∀ g ∈ x.ino, g.ok) : TrR w base T A t x S1 := ⟨h, hr, hb, hR, hG⟩
theorem may_right (s : G5) (h : s.may = true) : (s.ls == sd (key s.ls s.la) && s.la == pa (key s.ls s.la)) = true ∧ (s.ls == 1 && s.la == 0) = false := by
  unfold G5.may G5.is G5.key at h
  simp at h ⊢
  refine ⟨h.1, fun e => ?_⟩
  omega
theorem may_bad (s : G5) (h : s.may = false) : (s.ls == sd (key s.ls s.la) && s.la == pa (key s.ls s.la)) = false ∨ ((s.ls == sd (key s.ls s.la) && s.la == pa (key s.ls s.la)) = true ∧ (s.ls == 1 && s.la == 0) = true) := by
  cases e : (s.ls == sd (key s.ls s.la) && s.la == pa (key s.ls s.la)) with
  | false => exact .inl rfl
  | true =>
    refine .inr ⟨rfl, ?_⟩
    unfold G5.may G5.is G5.key at h
    rw [e] at h
    simp at h e
    have hk := key_pos s.ls s.la h
    rw [hk, sd_hi, pa_hi] at e
    simp [e.1, e.2]
theorem plI_none {x : Tr} {k : Int} (h : plF k x = none) : plI k x = -1 := by unfold plI; rw [h]
theorem plI_some {x : Tr} {k : Int} {y : Fr} (h : plF k x = some y) : plI k x = (y.i : Int) := by unfold plI; rw [h]
set_option maxHeartbeats 1000000 in
theorem rput_any {w0 w : World} {S : Nat → Prop} {base T A : Nat} {R : Int} {L : List G5} (h : TrAt w0 S base T A R L w) (hR : RowOk L) (hG : ∀ g ∈ L, g.ok) (s : G5) (hs : s.ok) :
    Rd 36 #[aP T, vG s] (.int .i64 (putG L R s).2) (TrAt w0 S base T A R (putG L R s).1) w := by
  have hA := h
  obtain ⟨t, hrt, hroom, hfin⟩ := h
  have hlen := hfin.len
  obtain ⟨x, hr, hb, rfl⟩ := hfin
  have hrt' := hrt
  obtain ⟨S1, hI, hk, hsb⟩ := hrt'
  have hTr := TrR.of hI hr hb hR hG
  have hbox := hrt.root
  have hky : Ky s.key := s.ky hs
  have hPl : ∀ W, Go.RowKit.Below w.heap.size w W → Calls Try.prog 52 #[aP T, .agg #[.int .i64 s.ls, .int .i64 s.la]] W fun e w' => e = .returned (.int .i64 (plI s.key x)) ∧ Go.RowKit.Below W.heap.size W w' := fun W hW => rplace_any (hTr.below hW) s.ls s.la hs.1
  cases hm : s.may with
  | false =>
    rw [putG_bad _ _ _ hm]
    rcases may_bad s hm with e | ⟨e1, e2⟩
    · exact (rput_bad1 T 0 s w hs e).mono fun e w' ⟨he, hw⟩ => ⟨he, TrAt.bc _ _ hA hw⟩
    · exact (rput_bad2 T 0 s w hs e1 e2).mono fun e w' ⟨he, hw⟩ => ⟨he, TrAt.bc _ _ hA hw⟩
  | true =>
    obtain ⟨m1, m2⟩ := may_right s hm
    cases hp : plF s.key x with
    | some y =>
      obtain ⟨q1, q2, q3⟩ := put_set hr hb hR R s hm hky y hp
      rw [q3]
      rw [plI_some hp] at hPl
      obtain ⟨S0, rfl, hb0, hT0, hrn⟩ := hI
      obtain ⟨gb, hSg, _, k1, k2, k3⟩ := rn_set5 hrn hr.ok y.i q1 s
      have htw : t.tw (y.i : Int) (·.setG s) = ⟨t.ar.set y.i ((t.ar.l.getD y.i ndZ).setG s), t.root⟩ := by unfold Rt.tw; rw [if_pos q1, Int.toNat_natCast]
      refine rput_set T A t.root (y.i : Int) gb y.i (TrAt w0 S base T A R (putG x.ino R s).1) s w hs m1 m2 hbox hPl (Lib.hid fun W hW => (k1 W hW).mono fun e w' ⟨he, hw⟩ => ⟨he, hw ▸ Go.RowKit.Below.refl _ _⟩) k2 (Lib.hid fun W hW => ?_)
      obtain ⟨z1, z2⟩ := k3 W hW
      have hTg : T ≠ gb := fun e => rt_type hb0 hrn (e ▸ hSg)
      have hbW := box_on hb0 hW
      have hWat : RtAt w0 S base T A t W := rtAt_bc _ _ hrt hW
      refine ⟨t.tw (y.i : Int) (·.setG s), ?_, by rw [t.tw_room]; exact hroom, q2⟩
      rw [htw]
      exact RtAt.step (S1 := fun b => b = T ∨ S0 b) (S2 := fun b => b = T ∨ S0 b) ⟨S0, rfl, hbW, hT0, hrn.below hW⟩ (hk.trans (Kp.of_below S hW) (fun _ _ h => h)) hsb
        ⟨S0, rfl, set_far (set_far (set_far (set_far (set_far hbW hTg) hTg) hTg) hTg) hTg, hT0, z1⟩ (z2.mono fun b hb => .inr hb) (fun b hb => .inl hb)
    | none =>
      obtain ⟨n1, n2, n3⟩ := put_new hR R s hm hky hp
      rw [plI_none hp] at hPl
      obtain ⟨_, hnil⟩ := hI.nil hr.ok (-1) ((t.ar.look_none _).1 t.ar.look_neg)
      have hAt : ∀ W, Go.RowKit.Below w.heap.size w W → Calls Try.prog 64 #[aP A, .int .i64 (-1)] W fun e w' => e = .returned (.pointer none) ∧ Go.RowKit.Below W.heap.size W w' := fun W hW => (hnil W hW).mono fun e w' ⟨he, hw⟩ => ⟨he, hw ▸ Go.RowKit.Below.refl _ _⟩
      obtain ⟨S0, rfl, hb0, hT0, hrn⟩ := hI
      have hpost : ∀ (a' : Ag Nd) (ans : Value) (W : World) (e : Ending) (w' : World), PuAt w s W → rnPost W base A S0 a' ans e w' → e = .returned ans ∧ RtAt w0 S base T A ⟨a', t.root⟩ w' ∧ (w'.cell? ⟨w.heap.size, 0, none⟩ = some (.int .i64 s.ls) ∧ w'.cell? ⟨w.heap.size, 1, none⟩ = some (.int .i64 s.la) ∧ w'.cell? ⟨w.heap.size, 2, none⟩ = some (.int .i64 s.hs) ∧ w'.cell? ⟨w.heap.size, 3, none⟩ = some (.int .i64 s.ha) ∧ w'.cell? ⟨w.heap.size, 4, none⟩ = some (.int .i64 s.v) ∧ w'.cell? ⟨T, 0, none⟩ = some (aP A)) := by
        rintro a' ans W e w' hW ⟨S', ⟨he, hr'⟩, hkk, hs'⟩
        have hbW := box_on hb0 hW.be
        have hAt' : RtAt w0 S base T A ⟨a', t.root⟩ w' := by
          refine RtAt.step (t := t) (S1 := fun b => b = T ∨ S0 b) (S2 := fun b => b = T ∨ S' b) ⟨S0, rfl, hbW, hT0, hrn.below hW.be⟩ (hk.trans (Kp.of_below S hW.be) (fun _ _ h => h)) hsb ⟨S', rfl, hkk.at hbW (rt_type hbW (hrn.below hW.be)), hT0, hr'⟩ (hkk.mono fun b hb => .inr hb) ?_
          rintro b (rfl | hb')
          · exact .inl (.inl rfl)
          · exact (hs' b hb').imp .inr id
        refine ⟨he, hAt', ?_⟩
        have hsn : ¬ S0 w.heap.size := fun e => by have := (hrn.lt _ e).2; omega
        have hs5 := hkk.at hW.sb hsn
        obtain ⟨c0, c1, c2, c3, c4⟩ := five_cells hs5
        simp only [Nat.zero_add] at c1 c2 c3 c4
        exact ⟨c0, c1, c2, c3, c4, (cell_of_row _ _ 0 _ _ _ hAt'.root).trans rfl⟩
      by_cases hfull : R ≤ (x.ino.length : Int)
      · rw [n2 hfull]
        have hA2 : t.ar.room ≤ t.ar.len := by rw [hroom, hlen]; exact hfull
        refine (rput_full T A t.root (-1) 0 (fun W => RtAt w0 S base T A t W ∧ (W.cell? ⟨w.heap.size, 0, none⟩ = some (.int .i64 s.ls) ∧ W.cell? ⟨w.heap.size, 1, none⟩ = some (.int .i64 s.la) ∧ W.cell? ⟨w.heap.size, 2, none⟩ = some (.int .i64 s.hs) ∧ W.cell? ⟨w.heap.size, 3, none⟩ = some (.int .i64 s.ha) ∧ W.cell? ⟨w.heap.size, 4, none⟩ = some (.int .i64 s.v) ∧ W.cell? ⟨T, 0, none⟩ = some (aP A))) s w hs m1 m2 hbox hPl hAt (Lib.hid fun W hW => ?_) (Lib.hid fun W hW => hW.2)).mono ?_
        · exact (rnput_full (hrn.below hW.be) hr.ok ⟨s, 0, -1, -1, false⟩ hA2).mono fun e w' hp => hpost t.ar _ W e w' hW hp
        · rintro e w' ⟨rfl, hw, _⟩
          exact ⟨rfl, t, hw, hroom, x, hr, hb, rfl⟩
      · rw [n3 hfull]
        have hA2 : t.ar.len < t.ar.room := by rw [hroom, hlen]; omega
        have main : ∀ (b : Ag Nd) (i : Nat), Puts t.ar ⟨s, 0, -1, -1, false⟩ i b → (∀ W, PuAt w s W → Calls Try.prog 65 #[aP A, .agg #[.int .i64 s.ls, .int .i64 s.la, .int .i64 s.hs, .int .i64 s.ha, .int .i64 s.v, .int .i64 0, .int .i64 (-1), .int .i64 (-1), .bool false]] W (rnPost W base A S0 b (.tuple #[.int .i64 (i : Int), .int .i64 0]))) →
            Rd 36 #[aP T, vG s] (.int .i64 0) (TrAt w0 S base T A R (cpre (dn (wyLt s.key) x []) ++ s :: cpost (dn (wyLt s.key) x []))) w := by
          intro b i hpu hcall
          exact rput_add T A t.root (-1) (i : Int) (fun W => RtAt w0 S base T A ⟨b, t.root⟩ W ∧ (W.cell? ⟨w.heap.size, 0, none⟩ = some (.int .i64 s.ls) ∧ W.cell? ⟨w.heap.size, 1, none⟩ = some (.int .i64 s.la) ∧ W.cell? ⟨w.heap.size, 2, none⟩ = some (.int .i64 s.hs) ∧ W.cell? ⟨w.heap.size, 3, none⟩ = some (.int .i64 s.ha) ∧ W.cell? ⟨w.heap.size, 4, none⟩ = some (.int .i64 s.v) ∧ W.cell? ⟨T, 0, none⟩ = some (aP A))) _ s w hs m1 m2 hbox hPl hAt (Lib.hid fun W hW => (hcall W hW).mono fun e w' hp => hpost b _ W e w' hW hp) (Lib.hid fun W hW => hW.2)
            (Lib.hid fun W hW => radd_any hW.1 hr hb hG hs hpu (hpu.room.trans hroom))
        rcases List.eq_nil_or_concat t.ar.free with hf | ⟨fs, f, hf⟩
        · have hpu := puts_grow t.ar ⟨s, 0, -1, -1, false⟩ hr.ok hf hA2
          refine main _ _ hpu (fun W hW => ?_)
          have := rnput_grow (hrn.below hW.be) hr.ok ⟨s, 0, -1, -1, false⟩ hf hA2
          rw [hr.ok.ever] at this
          exact this
        · rw [List.concat_eq_append] at hf
          have hf0 := (hr.ok.free f (by rw [hf]; simp)).1
          obtain ⟨fn, rfl⟩ : ∃ fn : Nat, f = (fn : Int) := ⟨f.toNat, by omega⟩
          have hpu := puts_take t.ar fs fn ⟨s, 0, -1, -1, false⟩ hr.ok hf hA2
          exact main _ _ hpu (fun W hW => rnput_take (hrn.below hW.be) hr.ok ⟨s, 0, -1, -1, false⟩ fs fn hf hA2)
end Go.Proofs.Ytakkmnhiaddnnaa

/- Delete: the walks. -/
namespace Go.Proofs.Ytakkmnhiaddnnaa
open Go.RowKit Go.Sort Go.Proofs.Ytakkmnhiaddnnaa.Bo
set_option linter.unusedVariables false
set_option maxRecDepth 100000

set_option maxHeartbeats 2000000 in
theorem rdel_none (T A : Nat) (x y r root : Int) (w : World) (HT : Hid (w.heap[T]? = some (tO A root)))
    (HN : Hid (∀ W, Go.RowKit.Below w.heap.size w W → Calls Try.prog 52 #[aP T, .agg #[.int .i64 x, .int .i64 y]] W fun e w' => e = .returned (.int .i64 r) ∧ Go.RowKit.Below W.heap.size W w'))
    (HA : Hid (∀ W, Go.RowKit.Below w.heap.size w W → Calls Try.prog 64 #[aP A, .int .i64 r] W fun e w' => e = .returned (.pointer none) ∧ Go.RowKit.Below W.heap.size W w')) :
    Calls Try.prog 38 #[aP T, .agg #[.int .i64 x, .int .i64 y]] w fun e w' => e = .returned (.bool false) ∧ Go.RowKit.Below w.heap.size w w' := by
  have mx := mixed
  have HB0 := Lib.hid (below_new w (.cells #[.int .i64 x, .int .i64 y] 31))
  go_enter Try.func38, Try.ntmps38
  go_wp2_with fail
  refine (HN.out _ HB0.out).mono ?_
  rintro e y1 ⟨rfl, hb⟩
  have HB1 := Lib.hid (bt HB0.out hb)
  clear hb
  have c0 : y1.cell? ⟨T, 0, none⟩ = some (aP A) := (HB1.out.cell (p := ⟨T, 0, none⟩) (lt_of_block HT.out)).trans ((cell_of_row _ _ 0 _ _ _ HT.out).trans rfl)
  go_wp2_with fail
  refine (HA.out _ HB1.out).mono ?_
  rintro e y2 ⟨rfl, hb⟩
  have HB2 := Lib.hid (bt HB1.out hb)
  clear hb c0
  go_wp2_with fail
  go_ret
  exact ⟨rfl, HB2.out⟩
set_option maxHeartbeats 2000000 in
theorem rdel_one (T A g n : Nat) (x y root c0 c1 : Int) (B0 B1 : Bool) (PF : World → Prop) (w : World) (HT : Hid (w.heap[T]? = some (tO A root)))
    (HN : Hid (∀ W, Go.RowKit.Below w.heap.size w W → Calls Try.prog 52 #[aP T, .agg #[.int .i64 x, .int .i64 y]] W fun e w' => e = .returned (.int .i64 (n : Int)) ∧ Go.RowKit.Below W.heap.size W w'))
    (HA : Hid (∀ W, Go.RowKit.Below w.heap.size w W → Calls Try.prog 64 #[aP A, .int .i64 (n : Int)] W fun e w' => e = .returned (.pointer (some ⟨g, n * 10, none⟩)) ∧ Go.RowKit.Below W.heap.size W w'))
    (HC : Hid (∀ W, Go.RowKit.Below w.heap.size w W → W.cell? ⟨g, n * 10 + 6, none⟩ = some (.int .i64 c0) ∧ W.cell? ⟨g, n * 10 + 7, none⟩ = some (.int .i64 c1)))
    (h0 : (c0 == -1) = B0) (h1 : (c1 == -1) = B1) (hB : B0 = true ∨ B1 = true)
    (HO : Hid (∀ W, Go.RowKit.Below w.heap.size w W → Rd 67 #[aP T, .int .i64 (n : Int)] (.tuple #[]) PF W)) :
    Rd 38 #[aP T, .agg #[.int .i64 x, .int .i64 y]] (.bool true) PF w := by
  have mx := mixed
  have HB0 := Lib.hid (below_new w (.cells #[.int .i64 x, .int .i64 y] 31))
  go_enter Try.func38, Try.ntmps38
  go_wp2_with fail
  refine (HN.out _ HB0.out).mono ?_
  rintro e y1 ⟨rfl, hb⟩
  have HB1 := Lib.hid (bt HB0.out hb)
  clear hb
  have d0 : y1.cell? ⟨T, 0, none⟩ = some (aP A) := (HB1.out.cell (p := ⟨T, 0, none⟩) (lt_of_block HT.out)).trans ((cell_of_row _ _ 0 _ _ _ HT.out).trans rfl)
  go_wp2_with fail
  refine (HA.out _ HB1.out).mono ?_
  rintro e y2 ⟨rfl, hb⟩
  have HB2 := Lib.hid (bt HB1.out hb)
  clear hb d0
  obtain ⟨k0, k1⟩ := HC.out _ HB2.out
  cases B0 with
  | true =>
    have e0 : c0 = -1 := by simpa using h0
    subst e0
    go_wp2_with fail
    refine (HO.out _ HB2.out).mono ?_
    rintro e y3 ⟨rfl, hp⟩
    have HP := Lib.hid hp
    clear hp k0 k1
    go_wp2_with fail
    go_ret
    exact ⟨rfl, HP.out⟩
  | false =>
    have e1 : c1 = -1 := by
      rcases hB with e | e
      · cases e
      · rw [e] at h1; simpa using h1
    subst e1
    have t1 : (c0 != -1) = true := by rw [bne, h0]; rfl
    have t2 : ¬ c0 = -1 := by simpa using h0
    clear h0 h1 hB
    go_wp2_with fail
    refine (HO.out _ HB2.out).mono ?_
    rintro e y3 ⟨rfl, hp⟩
    have HP := Lib.hid hp
    clear hp k0 k1
    go_wp2_with fail
    go_ret
    exact ⟨rfl, HP.out⟩
set_option maxHeartbeats 2000000 in
theorem rdel_two (T A g n gf f : Nat) (x y root c0 c1 : Int) (s : G5) (P1 PF : World → Prop) (w : World) (HT : Hid (w.heap[T]? = some (tO A root)))
    (HN : Hid (∀ W, Go.RowKit.Below w.heap.size w W → Calls Try.prog 52 #[aP T, .agg #[.int .i64 x, .int .i64 y]] W fun e w' => e = .returned (.int .i64 (n : Int)) ∧ Go.RowKit.Below W.heap.size W w'))
    (HA : Hid (∀ W, Go.RowKit.Below w.heap.size w W → Calls Try.prog 64 #[aP A, .int .i64 (n : Int)] W fun e w' => e = .returned (.pointer (some ⟨g, n * 10, none⟩)) ∧ Go.RowKit.Below W.heap.size W w'))
    (HC : Hid (∀ W, Go.RowKit.Below w.heap.size w W → W.cell? ⟨g, n * 10 + 6, none⟩ = some (.int .i64 c0) ∧ W.cell? ⟨g, n * 10 + 7, none⟩ = some (.int .i64 c1)))
    (h0 : (c0 == -1) = false) (h1 : (c1 == -1) = false)
    (HV : Hid (∀ W, Go.RowKit.Below w.heap.size w W → Calls Try.prog 50 #[aP T, .agg #[.int .i64 x, .int .i64 y]] W fun e w' => e = .returned (.int .i64 (f : Int)) ∧ Go.RowKit.Below W.heap.size W w'))
    (HAf : Hid (∀ W, Go.RowKit.Below w.heap.size w W → Calls Try.prog 64 #[aP A, .int .i64 (f : Int)] W fun e w' => e = .returned (.pointer (some ⟨gf, f * 10, none⟩)) ∧ Go.RowKit.Below W.heap.size W w'))
    (HCf : Hid (∀ W, Go.RowKit.Below w.heap.size w W → Cells5 W gf (f * 10) s))
    (HCe : Hid (∀ W, Go.RowKit.Below w.heap.size w W → (∃ o0 o1 o2 o3 o4, W.cell? ⟨g, n * 10, none⟩ = some o0 ∧ W.cell? ⟨g, n * 10 + 1, none⟩ = some o1 ∧ W.cell? ⟨g, n * 10 + 2, none⟩ = some o2 ∧ W.cell? ⟨g, n * 10 + 3, none⟩ = some o3 ∧ W.cell? ⟨g, n * 10 + 4, none⟩ = some o4) ∧ ∀ j, W.frozen? ⟨g, j, none⟩ = false))
    (HF : Hid (∀ W, Go.RowKit.Below w.heap.size w W → P1 (segQ W g (n * 10) s)))
    (HO : Hid (∀ W, P1 W → Rd 67 #[aP T, .int .i64 (f : Int)] (.tuple #[]) PF W)) :
    Rd 38 #[aP T, .agg #[.int .i64 x, .int .i64 y]] (.bool true) PF w := by
  have mx := mixed
  have t1 : (c0 != -1) = true := by rw [bne, h0]; rfl
  have t2 : ¬ c0 = -1 := by simpa using h0
  have t3 : (c1 != -1) = true := by rw [bne, h1]; rfl
  have t4 : ¬ c1 = -1 := by simpa using h1
  clear h0 h1
  have HB0 := Lib.hid (below_new w (.cells #[.int .i64 x, .int .i64 y] 31))
  have HK0 := Lib.hid (heap_alloc_new w (.cells #[.int .i64 x, .int .i64 y] 31))
  go_enter Try.func38, Try.ntmps38
  go_wp2_with fail
  refine (HN.out _ HB0.out).mono ?_
  rintro e y1 ⟨rfl, hb⟩
  have HB1 := Lib.hid (bt HB0.out hb)
  have HK1 := Lib.hid (box_on HK0.out hb)
  clear hb
  have d0 : y1.cell? ⟨T, 0, none⟩ = some (aP A) := (HB1.out.cell (p := ⟨T, 0, none⟩) (lt_of_block HT.out)).trans ((cell_of_row _ _ 0 _ _ _ HT.out).trans rfl)
  go_wp2_with fail
  refine (HA.out _ HB1.out).mono ?_
  rintro e y2 ⟨rfl, hb⟩
  have HB2 := Lib.hid (bt HB1.out hb)
  have HK2 := Lib.hid (box_on HK1.out hb)
  clear hb d0
  obtain ⟨k0, k1⟩ := HC.out _ HB2.out
  obtain ⟨k2, k3, _, _⟩ := two_cells HK2.out
  go_wp2_with fail
  refine (HV.out _ HB2.out).mono ?_
  rintro e y3 ⟨rfl, hb⟩
  have HB3 := Lib.hid (bt HB2.out hb)
  clear hb k0 k1 k2 k3
  have d0 : y3.cell? ⟨T, 0, none⟩ = some (aP A) := (HB3.out.cell (p := ⟨T, 0, none⟩) (lt_of_block HT.out)).trans ((cell_of_row _ _ 0 _ _ _ HT.out).trans rfl)
  go_wp2_with fail
  refine (HAf.out _ HB3.out).mono ?_
  rintro e y4 ⟨rfl, hb⟩
  have HB4 := Lib.hid (bt HB3.out hb)
  clear hb d0
  obtain ⟨q0, q1, q2, q3, q4⟩ := HCf.out _ HB4.out
  obtain ⟨⟨o0, o1, o2, o3, o4, u0, u1, u2, u3, u4⟩, hfz⟩ := HCe.out _ HB4.out
  have z0 := hfz (n * 10)
  have z1 := hfz (n * 10 + 1)
  have z2 := hfz (n * 10 + 2)
  have z3 := hfz (n * 10 + 3)
  have z4 := hfz (n * 10 + 4)
  have HFZ := Lib.hid (HF.out _ HB4.out)
  clear hfz
  go_wp2_with fail
  refine (HO.out _ HFZ.out).mono ?_
  rintro e y5 ⟨rfl, hp⟩
  have HP := Lib.hid hp
  clear hp q0 q1 q2 q3 q4 u0 u1 u2 u3 u4 z0 z1 z2 z3 z4
  go_wp2_with fail
  go_ret
  exact ⟨rfl, HP.out⟩
end Go.Proofs.Ytakkmnhiaddnnaa
