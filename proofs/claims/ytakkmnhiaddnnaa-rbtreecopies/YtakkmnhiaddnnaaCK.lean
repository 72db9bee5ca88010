/- A part of the proof: contracts of the functions that the statements reach. -/
import Derived.Test.YtakkmnhiaddnnaaRows
import Derived.Test.YtakkmnhiaddnnaaCA
import Derived.Test.YtakkmnhiaddnnaaCB
import Derived.Test.YtakkmnhiaddnnaaCC
import Derived.Test.YtakkmnhiaddnnaaCD
import Derived.Test.YtakkmnhiaddnnaaCE
import Derived.Test.YtakkmnhiaddnnaaCF
import Derived.Test.YtakkmnhiaddnnaaCG
import Derived.Test.YtakkmnhiaddnnaaCH
import Derived.Test.YtakkmnhiaddnnaaCI
import Derived.Test.YtakkmnhiaddnnaaCJ
import Derived.Lib.QuietBelow
import Derived.Deep.RegionHeld3

/- Mending a red node below a red one. No Go in sight. -/
namespace Go.Proofs.Ytakkmnhiaddnnaa.Bo
/-- May a node be turned down? -/
def Rt.canRot (t : Rt) (i : Int) (s : Bool) : Prop := t.ar.is i = true ∧ t.ar.is (t.ch i (!s)) = true
def Rt.turnRed (t : Rt) (i : Int) : Rt :=
  if t.sd i = t.sd (t.pa i) then ((t.paint (t.pa i) false).paint (t.pa (t.pa i)) true).rot (t.pa (t.pa i)) (!(t.sd (t.pa i)))
  else (((t.rot (t.pa i) (t.sd (t.pa i))).paint i false).paint (t.pa (t.pa i)) true).rot (t.pa (t.pa i)) (!(t.sd (t.pa i)))
def Rt.canTurnRed (t : Rt) (i : Int) : Prop :=
  t.ar.is i = true ∧ t.ar.is (t.pa i) = true ∧ t.ar.is (t.pa (t.pa i)) = true ∧
  (t.sd i = t.sd (t.pa i) → ((t.paint (t.pa i) false).paint (t.pa (t.pa i)) true).canRot (t.pa (t.pa i)) (!(t.sd (t.pa i)))) ∧
  (t.sd i ≠ t.sd (t.pa i) → t.canRot (t.pa i) (t.sd (t.pa i)) ∧ (((t.rot (t.pa i) (t.sd (t.pa i))).paint i false).paint (t.pa (t.pa i)) true).canRot (t.pa (t.pa i)) (!(t.sd (t.pa i))))
section
variable {t : Rt} {cx : List Fr} {s c : Bool} {A B : Tr} {i : Nat} {g : G5}
theorem Rep.node (h : Rep t (plug cx (Tr.mk s c A i g B))) : t.look i = some (ndk s g (cpi cx) A.idx B.idx c) := ((repT_mk ..).1 h.parts.2.1).1
theorem Rep.is (h : Rep t (plug cx (Tr.mk s c A i g B))) : t.ar.is (i : Int) = true := (t.ar.look_some _ _ h.node).1
theorem Rep.pa (h : Rep t (plug cx (Tr.mk s c A i g B))) : t.pa i = cpi cx := by rw [t.pa_of _ _ h.node, ndk_pa]
theorem Rep.ch (h : Rep t (plug cx (Tr.mk s c A i g B))) : t.ch i s = A.idx := by rw [t.ch_of _ _ _ h.node, ndk_ch]
theorem Rep.ch2 (h : Rep t (plug cx (Tr.mk s c A i g B))) : t.ch i (!s) = B.idx := by rw [t.ch_of _ _ _ h.node, ndk_ch2]
theorem Rep.sd (h : Rep t (plug cx (Tr.mk s c A i g B))) : t.sd i = csd cx := by
  have := h.side (by cases s <;> simp [Tr.mk])
  rw [Tr.mk_idx] at this; exact this
theorem Rep.setRed (h : Rep t (plug cx (Tr.mk s c A i g B))) (d : Bool) : Rep (t.paint i d) (plug cx (Tr.mk s d A i g B)) := h.turn _ (fun _ => ndk_setRed ..)
end
theorem Rep.red {t : Rt} {cx : List Fr} {x : Tr} (h : Rep t (plug cx x)) : t.red x.idx = x.isRed := by
  cases x with
  | nil => exact t.red_no _ t.ar.look_neg
  | node c l i g r => exact t.red_of _ _ h.parts.2.1.1
theorem bool_ne {a b : Bool} (h : a ≠ b) : a = !b := by cases a <;> cases b <;> simp_all
/-- Turning at a red node below a red one that has no red one beside it. -/
theorem turnRed_rep {t : Rt} {up : List Fr} {fp ft : Fr} {a b : Tr} {i : Nat} {g : G5} (s0 : Bool) (h : Rep t (plug (fp :: ft :: up) (Tr.mk s0 true a i g b))) :
    t.canTurnRed i ∧ ∃ y, Rep (t.turnRed i) (plug up y) ∧ (plug up y).ino = (plug (fp :: ft :: up) (Tr.mk s0 true a i g b)).ino ∧
      ∀ n, fp.c = true → RB (Tr.mk s0 true a i g b) n → RB fp.o n → fp.o.isRed = false → RB ft.o n → ft.o.isRed = false → RB y (n + 1) ∧ y.isRed = false := by
  have p1 := h.pa
  have s1 := h.sd
  have i1 := h.is
  have hp : Rep t (plug (ft :: up) (Tr.mk fp.s fp.c (Tr.mk s0 true a i g b) fp.i fp.g fp.o)) := h
  have ht : Rep t (plug up (Tr.mk ft.s ft.c (Tr.mk fp.s fp.c (Tr.mk s0 true a i g b) fp.i fp.g fp.o) ft.i ft.g ft.o)) := h
  have p2 := hp.pa
  have s2 := hp.sd
  have i2 := hp.is
  have i3 := ht.is
  rw [show cpi (fp :: ft :: up) = (fp.i : Int) from rfl] at p1
  rw [show cpi (ft :: up) = (ft.i : Int) from rfl] at p2
  rw [show csd (fp :: ft :: up) = fp.s from rfl] at s1
  rw [show csd (ft :: up) = ft.s from rfl] at s2
  unfold Rt.canTurnRed Rt.turnRed
  rw [p1, p2, s1, s2]
  by_cases e : fp.s = ft.s
  · -- the outer one
    rw [if_pos e]
    have h1 : Rep (t.paint fp.i false) (plug (ft :: up) (Tr.mk fp.s false (Tr.mk s0 true a i g b) fp.i fp.g fp.o)) := hp.setRed false
    have h1' : Rep (t.paint fp.i false) (plug up (Tr.mk ft.s ft.c (Tr.mk fp.s false (Tr.mk s0 true a i g b) fp.i fp.g fp.o) ft.i ft.g ft.o)) := h1
    have h2 := h1'.setRed true
    rw [e] at h2
    have h3 : Rep ((t.paint fp.i false).paint ft.i true) (plug up (Tr.mk (!ft.s) true ft.o ft.i ft.g (Tr.mk (!ft.s) false fp.o fp.i fp.g (Tr.mk s0 true a i g b)))) := by
      rw [Tr.mk_swap, Tr.mk_swap]; exact h2
    have h4 := h3.rot
    refine ⟨⟨i1, i2, i3, fun _ => ⟨h3.is, ?_⟩, fun k => absurd e k⟩, _, h4, ?_, ?_⟩
    · have := h3.ch2
      rw [this, Tr.mk_idx]
      rw [show (((t.paint fp.i false).paint ft.i true).ar.is fp.i) = t.ar.is fp.i from by unfold Rt.paint; rw [Rt.tw_is, Rt.tw_is]]
      exact i2
    · refine (ino_plug_eq up _ _ ?_)
      rw [ino_rot, Tr.mk_swap, Tr.mk_swap]
      show _ = (Tr.mk ft.s ft.c (Tr.mk fp.s fp.c (Tr.mk s0 true a i g b) fp.i fp.g fp.o) ft.i ft.g ft.o).ino
      rw [e, ino_col ft.s true ft.c]
      exact ino_mk _ _ _ _ _ _ _ _ (ino_col ..) rfl
    · intro n _ hx ho hob hq hqb
      refine ⟨(rb_black ..).2 ⟨n, rfl, (rb_red ..).2 ⟨hq, ho, hqb, hob⟩, hx⟩, Tr.mk_red ..⟩
  · -- the inner one
    rw [if_neg e]
    have e' := bool_ne e
    have hx : Rep t (plug (ft :: up) (Tr.mk ft.s fp.c fp.o fp.i fp.g (Tr.mk ft.s true (if s0 = ft.s then a else b) i g (if s0 = ft.s then b else a)))) := by
      have h0 := hp
      rw [e', Tr.mk_swap] at h0
      by_cases q : s0 = ft.s
      · rw [if_pos q, if_pos q, ← q]; rw [← q] at h0; exact h0
      · rw [if_neg q, if_neg q]
        have q' := bool_ne q
        rw [q', Tr.mk_swap] at h0
        exact h0
    generalize ha' : (if s0 = ft.s then a else b) = a' at hx
    generalize hb' : (if s0 = ft.s then b else a) = b' at hx
    have hmk : Tr.mk s0 true a i g b = Tr.mk ft.s true a' i g b' := by
      by_cases q : s0 = ft.s
      · rw [if_pos q] at ha' hb'; subst ha'; subst hb'; rw [q]
      · rw [if_neg q] at ha' hb'; subst ha'; subst hb'
        rw [bool_ne q, Tr.mk_swap]
    have h1 := hx.rot
    have h2 : Rep ((t.rot fp.i ft.s).paint i false) (plug (ft :: up) (Tr.mk ft.s false (Tr.mk ft.s fp.c fp.o fp.i fp.g a') i g b')) := h1.setRed false
    have h2' : Rep ((t.rot fp.i ft.s).paint i false) (plug up (Tr.mk ft.s ft.c (Tr.mk ft.s false (Tr.mk ft.s fp.c fp.o fp.i fp.g a') i g b') ft.i ft.g ft.o)) := h2
    have h3 := h2'.setRed true
    have h4 : Rep (((t.rot fp.i ft.s).paint i false).paint ft.i true) (plug up (Tr.mk (!ft.s) true ft.o ft.i ft.g (Tr.mk (!ft.s) false b' i g (Tr.mk ft.s fp.c fp.o fp.i fp.g a')))) := by
      rw [Tr.mk_swap, Tr.mk_swap]; exact h3
    have h5 := h4.rot
    refine ⟨⟨i1, i2, i3, fun k => absurd k e, fun _ => ⟨⟨i2, ?_⟩, ⟨h4.is, ?_⟩⟩⟩, _, h5, ?_, ?_⟩
    · rw [hx.ch2, Tr.mk_idx]; exact i1
    · rw [h4.ch2, Tr.mk_idx]
      rw [show ((((t.rot fp.i ft.s).paint i false).paint ft.i true).ar.is i) = t.ar.is i from by unfold Rt.paint; rw [Rt.tw_is, Rt.tw_is, Rt.rot_is]]
      exact i1
    · refine (ino_plug_eq up _ _ ?_)
      rw [ino_rot, Tr.mk_swap, Tr.mk_swap]
      show _ = (Tr.mk ft.s ft.c (Tr.mk fp.s fp.c (Tr.mk s0 true a i g b) fp.i fp.g fp.o) ft.i ft.g ft.o).ino
      rw [hmk, e', Tr.mk_swap, ino_col ft.s true ft.c]
      refine ino_mk _ _ _ _ _ _ _ _ ?_ rfl
      rw [ino_col ft.s false true, ino_rot]
    · intro n hc hx2 ho hob hq hqb
      rw [hmk] at hx2
      obtain ⟨k1, k2, k3, k4⟩ := (rb_red ..).1 hx2
      rw [hc]
      exact ⟨(rb_black ..).2 ⟨n, rfl, (rb_red ..).2 ⟨hq, k2, hqb, k4⟩, (rb_red ..).2 ⟨ho, k1, hob, k3⟩⟩, Tr.mk_red ..⟩
/-- What is left in the end: a red-black tree of these segments. -/
def Fin (t : Rt) (L : List G5) : Prop := ∃ x, Rep t x ∧ Rbt x ∧ x.ino = L
/-- Nothing is amiss but that the red node i may have a red parent, or be the root. -/
def RedInv (t : Rt) (i : Int) (L : List G5) (k : Nat) : Prop := ∃ cx x n, Rep t (plug cx x) ∧ i = x.idx ∧ x.isRed = true ∧ RBC cx n ∧ RB x n ∧ (plug cx x).ino = L ∧ cx.length = k
theorem Fin.root {t : Rt} {L : List G5} (h : Fin t L) : Fin (t.paint t.root false) L := by
  obtain ⟨x, h1, ⟨⟨n, h2⟩, h3⟩, h4⟩ := h
  have h5 : Rep (t.paint x.idx false) (plug [] (x.paint false)) := Rep.paint (cx := []) h1 false
  rw [h1.root]
  exact ⟨_, h5, by rw [paint_black x h3]; exact ⟨⟨n, h2⟩, h3⟩, by show (x.paint false).ino = L; rw [x.paint_ino, h4]⟩
theorem RedInv.is {t : Rt} {i : Int} {L : List G5} {k : Nat} (h : RedInv t i L k) : t.ar.is i = true := by
  obtain ⟨cx, x, n, h1, rfl, h3, h4, h5, h6, h7⟩ := h
  obtain ⟨a, j, g, b, rfl⟩ := x.of_red h3 false
  rw [Tr.mk_idx]; exact h1.is
/-- The end: the parent is not red. -/
theorem RedInv.stop {t : Rt} {i : Int} {L : List G5} {k : Nat} (h : RedInv t i L k) (hr : t.red (t.pa i) = false) : t.ar.is t.root = true ∧ Fin (t.paint t.root false) L := by
  obtain ⟨cx, x, n, h1, rfl, h3, h4, h5, h6, h7⟩ := h
  obtain ⟨a, j, g, b, rfl⟩ := x.of_red h3 false
  rw [Tr.mk_idx, h1.pa] at hr
  cases cx with
  | nil =>
    have h2 : Rep t (plug [] (Tr.mk false true a j g b)) := h1
    have hro := h1.root
    rw [show plug [] (Tr.mk false true a j g b) = Tr.mk false true a j g b from rfl, Tr.mk_idx] at hro
    rw [hro]
    refine ⟨h1.is, _, h2.setRed false, ⟨⟨n + 1, ?_⟩, Tr.mk_red ..⟩, ?_⟩
    · exact (rb_black ..).2 ⟨n, rfl, ((rb_red ..).1 h5).1, ((rb_red ..).1 h5).2.1⟩
    · rw [← h6]; exact ino_col ..
  | cons y cx =>
    have h2 : Rep t (plug cx (Tr.mk y.s y.c (Tr.mk false true a j g b) y.i y.g y.o)) := h1
    have hred := h2.red
    rw [Tr.mk_idx, Tr.mk_red] at hred
    have hyc : y.c = false := hred.symm.trans hr
    have hf : Fin t L := ⟨_, h1, rb_plug _ _ n h4 h5 (fun _ => ⟨hyc, by simp⟩), h6⟩
    refine ⟨?_, hf.root⟩
    have : ∀ (cx : List Fr) (z : Tr), z.idx ≠ -1 → (plug cx z).idx ≠ -1 := by
      intro cx
      induction cx with
      | nil => intro z hz; exact hz
      | cons w cx ih => intro z _; refine ih _ ?_; show (Tr.mk ..).idx ≠ -1; rw [Tr.mk_idx]; omega
    have hne := this (y :: cx) (Tr.mk false true a j g b) (by rw [Tr.mk_idx]; omega)
    have hro := h1.root
    obtain ⟨c', a', i', g', b', e⟩ := (plug (y :: cx) (Tr.mk false true a j g b)).of_idx hne false
    have h8 : Rep t (plug [] (Tr.mk false c' a' i' g' b')) := by rw [← e]; exact h1
    rw [e, Tr.mk_idx] at hro
    rw [hro]; exact h8.is
/-- A round: the parent is red. -/
theorem RedInv.step {t : Rt} {i : Int} {L : List G5} {k : Nat} (h : RedInv t i L k) (hr : t.red (t.pa i) = true) :
    t.ar.is (t.pa i) = true ∧ t.ar.is (t.pa (t.pa i)) = true ∧
    (t.red (t.ch (t.pa (t.pa i)) (!(t.sd (t.pa i)))) = false → t.canTurnRed i ∧ (t.turnRed i).ar.is (t.turnRed i).root = true ∧ Fin ((t.turnRed i).paint (t.turnRed i).root false) L) ∧
    (t.red (t.ch (t.pa (t.pa i)) (!(t.sd (t.pa i)))) = true → t.ar.is (t.ch (t.pa (t.pa i)) (!(t.sd (t.pa i)))) = true ∧
      ∃ m, m < k ∧ RedInv (((t.paint (t.pa i) false).paint (t.ch (t.pa (t.pa i)) (!(t.sd (t.pa i)))) false).paint (t.pa (t.pa i)) true) (t.pa (t.pa i)) L m) := by
  obtain ⟨cx, x, n, h1, rfl, h3, h4, h5, h6, h7⟩ := h
  obtain ⟨a, j, g, b, rfl⟩ := x.of_red h3 false
  rw [Tr.mk_idx] at hr ⊢
  rw [h1.pa] at hr ⊢
  cases cx with
  | nil => rw [show cpi [] = -1 from rfl, t.red_no _ t.ar.look_neg] at hr; cases hr
  | cons fp cx =>
    rw [show cpi (fp :: cx) = (fp.i : Int) from rfl] at hr ⊢
    have hp : Rep t (plug cx (Tr.mk fp.s fp.c (Tr.mk false true a j g b) fp.i fp.g fp.o)) := h1
    have hred := hp.red
    rw [Tr.mk_idx, Tr.mk_red, hr] at hred
    have hc := hred.symm
    obtain ⟨k1, kk, _⟩ := h4
    obtain ⟨k2, k3, k4, k5⟩ := kk hc
    cases cx with
    | nil => exact absurd rfl k4
    | cons ft up =>
      rw [hp.pa, hp.sd, show cpi (ft :: up) = (ft.i : Int) from rfl, show csd (ft :: up) = ft.s from rfl]
      have ht : Rep t (plug up (Tr.mk ft.s ft.c (Tr.mk fp.s fp.c (Tr.mk false true a j g b) fp.i fp.g fp.o) ft.i ft.g ft.o)) := h1
      rw [ht.ch2]
      have ho : Rep t (plug (⟨!ft.s, ft.c, ft.i, ft.g, Tr.mk fp.s fp.c (Tr.mk false true a j g b) fp.i fp.g fp.o⟩ :: up) ft.o) := by
        show Rep t (plug up (Tr.mk (!ft.s) ft.c ft.o ft.i ft.g _))
        rw [Tr.mk_swap]; exact ht
      rw [ho.red]
      have hfc : ft.c = false := k3
      obtain ⟨j1, _, j3⟩ := k5
      have j3 := j3 hfc
      refine ⟨hp.is, ht.is, fun hq => ?_, fun hq => ?_⟩
      · obtain ⟨q1, y, q2, q3, q4⟩ := turnRed_rep false h1
        obtain ⟨q4, q5⟩ := q4 n hc h5 k1 k2 j1 hq
        have hf : Fin (t.turnRed j) L := ⟨_, q2, rb_plug up y (n + 1) j3 q4 (fun e => by rw [q5] at e; cases e), q3.trans h6⟩
        refine ⟨q1, ?_, hf.root⟩
        obtain ⟨z, z1, ⟨⟨m, z2⟩, z3⟩, z4⟩ := hf
        have hne : z ≠ .nil := by
          rintro rfl
          rw [← h6, ino_plug] at z4
          have := congrArg List.length z4
          simp [Tr.mk, Tr.ino] at this
        cases z with
        | nil => exact absurd rfl hne
        | node c' l' i' g' r' =>
          have h8 : Rep (t.turnRed j) (plug [] (Tr.mk false c' l' i' g' r')) := z1
          have := z1.root
          rw [this]; exact h8.is
      · obtain ⟨a', q, gq, b', e⟩ := ft.o.of_red hq ft.s
        have e1 : ft.o.idx = (q : Int) := by rw [e, Tr.mk_idx]
        rw [e1]
        have g1 : Rep (t.paint fp.i false) (plug (ft :: up) (Tr.mk fp.s false (Tr.mk false true a j g b) fp.i fp.g fp.o)) := Rep.setRed (cx := ft :: up) hp false
        have g2 : Rep (t.paint fp.i false) (plug (⟨!ft.s, ft.c, ft.i, ft.g, Tr.mk fp.s false (Tr.mk false true a j g b) fp.i fp.g fp.o⟩ :: up) (Tr.mk ft.s true a' q gq b')) := by
          show Rep _ (plug up (Tr.mk (!ft.s) ft.c _ ft.i ft.g _))
          rw [Tr.mk_swap, ← e]; exact g1
        have g3 := g2.setRed false
        have g4 : Rep ((t.paint fp.i false).paint q false) (plug up (Tr.mk ft.s ft.c (Tr.mk fp.s false (Tr.mk false true a j g b) fp.i fp.g fp.o) ft.i ft.g (Tr.mk ft.s false a' q gq b'))) := by
          rw [← Tr.mk_swap]; exact g3
        have g5 := g4.setRed true
        have hqq : Rep t (plug (⟨!ft.s, ft.c, ft.i, ft.g, Tr.mk fp.s fp.c (Tr.mk false true a j g b) fp.i fp.g fp.o⟩ :: up) (Tr.mk ft.s true a' q gq b')) := by rw [← e]; exact ho
        refine ⟨hqq.is, up.length, by simp at h7; omega, up, _, n + 1, g5, (Tr.mk_idx ..).symm, Tr.mk_red .., j3, ?_, ?_, rfl⟩
        · rw [e] at j1
          obtain ⟨z1, z2, z3, z4⟩ := (rb_red ..).1 j1
          exact (rb_red ..).2 ⟨(rb_black ..).2 ⟨n, rfl, h5, k1⟩, (rb_black ..).2 ⟨n, rfl, z1, z2⟩, Tr.mk_red .., Tr.mk_red ..⟩
        · rw [← h6]
          show _ = (plug up (Tr.mk ft.s ft.c (Tr.mk fp.s fp.c (Tr.mk false true a j g b) fp.i fp.g fp.o) ft.i ft.g ft.o)).ino
          refine ino_plug_eq up _ _ ?_
          rw [ino_col ft.s true ft.c]
          refine ino_mk _ _ _ _ _ _ _ _ (ino_col ..) ?_
          rw [e]; exact ino_col ..
end Go.Proofs.Ytakkmnhiaddnnaa.Bo

/- Mending a way down that lacks a black node. No Go in sight. -/
namespace Go.Proofs.Ytakkmnhiaddnnaa.Bo
namespace Rt
def blackAside (t : Rt) (p : Int) (s : Bool) : Rt := if t.red (t.ch p (!s)) = false then t else ((t.paint (t.ch p (!s)) false).paint p true).rot p s
def canBlack (t : Rt) (p : Int) (s : Bool) : Prop := t.ar.is p = true ∧ (t.red (t.ch p (!s)) = true → t.ar.is (t.ch p (!s)) = true ∧ ((t.paint (t.ch p (!s)) false).paint p true).canRot p s)
def short1 (t : Rt) (p a : Int) : Rt := (t.paint a (t.red p)).paint p false
def short2 (t : Rt) (p a : Int) (s : Bool) : Rt := ((t.short1 p a).paint ((t.short1 p a).ch a (!s)) false).rot p s
def canShort2 (t : Rt) (p a : Int) (s : Bool) : Prop := t.ar.is a = true ∧ t.ar.is p = true ∧ t.ar.is ((t.short1 p a).ch a (!s)) = true ∧ ((t.short1 p a).paint ((t.short1 p a).ch a (!s)) false).canRot p s
def turnShort (t : Rt) (p : Int) (s : Bool) : Rt :=
  if t.red (t.ch (t.ch p (!s)) (!s)) = false then (t.rot (t.ch p (!s)) (!s)).short2 p (t.ch (t.ch p (!s)) s) s else t.short2 p (t.ch p (!s)) s
def canTurnShort (t : Rt) (p : Int) (s : Bool) : Prop := t.ar.is p = true ∧ t.ar.is (t.ch p (!s)) = true ∧
  (t.red (t.ch (t.ch p (!s)) (!s)) = false → t.canRot (t.ch p (!s)) (!s) ∧ (t.rot (t.ch p (!s)) (!s)).canShort2 p (t.ch (t.ch p (!s)) s) s) ∧
  (t.red (t.ch (t.ch p (!s)) (!s)) = true → t.canShort2 p (t.ch p (!s)) s)
theorem paint_is (t : Rt) (i : Int) (b : Bool) (j : Int) : (t.paint i b).ar.is j = t.ar.is j := t.tw_is ..
end Rt
/-- What stands beside a way down: a tree of its own, seen from there. -/
def Fr.flip (y : Fr) (x : Tr) : Fr := ⟨!y.s, y.c, y.i, y.g, x⟩
theorem plug_flip (y : Fr) (cx : List Fr) (x : Tr) : plug (y.flip x :: cx) y.o = plug (y :: cx) x := by
  show plug cx (Tr.mk (!y.s) y.c y.o y.i y.g x) = plug cx (Tr.mk y.s y.c x y.i y.g y.o)
  rw [Tr.mk_swap]
section
variable {t : Rt} {cx : List Fr} {s c : Bool} {x : Tr} {i : Nat} {g : G5}
/-- The red one beside is made black. -/
theorem black_rep {y : Fr} {n : Nat} (h : Rep t (plug (y :: cx) x)) (hc : RBC (y :: cx) (n + 1)) : t.canBlack y.i y.s ∧
    ∃ y1 cx1, Rep (t.blackAside y.i y.s) (plug (y1 :: cx1) x) ∧ y1.i = y.i ∧ y1.s = y.s ∧ RBC (y1 :: cx1) (n + 1) ∧ y1.o.isRed = false ∧ (plug (y1 :: cx1) x).ino = (plug (y :: cx) x).ino ∧ (y1.c = true ∨ cx1 = cx) := by
  obtain ⟨ys, yc, yi, yg, yo⟩ := y
  have hp : Rep t (plug cx (Tr.mk ys yc x yi yg yo)) := h
  have ho : Rep t (plug (Fr.flip ⟨ys, yc, yi, yg, yo⟩ x :: cx) yo) := by rw [show yo = Fr.o ⟨ys, yc, yi, yg, yo⟩ from rfl, plug_flip]; exact h
  unfold Rt.canBlack Rt.blackAside
  show _ ∧ ∃ y1 cx1, Rep (if t.red (t.ch (yi : Int) (!ys)) = false then _ else _) _ ∧ _
  rw [hp.ch2, ho.red]
  cases hr : yo.isRed with
  | false =>
    refine ⟨⟨hp.is, fun e => by cases e⟩, ⟨ys, yc, yi, yg, yo⟩, cx, ?_, rfl, rfl, hc, hr, rfl, .inr rfl⟩
    rw [if_pos rfl]; exact h
  | true =>
    rw [if_neg (by simp)]
    obtain ⟨A, a, ga, B, e⟩ := yo.of_red hr ys
    subst e
    rw [Tr.mk_idx]
    obtain ⟨h1, h2, h3⟩ := hc
    have hyc : yc = false := by
      cases e : yc with
      | false => rfl
      | true => have := (h2 e).1; rw [Tr.mk_red] at this; cases this
    subst hyc
    have h3 := h3 rfl
    obtain ⟨k1, k2, k3, k4⟩ := (rb_red ..).1 h1
    have g1 : Rep (t.paint a false) (plug (Fr.flip ⟨ys, false, yi, yg, Tr.mk ys true A a ga B⟩ x :: cx) (Tr.mk ys false A a ga B)) := Rep.setRed (cx := Fr.flip ⟨ys, false, yi, yg, Tr.mk ys true A a ga B⟩ x :: cx) ho false
    have g2 : Rep (t.paint a false) (plug cx (Tr.mk ys false x yi yg (Tr.mk ys false A a ga B))) := by
      rw [← Tr.mk_swap]; exact g1
    have g3 := g2.setRed true
    have g4 := g3.rot
    refine ⟨⟨hp.is, fun _ => ⟨?_, g3.is, ?_⟩⟩, ⟨ys, true, yi, yg, A⟩, ⟨ys, false, a, ga, B⟩ :: cx, g4, rfl, rfl, ⟨k1, fun _ => ⟨k3, rfl, by simp, ?_⟩, fun e => by cases e⟩, k3, ?_, .inl rfl⟩
    · exact Rep.is (cx := Fr.flip ⟨ys, false, yi, yg, Tr.mk ys true A a ga B⟩ x :: cx) ho
    · rw [g3.ch2, Tr.mk_idx, Rt.paint_is, Rt.paint_is]
      exact Rep.is (cx := Fr.flip ⟨ys, false, yi, yg, Tr.mk ys true A a ga B⟩ x :: cx) ho
    · exact ⟨k2, fun e => absurd e (by simp), fun _ => h3⟩
    · show (plug cx (Tr.mk ys false (Tr.mk ys true x yi yg A) a ga B)).ino = (plug cx (Tr.mk ys false x yi yg (Tr.mk ys true A a ga B))).ino
      refine ino_plug_eq cx _ _ ?_
      rw [ino_rot, ino_col ys true false]
      exact ino_mk _ _ _ _ _ _ _ _ rfl (ino_col ..)
/-- The last step of turnShort. -/
theorem short2_rep {pc d : Bool} {N F : Tr} {a p : Nat} {ga gp : G5} {n : Nat} (h : Rep t (plug cx (Tr.mk s pc x p gp (Tr.mk s d N a ga F)))) (hF : RB (F.paint false) (n + 1)) (hN : RB N n) (hx : RB x n)
    (h1 : pc = true → crd cx = false ∧ cx ≠ [] ∧ RBC cx (n + 1)) (h2 : pc = false → RBC cx (n + 2)) :
    t.canShort2 p a s ∧ ∃ z, Rep (t.short2 p a s) (plug cx z) ∧ Rbt (plug cx z) ∧ (plug cx z).ino = (plug cx (Tr.mk s pc x p gp (Tr.mk s d N a ga F))).ino := by
  have hFn : F.idx ≠ -1 := by
    intro e
    have := F.idx_nil e
    subst this
    have : n + 1 = 0 := hF
    omega
  obtain ⟨fc, FA, f, gf, FB, rfl⟩ := F.of_idx hFn s
  rw [Tr.mk_paint] at hF
  obtain ⟨m, hm, j1, j2⟩ := (rb_black ..).1 hF
  have hm : m = n := by omega
  subst hm
  have hpr := h.red
  rw [Tr.mk_idx, Tr.mk_red] at hpr
  have ha : Rep t (plug (⟨!s, pc, p, gp, x⟩ :: cx) (Tr.mk s d N a ga (Tr.mk s fc FA f gf FB))) := by
    show Rep t (plug cx (Tr.mk (!s) pc _ p gp x)); rw [Tr.mk_swap]; exact h
  have g1 := ha.setRed pc
  have g1' : Rep (t.paint a pc) (plug cx (Tr.mk s pc x p gp (Tr.mk s pc N a ga (Tr.mk s fc FA f gf FB)))) := by rw [← Tr.mk_swap]; exact g1
  have g2 : Rep (t.short1 p a) (plug cx (Tr.mk s false x p gp (Tr.mk s pc N a ga (Tr.mk s fc FA f gf FB)))) := by
    unfold Rt.short1; rw [hpr]; exact g1'.setRed false
  have g2a : Rep (t.short1 p a) (plug (⟨!s, false, p, gp, x⟩ :: cx) (Tr.mk s pc N a ga (Tr.mk s fc FA f gf FB))) := by
    show Rep _ (plug cx (Tr.mk (!s) false _ p gp x)); rw [Tr.mk_swap]; exact g2
  have e2 : (t.short1 p a).ch a (!s) = (f : Int) := by rw [g2a.ch2, Tr.mk_idx]
  have g2f : Rep (t.short1 p a) (plug (⟨!s, pc, a, ga, N⟩ :: ⟨!s, false, p, gp, x⟩ :: cx) (Tr.mk s fc FA f gf FB)) := by
    show Rep _ (plug (_ :: cx) (Tr.mk (!s) pc _ a ga N)); rw [Tr.mk_swap]; exact g2a
  have g3 := g2f.setRed false
  have g3a : Rep ((t.short1 p a).paint f false) (plug (⟨!s, false, p, gp, x⟩ :: cx) (Tr.mk s pc N a ga (Tr.mk s false FA f gf FB))) := by
    rw [← Tr.mk_swap]; exact g3
  have g4 : Rep ((t.short1 p a).paint f false) (plug cx (Tr.mk s false x p gp (Tr.mk s pc N a ga (Tr.mk s false FA f gf FB)))) := by
    rw [← Tr.mk_swap]; exact g3a
  have g5 := g4.rot
  unfold Rt.canShort2 Rt.short2
  rw [e2]
  have js : ∀ k : Int, (t.short1 p a).ar.is k = t.ar.is k := fun k => by unfold Rt.short1; rw [Rt.paint_is, Rt.paint_is]
  refine ⟨⟨ha.is, h.is, ?_, g4.is, ?_⟩, _, g5, ?_, ?_⟩
  · rw [← js]; exact g2f.is
  · rw [g4.ch2, Tr.mk_idx, Rt.paint_is, js]; exact ha.is
  · have b1 : RB (Tr.mk s false x p gp N) (m + 1) := (rb_black ..).2 ⟨m, rfl, hx, hN⟩
    have b2 : RB (Tr.mk s false FA f gf FB) (m + 1) := (rb_black ..).2 ⟨m, rfl, j1, j2⟩
    cases pc with
    | true =>
      obtain ⟨q1, q2, q3⟩ := h1 rfl
      exact rb_plug _ _ (m + 1) q3 ((rb_red ..).2 ⟨b1, b2, Tr.mk_red .., Tr.mk_red ..⟩) (fun _ => ⟨q1, q2⟩)
    | false => exact rb_plug _ _ (m + 2) (h2 rfl) ((rb_black ..).2 ⟨m + 1, rfl, b1, b2⟩) (fun e => by rw [Tr.mk_red] at e; cases e)
  · refine ino_plug_eq cx _ _ ?_
    rw [ino_rot, ino_col s false pc]
    refine ino_mk _ _ _ _ _ _ _ _ rfl ?_
    rw [ino_col s pc d]
    exact ino_mk _ _ _ _ _ _ _ _ rfl (ino_col ..)
/-- A red node below the black one beside mends it. -/
theorem turnShort_rep {y : Fr} {n : Nat} {N F : Tr} {a : Nat} {ga : G5} (h : Rep t (plug (y :: cx) x)) (ho : y.o = Tr.mk y.s false N a ga F) (hc : RBC (y :: cx) (n + 1)) (hx : RB x n) (hr : N.isRed = true ∨ F.isRed = true) :
    t.canTurnShort y.i y.s ∧ Fin (t.turnShort y.i y.s) (plug (y :: cx) x).ino := by
  obtain ⟨s, pc, p, gp, yo⟩ := y
  simp only at ho
  subst ho
  obtain ⟨h1, h2, h3⟩ := hc
  obtain ⟨m, hm, j1, j2⟩ := (rb_black ..).1 h1
  have hm : m = n := by omega
  subst hm
  have hp : Rep t (plug cx (Tr.mk s pc x p gp (Tr.mk s false N a ga F))) := h
  have ha : Rep t (plug (⟨!s, pc, p, gp, x⟩ :: cx) (Tr.mk s false N a ga F)) := by
    show Rep t (plug cx (Tr.mk (!s) pc _ p gp x)); rw [Tr.mk_swap]; exact h
  have hN : Rep t (plug (⟨s, false, a, ga, F⟩ :: ⟨!s, pc, p, gp, x⟩ :: cx) N) := ha
  have hF : Rep t (plug (⟨!s, false, a, ga, N⟩ :: ⟨!s, pc, p, gp, x⟩ :: cx) F) := by
    show Rep t (plug (_ :: cx) (Tr.mk (!s) false _ a ga N)); rw [Tr.mk_swap]; exact ha
  have e1 : t.ch (p : Int) (!s) = (a : Int) := by rw [hp.ch2, Tr.mk_idx]
  have e2 : t.ch (a : Int) (!s) = F.idx := ha.ch2
  have e3 : t.ch (a : Int) s = N.idx := ha.ch
  have e4 : t.red F.idx = F.isRed := hF.red
  have q1 : pc = true → crd cx = false ∧ cx ≠ [] ∧ RBC cx (m + 1) := fun e => ⟨(h2 e).2.1, (h2 e).2.2.1, (h2 e).2.2.2⟩
  have q2 : pc = false → RBC cx (m + 2) := h3
  unfold Rt.canTurnShort Rt.turnShort
  show _ ∧ Fin (if t.red (t.ch (t.ch (p : Int) (!s)) (!s)) = false then (t.rot (t.ch (p : Int) (!s)) (!s)).short2 p (t.ch (t.ch (p : Int) (!s)) s) s else t.short2 p (t.ch (p : Int) (!s)) s) _
  show (t.ar.is (p : Int) = true ∧ t.ar.is (t.ch (p : Int) (!s)) = true ∧ (t.red (t.ch (t.ch (p : Int) (!s)) (!s)) = false → _) ∧ (t.red (t.ch (t.ch (p : Int) (!s)) (!s)) = true → t.canShort2 p (t.ch (p : Int) (!s)) s)) ∧ _
  rw [e1, e2, e3, e4]
  cases hFr : F.isRed with
  | true =>
    rw [if_neg (by simp)]
    obtain ⟨z1, z, z2, z3, z4⟩ := short2_rep hp (rb_paint F _ j2 hFr) j1 hx q1 q2
    exact ⟨⟨hp.is, ha.is, fun e => (by cases e), fun _ => z1⟩, _, z2, z3, z4⟩
  | false =>
    rw [if_pos rfl]
    have hNr : N.isRed = true := by
      rcases hr with h | h
      · exact h
      · rw [hFr] at h; cases h
    obtain ⟨nn, q, gq, nf, rfl⟩ := N.of_red hNr s
    rw [Tr.mk_idx]
    obtain ⟨k1, k2, k3, k4⟩ := (rb_red ..).1 j1
    have g0 : Rep t (plug (⟨!s, pc, p, gp, x⟩ :: cx) (Tr.mk (!s) false F a ga (Tr.mk (!s) true nf q gq nn))) := by
      rw [Tr.mk_swap, Tr.mk_swap]; exact ha
    have g1 := g0.rot
    have g2 : Rep (t.rot a (!s)) (plug cx (Tr.mk s pc x p gp (Tr.mk s true nn q gq (Tr.mk s false nf a ga F)))) := by
      have g1' : Rep (t.rot a (!s)) (plug cx (Tr.mk (!s) pc (Tr.mk (!s) true (Tr.mk (!s) false F a ga nf) q gq nn) p gp x)) := g1
      rw [Tr.mk_swap, Tr.mk_swap, Tr.mk_swap] at g1'; exact g1'
    obtain ⟨z1, z, z2, z3, z4⟩ := short2_rep g2 (by rw [Tr.mk_paint]; exact (rb_black ..).2 ⟨m, rfl, k2, j2⟩) k1 hx q1 q2
    have hq : Rep t (plug (⟨s, false, a, ga, F⟩ :: ⟨!s, pc, p, gp, x⟩ :: cx) (Tr.mk s true nn q gq nf)) := ha
    refine ⟨⟨hp.is, ha.is, fun _ => ⟨⟨ha.is, ?_⟩, z1⟩, fun e => (by cases e)⟩, _, z2, z3, z4.trans ?_⟩
    · rw [Bool.not_not, e3, Tr.mk_idx]; exact hq.is
    · show _ = (plug cx (Tr.mk s pc x p gp (Tr.mk s false (Tr.mk s true nn q gq nf) a ga F))).ino
      refine ino_plug_eq cx _ _ (ino_mk _ _ _ _ _ _ _ _ rfl ?_)
      have := ino_rot (!s) false true F nf nn a q ga gq
      rw [Tr.mk_swap, Tr.mk_swap, Tr.mk_swap, Tr.mk_swap] at this
      exact this
/-- The ways down through the side s of p lack a black one. -/
def ShInv (t : Rt) (p : Int) (s : Bool) (L : List G5) (k : Nat) : Prop := ∃ cx x n, Rep t (plug cx x) ∧ p = cpi cx ∧ s = csd cx ∧ RBC cx (n + 1) ∧ RB x n ∧ x.isRed = false ∧ (plug cx x).ino = L ∧ cx.length = k
theorem ShInv.stop {p : Int} {L : List G5} {k : Nat} (h : ShInv t p s L k) (hp : p = -1) : Fin t L := by
  obtain ⟨cx, x, n, h1, rfl, rfl, h4, h5, h6, h7, h8⟩ := h
  cases cx with
  | nil => exact ⟨_, h1, ⟨⟨n, h5⟩, h6⟩, h7⟩
  | cons y cx =>
    have : (y.i : Int) = -1 := hp
    omega
/-- A round. -/
theorem ShInv.step {p : Int} {L : List G5} {k : Nat} (h : ShInv t p s L k) (hp : p ≠ -1) :
    t.canBlack p s ∧ (t.blackAside p s).ar.is p = true ∧ (t.blackAside p s).ar.is ((t.blackAside p s).ch p (!s)) = true ∧
    (((t.blackAside p s).red ((t.blackAside p s).ch ((t.blackAside p s).ch p (!s)) false) = true ∨ (t.blackAside p s).red ((t.blackAside p s).ch ((t.blackAside p s).ch p (!s)) true) = true) →
      (t.blackAside p s).canTurnShort p s ∧ Fin ((t.blackAside p s).turnShort p s) L) ∧
    ((t.blackAside p s).red ((t.blackAside p s).ch ((t.blackAside p s).ch p (!s)) false) = false → (t.blackAside p s).red ((t.blackAside p s).ch ((t.blackAside p s).ch p (!s)) true) = false →
      (((t.blackAside p s).paint ((t.blackAside p s).ch p (!s)) true).red p = true → Fin (((t.blackAside p s).paint ((t.blackAside p s).ch p (!s)) true).paint p false) L) ∧
      (((t.blackAside p s).paint ((t.blackAside p s).ch p (!s)) true).red p = false → ∃ m, m < k ∧ ShInv ((t.blackAside p s).paint ((t.blackAside p s).ch p (!s)) true) (((t.blackAside p s).paint ((t.blackAside p s).ch p (!s)) true).pa p) (((t.blackAside p s).paint ((t.blackAside p s).ch p (!s)) true).sd p) L m)) := by
  obtain ⟨cx, x, n, h1, rfl, rfl, h4, h5, h6, h7, h8⟩ := h
  cases cx with
  | nil => exact absurd rfl hp
  | cons y cx =>
    obtain ⟨q1, y1, cx1, q2, q3, q4, q5, q6, q7, q8⟩ := black_rep h1 h4
    show t.canBlack (y.i : Int) y.s ∧ _
    rw [show cpi (y :: cx) = (y.i : Int) from rfl, show csd (y :: cx) = y.s from rfl]
    refine ⟨q1, ?_⟩
    generalize t.blackAside (y.i : Int) y.s = t1 at q2 ⊢
    rw [← q3, ← q4]
    obtain ⟨s1, c1, i1, g1, o1⟩ := y1
    simp only at q2 q3 q4 q5 q6 q7 q8 ⊢
    have hon : o1.idx ≠ -1 := by
      intro e
      have := o1.idx_nil e
      subst this
      have : n + 1 = 0 := q5.1
      omega
    obtain ⟨oc, N, a, ga, F, rfl⟩ := o1.of_idx hon s1
    have hoc : oc = false := by rw [Tr.mk_red] at q6; exact q6
    subst hoc
    have hp : Rep t1 (plug cx1 (Tr.mk s1 c1 x i1 g1 (Tr.mk s1 false N a ga F))) := q2
    have ha : Rep t1 (plug (⟨!s1, c1, i1, g1, x⟩ :: cx1) (Tr.mk s1 false N a ga F)) := by
      show Rep t1 (plug cx1 (Tr.mk (!s1) c1 _ i1 g1 x)); rw [Tr.mk_swap]; exact q2
    have hN : Rep t1 (plug (⟨s1, false, a, ga, F⟩ :: ⟨!s1, c1, i1, g1, x⟩ :: cx1) N) := ha
    have hF : Rep t1 (plug (⟨!s1, false, a, ga, N⟩ :: ⟨!s1, c1, i1, g1, x⟩ :: cx1) F) := by
      show Rep t1 (plug (_ :: cx1) (Tr.mk (!s1) false _ a ga N)); rw [Tr.mk_swap]; exact ha
    rw [hp.ch2, Tr.mk_idx]
    have both : (t1.red (t1.ch a false) = N.isRed ∧ t1.red (t1.ch a true) = F.isRed) ∨ (t1.red (t1.ch a false) = F.isRed ∧ t1.red (t1.ch a true) = N.isRed) := by
      have e1 := ha.ch
      have e2 := ha.ch2
      cases s1 with
      | false =>
        rw [show (!false) = true from rfl] at e2
        exact .inl ⟨by rw [e1]; exact hN.red, by rw [e2]; exact hF.red⟩
      | true =>
        rw [show (!true) = false from rfl] at e2
        exact .inr ⟨by rw [e2]; exact hF.red, by rw [e1]; exact hN.red⟩
    refine ⟨hp.is, ha.is, fun hr => ?_, fun hr1 hr2 => ?_⟩
    · have hr' : N.isRed = true ∨ F.isRed = true := by
        rcases both with ⟨e1, e2⟩ | ⟨e1, e2⟩
        · rw [e1, e2] at hr; exact hr
        · rw [e1, e2] at hr; exact hr.symm
      have := turnShort_rep q2 rfl q5 h5 hr'
      rw [q7, h7] at this
      exact this
    · have hr' : N.isRed = false ∧ F.isRed = false := by
        rcases both with ⟨e1, e2⟩ | ⟨e1, e2⟩
        · exact ⟨e1 ▸ hr1, e2 ▸ hr2⟩
        · exact ⟨e2 ▸ hr2, e1 ▸ hr1⟩
      have g1' := ha.setRed true
      have g2 : Rep (t1.paint a true) (plug cx1 (Tr.mk s1 c1 x i1 g1 (Tr.mk s1 true N a ga F))) := by rw [← Tr.mk_swap]; exact g1'
      obtain ⟨z1, z2, z3⟩ := q5
      obtain ⟨m, hm, j1, j2⟩ := (rb_black ..).1 z1
      have hm : m = n := by omega
      subst hm
      have bo : RB (Tr.mk s1 true N a ga F) m := (rb_red ..).2 ⟨j1, j2, hr'.1, hr'.2⟩
      have hino : (plug cx1 (Tr.mk s1 false x i1 g1 (Tr.mk s1 true N a ga F))).ino = L := by
        rw [← h7, ← q7]
        show _ = (plug cx1 (Tr.mk s1 c1 x i1 g1 (Tr.mk s1 false N a ga F))).ino
        refine ino_plug_eq cx1 _ _ ?_
        rw [ino_col s1 false c1]
        exact ino_mk _ _ _ _ _ _ _ _ rfl (ino_col ..)
      have bn : RB (Tr.mk s1 false x i1 g1 (Tr.mk s1 true N a ga F)) (m + 1) := (rb_black ..).2 ⟨m, rfl, h5, bo⟩
      have hpr := g2.red
      rw [Tr.mk_idx, Tr.mk_red] at hpr
      rw [hpr, g2.pa, g2.sd]
      refine ⟨fun e => ?_, fun e => ?_⟩
      · subst e
        exact ⟨_, g2.setRed false, rb_plug _ _ (m + 1) (z2 rfl).2.2.2 bn (fun e => by rw [Tr.mk_red] at e; cases e), hino⟩
      · subst e
        have : cx1 = cx := q8.resolve_left (by simp)
        subst this
        exact ⟨cx1.length, by simp at h8; omega, cx1, _, m + 1, g2, rfl, rfl, z3 rfl, bn, Tr.mk_red .., hino, rfl⟩
end
end Go.Proofs.Ytakkmnhiaddnnaa.Bo

/- A node is hung in, a node is taken out. No Go in sight. -/
namespace Go.Proofs.Ytakkmnhiaddnnaa.Bo
/-- A thing is put in the place i. -/
structure Puts (a : Ag Nd) (v : Nd) (i : Nat) (b : Ag Nd) : Prop where
  ok : b.ok
  was : a.is (i : Int) = false
  look : b.look = upd a.look (i : Int) v
  is : ∀ j : Int, b.is j = true ↔ j = (i : Int) ∨ a.is j = true
  room : b.room = a.room
  len : b.len = a.len + 1
theorem look_of_is (a b : Ag Nd) (v : Nd) (i : Nat) (his : ∀ j : Int, b.is j = true ↔ j = (i : Int) ∨ a.is j = true) (h1 : b.l.getD i ndZ = v) (h2 : ∀ j : Nat, j ≠ i → a.is (j : Int) = true → b.l.getD j ndZ = a.l.getD j ndZ) : b.look = upd a.look (i : Int) v := by
  funext j
  show (if b.is j = true then some (b.l.getD j.toNat ndZ) else none) = if j = (i : Int) then some v else (if a.is j = true then some (a.l.getD j.toNat ndZ) else none)
  by_cases e : j = (i : Int)
  · subst e
    rw [if_pos ((his _).2 (.inl rfl)), if_pos rfl, Int.toNat_natCast, h1]
  · rw [if_neg e]
    by_cases k : a.is j = true
    · rw [if_pos k, if_pos ((his j).2 (.inr k))]
      have hk := (a.is_iff j).1 k
      obtain ⟨n, rfl⟩ : ∃ n : Nat, j = (n : Int) := ⟨j.toNat, by omega⟩
      rw [Int.toNat_natCast, h2 n (fun h => e (by rw [h])) k]
    · rw [if_neg k, if_neg (fun h => ((his j).1 h).elim e k)]
theorem puts_take (a : Ag Nd) (fs : List Int) (f : Nat) (v : Nd) (h : a.ok) (hf : a.free = fs ++ [(f : Int)]) (hr : a.len < a.room) : Puts a v f (a.take fs f v) := by
  have hfi := h.free (f : Int) (by rw [hf]; simp)
  have hev := h.ever
  have hlt : f < a.l.length := by omega
  have hnd := h.once
  rw [hf, List.nodup_append] at hnd
  have hnot : (f : Int) ∉ fs := fun h => hnd.2.2 _ h _ (List.mem_singleton.2 rfl) rfl
  have his : ∀ j : Int, (a.take fs f v).is j = true ↔ j = (f : Int) ∨ a.is j = true := by
    intro j
    rw [Ag.is_iff, Ag.is_iff, hf]
    show j ∉ fs ∧ 0 ≤ j ∧ j < a.ever ↔ _
    rw [List.mem_append, List.mem_singleton]
    constructor
    · rintro ⟨h1, h2, h3⟩
      by_cases e : j = (f : Int)
      · exact .inl e
      · exact .inr ⟨fun k => k.elim h1 e, h2, h3⟩
    · rintro (rfl | ⟨h1, h2, h3⟩)
      · exact ⟨hnot, hfi.1, hfi.2⟩
      · exact ⟨fun k => h1 (.inl k), h2, h3⟩
  refine ⟨a.take_ok fs f v h hf hr, ?_, look_of_is a _ v f his (agetD_set_self _ _ _ _ hlt) (fun j hj _ => agetD_set_ne _ _ _ _ _ (fun e => hj e.symm)), his, rfl, ?_⟩
  · cases e : a.is (f : Int) with
    | false => rfl
    | true => exact absurd (by rw [hf]; simp) ((a.is_iff _).1 e).1
  · show a.ever - (fs.length : Int) = a.ever - (a.free.length : Int) + 1
    rw [hf]; simp; omega
theorem puts_grow (a : Ag Nd) (v : Nd) (h : a.ok) (hf : a.free = []) (hr : a.len < a.room) : Puts a v a.l.length (a.grow v) := by
  have hev := h.ever
  have his : ∀ j : Int, (a.grow v).is j = true ↔ j = (a.l.length : Int) ∨ a.is j = true := by
    intro j
    rw [Ag.is_iff, Ag.is_iff]
    show j ∉ a.free ∧ 0 ≤ j ∧ j < a.ever + 1 ↔ _
    rw [hf]
    simp only [List.not_mem_nil, not_false_eq_true, true_and]
    omega
  refine ⟨a.grow_ok v h hf hr, ?_, look_of_is a _ v _ his ?_ (fun j hj k => ?_), his, rfl, ?_⟩
  · cases e : a.is (a.l.length : Int) with
    | false => rfl
    | true => have := ((a.is_iff _).1 e).2.2; omega
  · show (a.l ++ [v]).getD a.l.length ndZ = v
    rw [List.getD_eq_getElem?_getD, List.getElem?_append_right (Nat.le_refl _)]; simp
  · have := ((a.is_iff _).1 k).2.2
    show (a.l ++ [v]).getD j ndZ = _
    rw [List.getD_eq_getElem?_getD, List.getD_eq_getElem?_getD, List.getElem?_append_left (by omega)]
  · show a.ever + 1 - (a.free.length : Int) = a.ever - (a.free.length : Int) + 1
    omega
/-- A tree in an arena in which there may be more. -/
structure RepL (t : Rt) (x : Tr) : Prop where
  root : t.root = x.idx
  rep : RepT t.look x (-1)
theorem Rep.l {t : Rt} {x : Tr} (h : Rep t x) : RepL t x := ⟨h.root, h.rep⟩
/-- What was put is not in the tree yet. -/
theorem Rep.puts {t : Rt} {x : Tr} {v : Nd} {i : Nat} {b : Ag Nd} (h : Rep t x) (hp : Puts t.ar v i b) : RepL ⟨b, t.root⟩ x ∧ i ∉ x.ids := by
  have hi : i ∉ x.ids := by
    intro k
    obtain ⟨n, e⟩ := repT_in x _ h.rep i k
    have := (t.ar.look_some _ _ e).1
    rw [hp.was] at this; cases this
  refine ⟨⟨h.root, ?_⟩, hi⟩
  show RepT b.look x (-1)
  rw [hp.look]
  exact repT_congr x _ (fun k hk => upd_ne _ _ _ (natne fun e => hi (e ▸ hk))) h.rep
/-- A red leaf is hung in. -/
theorem Rep.add {t : Rt} {cx : List Fr} {g : G5} {i : Nat} {b : Ag Nd} (h : Rep t (plug cx .nil)) (hp : Puts t.ar ⟨g, 0, -1, -1, false⟩ i b) :
    Rep (((⟨b, t.root⟩ : Rt).hang i (cpi cx) (csd cx)).paint i true) (plug cx (.node true .nil i g .nil)) := by
  obtain ⟨_, hi⟩ := h.puts hp
  obtain ⟨h1, _, h3, _, _⟩ := h.parts
  rw [plug_mem] at hi
  have xi : i ∉ cids cx := fun k => hi (.inl k)
  have hL : ((⟨b, t.root⟩ : Rt).hang i (cpi cx) (csd cx)).look = hangf (upd t.look (i : Int) ⟨g, 0, -1, -1, false⟩) i (cpi cx) (csd cx) := by
    rw [Rt.hang_look _ _ _ _ hp.ok, show (⟨b, t.root⟩ : Rt).look = b.look from rfl, hp.look]
  have c0 := repC_congr (f' := upd t.look (i : Int) ⟨g, 0, -1, -1, false⟩) cx _ (fun k hk => upd_ne _ _ _ (natne fun e => xi (e ▸ hk))) h1
  have c1 := hangf_way cx _ (i : Int) c0 h3 (fun k hk => natne fun e => xi (e ▸ hk)) (csd cx) (csd_of cx)
  have i1 : hangf (upd t.look (i : Int) ⟨g, 0, -1, -1, false⟩) i (cpi cx) (csd cx) i = some ⟨g, cpi cx, -1, -1, false⟩ :=
    (hangf_j _ _ _ _ (cpi_ne cx i xi) (upd_self _ _)).trans rfl
  have hr : Rep ((⟨b, t.root⟩ : Rt).hang i (cpi cx) (csd cx)) (plug cx (Tr.mk false false .nil i g .nil)) := by
    refine ⟨Rt.hang_ok _ _ _ _ hp.ok, ?_, ?_, ?_, ?_⟩
    · rw [Rt.hang_root]
      show (if b.is (cpi cx) = true then t.root else (i : Int)) = _
      cases cx with
      | nil =>
        rw [if_neg]
        · rfl
        · intro k
          rcases (hp.is _).1 k with e | e
          · exact absurd e (by show (-1 : Int) ≠ _; omega)
          · have := (t.ar.is_iff _).1 e
            have : (0 : Int) ≤ -1 := this.2.1
            omega
      | cons y cx =>
        rw [if_pos ((hp.is _).2 (.inr (cpi_is h1)))]
        exact h.root.trans (plug_idx _ _ _ (by simp))
    · rw [hL, rep_plug]
      exact ⟨c1, i1, trivial, trivial⟩
    · rw [plug_nodup]
      refine ⟨h3, by simp [Tr.mk, Tr.ids], fun k hk => ?_⟩
      simp [Tr.mk, Tr.ids] at hk
      subst hk; exact xi
    · intro k hk
      rw [Rt.hang_is] at hk
      rw [plug_mem]
      rcases (hp.is _).1 hk with e | e
      · have : k = i := by omega
        subst this; exact .inr (by simp [Tr.mk, Tr.ids])
      · have := h.all k e
        rw [plug_mem] at this
        rcases this with e | e
        · exact .inl e
        · simp [Tr.ids] at e
  exact hr.setRed true
theorem add_red {t : Rt} {cx : List Fr} {g : G5} {i : Nat} (h : Rep t (plug cx (.node true .nil i g .nil))) (hb : Rbt (plug cx .nil)) : RedInv t i (cpre cx ++ g :: cpost cx) cx.length := by
  obtain ⟨n, h1, h2, _⟩ := rb_unplug cx .nil hb
  refine ⟨cx, _, n, h, rfl, rfl, h1, ⟨h2, h2, rfl, rfl⟩, ?_, rfl⟩
  rw [ino_plug]
  simp [Tr.ino]
theorem Ag.look_drop (a : Ag Nd) (i : Nat) (j : Int) : (a.drop (i : Int)).look j = if j = (i : Int) then none else a.look j := by
  have his : (a.drop (i : Int)).is j = true ↔ j ≠ (i : Int) ∧ a.is j = true := by
    rw [Ag.is_iff, Ag.is_iff]
    show j ∉ a.free ++ [(i : Int)] ∧ 0 ≤ j ∧ j < a.ever ↔ _
    rw [List.mem_append, List.mem_singleton, not_or]
    exact ⟨fun ⟨⟨h1, h2⟩, h3⟩ => ⟨h2, h1, h3⟩, fun ⟨h2, h1, h3⟩ => ⟨⟨h1, h2⟩, h3⟩⟩
  show (if (a.drop (i : Int)).is j = true then some (a.l.getD j.toNat ndZ) else none) = if j = (i : Int) then none else (if a.is j = true then some (a.l.getD j.toNat ndZ) else none)
  by_cases e : j = (i : Int)
  · rw [if_pos e, if_neg (fun h => (his.1 h).1 e)]
  · rw [if_neg e]
    by_cases k : a.is j = true
    · rw [if_pos k, if_pos (his.2 ⟨e, k⟩)]
    · rw [if_neg k, if_neg (fun h => k (his.1 h).2)]
/-- A node with one child at most is taken out. -/
theorem Rep.out {t : Rt} {cx : List Fr} {s c : Bool} {y : Tr} {i : Nat} {g : G5} (h : Rep t (plug cx (Tr.mk s c y i g .nil))) :
    Rep ⟨(t.hang y.idx (cpi cx) (csd cx)).ar.drop (i : Int), (t.hang y.idx (cpi cx) (csd cx)).root⟩ (plug cx y) := by
  obtain ⟨h1, h2, h3, h4, h5⟩ := h.parts
  obtain ⟨fi, rY, _⟩ := (repT_mk ..).1 h2
  obtain ⟨nY, _, iY, _, _⟩ := (Tr.mk_nodup ..).1 h4
  simp only [Tr.mk_mem] at h5
  rw [Tr.mk_idx] at h1
  have xi : i ∉ cids cx := h5 i (.inl rfl)
  have xY : ∀ k ∈ y.ids, k ∉ cids cx := fun k hk => h5 k (.inr (.inl hk))
  have hL : (t.hang y.idx (cpi cx) (csd cx)).look = hangf t.look y.idx (cpi cx) (csd cx) := Rt.hang_look _ _ _ _ h.ok
  have hd : ∀ k : Nat, k ≠ i → ((t.hang y.idx (cpi cx) (csd cx)).ar.drop (i : Int)).look (k : Int) = hangf t.look y.idx (cpi cx) (csd cx) k := by
    intro k hk
    rw [Ag.look_drop, if_neg (natne hk)]
    exact congrFun hL _
  have yC : ∀ k ∈ cids cx, (k : Int) ≠ y.idx := fun k hk => idx_ne y k (fun e => xY k e hk)
  have c1 := hangf_way cx _ y.idx h1 h3 yC (csd cx) (csd_of cx)
  have hsame : (if t.ar.is (cpi cx) = true then t.root else y.idx) = (plug cx y).idx := by
    rw [cpi_is h1]
    cases cx with
    | nil => rfl
    | cons z cx => exact h.root.trans (plug_idx _ _ _ (by simp))
  have ist : t.ar.is (i : Int) = true := (t.ar.look_some _ _ fi).1
  refine ⟨Ag.drop_ok _ _ (Rt.hang_ok _ _ _ _ h.ok) (by rw [Rt.hang_is]; exact ist), ?_, ?_, ?_, ?_⟩
  · show (t.hang y.idx (cpi cx) (csd cx)).root = _
    rw [Rt.hang_root]; exact hsame
  · show RepT ((t.hang y.idx (cpi cx) (csd cx)).ar.drop (i : Int)).look _ _
    rw [rep_plug]
    refine ⟨repC_congr _ _ (fun k hk => hd k (fun e => xi (e ▸ hk))) c1, repT_congr _ _ (fun k hk => hd k (fun e => iY (e ▸ hk))) ?_⟩
    exact hangf_tree y i (cpi cx) (csd cx) rY nY (fun k hk e => cpi_ne cx k (xY k hk) e.symm)
  · rw [plug_nodup]; exact ⟨h3, nY, xY⟩
  · intro k hk
    have hk' := (Ag.is_iff _ _).1 hk
    have hki : k ≠ i := by
      rintro rfl
      exact hk'.1 (List.mem_append.2 (.inr (List.mem_singleton.2 rfl)))
    have : (t.hang y.idx (cpi cx) (csd cx)).ar.is (k : Int) = true := (Ag.is_iff _ _).2 ⟨fun e => hk'.1 (List.mem_append.2 (.inl e)), hk'.2⟩
    rw [Rt.hang_is] at this
    have := h.all k this
    simp only [plug_mem, Tr.mk_mem, Tr.ids, List.not_mem_nil, or_false] at this ⊢
    rcases this with e | e | e
    · exact .inl e
    · exact absurd e hki
    · exact .inr e
/-- What is to be mended when a node was taken out. -/
theorem out_rb {t : Rt} {cx : List Fr} {s c : Bool} {y : Tr} {i : Nat} {g : G5} (h : Rep t (plug cx y)) (hb : Rbt (plug cx (Tr.mk s c y i g .nil))) :
    (c = true → Fin t (plug cx y).ino) ∧ (c = false → y.isRed = true → t.ar.is y.idx = true ∧ Fin (t.paint y.idx false) (plug cx y).ino) ∧ (c = false → y.isRed = false → ShInv t (cpi cx) (csd cx) (plug cx y).ino cx.length) := by
  obtain ⟨n, h1, h2, h3⟩ := rb_unplug cx _ hb
  refine ⟨fun e => ?_, fun e hr => ?_, fun e hr => ?_⟩
  · subst e
    obtain ⟨k1, k2, k3, k4⟩ := (rb_red ..).1 h2
    exact ⟨_, h, rb_plug _ _ n h1 k1 (fun e => by rw [k3] at e; cases e), rfl⟩
  · subst e
    obtain ⟨m, rfl, k1, k2⟩ := (rb_black ..).1 h2
    obtain ⟨A, j, gj, B, rfl⟩ := y.of_red hr false
    have k3 := rb_paint _ _ k1 hr
    refine ⟨by rw [Tr.mk_idx]; exact h.is, _, h.paint false, rb_plug _ _ (m + 1) h1 k3 (fun e => by rw [paint_isRed] at e; cases e), ?_⟩
    exact ino_plug_eq cx _ _ (Tr.paint_ino ..)
  · subst e
    obtain ⟨m, rfl, k1, k2⟩ := (rb_black ..).1 h2
    exact ⟨cx, y, m, h, rfl, rfl, h1, k1, hr, rfl, rfl⟩
end Go.Proofs.Ytakkmnhiaddnnaa.Bo

/- The tree in memory; parent, child. -/
namespace Go.Proofs.Ytakkmnhiaddnnaa
open Go.RowKit Go.Sort Go.Proofs.Ytakkmnhiaddnnaa.Bo
set_option linter.unusedVariables false

abbrev tO (A : Nat) (root : Int) : Obj := .cells #[aP A, .int .i64 root] 76 (0, 0)
set_option maxRecDepth 100000 in
theorem rpar_core (T A g n : Nat) (root v : Int) (w : World) (HT : Hid (w.heap[T]? = some (tO A root)))
    (HA : Hid (Calls Try.prog 64 #[aP A, .int .i64 (n : Int)] w fun e w' => e = .returned (.pointer (some ⟨g, n * 10, none⟩)) ∧ w = w'))
    (HC : Hid (w.cell? ⟨g, n * 10 + 5, none⟩ = some (.int .i64 v))) :
    Calls Try.prog 89 #[aP T, .int .i64 (n : Int)] w fun e w' => e = .returned (.int .i64 v) ∧ w = w' := by
  have c0 : w.cell? ⟨T, 0, none⟩ = some (aP A) := (cell_of_row _ _ 0 _ _ _ HT.out).trans rfl
  have c1 := HC.out
  go_enter Try.func89, Try.ntmps89
  go_wp2_with fail
  refine HA.out.mono ?_
  rintro e w' ⟨rfl, rfl⟩
  go_wp2_with fail
  go_ret
  exact ⟨rfl, rfl⟩
/-- A side as a number. -/
def sv (s : Bool) : Int := if s then 1 else 0
set_option maxRecDepth 100000 in
theorem rchild_core (T A g n : Nat) (root v s : Int) (hs : 0 ≤ s ∧ s < 2) (w : World) (HT : Hid (w.heap[T]? = some (tO A root)))
    (HA : Hid (Calls Try.prog 64 #[aP A, .int .i64 (n : Int)] w fun e w' => e = .returned (.pointer (some ⟨g, n * 10, none⟩)) ∧ w = w'))
    (HC : Hid (w.cell? ⟨g, n * 10 + 6 + s.toNat, none⟩ = some (.int .i64 v))) :
    Calls Try.prog 88 #[aP T, .int .i64 (n : Int), .int .i64 s] w fun e w' => e = .returned (.int .i64 v) ∧ w = w' := by
  have c0 : w.cell? ⟨T, 0, none⟩ = some (aP A) := (cell_of_row _ _ 0 _ _ _ HT.out).trans rfl
  have c1 := HC.out
  obtain ⟨i1, i2⟩ := hs
  go_enter Try.func88, Try.ntmps88
  go_wp2_with fail
  refine HA.out.mono ?_
  rintro e w' ⟨rfl, rfl⟩
  go_wp2_with fail
  go_ret
  exact ⟨rfl, rfl⟩
set_option maxRecDepth 100000 in
theorem rred_no_core (T A : Nat) (i root : Int) (w : World) (HT : Hid (w.heap[T]? = some (tO A root)))
    (HA : Hid (Calls Try.prog 64 #[aP A, .int .i64 i] w fun e w' => e = .returned (.pointer none) ∧ w = w')) :
    Calls Try.prog 91 #[aP T, .int .i64 i] w fun e w' => e = .returned (.bool false) ∧ w = w' := by
  have c0 : w.cell? ⟨T, 0, none⟩ = some (aP A) := (cell_of_row _ _ 0 _ _ _ HT.out).trans rfl
  go_enter Try.func91, Try.ntmps91
  go_wp2_with fail
  refine HA.out.mono ?_
  rintro e w' ⟨rfl, rfl⟩
  go_wp2_with fail
  go_ret
  exact ⟨rfl, rfl⟩
set_option maxRecDepth 100000 in
theorem rred_core (T A g n : Nat) (root : Int) (b : Bool) (w : World) (HT : Hid (w.heap[T]? = some (tO A root)))
    (HA : Hid (Calls Try.prog 64 #[aP A, .int .i64 (n : Int)] w fun e w' => e = .returned (.pointer (some ⟨g, n * 10, none⟩)) ∧ w = w'))
    (HC : Hid (w.cell? ⟨g, n * 10 + 8, none⟩ = some (.bool b))) :
    Calls Try.prog 91 #[aP T, .int .i64 (n : Int)] w fun e w' => e = .returned (.bool b) ∧ w = w' := by
  have c0 : w.cell? ⟨T, 0, none⟩ = some (aP A) := (cell_of_row _ _ 0 _ _ _ HT.out).trans rfl
  have c1 := HC.out
  go_enter Try.func91, Try.ntmps91
  go_wp2_with fail
  refine HA.out.mono ?_
  rintro e w' ⟨rfl, rfl⟩
  go_wp2_with fail
  go_ret
  exact ⟨rfl, rfl⟩
set_option maxRecDepth 100000 in
theorem rpaint_core (T A g n : Nat) (root : Int) (b : Bool) (o : Value) (w : World) (HT : Hid (w.heap[T]? = some (tO A root)))
    (HA : Hid (Calls Try.prog 64 #[aP A, .int .i64 (n : Int)] w fun e w' => e = .returned (.pointer (some ⟨g, n * 10, none⟩)) ∧ w = w'))
    (HC : Hid (w.cell? ⟨g, n * 10 + 8, none⟩ = some o)) (HF : Hid (w.frozen? ⟨g, n * 10 + 8, none⟩ = false)) :
    Calls Try.prog 86 #[aP T, .int .i64 (n : Int), .bool b] w fun e w' => e = .returned (.tuple #[]) ∧ w.setCell ⟨g, n * 10 + 8, none⟩ (.bool b) = w' := by
  have c0 : w.cell? ⟨T, 0, none⟩ = some (aP A) := (cell_of_row _ _ 0 _ _ _ HT.out).trans rfl
  have c1 := HC.out
  have c2 := HF.out
  go_enter Try.func86, Try.ntmps86
  go_wp2_with fail
  refine HA.out.mono ?_
  rintro e w' ⟨rfl, rfl⟩
  go_wp2_with fail
  go_end0
  exact ⟨rfl, rfl⟩
set_option maxRecDepth 100000 in
set_option maxHeartbeats 1000000 in
theorem rside_no_core (T A n : Nat) (pp root : Int) (w : World) (HT : Hid (w.heap[T]? = some (tO A root)))
    (HP : Hid (∀ W, Go.RowKit.Below w.heap.size w W → Calls Try.prog 89 #[aP T, .int .i64 (n : Int)] W fun e w' => e = .returned (.int .i64 pp) ∧ Go.RowKit.Below W.heap.size W w'))
    (HA : Hid (∀ W, Go.RowKit.Below w.heap.size w W → Calls Try.prog 64 #[aP A, .int .i64 pp] W fun e w' => e = .returned (.pointer none) ∧ Go.RowKit.Below W.heap.size W w')) :
    Calls Try.prog 90 #[aP T, .int .i64 (n : Int)] w fun e w' => e = .returned (.int .i64 0) ∧ Go.RowKit.Below w.heap.size w w' := by
  have mx := mixed
  have c0 : w.cell? ⟨T, 0, none⟩ = some (aP A) := (cell_of_row _ _ 0 _ _ _ HT.out).trans rfl
  have p0 := cell_regrown c0
  clear c0
  go_enter Try.func90, Try.ntmps90
  go_wp2_with fail
  refine wp_region_quiet_below (by assumption) (by kernel_rfl) ?_
  repeat (go_big_quiet_step (first
    | (go_at_call 89; exact Calls.regrown_of (HP.out _ (below_regrown _ _ _)))
    | (go_at_call 64; exact Calls.regrown_of (HA.out _ (below_regrown _ _ _)))))
  refine wpQuiet_nil ?_
  intro _ hw'
  obtain ⟨⟨nq, osq⟩, hw''⟩ := hw'
  subst hw''
  have hB := below_regrown w nq osq
  clear p0
  generalize grow (redrawn w nq) osq = Y at *
  go_wp2_with fail
  go_ret
  exact ⟨rfl, hB⟩
set_option maxRecDepth 100000 in
set_option maxHeartbeats 1000000 in
theorem rside_core (T A n g m : Nat) (v root : Int) (b : Bool) (w : World) (HT : Hid (w.heap[T]? = some (tO A root)))
    (HP : Hid (∀ W, Go.RowKit.Below w.heap.size w W → Calls Try.prog 89 #[aP T, .int .i64 (n : Int)] W fun e w' => e = .returned (.int .i64 (m : Int)) ∧ Go.RowKit.Below W.heap.size W w'))
    (HA : Hid (∀ W, Go.RowKit.Below w.heap.size w W → Calls Try.prog 64 #[aP A, .int .i64 (m : Int)] W fun e w' => e = .returned (.pointer (some ⟨g, m * 10, none⟩)) ∧ Go.RowKit.Below W.heap.size W w'))
    (HC : Hid (w.cell? ⟨g, m * 10 + 7, none⟩ = some (.int .i64 v))) (HB : Hid ((v == (n : Int)) = b)) :
    Calls Try.prog 90 #[aP T, .int .i64 (n : Int)] w fun e w' => e = .returned (.int .i64 (sv b)) ∧ Go.RowKit.Below w.heap.size w w' := by
  have mx := mixed
  have c0 : w.cell? ⟨T, 0, none⟩ = some (aP A) := (cell_of_row _ _ 0 _ _ _ HT.out).trans rfl
  have p0 := cell_regrown c0
  have HC1 := Lib.hid (cell_regrown HC.out)
  clear c0
  go_enter Try.func90, Try.ntmps90
  go_wp2_with fail
  refine wp_region_quiet_below (by assumption) (by kernel_rfl) ?_
  repeat (go_big_quiet_step (first
    | (go_at_call 89; exact Calls.regrown_of (HP.out _ (below_regrown _ _ _)))
    | (go_at_call 64; exact Calls.regrown_of (HA.out _ (below_regrown _ _ _)))))
  refine wpQuiet_nil ?_
  intro _ hw'
  obtain ⟨⟨nq, osq⟩, hw''⟩ := hw'
  subst hw''
  have hB := below_regrown w nq osq
  clear p0
  have c1 := HC1.out nq osq
  have t1 := HB.out
  clear HC1 HC
  generalize grow (redrawn w nq) osq = Y at *
  cases b <;>
  · go_wp2_with fail
    go_ret
    exact ⟨rfl, hB⟩
set_option maxRecDepth 100000 in
set_option maxHeartbeats 1000000 in
theorem rhang_pn_core (T A g m g2 n : Nat) (root root1 s : Int) (hs : 0 ≤ s ∧ s < 2) (o1 : Value) (o2 : Value) (w : World) (HT : Hid (w.heap[T]? = some (tO A root)))
    (HA1 : Hid (Calls Try.prog 64 #[aP A, .int .i64 (m : Int)] w fun e w' => e = .returned (.pointer (some ⟨g, m * 10, none⟩)) ∧ w = w'))
    (HC1 : Hid (w.cell? ⟨g, m * 10 + 6 + s.toNat, none⟩ = some o1)) (HF1 : Hid (w.frozen? ⟨g, m * 10 + 6 + s.toNat, none⟩ = false))
    (HT1 : Hid ((w.setCell ⟨g, m * 10 + 6 + s.toNat, none⟩ (.int .i64 (n : Int))).heap[T]? = some (tO A root1)))
    (HA2 : Hid (Calls Try.prog 64 #[aP A, .int .i64 (n : Int)] (w.setCell ⟨g, m * 10 + 6 + s.toNat, none⟩ (.int .i64 (n : Int))) fun e w' => e = .returned (.pointer (some ⟨g2, n * 10, none⟩)) ∧ (w.setCell ⟨g, m * 10 + 6 + s.toNat, none⟩ (.int .i64 (n : Int))) = w'))
    (HC2 : Hid ((w.setCell ⟨g, m * 10 + 6 + s.toNat, none⟩ (.int .i64 (n : Int))).cell? ⟨g2, n * 10 + 5, none⟩ = some o2)) (HF2 : Hid ((w.setCell ⟨g, m * 10 + 6 + s.toNat, none⟩ (.int .i64 (n : Int))).frozen? ⟨g2, n * 10 + 5, none⟩ = false)) :
    Calls Try.prog 85 #[aP T, .int .i64 (n : Int), .int .i64 (m : Int), .int .i64 s] w fun e w' => e = .returned (.tuple #[]) ∧ ((w.setCell ⟨g, m * 10 + 6 + s.toNat, none⟩ (.int .i64 (n : Int))).setCell ⟨g2, n * 10 + 5, none⟩ (.int .i64 (m : Int))) = w' := by
  obtain ⟨i1, i2⟩ := hs
  have c0 : w.cell? ⟨T, 0, none⟩ = some (aP A) := (cell_of_row _ _ 0 _ _ _ HT.out).trans rfl
  have c1 := HC1.out
  have c2 := HF1.out
  have d0 : (w.setCell ⟨g, m * 10 + 6 + s.toNat, none⟩ (.int .i64 (n : Int))).cell? ⟨T, 0, none⟩ = some (aP A) := (cell_of_row _ _ 0 _ _ _ HT1.out).trans rfl
  have c3 := HC2.out
  have c4 := HF2.out
  go_enter Try.func85, Try.ntmps85
  go_wp2_with fail
  refine HA1.out.mono ?_
  rintro e w' ⟨rfl, rfl⟩
  go_wp2_with fail
  refine HA2.out.mono ?_
  rintro e w' ⟨rfl, rfl⟩
  go_wp2_with fail
  go_end0
  exact ⟨rfl, rfl⟩
set_option maxRecDepth 100000 in
set_option maxHeartbeats 1000000 in
theorem rhang_p0_core (T A g m : Nat) (root root1 s i : Int) (hs : 0 ≤ s ∧ s < 2) (o1 : Value) (w : World) (HT : Hid (w.heap[T]? = some (tO A root)))
    (HA1 : Hid (Calls Try.prog 64 #[aP A, .int .i64 (m : Int)] w fun e w' => e = .returned (.pointer (some ⟨g, m * 10, none⟩)) ∧ w = w'))
    (HC1 : Hid (w.cell? ⟨g, m * 10 + 6 + s.toNat, none⟩ = some o1)) (HF1 : Hid (w.frozen? ⟨g, m * 10 + 6 + s.toNat, none⟩ = false))
    (HT1 : Hid ((w.setCell ⟨g, m * 10 + 6 + s.toNat, none⟩ (.int .i64 i)).heap[T]? = some (tO A root1)))
    (HA2 : Hid (Calls Try.prog 64 #[aP A, .int .i64 i] (w.setCell ⟨g, m * 10 + 6 + s.toNat, none⟩ (.int .i64 i)) fun e w' => e = .returned (.pointer none) ∧ (w.setCell ⟨g, m * 10 + 6 + s.toNat, none⟩ (.int .i64 i)) = w')) :
    Calls Try.prog 85 #[aP T, .int .i64 i, .int .i64 (m : Int), .int .i64 s] w fun e w' => e = .returned (.tuple #[]) ∧ (w.setCell ⟨g, m * 10 + 6 + s.toNat, none⟩ (.int .i64 i)) = w' := by
  obtain ⟨i1, i2⟩ := hs
  have c0 : w.cell? ⟨T, 0, none⟩ = some (aP A) := (cell_of_row _ _ 0 _ _ _ HT.out).trans rfl
  have c1 := HC1.out
  have c2 := HF1.out
  have d0 : (w.setCell ⟨g, m * 10 + 6 + s.toNat, none⟩ (.int .i64 i)).cell? ⟨T, 0, none⟩ = some (aP A) := (cell_of_row _ _ 0 _ _ _ HT1.out).trans rfl
  go_enter Try.func85, Try.ntmps85
  go_wp2_with fail
  refine HA1.out.mono ?_
  rintro e w' ⟨rfl, rfl⟩
  go_wp2_with fail
  refine HA2.out.mono ?_
  rintro e w' ⟨rfl, rfl⟩
  go_wp2_with fail
  go_end0
  exact ⟨rfl, rfl⟩
set_option maxRecDepth 100000 in
set_option maxHeartbeats 1000000 in
theorem rhang_0n_core (T A g2 n : Nat) (root root1 s pp : Int) (hs : 0 ≤ s ∧ s < 2) (o2 : Value) (w : World) (HT : Hid (w.heap[T]? = some (tO A root)))
    (HA1 : Hid (Calls Try.prog 64 #[aP A, .int .i64 pp] w fun e w' => e = .returned (.pointer none) ∧ w = w'))
    (HT1 : Hid ((w.setCell ⟨T, 1, none⟩ (.int .i64 (n : Int))).heap[T]? = some (tO A root1)))
    (HA2 : Hid (Calls Try.prog 64 #[aP A, .int .i64 (n : Int)] (w.setCell ⟨T, 1, none⟩ (.int .i64 (n : Int))) fun e w' => e = .returned (.pointer (some ⟨g2, n * 10, none⟩)) ∧ (w.setCell ⟨T, 1, none⟩ (.int .i64 (n : Int))) = w'))
    (HC2 : Hid ((w.setCell ⟨T, 1, none⟩ (.int .i64 (n : Int))).cell? ⟨g2, n * 10 + 5, none⟩ = some o2)) (HF2 : Hid ((w.setCell ⟨T, 1, none⟩ (.int .i64 (n : Int))).frozen? ⟨g2, n * 10 + 5, none⟩ = false)) :
    Calls Try.prog 85 #[aP T, .int .i64 (n : Int), .int .i64 pp, .int .i64 s] w fun e w' => e = .returned (.tuple #[]) ∧ ((w.setCell ⟨T, 1, none⟩ (.int .i64 (n : Int))).setCell ⟨g2, n * 10 + 5, none⟩ (.int .i64 pp)) = w' := by
  obtain ⟨i1, i2⟩ := hs
  have c0 : w.cell? ⟨T, 0, none⟩ = some (aP A) := (cell_of_row _ _ 0 _ _ _ HT.out).trans rfl
  have c1 : w.cell? ⟨T, 1, none⟩ = some (.int .i64 root) := (cell_of_row _ _ 1 _ _ _ HT.out).trans rfl
  have c2 : w.frozen? ⟨T, 1, none⟩ = false := frozen_of_row _ _ _ _ _ HT.out
  have d0 : (w.setCell ⟨T, 1, none⟩ (.int .i64 (n : Int))).cell? ⟨T, 0, none⟩ = some (aP A) := (cell_of_row _ _ 0 _ _ _ HT1.out).trans rfl
  have c3 := HC2.out
  have c4 := HF2.out
  go_enter Try.func85, Try.ntmps85
  go_wp2_with fail
  refine HA1.out.mono ?_
  rintro e w' ⟨rfl, rfl⟩
  go_wp2_with fail
  refine HA2.out.mono ?_
  rintro e w' ⟨rfl, rfl⟩
  go_wp2_with fail
  go_end0
  exact ⟨rfl, rfl⟩
set_option maxRecDepth 100000 in
set_option maxHeartbeats 1000000 in
theorem rhang_00_core (T A : Nat) (root root1 s i pp : Int) (hs : 0 ≤ s ∧ s < 2) (w : World) (HT : Hid (w.heap[T]? = some (tO A root)))
    (HA1 : Hid (Calls Try.prog 64 #[aP A, .int .i64 pp] w fun e w' => e = .returned (.pointer none) ∧ w = w'))
    (HT1 : Hid ((w.setCell ⟨T, 1, none⟩ (.int .i64 i)).heap[T]? = some (tO A root1)))
    (HA2 : Hid (Calls Try.prog 64 #[aP A, .int .i64 i] (w.setCell ⟨T, 1, none⟩ (.int .i64 i)) fun e w' => e = .returned (.pointer none) ∧ (w.setCell ⟨T, 1, none⟩ (.int .i64 i)) = w')) :
    Calls Try.prog 85 #[aP T, .int .i64 i, .int .i64 pp, .int .i64 s] w fun e w' => e = .returned (.tuple #[]) ∧ (w.setCell ⟨T, 1, none⟩ (.int .i64 i)) = w' := by
  obtain ⟨i1, i2⟩ := hs
  have c0 : w.cell? ⟨T, 0, none⟩ = some (aP A) := (cell_of_row _ _ 0 _ _ _ HT.out).trans rfl
  have c1 : w.cell? ⟨T, 1, none⟩ = some (.int .i64 root) := (cell_of_row _ _ 1 _ _ _ HT.out).trans rfl
  have c2 : w.frozen? ⟨T, 1, none⟩ = false := frozen_of_row _ _ _ _ _ HT.out
  have d0 : (w.setCell ⟨T, 1, none⟩ (.int .i64 i)).cell? ⟨T, 0, none⟩ = some (aP A) := (cell_of_row _ _ 0 _ _ _ HT1.out).trans rfl
  go_enter Try.func85, Try.ntmps85
  go_wp2_with fail
  refine HA1.out.mono ?_
  rintro e w' ⟨rfl, rfl⟩
  go_wp2_with fail
  refine HA2.out.mono ?_
  rintro e w' ⟨rfl, rfl⟩
  go_wp2_with fail
  go_end0
  exact ⟨rfl, rfl⟩
end Go.Proofs.Ytakkmnhiaddnnaa

/- The tree in memory, as a state that calls turn; its small calls told so. -/
namespace Go.Proofs.Ytakkmnhiaddnnaa
open Go.RowKit Go.Sort Go.Proofs.Ytakkmnhiaddnnaa.Bo
set_option linter.unusedVariables false

theorem rn_at {S : Nat → Prop} {w : World} {base A : Nat} {a : Ag Nd} (h : rnIs w base A a S) (hok : a.ok) (n : Nat) (hi : a.is (n : Int) = true) :
    ∃ g, S g ∧ (∀ W, Go.RowKit.Below w.heap.size w W → Calls Try.prog 64 #[aP A, .int .i64 (n : Int)] W fun e w' => e = .returned (.pointer (some ⟨g, n * 10, none⟩)) ∧ W = w') ∧ (∀ j u, (rnE.e (a.l.getD n rnZ))[j]? = some u → w.cell? ⟨g, n * 10 + j, none⟩ = some u) ∧ (∀ j, w.frozen? ⟨g, j, none⟩ = false) ∧
      (∀ (j : Nat) (u : Value) (v : Nd), j < 9 → (rnE.e (a.l.getD n rnZ)).set j u = rnE.e v → rnIs (w.setCell ⟨g, n * 10 + j, none⟩ u) base A (a.set n v) S ∧ Kp S w (w.setCell ⟨g, n * 10 + j, none⟩ u)) := by
  have hS := h
  obtain ⟨pv, fv, rfl, h1⟩ := h
  have hl := a.lens hok
  obtain ⟨_, _, h3, _⟩ := a.is_in n hok hi
  rw [Int.toNat_natCast] at h3
  have hn : n < (a.ps rnZ).length := by rw [a.ps_len]; exact h3
  have hy := ag_ps_yes rnZ a n hn hi
  obtain ⟨g, cap, e1, hgA, hat, hfz⟩ := h1.at n hn
  rw [hy] at hat
  refine ⟨g, .inr (.inl (by rw [e1]; rfl)), fun W hb => rnat_yes (h1.below hb) (by rw [a.ps_len]; omega) n g cap hn (by rw [hy]) e1, fun j u hu => hat j u ?_, hfz, fun j u v hj hv => ?_⟩
  · rw [List.getElem?_append_left (by have := (List.getElem?_eq_some_iff.1 hu).1; exact this)]; exact hu
  · subst e1
    obtain ⟨z1, z2⟩ := h1.put2 n j u v hn (by rw [hy]) hj (by rw [hy]; exact hv)
    rw [a.ps_set rnZ n v hok hi] at z1
    exact ⟨⟨_, fv, rfl, z1⟩, z2⟩
/-- The tree at T, with its arena at A, is as t says, in the blocks S. -/
def RtIs (w : World) (base T A : Nat) (t : Rt) (S : Nat → Prop) : Prop :=
  ∃ S0, S = (fun b => b = T ∨ S0 b) ∧ w.heap[T]? = some (tO A t.root) ∧ base ≤ T ∧ rnIs w base A t.ar S0
theorem rt_type {w : World} {base T A : Nat} {a : Ag Nd} {S0 : Nat → Prop} {root : Int} (h1 : w.heap[T]? = some (tO A root)) (h2 : rnIs w base A a S0) : ¬ S0 T := by
  intro h
  have := h2.type T h h1
  revert this
  decide
theorem RtIs.kp {w w' : World} {base T A : Nat} {t : Rt} {S U : Nat → Prop} (h : RtIs w base T A t S) (hk : Kp U w w') (hn : ∀ b, S b → ¬ U b) : RtIs w' base T A t S := by
  obtain ⟨S0, rfl, h1, h2, h3⟩ := h
  exact ⟨S0, rfl, hk.at h1 (hn T (.inl rfl)), h2, h3.kp hk (fun b hb => hn b (.inr hb))⟩
theorem RtIs.below {w w' : World} {base T A : Nat} {t : Rt} {S : Nat → Prop} (h : RtIs w base T A t S) (hb : Go.RowKit.Below w.heap.size w w') : RtIs w' base T A t S :=
  h.kp (U := fun _ => False) (Kp.of_below _ hb) (fun _ _ => id)
theorem RtIs.lt {w : World} {base T A : Nat} {t : Rt} {S : Nat → Prop} (h : RtIs w base T A t S) : ∀ b, S b → base ≤ b ∧ b < w.heap.size := by
  obtain ⟨S0, rfl, h1, h2, h3⟩ := h
  rintro b (rfl | hb)
  · exact ⟨h2, lt_of_block h1⟩
  · exact h3.lt b hb
theorem RtIs.base_le {w : World} {base T A : Nat} {t : Rt} {S : Nat → Prop} (h : RtIs w base T A t S) : base ≤ w.heap.size := by
  obtain ⟨S0, rfl, h1, h2, h3⟩ := h
  exact h3.base_le
/-- The state w0 turned to: the tree is t, all that was not its own is as it was. -/
def RtAt (w0 : World) (S : Nat → Prop) (base T A : Nat) (t : Rt) (w : World) : Prop :=
  ∃ S1, RtIs w base T A t S1 ∧ Kp S w0 w ∧ ∀ b, S1 b → S b ∨ w0.heap.size ≤ b
theorem RtIs.start {w : World} {base T A : Nat} {t : Rt} {S : Nat → Prop} (h : RtIs w base T A t S) : RtAt w S base T A t w := ⟨S, h, Kp.refl _ w, fun b hb => .inl hb⟩
/-- What stays whatever is laid. -/
abbrev Bc (P : World → Prop) : Prop := ∀ W W', P W → Go.RowKit.Below W.heap.size W W' → P W'
section
variable {w0 w : World} {S : Nat → Prop} {base T A : Nat} {t : Rt}
theorem rtAt_bc : Bc (RtAt w0 S base T A t) := by
  rintro W W' ⟨S1, h1, h2, h3⟩ hb
  exact ⟨S1, h1.below hb, h2.trans (Kp.of_below S hb) (fun _ _ h => h), h3⟩
/-- One step of the tree's own blocks. -/
theorem RtAt.step {t' : Rt} {w' : World} {S1 S2 : Nat → Prop} (h1 : RtIs w base T A t S1) (h2 : Kp S w0 w) (h3 : ∀ b, S1 b → S b ∨ w0.heap.size ≤ b) (k1 : RtIs w' base T A t' S2) (k2 : Kp S1 w w') (k3 : ∀ b, S2 b → S1 b ∨ w.heap.size ≤ b) : RtAt w0 S base T A t' w' := by
  refine ⟨S2, k1, h2.trans k2 (fun n hn hs => (h3 n hs).resolve_right (by omega)), fun b hb => ?_⟩
  rcases k3 b hb with h | h
  · exact h3 b h
  · exact .inr (by have := h2.size; omega)
/-- One cell of a node is another one. -/
theorem RtIs.cellset {S1 : Nat → Prop} (h : RtIs w base T A t S1) (hok : t.ar.ok) (n : Nat) (hi : t.ar.is (n : Int) = true) :
    ∃ g, w.heap[T]? = some (tO A t.root) ∧ (∀ W, Go.RowKit.Below w.heap.size w W → Calls Try.prog 64 #[aP A, .int .i64 (n : Int)] W fun e w' => e = .returned (.pointer (some ⟨g, n * 10, none⟩)) ∧ W = w') ∧
      (∀ j u, (rnE.e (t.ar.l.getD n ndZ))[j]? = some u → w.cell? ⟨g, n * 10 + j, none⟩ = some u) ∧ (∀ j, w.frozen? ⟨g, j, none⟩ = false) ∧
      (∀ (j : Nat) (u : Value) (f : Nd → Nd), j < 9 → (rnE.e (t.ar.l.getD n ndZ)).set j u = rnE.e (f (t.ar.l.getD n ndZ)) → RtIs (w.setCell ⟨g, n * 10 + j, none⟩ u) base T A (t.tw (n : Int) f) S1 ∧ Kp S1 w (w.setCell ⟨g, n * 10 + j, none⟩ u)) := by
  obtain ⟨S0, rfl, h1, h2, h3⟩ := h
  obtain ⟨g, hg, q1, q2, q3, q4⟩ := rn_at h3 hok n hi
  have hgT : T ≠ g := fun e => rt_type h1 h3 (e ▸ hg)
  refine ⟨g, h1, q1, q2, q3, fun j u f hj hf => ?_⟩
  obtain ⟨z1, z2⟩ := q4 j u _ hj hf
  have e : t.tw (n : Int) f = { t with ar := t.ar.set n (f (t.ar.l.getD n ndZ)) } := by
    unfold Rt.tw; rw [if_pos hi, Int.toNat_natCast]
  rw [e]
  exact ⟨⟨S0, rfl, set_far h1 hgT, h2, z1⟩, z2.mono (fun b hb => .inr hb)⟩
theorem RtIs.setRoot {S1 : Nat → Prop} (h : RtIs w base T A t S1) (j : Int) : RtIs (w.setCell ⟨T, 1, none⟩ (.int .i64 j)) base T A { t with root := j } S1 ∧ Kp S1 w (w.setCell ⟨T, 1, none⟩ (.int .i64 j)) := by
  obtain ⟨S0, rfl, h1, h2, h3⟩ := h
  have hk : Kp (fun b => b = T) w (w.setCell ⟨T, 1, none⟩ (.int .i64 j)) := (Kp.refl (fun b => b = T) w).setCell ⟨T, 1, none⟩ (.inl rfl) _
  exact ⟨⟨S0, rfl, heap_setCell_same _ _ _ _ _ _ h1, h2, h3.kp hk (fun b hb e => rt_type h1 h3 (e ▸ hb))⟩, hk.mono (fun b hb => .inl hb)⟩
theorem RtIs.nil {S1 : Nat → Prop} (h : RtIs w base T A t S1) (hok : t.ar.ok) (i : Int) (hi : t.ar.is i = false) :
    w.heap[T]? = some (tO A t.root) ∧ (∀ W, Go.RowKit.Below w.heap.size w W → Calls Try.prog 64 #[aP A, .int .i64 i] W fun e w' => e = .returned (.pointer none) ∧ W = w') := by
  obtain ⟨S0, rfl, h1, h2, h3⟩ := h
  exact ⟨h1, fun W hb => rnat_nil (h3.below hb) hok i hi⟩
theorem is_nat (i : Int) (h : t.ar.is i = true) : ∃ n : Nat, i = (n : Int) := ⟨i.toNat, by have := ((t.ar.is_iff i).1 h).2.1; omega⟩
theorem sv_nat (s : Bool) : 0 ≤ sv s ∧ sv s < 2 ∧ (sv s).toNat = if s then 1 else 0 := by cases s <;> decide
abbrev Rd (f : Nat) (args : Array Value) (v : Value) (P : World → Prop) (W : World) : Prop := Calls Try.prog f args W fun e w' => e = .returned v ∧ P w'
theorem rd_same {P : World → Prop} {f : Nat} {args : Array Value} {v : Value} {W : World} (hP : P W) (h : Calls Try.prog f args W fun e w' => e = .returned v ∧ W = w') : Rd f args v P W :=
  h.mono fun e w' ⟨he, hw⟩ => ⟨he, hw ▸ hP⟩
theorem rd_below {P : World → Prop} {f : Nat} {args : Array Value} {v : Value} {W : World} (hB : Bc P) (hP : P W) (h : Calls Try.prog f args W fun e w' => e = .returned v ∧ Go.RowKit.Below W.heap.size W w') : Rd f args v P W :=
  h.mono fun e w' ⟨he, hw⟩ => ⟨he, hB _ _ hP hw⟩
theorem rpar_any (h : RtAt w0 S base T A t w) (hok : t.ar.ok) (i : Int) (hi : t.ar.is i = true) : Rd 89 #[aP T, .int .i64 i] (.int .i64 (t.pa i)) (RtAt w0 S base T A t) w := by
  have hP := h
  obtain ⟨n, rfl⟩ := is_nat i hi
  obtain ⟨S1, h1, _, _⟩ := h
  obtain ⟨g, k1, k2, k3, _⟩ := h1.cellset hok n hi
  exact rd_same hP (rpar_core T A g n _ _ w k1 (k2 _ (Go.RowKit.Below.refl _ _)) (k3 5 _ rfl))
theorem rchild_any (h : RtAt w0 S base T A t w) (hok : t.ar.ok) (i : Int) (s : Bool) (hi : t.ar.is i = true) : Rd 88 #[aP T, .int .i64 i, .int .i64 (sv s)] (.int .i64 (t.ch i s)) (RtAt w0 S base T A t) w := by
  have hP := h
  obtain ⟨n, rfl⟩ := is_nat i hi
  obtain ⟨S1, h1, _, _⟩ := h
  obtain ⟨g, k1, k2, k3, _⟩ := h1.cellset hok n hi
  have := sv_nat s
  refine rd_same hP (rchild_core T A g n _ _ (sv s) ⟨this.1, this.2.1⟩ w k1 (k2 _ (Go.RowKit.Below.refl _ _)) ?_)
  rw [this.2.2]
  cases s
  · exact k3 6 _ rfl
  · exact k3 7 _ rfl
theorem rred_any (h : RtAt w0 S base T A t w) (hok : t.ar.ok) (i : Int) : Rd 91 #[aP T, .int .i64 i] (.bool (t.red i)) (RtAt w0 S base T A t) w := by
  have hP := h
  obtain ⟨S1, h1, _, _⟩ := h
  cases hi : t.ar.is i with
  | true =>
    obtain ⟨n, rfl⟩ := is_nat i hi
    obtain ⟨g, k1, k2, k3, _⟩ := h1.cellset hok n hi
    unfold Rt.red
    rw [hi, Bool.true_and]
    exact rd_same hP (rred_core T A g n _ _ w k1 (k2 _ (Go.RowKit.Below.refl _ _)) (k3 8 _ rfl))
  | false =>
    obtain ⟨k1, k2⟩ := h1.nil hok i hi
    unfold Rt.red
    rw [hi, Bool.false_and]
    exact rd_same hP (rred_no_core T A i _ w k1 (k2 _ (Go.RowKit.Below.refl _ _)))
theorem rside_any (h : RtAt w0 S base T A t w) (hok : t.ar.ok) (i : Int) (hi : t.ar.is i = true) : Rd 90 #[aP T, .int .i64 i] (.int .i64 (sv (t.sd i))) (RtAt w0 S base T A t) w := by
  have hP := h
  obtain ⟨n, rfl⟩ := is_nat i hi
  obtain ⟨S1, h1, k, k'⟩ := h
  have hPar : ∀ W, Go.RowKit.Below w.heap.size w W → Calls Try.prog 89 #[aP T, .int .i64 (n : Int)] W fun e w' => e = .returned (.int .i64 (t.pa n)) ∧ Go.RowKit.Below W.heap.size W w' := fun W hb => by
    obtain ⟨g, k1, k2, k3, _⟩ := (h1.below hb).cellset hok n hi
    exact (rpar_core T A g n _ _ W k1 (k2 _ (Go.RowKit.Below.refl _ _)) (k3 5 _ rfl)).mono fun e w' ⟨he, hw⟩ => ⟨he, hw ▸ Go.RowKit.Below.refl _ _⟩
  unfold Rt.sd
  cases hp : t.ar.is (t.pa n) with
  | false =>
    rw [Bool.false_and]
    obtain ⟨k1, k2⟩ := h1.nil hok _ hp
    exact rd_below rtAt_bc hP (rside_no_core T A n (t.pa n) _ w k1 hPar (fun W hb => (k2 W hb).mono fun e w' ⟨he, hw⟩ => ⟨he, hw ▸ Go.RowKit.Below.refl _ _⟩))
  | true =>
    rw [Bool.true_and]
    obtain ⟨m, hm⟩ := is_nat _ hp
    rw [hm] at hp hPar ⊢
    obtain ⟨g, k1, k2, k3, _⟩ := h1.cellset hok m hp
    exact rd_below rtAt_bc hP (rside_core T A n g m (t.ch m true) _ _ w k1 hPar (fun W hb => (k2 W hb).mono fun e w' ⟨he, hw⟩ => ⟨he, hw ▸ Go.RowKit.Below.refl _ _⟩) (k3 7 _ rfl) rfl)
theorem rpaint_any (h : RtAt w0 S base T A t w) (hok : t.ar.ok) (i : Int) (b : Bool) (hi : t.ar.is i = true) : Rd 86 #[aP T, .int .i64 i, .bool b] (.tuple #[]) (RtAt w0 S base T A (t.paint i b)) w := by
  obtain ⟨n, rfl⟩ := is_nat i hi
  obtain ⟨S1, h1, h2, h3⟩ := h
  obtain ⟨g, k1, k2, k3, k4, k5⟩ := h1.cellset hok n hi
  refine (rpaint_core T A g n _ b _ w k1 (k2 _ (Go.RowKit.Below.refl _ _)) (k3 8 _ rfl) (k4 _)).mono ?_
  rintro e w' ⟨rfl, rfl⟩
  obtain ⟨z1, z2⟩ := k5 8 (.bool b) (·.setRed b) (by omega) rfl
  exact ⟨rfl, RtAt.step h1 h2 h3 z1 z2 (fun b hb => .inl hb)⟩
theorem rtw_no (t : Rt) (i : Int) (h : Nd → Nd) (hi : t.ar.is i = false) : t.tw i h = t := by unfold Rt.tw; rw [if_neg (by rw [hi]; simp)]
theorem rhang_any (h : RtAt w0 S base T A t w) (hok : t.ar.ok) (i p : Int) (s : Bool) : Rd 85 #[aP T, .int .i64 i, .int .i64 p, .int .i64 (sv s)] (.tuple #[]) (RtAt w0 S base T A (t.hang i p s)) w := by
  obtain ⟨S1, h1, h2, h3⟩ := h
  have hs := sv_nat s
  have fin : ∀ {w1 w2 : World} {t1 t2 : Rt}, RtIs w1 base T A t1 S1 → Kp S1 w w1 → RtIs w2 base T A t2 S1 → Kp S1 w1 w2 → RtAt w0 S base T A t2 w2 := fun a b c d =>
    RtAt.step h1 h2 h3 c (b.trans d (fun _ _ h => h)) (fun b hb => .inl hb)
  cases hp : t.ar.is p with
  | true =>
    obtain ⟨m, rfl⟩ := is_nat p hp
    obtain ⟨g, k1, k2, k3, k4, k5⟩ := h1.cellset hok m hp
    have hset : ∀ i, (rnE.e (t.ar.l.getD m ndZ)).set (6 + (sv s).toNat) (.int .i64 i) = rnE.e ((t.ar.l.getD m ndZ).setCh s i) := by intro i; cases s <;> rfl
    obtain ⟨z1, z2⟩ := k5 (6 + (sv s).toNat) (.int .i64 i) (·.setCh s i) (by omega) (hset i)
    rw [← Nat.add_assoc] at z1 z2
    obtain ⟨o1, ho1⟩ : ∃ o, w.cell? ⟨g, m * 10 + 6 + (sv s).toNat, none⟩ = some o := by
      rw [hs.2.2]
      cases s
      · exact ⟨_, k3 6 _ rfl⟩
      · exact ⟨_, k3 7 _ rfl⟩
    have hok1 := t.tw_ok (m : Int) (·.setCh s i) hok
    have hu : t.hang i (m : Int) s = (t.tw (m : Int) (·.setCh s i)).tw i (·.setPa m) := by unfold Rt.hang; rw [if_pos hp]
    rw [hu]
    cases hi : t.ar.is i with
    | true =>
      obtain ⟨n, rfl⟩ := is_nat i hi
      obtain ⟨g2, q1, q2, q3, q4, q5⟩ := z1.cellset hok1 n (by rw [t.tw_is]; exact hi)
      refine (rhang_pn_core T A g m g2 n _ _ (sv s) ⟨hs.1, hs.2.1⟩ o1 _ w k1 (k2 _ (Go.RowKit.Below.refl _ _)) ho1 (k4 _) q1 (q2 _ (Go.RowKit.Below.refl _ _)) (q3 5 _ rfl) (q4 _)).mono ?_
      rintro e w' ⟨rfl, rfl⟩
      obtain ⟨y1, y2⟩ := q5 5 (.int .i64 (m : Int)) (·.setPa m) (by omega) rfl
      exact ⟨rfl, fin z1 z2 y1 y2⟩
    | false =>
      obtain ⟨q1, q2⟩ := z1.nil hok1 i (by rw [t.tw_is]; exact hi)
      refine (rhang_p0_core T A g m _ _ (sv s) i ⟨hs.1, hs.2.1⟩ o1 w k1 (k2 _ (Go.RowKit.Below.refl _ _)) ho1 (k4 _) q1 (q2 _ (Go.RowKit.Below.refl _ _))).mono ?_
      rintro e w' ⟨rfl, rfl⟩
      have e2 : (t.tw (m : Int) (·.setCh s i)).tw i (·.setPa m) = t.tw (m : Int) (·.setCh s i) := rtw_no _ _ _ (by rw [t.tw_is]; exact hi)
      rw [e2]
      exact ⟨rfl, fin z1 z2 z1 (Kp.refl _ _)⟩
  | false =>
    obtain ⟨k1, k2⟩ := h1.nil hok p hp
    obtain ⟨z1, z2⟩ := h1.setRoot i
    have hu : t.hang i p s = ({ t with root := i } : Rt).tw i (·.setPa p) := by unfold Rt.hang; rw [if_neg (by rw [hp]; simp)]
    rw [hu]
    cases hi : t.ar.is i with
    | true =>
      obtain ⟨n, rfl⟩ := is_nat i hi
      obtain ⟨g2, q1, q2, q3, q4, q5⟩ := z1.cellset hok n hi
      refine (rhang_0n_core T A g2 n _ _ (sv s) p ⟨hs.1, hs.2.1⟩ _ w k1 (k2 _ (Go.RowKit.Below.refl _ _)) q1 (q2 _ (Go.RowKit.Below.refl _ _)) (q3 5 _ rfl) (q4 _)).mono ?_
      rintro e w' ⟨rfl, rfl⟩
      obtain ⟨y1, y2⟩ := q5 5 (.int .i64 p) (·.setPa p) (by omega) rfl
      exact ⟨rfl, fin z1 z2 y1 y2⟩
    | false =>
      obtain ⟨q1, q2⟩ := z1.nil hok i hi
      refine (rhang_00_core T A _ _ (sv s) i p ⟨hs.1, hs.2.1⟩ w k1 (k2 _ (Go.RowKit.Below.refl _ _)) q1 (q2 _ (Go.RowKit.Below.refl _ _))).mono ?_
      rintro e w' ⟨rfl, rfl⟩
      have e2 : ({ t with root := i } : Rt).tw i (·.setPa p) = { t with root := i } := rtw_no _ _ _ hi
      rw [e2]
      exact ⟨rfl, fin z1 z2 z1 (Kp.refl _ _)⟩
end
end Go.Proofs.Ytakkmnhiaddnnaa

/- Turning a node down. -/
namespace Go.Proofs.Ytakkmnhiaddnnaa
open Go.RowKit Go.Sort Go.Proofs.Ytakkmnhiaddnnaa.Bo
set_option linter.unusedVariables false

theorem Bc.drew {P : World → Prop} (h : Bc P) {W : World} (hP : P W) : P W.drew := h _ _ hP (Go.RowKit.Below.refl _ _).drew
set_option maxRecDepth 100000 in
set_option maxHeartbeats 2000000 in
theorem rrot_core (T : Nat) (i s s' u b p sd : Int) (P0 P1 P2 P3 : World → Prop) (w : World) (B0 : Hid (Bc P0)) (B1 : Hid (Bc P1)) (B2 : Hid (Bc P2)) (h0 : Hid (P0 w)) (hw : IntKind.i64.wrap (1 - s) = s')
    (HC1 : Hid (∀ W, P0 W → Rd 88 #[aP T, .int .i64 i, .int .i64 s'] (.int .i64 u) P0 W))
    (HC2 : Hid (∀ W, P0 W → Rd 88 #[aP T, .int .i64 u, .int .i64 s] (.int .i64 b) P0 W))
    (HP : Hid (∀ W, P0 W → Rd 89 #[aP T, .int .i64 i] (.int .i64 p) P0 W))
    (HD : Hid (∀ W, P0 W → Rd 90 #[aP T, .int .i64 i] (.int .i64 sd) P0 W))
    (HH1 : Hid (∀ W, P0 W → Rd 85 #[aP T, .int .i64 u, .int .i64 p, .int .i64 sd] (.tuple #[]) P1 W))
    (HH2 : Hid (∀ W, P1 W → Rd 85 #[aP T, .int .i64 i, .int .i64 u, .int .i64 s] (.tuple #[]) P2 W))
    (HH3 : Hid (∀ W, P2 W → Rd 85 #[aP T, .int .i64 b, .int .i64 i, .int .i64 s'] (.tuple #[]) P3 W)) :
    Rd 100 #[aP T, .int .i64 i, .int .i64 s] (.tuple #[]) P3 w := by
  have mx := mixed
  have HS := h0
  clear h0
  go_enter Try.func100, Try.ntmps100
  go_wp2_with fail
  refine (HC1.out _ HS.out).mono ?_
  rintro e y1 ⟨rfl, hs⟩
  replace HS := Lib.hid hs
  clear hs
  go_wp2_with fail
  refine (HC2.out _ HS.out).mono ?_
  rintro e y2 ⟨rfl, hs⟩
  replace HS := Lib.hid hs
  clear hs
  go_wp2_with fail
  refine (HP.out _ HS.out).mono ?_
  rintro e y3 ⟨rfl, hs⟩
  replace HS := Lib.hid hs
  clear hs
  go_wp2_with fail
  refine (HD.out _ HS.out).mono ?_
  rintro e y4 ⟨rfl, hs⟩
  replace HS := Lib.hid hs
  clear hs
  go_wp2_with fail
  refine (HH1.out _ HS.out).mono ?_
  rintro e y5 ⟨rfl, hs⟩
  replace HS := Lib.hid hs
  clear hs
  go_wp2_with fail
  refine (HH2.out _ HS.out).mono ?_
  rintro e y6 ⟨rfl, hs⟩
  replace HS := Lib.hid hs
  clear hs
  go_wp2_with fail
  refine (HH3.out _ HS.out).mono ?_
  rintro e y7 ⟨rfl, hs⟩
  replace HS := Lib.hid hs
  clear hs
  go_wp2_with fail
  go_end0
  exact ⟨rfl, HS.out⟩
theorem sv_not (s : Bool) : IntKind.i64.wrap (1 - sv s) = sv (!s) := by cases s <;> decide
theorem rrot_any {w0 w : World} {S : Nat → Prop} {base T A : Nat} {t : Rt} (h : RtAt w0 S base T A t w) (hok : t.ar.ok) (i : Int) (s : Bool) (hc : t.canRot i s) :
    Rd 100 #[aP T, .int .i64 i, .int .i64 (sv s)] (.tuple #[]) (RtAt w0 S base T A (t.rot i s)) w :=
  rrot_core T i (sv s) (sv (!s)) _ _ _ _ _ _ _ (RtAt w0 S base T A (t.rot i s)) w rtAt_bc rtAt_bc rtAt_bc h (sv_not s)
    (fun W hW => rchild_any hW hok i (!s) hc.1) (fun W hW => rchild_any hW hok _ s hc.2) (fun W hW => rpar_any hW hok i hc.1) (fun W hW => rside_any hW hok i hc.1)
    (fun W hW => rhang_any hW hok _ _ _) (fun W hW => rhang_any hW (t.hang_ok _ _ _ hok) _ _ s) (fun W hW => rhang_any hW (Rt.hang_ok _ _ _ _ (t.hang_ok _ _ _ hok)) _ _ (!s))
end Go.Proofs.Ytakkmnhiaddnnaa

/- Calls of the tree that turn it: turnRed, blackAside, turnShort. -/
namespace Go.Proofs.Ytakkmnhiaddnnaa
open Go.RowKit Go.Sort Go.Proofs.Ytakkmnhiaddnnaa.Bo
set_option linter.unusedVariables false

set_option maxRecDepth 100000 in
set_option maxHeartbeats 2000000 in
theorem rturnRed_eq (T : Nat) (i p top s s' : Int) (P0 P1 P2 P3 : World → Prop) (w : World) (h0 : Hid (P0 w)) (hw : IntKind.i64.wrap (1 - s) = s')
    (HP : Hid (∀ W, P0 W → Rd 89 #[aP T, .int .i64 i] (.int .i64 p) P0 W))
    (HT : Hid (∀ W, P0 W → Rd 89 #[aP T, .int .i64 p] (.int .i64 top) P0 W))
    (HD : Hid (∀ W, P0 W → Rd 90 #[aP T, .int .i64 p] (.int .i64 s) P0 W))
    (HE : Hid (∀ W, P0 W → Rd 90 #[aP T, .int .i64 i] (.int .i64 s) P0 W))
    (HA : Hid (∀ W, P0 W → Rd 86 #[aP T, .int .i64 p, .bool false] (.tuple #[]) P1 W))
    (HB : Hid (∀ W, P1 W → Rd 86 #[aP T, .int .i64 top, .bool true] (.tuple #[]) P2 W))
    (HR : Hid (∀ W, P2 W → Rd 100 #[aP T, .int .i64 top, .int .i64 s'] (.tuple #[]) P3 W)) :
    Rd 97 #[aP T, .int .i64 i] (.tuple #[]) P3 w := by
  have mx := mixed
  have HS := h0
  clear h0
  go_enter Try.func97, Try.ntmps97
  go_wp2_with fail
  refine (HP.out _ HS.out).mono ?_
  rintro e yHP ⟨rfl, hs⟩
  replace HS := Lib.hid hs
  clear hs
  go_wp2_with fail
  refine (HT.out _ HS.out).mono ?_
  rintro e yHT ⟨rfl, hs⟩
  replace HS := Lib.hid hs
  clear hs
  go_wp2_with fail
  refine (HD.out _ HS.out).mono ?_
  rintro e yHD ⟨rfl, hs⟩
  replace HS := Lib.hid hs
  clear hs
  go_wp2_with fail
  refine (HE.out _ HS.out).mono ?_
  rintro e yHE ⟨rfl, hs⟩
  replace HS := Lib.hid hs
  clear hs
  go_wp2_with fail
  refine (HA.out _ HS.out).mono ?_
  rintro e yHA ⟨rfl, hs⟩
  replace HS := Lib.hid hs
  clear hs
  go_wp2_with fail
  refine (HB.out _ HS.out).mono ?_
  rintro e yHB ⟨rfl, hs⟩
  replace HS := Lib.hid hs
  clear hs
  go_wp2_with fail
  refine (HR.out _ HS.out).mono ?_
  rintro e yHR ⟨rfl, hs⟩
  replace HS := Lib.hid hs
  clear hs
  go_wp2_with fail
  go_end0
  exact ⟨rfl, HS.out⟩
set_option maxRecDepth 100000 in
set_option maxHeartbeats 2000000 in
theorem rturnRed_ne (T : Nat) (i p top s s' s2 : Int) (P0 PQ P1 P2 P3 : World → Prop) (w : World) (h0 : Hid (P0 w)) (hw : IntKind.i64.wrap (1 - s) = s') (hne : (s2 == s) = false)
    (HP : Hid (∀ W, P0 W → Rd 89 #[aP T, .int .i64 i] (.int .i64 p) P0 W))
    (HT : Hid (∀ W, P0 W → Rd 89 #[aP T, .int .i64 p] (.int .i64 top) P0 W))
    (HD : Hid (∀ W, P0 W → Rd 90 #[aP T, .int .i64 p] (.int .i64 s) P0 W))
    (HE : Hid (∀ W, P0 W → Rd 90 #[aP T, .int .i64 i] (.int .i64 s2) P0 W))
    (HQ : Hid (∀ W, P0 W → Rd 100 #[aP T, .int .i64 p, .int .i64 s] (.tuple #[]) PQ W))
    (HA : Hid (∀ W, PQ W → Rd 86 #[aP T, .int .i64 i, .bool false] (.tuple #[]) P1 W))
    (HB : Hid (∀ W, P1 W → Rd 86 #[aP T, .int .i64 top, .bool true] (.tuple #[]) P2 W))
    (HR : Hid (∀ W, P2 W → Rd 100 #[aP T, .int .i64 top, .int .i64 s'] (.tuple #[]) P3 W)) :
    Rd 97 #[aP T, .int .i64 i] (.tuple #[]) P3 w := by
  have mx := mixed
  have HS := h0
  clear h0
  go_enter Try.func97, Try.ntmps97
  go_wp2_with fail
  refine (HP.out _ HS.out).mono ?_
  rintro e yHP ⟨rfl, hs⟩
  replace HS := Lib.hid hs
  clear hs
  go_wp2_with fail
  refine (HT.out _ HS.out).mono ?_
  rintro e yHT ⟨rfl, hs⟩
  replace HS := Lib.hid hs
  clear hs
  go_wp2_with fail
  refine (HD.out _ HS.out).mono ?_
  rintro e yHD ⟨rfl, hs⟩
  replace HS := Lib.hid hs
  clear hs
  go_wp2_with fail
  refine (HE.out _ HS.out).mono ?_
  rintro e yHE ⟨rfl, hs⟩
  replace HS := Lib.hid hs
  clear hs
  go_wp2_with fail
  refine (HQ.out _ HS.out).mono ?_
  rintro e yHQ ⟨rfl, hs⟩
  replace HS := Lib.hid hs
  clear hs
  go_wp2_with fail
  refine (HA.out _ HS.out).mono ?_
  rintro e yHA ⟨rfl, hs⟩
  replace HS := Lib.hid hs
  clear hs
  go_wp2_with fail
  refine (HB.out _ HS.out).mono ?_
  rintro e yHB ⟨rfl, hs⟩
  replace HS := Lib.hid hs
  clear hs
  go_wp2_with fail
  refine (HR.out _ HS.out).mono ?_
  rintro e yHR ⟨rfl, hs⟩
  replace HS := Lib.hid hs
  clear hs
  go_wp2_with fail
  go_end0
  exact ⟨rfl, HS.out⟩
set_option maxRecDepth 100000 in
set_option maxHeartbeats 2000000 in
theorem rblack_no (T : Nat) (p s s' a : Int) (P0 : World → Prop) (w : World) (h0 : Hid (P0 w)) (hw : IntKind.i64.wrap (1 - s) = s')
    (HC : Hid (∀ W, P0 W → Rd 88 #[aP T, .int .i64 p, .int .i64 s'] (.int .i64 a) P0 W))
    (HR : Hid (∀ W, P0 W → Rd 91 #[aP T, .int .i64 a] (.bool false) P0 W)) :
    Rd 98 #[aP T, .int .i64 p, .int .i64 s] (.tuple #[]) P0 w := by
  have mx := mixed
  have HS := h0
  clear h0
  go_enter Try.func98, Try.ntmps98
  go_wp2_with fail
  refine (HC.out _ HS.out).mono ?_
  rintro e yHC ⟨rfl, hs⟩
  replace HS := Lib.hid hs
  clear hs
  go_wp2_with fail
  refine (HR.out _ HS.out).mono ?_
  rintro e yHR ⟨rfl, hs⟩
  replace HS := Lib.hid hs
  clear hs
  go_wp2_with fail
  refine bodyPost_ret (results_none rfl _ _ _) rfl ?_
  exact ⟨rfl, HS.out⟩
set_option maxRecDepth 100000 in
set_option maxHeartbeats 2000000 in
theorem rblack_yes (T : Nat) (p s s' a : Int) (P0 P1 P2 P3 : World → Prop) (w : World) (h0 : Hid (P0 w)) (hw : IntKind.i64.wrap (1 - s) = s')
    (HC : Hid (∀ W, P0 W → Rd 88 #[aP T, .int .i64 p, .int .i64 s'] (.int .i64 a) P0 W))
    (HR : Hid (∀ W, P0 W → Rd 91 #[aP T, .int .i64 a] (.bool true) P0 W))
    (HA : Hid (∀ W, P0 W → Rd 86 #[aP T, .int .i64 a, .bool false] (.tuple #[]) P1 W))
    (HB : Hid (∀ W, P1 W → Rd 86 #[aP T, .int .i64 p, .bool true] (.tuple #[]) P2 W))
    (HQ : Hid (∀ W, P2 W → Rd 100 #[aP T, .int .i64 p, .int .i64 s] (.tuple #[]) P3 W)) :
    Rd 98 #[aP T, .int .i64 p, .int .i64 s] (.tuple #[]) P3 w := by
  have mx := mixed
  have HS := h0
  clear h0
  go_enter Try.func98, Try.ntmps98
  go_wp2_with fail
  refine (HC.out _ HS.out).mono ?_
  rintro e yHC ⟨rfl, hs⟩
  replace HS := Lib.hid hs
  clear hs
  go_wp2_with fail
  refine (HR.out _ HS.out).mono ?_
  rintro e yHR ⟨rfl, hs⟩
  replace HS := Lib.hid hs
  clear hs
  go_wp2_with fail
  refine (HA.out _ HS.out).mono ?_
  rintro e yHA ⟨rfl, hs⟩
  replace HS := Lib.hid hs
  clear hs
  go_wp2_with fail
  refine (HB.out _ HS.out).mono ?_
  rintro e yHB ⟨rfl, hs⟩
  replace HS := Lib.hid hs
  clear hs
  go_wp2_with fail
  refine (HQ.out _ HS.out).mono ?_
  rintro e yHQ ⟨rfl, hs⟩
  replace HS := Lib.hid hs
  clear hs
  go_wp2_with fail
  go_end0
  exact ⟨rfl, HS.out⟩
set_option maxRecDepth 100000 in
set_option maxHeartbeats 2000000 in
theorem rshort_yes (T : Nat) (p s s' a f ff : Int) (P0 P1 P2 P3 P4 : World → Prop) (w : World) (h0 : Hid (P0 w)) (rp : Bool) (hw : IntKind.i64.wrap (1 - s) = s')
    (HC : Hid (∀ W, P0 W → Rd 88 #[aP T, .int .i64 p, .int .i64 s'] (.int .i64 a) P0 W))
    (HD : Hid (∀ W, P0 W → Rd 88 #[aP T, .int .i64 a, .int .i64 s'] (.int .i64 f) P0 W))
    (HR : Hid (∀ W, P0 W → Rd 91 #[aP T, .int .i64 f] (.bool true) P0 W))
    (HX : Hid (∀ W, P0 W → Rd 91 #[aP T, .int .i64 p] (.bool rp) P0 W))
    (HA : Hid (∀ W, P0 W → Rd 86 #[aP T, .int .i64 a, .bool rp] (.tuple #[]) P1 W))
    (HB : Hid (∀ W, P1 W → Rd 86 #[aP T, .int .i64 p, .bool false] (.tuple #[]) P2 W))
    (HF : Hid (∀ W, P2 W → Rd 88 #[aP T, .int .i64 a, .int .i64 s'] (.int .i64 ff) P2 W))
    (HG : Hid (∀ W, P2 W → Rd 86 #[aP T, .int .i64 ff, .bool false] (.tuple #[]) P3 W))
    (HQ : Hid (∀ W, P3 W → Rd 100 #[aP T, .int .i64 p, .int .i64 s] (.tuple #[]) P4 W)) :
    Rd 99 #[aP T, .int .i64 p, .int .i64 s] (.tuple #[]) P4 w := by
  have mx := mixed
  have HS := h0
  clear h0
  go_enter Try.func99, Try.ntmps99
  go_wp2_with fail
  refine (HC.out _ HS.out).mono ?_
  rintro e yHC ⟨rfl, hs⟩
  replace HS := Lib.hid hs
  clear hs
  go_wp2_with fail
  refine (HD.out _ HS.out).mono ?_
  rintro e yHD ⟨rfl, hs⟩
  replace HS := Lib.hid hs
  clear hs
  go_wp2_with fail
  refine (HR.out _ HS.out).mono ?_
  rintro e yHR ⟨rfl, hs⟩
  replace HS := Lib.hid hs
  clear hs
  go_wp2_with fail
  refine (HX.out _ HS.out).mono ?_
  rintro e yHX ⟨rfl, hs⟩
  replace HS := Lib.hid hs
  clear hs
  go_wp2_with fail
  refine (HA.out _ HS.out).mono ?_
  rintro e yHA ⟨rfl, hs⟩
  replace HS := Lib.hid hs
  clear hs
  go_wp2_with fail
  refine (HB.out _ HS.out).mono ?_
  rintro e yHB ⟨rfl, hs⟩
  replace HS := Lib.hid hs
  clear hs
  go_wp2_with fail
  refine (HF.out _ HS.out).mono ?_
  rintro e yHF ⟨rfl, hs⟩
  replace HS := Lib.hid hs
  clear hs
  go_wp2_with fail
  refine (HG.out _ HS.out).mono ?_
  rintro e yHG ⟨rfl, hs⟩
  replace HS := Lib.hid hs
  clear hs
  go_wp2_with fail
  refine (HQ.out _ HS.out).mono ?_
  rintro e yHQ ⟨rfl, hs⟩
  replace HS := Lib.hid hs
  clear hs
  go_wp2_with fail
  go_end0
  exact ⟨rfl, HS.out⟩
set_option maxRecDepth 100000 in
set_option maxHeartbeats 2000000 in
theorem rshort_no (T : Nat) (p s s' a f n ff : Int) (P0 PR P1 P2 P3 P4 : World → Prop) (w : World) (h0 : Hid (P0 w)) (rp : Bool) (hw : IntKind.i64.wrap (1 - s) = s')
    (HC : Hid (∀ W, P0 W → Rd 88 #[aP T, .int .i64 p, .int .i64 s'] (.int .i64 a) P0 W))
    (HD : Hid (∀ W, P0 W → Rd 88 #[aP T, .int .i64 a, .int .i64 s'] (.int .i64 f) P0 W))
    (HR : Hid (∀ W, P0 W → Rd 91 #[aP T, .int .i64 f] (.bool false) P0 W))
    (HN : Hid (∀ W, P0 W → Rd 88 #[aP T, .int .i64 a, .int .i64 s] (.int .i64 n) P0 W))
    (HT : Hid (∀ W, P0 W → Rd 100 #[aP T, .int .i64 a, .int .i64 s'] (.tuple #[]) PR W))
    (HX : Hid (∀ W, PR W → Rd 91 #[aP T, .int .i64 p] (.bool rp) PR W))
    (HA : Hid (∀ W, PR W → Rd 86 #[aP T, .int .i64 n, .bool rp] (.tuple #[]) P1 W))
    (HB : Hid (∀ W, P1 W → Rd 86 #[aP T, .int .i64 p, .bool false] (.tuple #[]) P2 W))
    (HF : Hid (∀ W, P2 W → Rd 88 #[aP T, .int .i64 n, .int .i64 s'] (.int .i64 ff) P2 W))
    (HG : Hid (∀ W, P2 W → Rd 86 #[aP T, .int .i64 ff, .bool false] (.tuple #[]) P3 W))
    (HQ : Hid (∀ W, P3 W → Rd 100 #[aP T, .int .i64 p, .int .i64 s] (.tuple #[]) P4 W)) :
    Rd 99 #[aP T, .int .i64 p, .int .i64 s] (.tuple #[]) P4 w := by
  have mx := mixed
  have HS := h0
  clear h0
  go_enter Try.func99, Try.ntmps99
  go_wp2_with fail
  refine (HC.out _ HS.out).mono ?_
  rintro e yHC ⟨rfl, hs⟩
  replace HS := Lib.hid hs
  clear hs
  go_wp2_with fail
  refine (HD.out _ HS.out).mono ?_
  rintro e yHD ⟨rfl, hs⟩
  replace HS := Lib.hid hs
  clear hs
  go_wp2_with fail
  refine (HR.out _ HS.out).mono ?_
  rintro e yHR ⟨rfl, hs⟩
  replace HS := Lib.hid hs
  clear hs
  go_wp2_with fail
  refine (HN.out _ HS.out).mono ?_
  rintro e yHN ⟨rfl, hs⟩
  replace HS := Lib.hid hs
  clear hs
  go_wp2_with fail
  refine (HT.out _ HS.out).mono ?_
  rintro e yHT ⟨rfl, hs⟩
  replace HS := Lib.hid hs
  clear hs
  go_wp2_with fail
  refine (HX.out _ HS.out).mono ?_
  rintro e yHX ⟨rfl, hs⟩
  replace HS := Lib.hid hs
  clear hs
  go_wp2_with fail
  refine (HA.out _ HS.out).mono ?_
  rintro e yHA ⟨rfl, hs⟩
  replace HS := Lib.hid hs
  clear hs
  go_wp2_with fail
  refine (HB.out _ HS.out).mono ?_
  rintro e yHB ⟨rfl, hs⟩
  replace HS := Lib.hid hs
  clear hs
  go_wp2_with fail
  refine (HF.out _ HS.out).mono ?_
  rintro e yHF ⟨rfl, hs⟩
  replace HS := Lib.hid hs
  clear hs
  go_wp2_with fail
  refine (HG.out _ HS.out).mono ?_
  rintro e yHG ⟨rfl, hs⟩
  replace HS := Lib.hid hs
  clear hs
  go_wp2_with fail
  refine (HQ.out _ HS.out).mono ?_
  rintro e yHQ ⟨rfl, hs⟩
  replace HS := Lib.hid hs
  clear hs
  go_wp2_with fail
  go_end0
  exact ⟨rfl, HS.out⟩
end Go.Proofs.Ytakkmnhiaddnnaa
