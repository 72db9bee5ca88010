/- A part of the proof: contracts of the functions that the statements reach. -/
import Derived.Test.YtakkmnhiaddnnaaRows
import Derived.Test.YtakkmnhiaddnnaaCA
import Derived.Test.YtakkmnhiaddnnaaCB
import Derived.Test.YtakkmnhiaddnnaaCC
import Derived.Test.YtakkmnhiaddnnaaCD
import Derived.Test.YtakkmnhiaddnnaaCE
import Derived.Test.YtakkmnhiaddnnaaCF
import Derived.Test.YtakkmnhiaddnnaaCG
import Derived.Test.YtakkmnhiaddnnaaCH
import Derived.Test.YtakkmnhiaddnnaaCI
import Derived.Test.YtakkmnhiaddnnaaCJ
import Derived.Test.YtakkmnhiaddnnaaCK
import Derived.Deep.LoopGhost
import Derived.Deep.Upon

/- Mending a red node, and a way that lacks a black one. -/
namespace Go.Proofs.Ytakkmnhiaddnnaa
open Go.RowKit Go.Sort Go.Proofs.Ytakkmnhiaddnnaa.Bo
set_option linter.unusedVariables false

theorem paint_ok (t : Rt) (i : Int) (b : Bool) (h : t.ar.ok) : (t.paint i b).ar.ok := t.tw_ok _ _ h
section
variable {w0 w : World} {S : Nat → Prop} {base T A : Nat} {t : Rt}
theorem rturnRed_any (h : RtAt w0 S base T A t w) (hok : t.ar.ok) (i : Int) (hc : t.canTurnRed i) :
    Rd 97 #[aP T, .int .i64 i] (.tuple #[]) (RtAt w0 S base T A (t.turnRed i)) w := by
  obtain ⟨c1, c2, c3, c4, c5⟩ := hc
  unfold Rt.turnRed
  by_cases e : t.sd i = t.sd (t.pa i)
  · rw [if_pos e]
    have c4 := c4 e
    exact rturnRed_eq (P0 := RtAt w0 S base T A t) (P3 := RtAt w0 S base T A _) T i _ _ (sv (t.sd (t.pa i))) (sv (!t.sd (t.pa i))) _ _ w h (sv_not _)
      (fun W hW => rpar_any hW hok i c1) (fun W hW => rpar_any hW hok _ c2) (fun W hW => rside_any hW hok _ c2) (fun W hW => by have := rside_any hW hok i c1; rw [e] at this; exact this)
      (fun W hW => rpaint_any hW hok _ false c2) (fun W hW => rpaint_any hW (paint_ok _ _ _ hok) _ true (by rw [Rt.paint_is]; exact c3))
      (fun W hW => rrot_any hW (paint_ok _ _ _ (paint_ok _ _ _ hok)) _ _ c4)
  · rw [if_neg e]
    obtain ⟨c5, c6⟩ := c5 e
    have hne : (sv (t.sd i) == sv (t.sd (t.pa i))) = false := by
      revert e
      cases t.sd i <;> cases t.sd (t.pa i) <;> intro e <;> first | rfl | exact absurd rfl e
    have k1 := t.rot_ok (t.pa i) (t.sd (t.pa i)) hok
    exact rturnRed_ne (P0 := RtAt w0 S base T A t) (P3 := RtAt w0 S base T A _) T i _ _ (sv (t.sd (t.pa i))) (sv (!t.sd (t.pa i))) (sv (t.sd i)) _ _ _ w h (sv_not _) hne
      (fun W hW => rpar_any hW hok i c1) (fun W hW => rpar_any hW hok _ c2) (fun W hW => rside_any hW hok _ c2) (fun W hW => rside_any hW hok i c1)
      (fun W hW => rrot_any hW hok _ _ c5) (fun W hW => rpaint_any hW k1 _ false (by rw [Rt.rot_is]; exact c1)) (fun W hW => rpaint_any hW (paint_ok _ _ _ k1) _ true (by rw [Rt.paint_is, Rt.rot_is]; exact c3))
      (fun W hW => rrot_any hW (paint_ok _ _ _ (paint_ok _ _ _ k1)) _ _ c6)
theorem rblack_any (h : RtAt w0 S base T A t w) (hok : t.ar.ok) (p : Int) (s : Bool) (hc : t.canBlack p s) :
    Rd 98 #[aP T, .int .i64 p, .int .i64 (sv s)] (.tuple #[]) (RtAt w0 S base T A (t.blackAside p s)) w := by
  obtain ⟨c1, c2⟩ := hc
  unfold Rt.blackAside
  by_cases e : t.red (t.ch p (!s)) = false
  · rw [if_pos e]
    exact rblack_no T p (sv s) (sv (!s)) _ (RtAt w0 S base T A t) w h (sv_not _) (fun W hW => rchild_any hW hok _ _ c1) (fun W hW => by have := rred_any hW hok (t.ch p (!s)); rw [e] at this; exact this)
  · rw [if_neg e]
    have e' : t.red (t.ch p (!s)) = true := by simpa using e
    obtain ⟨c2, c3⟩ := c2 e'
    exact rblack_yes (P0 := RtAt w0 S base T A t) (P3 := RtAt w0 S base T A _) T p (sv s) (sv (!s)) _ _ _ w h (sv_not _) (fun W hW => rchild_any hW hok _ _ c1) (fun W hW => by have := rred_any hW hok (t.ch p (!s)); rw [e'] at this; exact this)
      (fun W hW => rpaint_any hW hok _ false c2) (fun W hW => rpaint_any hW (paint_ok _ _ _ hok) _ true (by rw [Rt.paint_is]; exact c1)) (fun W hW => rrot_any hW (paint_ok _ _ _ (paint_ok _ _ _ hok)) _ _ c3)
theorem short1_ok (p a : Int) (hok : t.ar.ok) : (t.short1 p a).ar.ok := paint_ok _ _ _ (paint_ok _ _ _ hok)
theorem short1_is (p a j : Int) : (t.short1 p a).ar.is j = t.ar.is j := by unfold Rt.short1; rw [Rt.paint_is, Rt.paint_is]
theorem rshort_any (h : RtAt w0 S base T A t w) (hok : t.ar.ok) (p : Int) (s : Bool) (hc : t.canTurnShort p s) :
    Rd 99 #[aP T, .int .i64 p, .int .i64 (sv s)] (.tuple #[]) (RtAt w0 S base T A (t.turnShort p s)) w := by
  obtain ⟨c1, c2, c3, c4⟩ := hc
  unfold Rt.turnShort
  by_cases e : t.red (t.ch (t.ch p (!s)) (!s)) = false
  · rw [if_pos e]
    obtain ⟨c5, d1, d2, d3, d4⟩ := c3 e
    unfold Rt.short2
    have k1 := t.rot_ok (t.ch p (!s)) (!s) hok
    exact rshort_no (P0 := RtAt w0 S base T A t) (P4 := RtAt w0 S base T A _) T p (sv s) (sv (!s)) _ _ _ _ _ _ _ _ w h _ (sv_not _) (fun W hW => rchild_any hW hok _ _ c1) (fun W hW => rchild_any hW hok _ _ c2) (fun W hW => by have := rred_any hW hok (t.ch (t.ch p (!s)) (!s)); rw [e] at this; exact this)
      (fun W hW => rchild_any hW hok _ s c2) (fun W hW => rrot_any hW hok _ (!s) c5)
      (fun W hW => rred_any hW k1 p) (fun W hW => rpaint_any hW k1 _ _ d1) (fun W hW => rpaint_any hW (paint_ok _ _ _ k1) _ false (by rw [Rt.paint_is]; exact d2)) (fun W hW => rchild_any hW (short1_ok _ _ k1) _ _ ((short1_is p _ _).trans d1))
      (fun W hW => rpaint_any hW (short1_ok _ _ k1) _ false ((short1_is p _ _).trans d3)) (fun W hW => rrot_any hW (paint_ok _ _ _ (short1_ok _ _ k1)) _ _ d4)
  · rw [if_neg e]
    have e' : t.red (t.ch (t.ch p (!s)) (!s)) = true := by simpa using e
    obtain ⟨d1, d2, d3, d4⟩ := c4 e'
    unfold Rt.short2
    exact rshort_yes (P0 := RtAt w0 S base T A t) (P4 := RtAt w0 S base T A _) T p (sv s) (sv (!s)) _ _ _ _ _ _ w h _ (sv_not _) (fun W hW => rchild_any hW hok _ _ c1) (fun W hW => rchild_any hW hok _ _ c2) (fun W hW => by have := rred_any hW hok (t.ch (t.ch p (!s)) (!s)); rw [e'] at this; exact this)
      (fun W hW => rred_any hW hok p) (fun W hW => rpaint_any hW hok _ _ d1) (fun W hW => rpaint_any hW (paint_ok _ _ _ hok) _ false (by rw [Rt.paint_is]; exact d2)) (fun W hW => rchild_any hW (short1_ok _ _ hok) _ _ ((short1_is p _ _).trans d1))
      (fun W hW => rpaint_any hW (short1_ok _ _ hok) _ false ((short1_is p _ _).trans d3)) (fun W hW => rrot_any hW (paint_ok _ _ _ (short1_ok _ _ hok)) _ _ d4)
end
end Go.Proofs.Ytakkmnhiaddnnaa

/- The loops that mend. -/
namespace Go.Proofs.Ytakkmnhiaddnnaa
open Go.RowKit Go.Sort Go.Proofs.Ytakkmnhiaddnnaa.Bo
set_option linter.unusedVariables false

abbrev RdP (T : Nat) (i : Int) (v : Int) (P : World → Prop) : Prop := ∀ W, P W → Rd 89 #[aP T, .int .i64 i] (.int .i64 v) P W
abbrev RdR (T : Nat) (i : Int) (v : Bool) (P : World → Prop) : Prop := ∀ W, P W → Rd 91 #[aP T, .int .i64 i] (.bool v) P W
abbrev RdS (T : Nat) (i : Int) (v : Int) (P : World → Prop) : Prop := ∀ W, P W → Rd 90 #[aP T, .int .i64 i] (.int .i64 v) P W
abbrev RdC (T : Nat) (i s : Int) (v : Int) (P : World → Prop) : Prop := ∀ W, P W → Rd 88 #[aP T, .int .i64 i, .int .i64 s] (.int .i64 v) P W
abbrev RdPt (T : Nat) (i : Int) (b : Bool) (P Q : World → Prop) : Prop := ∀ W, P W → Rd 86 #[aP T, .int .i64 i, .bool b] (.tuple #[]) Q W
def RedStop (T : Nat) (PF P0 : World → Prop) : Prop := ∃ root : Int, (∀ W, P0 W → W.cell? ⟨T, 1, none⟩ = some (.int .i64 root)) ∧ RdPt T root false P0 PF
def RedRound (T : Nat) (Inv : Int → Nat → World → Prop) (PF : World → Prop) (iv : Int) (k : Nat) (W : World) : Prop :=
  ∃ (p : Int) (r : Bool) (P0 : World → Prop), P0 W ∧ RdP T iv p P0 ∧ RdR T p r P0 ∧ (r = false → RedStop T PF P0) ∧
    (r = true → ∃ (top s s' a : Int) (ra : Bool), IntKind.i64.wrap (1 - s) = s' ∧ RdP T p top P0 ∧ RdS T p s P0 ∧ RdC T top s' a P0 ∧ RdR T a ra P0 ∧
      (ra = false → ∃ P1 : World → Prop, (∀ W, P0 W → Rd 97 #[aP T, .int .i64 iv] (.tuple #[]) P1 W) ∧ RedStop T PF P1) ∧
      (ra = true → ∃ (P1 P2 : World → Prop) (m : Nat), m < k ∧ RdPt T p false P0 P1 ∧ RdPt T a false P1 P2 ∧ RdPt T top true P2 (Inv top m)))
set_option maxRecDepth 100000 in
set_option maxHeartbeats 4000000 in
theorem rmendRed_core (T : Nat) (Inv : Int → Nat → World → Prop) (PF : World → Prop) (HR : Hid (∀ iv k W, Inv iv k W → RedRound T Inv PF iv k W)) (i : Int) (k0 : Nat) (w : World) (h0 : Hid (Inv i k0 w)) :
    Rd 87 #[aP T, .int .i64 i] (.tuple #[]) PF w := by
  have mx := mixed
  go_enter Try.func87, Try.ntmps87
  go_wp2_with fail
  go_loopg [1] k0 (fun k i wr => ∃ iv : Int, i = .int .i64 iv ∧ Inv iv k wr)
  case atStart => exact ⟨i, rfl, h0.out⟩
  case round =>
    obtain ⟨iv, rfl, hinv⟩ := hrel
    obtain ⟨p, r, P0, hs, hP, hRp, hst, hgo⟩ := HR.out iv gk wr hinv
    have HS := Lib.hid hs
    have HP := Lib.hid hP
    have HRp := Lib.hid hRp
    have HST := Lib.hid hst
    have HGO := Lib.hid hgo
    clear hs hP hRp hst hgo hinv
    go_wp2_with fail
    refine (HP.out _ HS.out).mono ?_
    rintro e y1 ⟨rfl, hs⟩
    replace HS := Lib.hid hs
    clear hs
    go_wp2_with fail
    refine (HRp.out _ HS.out).mono ?_
    rintro e y2 ⟨rfl, hs⟩
    replace HS := Lib.hid hs
    clear hs
    cases r with
    | false =>
      obtain ⟨root, hc, hpt⟩ := HST.out rfl
      have c1 := hc _ HS.out
      have HPT := Lib.hid hpt
      clear hc hpt HST HGO
      go_wp2_with fail
      refine (HPT.out _ HS.out).mono ?_
      rintro e y3 ⟨rfl, hs⟩
      replace HS := Lib.hid hs
      clear hs c1
      go_wp2_with fail
      go_end0
      exact ⟨rfl, HS.out⟩
    | true =>
      obtain ⟨top, s, s', a, ra, hw, q1, q2, q3, q4, q5, q6⟩ := HGO.out rfl
      have H1 := Lib.hid q1
      have H2 := Lib.hid q2
      have H3 := Lib.hid q3
      have H4 := Lib.hid q4
      have H5 := Lib.hid q5
      have H6 := Lib.hid q6
      clear q1 q2 q3 q4 q5 q6 HST HGO
      go_wp2_with fail
      refine (HP.out _ HS.out).mono ?_
      rintro e y3 ⟨rfl, hs⟩
      replace HS := Lib.hid hs
      clear hs
      go_wp2_with fail
      refine (H1.out _ HS.out).mono ?_
      rintro e y4 ⟨rfl, hs⟩
      replace HS := Lib.hid hs
      clear hs
      go_wp2_with fail
      refine (H2.out _ HS.out).mono ?_
      rintro e y5 ⟨rfl, hs⟩
      replace HS := Lib.hid hs
      clear hs
      go_wp2_with fail
      refine (H3.out _ HS.out).mono ?_
      rintro e y6 ⟨rfl, hs⟩
      replace HS := Lib.hid hs
      clear hs
      go_wp2_with fail
      refine (H4.out _ HS.out).mono ?_
      rintro e y7 ⟨rfl, hs⟩
      replace HS := Lib.hid hs
      clear hs
      cases ra with
      | false =>
        obtain ⟨P1, q1, root, hc, hpt⟩ := H5.out rfl
        have HT := Lib.hid q1
        have HC := Lib.hid hc
        have HPT := Lib.hid hpt
        clear q1 hc hpt H5 H6
        go_wp2_with fail
        refine (HT.out _ HS.out).mono ?_
        rintro e y8 ⟨rfl, hs⟩
        have c1 := HC.out _ hs
        replace HS := Lib.hid hs
        clear hs
        go_wp2_with fail
        refine (HPT.out _ HS.out).mono ?_
        rintro e y9 ⟨rfl, hs⟩
        replace HS := Lib.hid hs
        clear hs c1
        go_wp2_with fail
        go_end0
        exact ⟨rfl, HS.out⟩
      | true =>
        obtain ⟨P1, P2, m, hm, q1, q2, q3⟩ := H6.out rfl
        have HA := Lib.hid q1
        have HB := Lib.hid q2
        have HC := Lib.hid q3
        clear q1 q2 q3 H5 H6
        go_wp2_with fail
        refine (HA.out _ HS.out).mono ?_
        rintro e y8 ⟨rfl, hs⟩
        replace HS := Lib.hid hs
        clear hs
        go_wp2_with fail
        refine (HB.out _ HS.out).mono ?_
        rintro e y9 ⟨rfl, hs⟩
        replace HS := Lib.hid hs
        clear hs
        go_wp2_with fail
        refine (HC.out _ HS.out).mono ?_
        rintro e y10 ⟨rfl, hs⟩
        replace HS := Lib.hid hs
        clear hs
        go_wp2_with fail
        go_roundg m
        case measure => omega
        case rel => exact ⟨top, rfl, HS.out⟩
end Go.Proofs.Ytakkmnhiaddnnaa

/- The loop that mends a way that lacks a black node. -/
namespace Go.Proofs.Ytakkmnhiaddnnaa
open Go.RowKit Go.Sort Go.Proofs.Ytakkmnhiaddnnaa.Bo
set_option linter.unusedVariables false

def ShRound (T : Nat) (Inv : Int → Int → Nat → World → Prop) (PF : World → Prop) (iv s : Int) (k : Nat) (W : World) : Prop :=
  ∃ P0 : World → Prop, P0 W ∧ (iv = -1 → ∀ W, P0 W → PF W) ∧ (iv ≠ -1 → ∃ (P1 : World → Prop) (s' a c0 c1 : Int) (r0 r1 : Bool), IntKind.i64.wrap (1 - s) = s' ∧
    (∀ W, P0 W → Rd 98 #[aP T, .int .i64 iv, .int .i64 s] (.tuple #[]) P1 W) ∧ RdC T iv s' a P1 ∧ RdC T a 0 c0 P1 ∧ RdR T c0 r0 P1 ∧ RdC T a 1 c1 P1 ∧ RdR T c1 r1 P1 ∧
    (r0 = true ∨ r1 = true → ∀ W, P1 W → Rd 99 #[aP T, .int .i64 iv, .int .i64 s] (.tuple #[]) PF W) ∧
    (r0 = false → r1 = false → ∃ (P2 : World → Prop) (rp : Bool), RdPt T a true P1 P2 ∧ RdR T iv rp P2 ∧ (rp = true → RdPt T iv false P2 PF) ∧
      (rp = false → ∃ (p2 s2 : Int) (m : Nat), m < k ∧ RdP T iv p2 P2 ∧ RdS T iv s2 P2 ∧ ∀ W, P2 W → Inv p2 s2 m W)))
set_option maxRecDepth 100000 in
set_option maxHeartbeats 4000000 in
theorem rmendShort_core (T : Nat) (Inv : Int → Int → Nat → World → Prop) (PF : World → Prop) (HR : Hid (∀ iv s k W, Inv iv s k W → ShRound T Inv PF iv s k W)) (p s : Int) (k0 : Nat) (w : World) (h0 : Hid (Inv p s k0 w)) :
    Rd 93 #[aP T, .int .i64 p, .int .i64 s] (.tuple #[]) PF w := by
  have mx := mixed
  go_enter Try.func93, Try.ntmps93
  go_wp2_with fail
  go_loopg [1, 2] k0 (fun k i j wr => ∃ iv sv : Int, i = .int .i64 iv ∧ j = .int .i64 sv ∧ Inv iv sv k wr)
  case atStart => exact ⟨p, s, rfl, rfl, h0.out⟩
  case round =>
    obtain ⟨iv, sv, rfl, rfl, hinv⟩ := hrel
    obtain ⟨P0, hs, hend, hgo⟩ := HR.out iv sv gk wr hinv
    have HS := Lib.hid hs
    have HEND := Lib.hid hend
    have HGO := Lib.hid hgo
    clear hs hend hgo hinv
    by_cases hi : iv = -1
    · subst hi
      have HF := Lib.hid (HEND.out rfl _ HS.out)
      clear HEND HGO
      go_wp2_with fail
      go_end0
      exact ⟨rfl, HF.out⟩
    obtain ⟨P1, s', a, c0, c1, r0, r1, hw, q1, q2, q3, q4, q5, q6, q7, q8⟩ := HGO.out hi
    have t1 : (iv == -1) = false := by simpa using hi
    have HB := Lib.hid q1
    have HC := Lib.hid q2
    have HL := Lib.hid q3
    have HLR := Lib.hid q4
    have HRt := Lib.hid q5
    have HRR := Lib.hid q6
    have HT := Lib.hid q7
    have HN := Lib.hid q8
    clear q1 q2 q3 q4 q5 q6 q7 q8 HEND HGO hi
    go_wp2_with fail
    refine (HB.out _ HS.out).mono ?_
    rintro e y1 ⟨rfl, hs⟩
    replace HS := Lib.hid hs
    clear hs
    go_wp2_with fail
    refine (HC.out _ HS.out).mono ?_
    rintro e y2 ⟨rfl, hs⟩
    replace HS := Lib.hid hs
    clear hs
    go_wp2_with fail
    refine (HL.out _ HS.out).mono ?_
    rintro e y3 ⟨rfl, hs⟩
    replace HS := Lib.hid hs
    clear hs
    go_wp2_with fail
    refine (HLR.out _ HS.out).mono ?_
    rintro e y4 ⟨rfl, hs⟩
    replace HS := Lib.hid hs
    clear hs
    cases r0 with
    | true =>
      have HTT := Lib.hid (HT.out (.inl rfl))
      clear HT HN
      go_wp2_with fail
      refine (HTT.out _ HS.out).mono ?_
      rintro e y5 ⟨rfl, hs⟩
      replace HS := Lib.hid hs
      clear hs
      go_wp2_with fail
      refine bodyPost_ret (results_none rfl _ _ _) rfl ?_
      exact ⟨rfl, HS.out⟩
    | false =>
      go_wp2_with fail
      refine (HRt.out _ HS.out).mono ?_
      rintro e y6 ⟨rfl, hs⟩
      replace HS := Lib.hid hs
      clear hs
      go_wp2_with fail
      refine (HRR.out _ HS.out).mono ?_
      rintro e y7 ⟨rfl, hs⟩
      replace HS := Lib.hid hs
      clear hs
      cases r1 with
      | true =>
        have HTT := Lib.hid (HT.out (.inr rfl))
        clear HT HN
        go_wp2_with fail
        refine (HTT.out _ HS.out).mono ?_
        rintro e y8 ⟨rfl, hs⟩
        replace HS := Lib.hid hs
        clear hs
        go_wp2_with fail
        refine bodyPost_ret (results_none rfl _ _ _) rfl ?_
        exact ⟨rfl, HS.out⟩
      | false =>
        obtain ⟨P2, rp, z1, z2, z3, z4⟩ := HN.out (by simp) (by simp)
        have H1 := Lib.hid z1
        have H2 := Lib.hid z2
        have H3 := Lib.hid z3
        have H4 := Lib.hid z4
        clear z1 z2 z3 z4 HT HN
        go_wp2_with fail
        refine (H1.out _ HS.out).mono ?_
        rintro e y9 ⟨rfl, hs⟩
        replace HS := Lib.hid hs
        clear hs
        go_wp2_with fail
        refine (H2.out _ HS.out).mono ?_
        rintro e y10 ⟨rfl, hs⟩
        replace HS := Lib.hid hs
        clear hs
        cases rp with
        | true =>
          have HPT := Lib.hid (H3.out rfl)
          clear H3 H4
          go_wp2_with fail
          refine (HPT.out _ HS.out).mono ?_
          rintro e y11 ⟨rfl, hs⟩
          replace HS := Lib.hid hs
          clear hs
          go_wp2_with fail
          refine bodyPost_ret (results_none rfl _ _ _) rfl ?_
          exact ⟨rfl, HS.out⟩
        | false =>
          obtain ⟨p2, s2, m, hm, z1, z2, z3⟩ := H4.out rfl
          have HP2 := Lib.hid z1
          have HS2 := Lib.hid z2
          have HI2 := Lib.hid z3
          clear z1 z2 z3 H3 H4
          go_wp2_with fail
          refine (HP2.out _ HS.out).mono ?_
          rintro e y12 ⟨rfl, hs⟩
          replace HS := Lib.hid hs
          clear hs
          go_wp2_with fail
          refine (HS2.out _ HS.out).mono ?_
          rintro e y13 ⟨rfl, hs⟩
          replace HS := Lib.hid hs
          clear hs
          go_wp2_with fail
          go_roundg m
          case measure => omega
          case rel => exact ⟨p2, s2, rfl, rfl, HI2.out _ HS.out⟩
end Go.Proofs.Ytakkmnhiaddnnaa

/- Mending, told by rows. -/
namespace Go.Proofs.Ytakkmnhiaddnnaa.Bo
theorem Fin.ok {t : Rt} {L : List G5} (h : Fin t L) : t.ar.ok := by obtain ⟨x, h1, _⟩ := h; exact h1.ok
theorem RedInv.ok {t : Rt} {i : Int} {L : List G5} {k : Nat} (h : RedInv t i L k) : t.ar.ok := by obtain ⟨cx, x, n, h1, _⟩ := h; exact h1.ok
theorem ShInv.ok {t : Rt} {i : Int} {s : Bool} {L : List G5} {k : Nat} (h : ShInv t i s L k) : t.ar.ok := by obtain ⟨cx, x, n, h1, _⟩ := h; exact h1.ok
end Go.Proofs.Ytakkmnhiaddnnaa.Bo
namespace Go.Proofs.Ytakkmnhiaddnnaa
open Go.RowKit Go.Sort Go.Proofs.Ytakkmnhiaddnnaa.Bo
set_option linter.unusedVariables false

/-- The tree holds the row L (a red-black tree of it), with room R. -/
def TrAt (w0 : World) (S : Nat → Prop) (base T A : Nat) (R : Int) (L : List G5) (w : World) : Prop := ∃ t, RtAt w0 S base T A t w ∧ t.ar.room = R ∧ Fin t L
section
variable {w0 w : World} {S : Nat → Prop} {base T A : Nat} {t : Rt} {R : Int} {L : List G5}
theorem RtAt.root (h : RtAt w0 S base T A t w) : w.heap[T]? = some (tO A t.root) := by
  obtain ⟨S1, ⟨S0, _, h1, _⟩, _⟩ := h
  exact h1
theorem RtAt.rootCell (h : RtAt w0 S base T A t w) : w.cell? ⟨T, 1, none⟩ = some (.int .i64 t.root) := (cell_of_row _ _ 1 _ _ _ h.root).trans rfl
theorem turnRed_room (i : Int) : (t.turnRed i).ar.room = t.ar.room := by
  unfold Rt.turnRed
  split <;> simp only [Rt.rot_room, Rt.paint, Rt.tw_room]
theorem blackAside_room (p : Int) (s : Bool) : (t.blackAside p s).ar.room = t.ar.room := by
  unfold Rt.blackAside
  split <;> simp only [Rt.rot_room, Rt.paint, Rt.tw_room]
theorem turnShort_room (p : Int) (s : Bool) : (t.turnShort p s).ar.room = t.ar.room := by
  unfold Rt.turnShort Rt.short2 Rt.short1
  split <;> simp only [Rt.rot_room, Rt.paint, Rt.tw_room]
theorem paint_room (i : Int) (b : Bool) : (t.paint i b).ar.room = t.ar.room := t.tw_room _ _
theorem red_stop {Q : Rt} (hok : Q.ar.ok) (hR : Q.ar.room = R) (hi : Q.ar.is Q.root = true) (hf : Fin (Q.paint Q.root false) L) : RedStop T (TrAt w0 S base T A R L) (RtAt w0 S base T A Q) :=
  ⟨Q.root, fun W hW => hW.rootCell, fun W hW => (rpaint_any hW hok _ false hi).mono fun e w' ⟨he, hw⟩ => ⟨he, _, hw, (paint_room _ _).trans hR, hf⟩⟩
theorem rmendRed_any (h : RtAt w0 S base T A t w) (hR : t.ar.room = R) {i : Int} {k : Nat} (hi : RedInv t i L k) : Rd 87 #[aP T, .int .i64 i] (.tuple #[]) (TrAt w0 S base T A R L) w := by
  refine rmendRed_core T (fun iv k W => ∃ t, RtAt w0 S base T A t W ∧ t.ar.room = R ∧ RedInv t iv L k) (TrAt w0 S base T A R L) (Lib.hid ?_) i k w ⟨t, h, hR, hi⟩
  rintro iv k W ⟨t, hW, hR, hinv⟩
  have hok := hinv.ok
  refine ⟨t.pa iv, t.red (t.pa iv), RtAt w0 S base T A t, hW, fun W hW => rpar_any hW hok _ hinv.is, fun W hW => rred_any hW hok _, fun e => ?_, fun e => ?_⟩
  · obtain ⟨z1, z2⟩ := hinv.stop e
    exact red_stop hok hR z1 z2
  · obtain ⟨z1, z2, z3, z4⟩ := hinv.step e
    refine ⟨_, sv (t.sd (t.pa iv)), sv (!(t.sd (t.pa iv))), _, _, sv_not _, fun W hW => rpar_any hW hok _ z1, fun W hW => rside_any hW hok _ z1, fun W hW => rchild_any hW hok _ _ z2, fun W hW => rred_any hW hok _, fun e2 => ?_, fun e2 => ?_⟩
    · obtain ⟨c1, c2, c3⟩ := z3 e2
      have hok2 : (t.turnRed iv).ar.ok := by
        obtain ⟨x, hx, _⟩ := c3
        have := hx.ok
        have hh : ((t.turnRed iv).paint (t.turnRed iv).root false).ar.ok := this
        unfold Rt.turnRed
        split
        · exact Rt.rot_ok _ _ _ (paint_ok _ _ _ (paint_ok _ _ _ hok))
        · exact Rt.rot_ok _ _ _ (paint_ok _ _ _ (paint_ok _ _ _ (Rt.rot_ok _ _ _ hok)))
      exact ⟨_, fun W hW => rturnRed_any hW hok _ c1, red_stop hok2 ((turnRed_room _).trans hR) c2 c3⟩
    · obtain ⟨c1, m, hm, c2⟩ := z4 e2
      refine ⟨_, _, m, hm, fun W hW => rpaint_any hW hok _ false z1, fun W hW => rpaint_any hW (paint_ok _ _ _ hok) _ false (by rw [Rt.paint_is]; exact c1), fun W hW => (rpaint_any hW (paint_ok _ _ _ (paint_ok _ _ _ hok)) _ true (by rw [Rt.paint_is, Rt.paint_is]; exact z2)).mono fun e w' ⟨he, hw⟩ => ⟨he, _, hw, ?_, c2⟩⟩
      rw [paint_room, paint_room, paint_room, hR]
theorem rmendShort_any (h : RtAt w0 S base T A t w) (hR : t.ar.room = R) {p : Int} {s : Bool} {k : Nat} (hi : ShInv t p s L k) : Rd 93 #[aP T, .int .i64 p, .int .i64 (sv s)] (.tuple #[]) (TrAt w0 S base T A R L) w := by
  refine rmendShort_core T (fun iv z k W => ∃ t s, z = sv s ∧ RtAt w0 S base T A t W ∧ t.ar.room = R ∧ ShInv t iv s L k) (TrAt w0 S base T A R L) (Lib.hid ?_) p (sv s) k w ⟨t, s, rfl, h, hR, hi⟩
  rintro iv z k W ⟨t, s, rfl, hW, hR, hinv⟩
  have hok := hinv.ok
  refine ⟨RtAt w0 S base T A t, hW, fun e W hW => ⟨t, hW, hR, hinv.stop e⟩, fun e => ?_⟩
  obtain ⟨z1, z2, z3, z4, z5⟩ := hinv.step e
  have hok1 : (t.blackAside iv s).ar.ok := by
    unfold Rt.blackAside
    split
    · exact hok
    · exact Rt.rot_ok _ _ _ (paint_ok _ _ _ (paint_ok _ _ _ hok))
  have hR1 := (blackAside_room (t := t) iv s).trans hR
  refine ⟨RtAt w0 S base T A (t.blackAside iv s), sv (!s), (t.blackAside iv s).ch iv (!s), (t.blackAside iv s).ch ((t.blackAside iv s).ch iv (!s)) false, (t.blackAside iv s).ch ((t.blackAside iv s).ch iv (!s)) true, (t.blackAside iv s).red ((t.blackAside iv s).ch ((t.blackAside iv s).ch iv (!s)) false), (t.blackAside iv s).red ((t.blackAside iv s).ch ((t.blackAside iv s).ch iv (!s)) true), sv_not _, fun W hW => rblack_any hW hok _ _ z1, ?_⟩
  generalize t.blackAside iv s = t1 at *
  refine ⟨fun W hW => rchild_any hW hok1 _ _ z2, fun W hW => rchild_any hW hok1 _ false z3, fun W hW => rred_any hW hok1 _, fun W hW => rchild_any hW hok1 _ true z3, fun W hW => rred_any hW hok1 _, fun e W hW => ?_, fun e1 e2 => ?_⟩
  · obtain ⟨c1, c2⟩ := z4 e
    exact (rshort_any hW hok1 _ _ c1).mono fun e w' ⟨he, hw⟩ => ⟨he, _, hw, (turnShort_room _ _).trans hR1, c2⟩
  · obtain ⟨c1, c2⟩ := z5 e1 e2
    have hok2 := paint_ok t1 (t1.ch iv (!s)) true hok1
    have hR2 := (paint_room (t := t1) (t1.ch iv (!s)) true).trans hR1
    have is2 : (t1.paint (t1.ch iv (!s)) true).ar.is iv = true := by rw [Rt.paint_is]; exact z2
    refine ⟨_, _, fun W hW => rpaint_any hW hok1 _ true z3, fun W hW => rred_any hW hok2 _, fun e W hW => (rpaint_any hW hok2 _ false is2).mono fun e' w' ⟨he, hw⟩ => ⟨he, _, hw, (paint_room _ _).trans hR2, c1 e⟩, fun e => ?_⟩
    obtain ⟨m, hm, c3⟩ := c2 e
    exact ⟨_, _, m, hm, fun W hW => rpar_any hW hok2 _ is2, fun W hW => rside_any hW hok2 _ is2, fun W hW => ⟨_, _, rfl, hW, hR2, c3⟩⟩
end
end Go.Proofs.Ytakkmnhiaddnnaa

/- The way down: each step told by a closure. -/
namespace Go.Proofs.Ytakkmnhiaddnnaa
open Go.RowKit Go.Sort Go.Proofs.Ytakkmnhiaddnnaa.Bo
set_option linter.unusedVariables false

/-- A step's closure: it is told the place and the node, and tells a side. -/
def DnRound (T A fid : Nat) (c1 c2 c3 : Value) (Inv : Nat → Int → Value → World → Prop) (PF : World → Prop) (k : Nat) (iv : Int) (nv : Value) (W : World) : Prop :=
  (nv = .pointer none ∧ PF W) ∨ ∃ (g n : Nat) (s c : Int) (P1 P2 : World → Prop), P1 W ∧ Bc P1 ∧ iv = (n : Int) ∧ nv = .pointer (some ⟨g, n * 10, none⟩) ∧ 0 ≤ s ∧ s < 2 ∧
    (∀ W, P1 W → Calls Try.prog fid #[.int .i64 (n : Int), .pointer (some ⟨g, n * 10, none⟩), c1, c2, c3] W fun e w' => e = .returned (.int .i64 s) ∧ P2 w') ∧
    (∀ W, P1 W → W.cell? ⟨g, n * 10 + 6 + s.toNat, none⟩ = some (.int .i64 c)) ∧ (∀ W, P2 W → W.cell? ⟨g, n * 10 + 6 + s.toNat, none⟩ = some (.int .i64 c)) ∧ (∀ W, P2 W → W.cell? ⟨T, 0, none⟩ = some (aP A)) ∧
    ∃ m, m < k ∧ ∀ W, P2 W → Calls Try.prog 64 #[aP A, .int .i64 c] W fun e w' => ∃ nv, e = .returned nv ∧ Inv m c nv w'
set_option maxRecDepth 100000 in
set_option maxHeartbeats 4000000 in
theorem rdown_core (T A fid : Nat) (eg : ∀ args w, (callFunc fid args).run Try.prog w = .ok (.enter fid args) w) (c1 c2 c3 : Value) (Inv : Nat → Int → Value → World → Prop) (PF : World → Prop) (root : Int) (k0 : Nat) (w : World)
    (HT : Hid (w.heap[T]? = some (tO A root)))
    (H0 : Hid (Calls Try.prog 64 #[aP A, .int .i64 root] w fun e w' => ∃ nv, e = .returned nv ∧ Inv k0 root nv w'))
    (HR : Hid (∀ k i n W, Inv k i n W → DnRound T A fid c1 c2 c3 Inv PF k i n W)) :
    Rd 71 #[aP T, .func (.func fid) #[] #[c1, c2, c3]] (.tuple #[]) PF w := by
  have mx := mixed
  have d0 : w.cell? ⟨T, 0, none⟩ = some (aP A) := (cell_of_row _ _ 0 _ _ _ HT.out).trans rfl
  have d1 : w.cell? ⟨T, 1, none⟩ = some (.int .i64 root) := (cell_of_row _ _ 1 _ _ _ HT.out).trans rfl
  go_enter Try.func71, Try.ntmps71
  go_wp2_with fail
  refine H0.out.mono ?_
  rintro e y1 ⟨nv, rfl, hinv⟩
  have HI := Lib.hid hinv
  clear hinv d0 d1
  go_wp2_with fail
  go_loopg [4, 5] k0 (fun k i n wr => ∃ iv : Int, i = .int .i64 iv ∧ Inv k iv n wr)
  case atStart => exact ⟨root, rfl, HI.out⟩
  case round =>
    obtain ⟨iv, rfl, hinv⟩ := hrel
    rcases HR.out gk iv _ wr hinv with ⟨rfl, hf⟩ | ⟨g, n, s, c, P1, P2, hs1, hb1, rfl, rfl, i1, i2, hcall, hc1, hc, hT, m, hm, hAt⟩
    · have HF := Lib.hid hf
      clear hf hinv
      go_wp2_with fail
      go_end0
      exact ⟨rfl, HF.out⟩
    · have HC := Lib.hid hcall
      have HS := Lib.hid (hb1.drew hs1)
      have HCc := Lib.hid hc
      have HCT := Lib.hid hT
      have HD := Lib.hid (hc1 _ HS.out)
      have HD0 := Lib.hid (hc1 _ hs1)
      have HAt := Lib.hid hAt
      clear hcall hc1 hc hT hAt hinv hs1 hb1
      go_wp2_with fail
      go_region_held3 (fun w' => w'.cell? ⟨g, n * 10 + 6 + s.toNat, none⟩ = some (.int .i64 c)) (with_reducible first | exact HD.out | exact HD0.out)
        (first
          | (refine (HC.out _ HS.out).mono ?_; rintro e y2 ⟨rfl, hs⟩; replace HD := Lib.hid (HCc.out _ hs); have HD3 := Lib.hid (HCT.out _ hs); replace HS := Lib.hid hs; clear hs))
      have d3 := HD3.out
      go_wp2_with fail
      refine (HAt.out _ HS.out).mono ?_
      rintro e y3 ⟨nv, rfl, hs⟩
      replace HS := Lib.hid hs
      clear hs d3
      go_wp2_with fail
      go_roundg m
      case measure => omega
      case rel => exact ⟨c, rfl, HS.out⟩
end Go.Proofs.Ytakkmnhiaddnnaa

/- What fits, and the furthest that does: the closures. -/
namespace Go.Proofs.Ytakkmnhiaddnnaa
open Go.RowKit Go.Sort Go.Proofs.Ytakkmnhiaddnnaa.Bo
set_option linter.unusedVariables false

set_option maxRecDepth 100000 in
theorem rnkey_core (g n : Nat) (ls la : Int) (w : World) (h1 : w.cell? ⟨g, n * 10, none⟩ = some (.int .i64 ls)) (h2 : w.cell? ⟨g, n * 10 + 1, none⟩ = some (.int .i64 la)) :
    Calls Try.prog 73 #[.pointer (some ⟨g, n * 10, none⟩)] w fun e w' => e = .returned (.agg #[.int .i64 ls, .int .i64 la]) ∧ Go.RowKit.Below w.heap.size w w' := by
  have hg := World.block_lt_of_cell? w _ h1
  have hL := below_new w (.cells #[.int .i64 0, .int .i64 0] 31)
  have k1 := (hL.cell (p := ⟨g, n * 10, none⟩) hg).trans h1
  have k2 := (hL.cell (p := ⟨g, n * 10 + 1, none⟩) hg).trans h2
  have h0 : (w.alloc (.cells #[.int .i64 0, .int .i64 0] 31)).heap[w.heap.size]? = some (.cells #[.int .i64 0, .int .i64 0] 31) := heap_alloc_new _ _
  clear h1 h2
  go_enter Try.func73, Try.ntmps73
  go_upto_region 1 with fail
  generalize w.alloc (.cells #[.int .i64 0, .int .i64 0] 31) = X at *
  obtain ⟨d1, d2, d3, d4⟩ := two_cells h0
  obtain ⟨f1, f2, _, _⟩ := two_cells (two_put (p := .int .i64 ls) (q := .int .i64 la) h0)
  have hL2 := (hL.setCell (p := ⟨w.heap.size, 0, none⟩) (Nat.le_refl _) (.int .i64 ls)).setCell (p := ⟨w.heap.size, 1, none⟩) (Nat.le_refl _) (.int .i64 la)
  clear h0
  go_wp2_with fail
  refine bodyPost_ret (v := .agg #[.int .i64 ls, .int .i64 la]) (by simp [results, Try.results73, go_sem, f1, f2]) rfl ?_
  exact ⟨rfl, hL2⟩
set_option maxRecDepth 100000 in
set_option maxHeartbeats 1000000 in
theorem rfit_le (c : Nat) (x y s a : Int) (w : World) (hy : I64 y) (ha : I64 a) (hc : w.heap[c]? = some (.cells #[.int .i64 x, .int .i64 y] 31)) :
    Calls Try.prog 70 #[.agg #[.int .i64 s, .int .i64 a], .pointer (some ⟨c, 0, none⟩)] w fun e w' => e = .returned (.bool (decide (key s a ≤ key x y))) ∧ Go.RowKit.Below w.heap.size w w' := by
  have mx := mixed
  have HC := Lib.hid (fun W => compare_any s a x y W ha hy)
  have HQ : Hid (decide (kcmp (key s a) (key x y) ≤ 0) = decide (key s a ≤ key x y)) := by
    show _ = _
    unfold kcmp; split
    · simp; omega
    · split <;> simp <;> omega
  generalize kcmp (key s a) (key x y) = K at *
  have hk0 : (w.alloc (.cells #[.int .i64 s, .int .i64 a] 31)).heap[w.heap.size]? = some (.cells #[.int .i64 s, .int .i64 a] 31) := heap_alloc_new _ _
  have hc0 : (w.alloc (.cells #[.int .i64 s, .int .i64 a] 31)).heap[c]? = some (.cells #[.int .i64 x, .int .i64 y] 31) := box_on hc (below_new _ _)
  have hL0 := below_new w (.cells #[.int .i64 s, .int .i64 a] 31)
  obtain ⟨d1, d2, _, _⟩ := two_cells hc0
  obtain ⟨d3, d4, _, _⟩ := two_cells hk0
  clear hc hk0 hc0
  go_enter Try.func70, Try.ntmps70
  go_wp2_with fail
  refine (HC.out _).mono ?_
  rintro e y ⟨rfl, hL⟩
  have hB := bt hL0 hL.1
  clear hL hL0 d1 d2 d3 d4
  go_wp2_with fail
  go_ret
  exact ⟨by rw [← HQ.out]; rfl, hB⟩
set_option maxRecDepth 100000 in
set_option maxHeartbeats 1000000 in
theorem rfit_gt (c : Nat) (x y s a : Int) (w : World) (hy : I64 y) (ha : I64 a) (hc : w.heap[c]? = some (.cells #[.int .i64 x, .int .i64 y] 31)) :
    Calls Try.prog 76 #[.agg #[.int .i64 s, .int .i64 a], .pointer (some ⟨c, 0, none⟩)] w fun e w' => e = .returned (.bool (decide (key s a > key x y))) ∧ Go.RowKit.Below w.heap.size w w' := by
  have mx := mixed
  have HC := Lib.hid (fun W => compare_any s a x y W ha hy)
  have HQ : Hid (decide (kcmp (key s a) (key x y) > 0) = decide (key s a > key x y)) := by
    show _ = _
    unfold kcmp; split
    · simp; omega
    · split <;> simp <;> omega
  generalize kcmp (key s a) (key x y) = K at *
  have hk0 : (w.alloc (.cells #[.int .i64 s, .int .i64 a] 31)).heap[w.heap.size]? = some (.cells #[.int .i64 s, .int .i64 a] 31) := heap_alloc_new _ _
  have hc0 : (w.alloc (.cells #[.int .i64 s, .int .i64 a] 31)).heap[c]? = some (.cells #[.int .i64 x, .int .i64 y] 31) := box_on hc (below_new _ _)
  have hL0 := below_new w (.cells #[.int .i64 s, .int .i64 a] 31)
  obtain ⟨d1, d2, _, _⟩ := two_cells hc0
  obtain ⟨d3, d4, _, _⟩ := two_cells hk0
  clear hc hk0 hc0
  go_enter Try.func76, Try.ntmps76
  go_wp2_with fail
  refine (HC.out _).mono ?_
  rintro e y ⟨rfl, hL⟩
  have hB := bt hL0 hL.1
  clear hL hL0 d1 d2 d3 d4
  go_wp2_with fail
  go_ret
  exact ⟨by rw [← HQ.out]; rfl, hB⟩
set_option maxRecDepth 100000 in
set_option maxHeartbeats 1000000 in
theorem rfit_lt (c : Nat) (x y s a : Int) (w : World) (hy : I64 y) (ha : I64 a) (hc : w.heap[c]? = some (.cells #[.int .i64 x, .int .i64 y] 31)) :
    Calls Try.prog 47 #[.agg #[.int .i64 s, .int .i64 a], .pointer (some ⟨c, 0, none⟩)] w fun e w' => e = .returned (.bool (decide (key s a < key x y))) ∧ Go.RowKit.Below w.heap.size w w' := by
  have mx := mixed
  have HC := Lib.hid (fun W => compare_any s a x y W ha hy)
  have HQ : Hid (decide (kcmp (key s a) (key x y) < 0) = decide (key s a < key x y)) := by
    show _ = _
    unfold kcmp; split
    · simp; omega
    · split <;> simp <;> omega
  generalize kcmp (key s a) (key x y) = K at *
  have hk0 : (w.alloc (.cells #[.int .i64 s, .int .i64 a] 31)).heap[w.heap.size]? = some (.cells #[.int .i64 s, .int .i64 a] 31) := heap_alloc_new _ _
  have hc0 : (w.alloc (.cells #[.int .i64 s, .int .i64 a] 31)).heap[c]? = some (.cells #[.int .i64 x, .int .i64 y] 31) := box_on hc (below_new _ _)
  have hL0 := below_new w (.cells #[.int .i64 s, .int .i64 a] 31)
  obtain ⟨d1, d2, _, _⟩ := two_cells hc0
  obtain ⟨d3, d4, _, _⟩ := two_cells hk0
  clear hc hk0 hc0
  go_enter Try.func47, Try.ntmps47
  go_wp2_with fail
  refine (HC.out _).mono ?_
  rintro e y ⟨rfl, hL⟩
  have hB := bt hL0 hL.1
  clear hL hL0 d1 d2 d3 d4
  go_wp2_with fail
  go_ret
  exact ⟨by rw [← HQ.out]; rfl, hB⟩
set_option maxRecDepth 100000 in
set_option maxHeartbeats 1000000 in
theorem rfit_ge (c : Nat) (x y s a : Int) (w : World) (hy : I64 y) (ha : I64 a) (hc : w.heap[c]? = some (.cells #[.int .i64 x, .int .i64 y] 31)) :
    Calls Try.prog 49 #[.agg #[.int .i64 s, .int .i64 a], .pointer (some ⟨c, 0, none⟩)] w fun e w' => e = .returned (.bool (decide (key s a ≥ key x y))) ∧ Go.RowKit.Below w.heap.size w w' := by
  have mx := mixed
  have HC := Lib.hid (fun W => compare_any s a x y W ha hy)
  have HQ : Hid (decide (kcmp (key s a) (key x y) ≥ 0) = decide (key s a ≥ key x y)) := by
    show _ = _
    unfold kcmp; split
    · simp; omega
    · split <;> simp <;> omega
  generalize kcmp (key s a) (key x y) = K at *
  have hk0 : (w.alloc (.cells #[.int .i64 s, .int .i64 a] 31)).heap[w.heap.size]? = some (.cells #[.int .i64 s, .int .i64 a] 31) := heap_alloc_new _ _
  have hc0 : (w.alloc (.cells #[.int .i64 s, .int .i64 a] 31)).heap[c]? = some (.cells #[.int .i64 x, .int .i64 y] 31) := box_on hc (below_new _ _)
  have hL0 := below_new w (.cells #[.int .i64 s, .int .i64 a] 31)
  obtain ⟨d1, d2, _, _⟩ := two_cells hc0
  obtain ⟨d3, d4, _, _⟩ := two_cells hk0
  clear hc hk0 hc0
  go_enter Try.func49, Try.ntmps49
  go_wp2_with fail
  refine (HC.out _).mono ?_
  rintro e y ⟨rfl, hL⟩
  have hB := bt hL0 hL.1
  clear hL hL0 d1 d2 d3 d4
  go_wp2_with fail
  go_ret
  exact ⟨by rw [← HQ.out]; rfl, hB⟩
set_option maxRecDepth 100000 in
set_option maxHeartbeats 2000000 in
theorem rout1_core (fid : Nat) (eg : ∀ args w, (callFunc fid args).run Try.prog w = .ok (.enter fid args) w) (cp : Value) (g n ff so fo : Nat) (s s' ls la fnd : Int) (b : Bool) (P0 P1 : World → Prop) (w : World) (hB : Hid (Bc P0)) (h0 : Hid (P0 w)) (hw : IntKind.i64.wrap (1 - s) = s')
    (HF : Hid (∀ W, P0 W → W.cell? ⟨ff, 0, none⟩ = some (.func (.func fid) #[] #[cp]))) (HSd : Hid (∀ W, P0 W → W.cell? ⟨so, 0, none⟩ = some (.int .i64 s)))
    (HFo : Hid (∀ W, P0 W → W.cell? ⟨fo, 0, none⟩ = some (.int .i64 fnd))) (HFz : Hid (∀ W, P0 W → W.frozen? ⟨fo, 0, none⟩ = false)) (HSf : so ≠ fo)
    (HK : Hid (∀ W, P0 W → Calls Try.prog 73 #[.pointer (some ⟨g, n * 10, none⟩)] W fun e w' => e = .returned (.agg #[.int .i64 ls, .int .i64 la]) ∧ P0 w'))
    (HC : Hid (∀ W, P0 W → Calls Try.prog fid #[.agg #[.int .i64 ls, .int .i64 la], cp] W fun e w' => e = .returned (.bool b) ∧ P0 w'))
    (HT : Hid (b = true → ∀ W, P0 W → P1 (W.setCell ⟨fo, 0, none⟩ (.int .i64 (n : Int))))) (HN : Hid (b = false → ∀ W, P0 W → P1 W)) :
    Calls Try.prog 72 #[.int .i64 (n : Int), .pointer (some ⟨g, n * 10, none⟩), .pointer (some ⟨ff, 0, none⟩), .pointer (some ⟨so, 0, none⟩), .pointer (some ⟨fo, 0, none⟩)] w fun e w' => e = .returned (.int .i64 (if b then s else s')) ∧ P1 w' := by
  have mx := mixed
  have c1 := HF.out _ h0.out
  go_enter Try.func72, Try.ntmps72
  go_wp2_with fail
  have HS := Lib.hid (hB.out.drew h0.out)
  have HD := Lib.hid (HF.out _ HS.out)
  have HD0 := Lib.hid c1
  clear c1
  go_region_held3 (fun w' => w'.cell? ⟨ff, 0, none⟩ = some (.func (.func fid) #[] #[cp])) (with_reducible first | exact HD.out | exact HD0.out)
    (first
      | (go_at_call 73; refine (HK.out _ HS.out).mono ?_; rintro e y1 ⟨rfl, hs⟩; replace HD := Lib.hid (HF.out _ hs); replace HS := Lib.hid hs; clear hs)
      | (refine (HC.out _ HS.out).mono ?_; rintro e y2 ⟨rfl, hs⟩; replace HD := Lib.hid (HF.out _ hs); replace HS := Lib.hid hs; clear hs))
  all_goals
    have c2 := HSd.out _ HS.out
    have c3 := HFo.out _ HS.out
    have c4 := HFz.out _ HS.out
    cases b with
    | false =>
      go_wp2_with fail
      go_ret
      exact ⟨rfl, HN.out (by simp) _ HS.out⟩
    | true =>
      have c5 := (World.cell?_setCell_other y2 ⟨fo, 0, none⟩ ⟨so, 0, none⟩ (.int .i64 (n : Int)) (by simp <;> omega)).trans c2
      go_wp2_with fail
      go_ret
      exact ⟨rfl, HT.out (by simp) _ HS.out⟩
end Go.Proofs.Ytakkmnhiaddnnaa

/- Ways down a tree, and what its row says: put, delete, the nearest ones. No Go in sight. -/
namespace Go.Proofs.Ytakkmnhiaddnnaa.Bo
/-- The way down, to the side that wy tells (true: right), onto a place where no node is. -/
def dn (wy : G5 → Bool) : Tr → List Fr → List Fr
  | .nil, cx => cx
  | .node c l i g r, cx => if wy g = true then dn wy r (⟨true, c, i, g, l⟩ :: cx) else dn wy l (⟨false, c, i, g, r⟩ :: cx)
theorem dn_plug (wy : G5 → Bool) (x : Tr) : ∀ cx, plug (dn wy x cx) .nil = plug cx x := by
  induction x with
  | nil => intro cx; rfl
  | node c l i g r ih1 ih2 =>
    intro cx
    unfold dn
    split
    · rw [ih2]; rfl
    · rw [ih1]; rfl
theorem dn_sides (wy : G5 → Bool) (x : Tr) : ∀ cx, (∀ y ∈ cx, y.s = wy y.g) → ∀ y ∈ dn wy x cx, y.s = wy y.g := by
  induction x with
  | nil => intro cx h; exact h
  | node c l i g r ih1 ih2 =>
    intro cx h
    unfold dn
    split
    · rename_i e
      refine ih2 _ (fun y hy => ?_)
      rcases List.mem_cons.1 hy with rfl | hy
      · exact e.symm
      · exact h y hy
    · rename_i e
      refine ih1 _ (fun y hy => ?_)
      rcases List.mem_cons.1 hy with rfl | hy
      · show false = wy g; simpa using e
      · exact h y hy
theorem dn_step (wy : G5 → Bool) (s c : Bool) (a : Tr) (i : Nat) (g : G5) (b : Tr) (cx : List Fr) (h : wy g = s) : dn wy (Tr.mk s c a i g b) cx = dn wy a (⟨s, c, i, g, b⟩ :: cx) := by
  cases s
  · show dn wy (.node c a i g b) cx = _
    rw [dn, if_neg (by rw [h]; simp)]
  · show dn wy (.node c b i g a) cx = _
    rw [dn, if_pos h]
theorem dn_suf (wy : G5 → Bool) (x : Tr) : ∀ cx, ∃ cy, dn wy x cx = cy ++ cx := by
  induction x with
  | nil => intro cx; exact ⟨[], rfl⟩
  | node c l i g r ih1 ih2 =>
    intro cx
    unfold dn
    split
    · obtain ⟨cy, h⟩ := ih2 (⟨true, c, i, g, l⟩ :: cx); exact ⟨cy ++ [⟨true, c, i, g, l⟩], by rw [h]; simp⟩
    · obtain ⟨cy, h⟩ := ih1 (⟨false, c, i, g, r⟩ :: cx); exact ⟨cy ++ [⟨false, c, i, g, r⟩], by rw [h]; simp⟩
/-- The innermost step to the side s. -/
def fnr (s : Bool) : List Fr → Option Fr
  | [] => none
  | y :: cx => if y.s = s then some y else fnr s cx
def fni (s : Bool) (cx : List Fr) : Int := match fnr s cx with | some y => (y.i : Int) | none => -1
theorem fnr_split (s : Bool) (cx : List Fr) (y : Fr) (h : fnr s cx = some y) : ∃ a b, cx = a ++ y :: b ∧ y.s = s ∧ ∀ z ∈ a, z.s = !s := by
  induction cx with
  | nil => cases h
  | cons z cx ih =>
    unfold fnr at h
    split at h
    · rename_i e; injection h with h; subst h; exact ⟨[], cx, rfl, e, fun z hz => by simp at hz⟩
    · rename_i e
      obtain ⟨a, b, rfl, h2, h3⟩ := ih h
      refine ⟨z :: a, b, rfl, h2, fun w hw => ?_⟩
      rcases List.mem_cons.1 hw with rfl | hw
      · exact bool_ne e
      · exact h3 w hw
theorem fnr_none (s : Bool) (cx : List Fr) (h : fnr s cx = none) : ∀ z ∈ cx, z.s = !s := by
  induction cx with
  | nil => intro z hz; simp at hz
  | cons z cx ih =>
    unfold fnr at h
    split at h
    · cases h
    · rename_i e
      intro w hw
      rcases List.mem_cons.1 hw with rfl | hw
      · exact bool_ne e
      · exact ih h w hw
theorem fnr_skip (s : Bool) (a b : List Fr) (h : ∀ z ∈ a, z.s = !s) : fnr s (a ++ b) = fnr s b := by
  induction a with
  | nil => rfl
  | cons z a ih =>
    have := h z (by simp)
    show (if z.s = s then _ else fnr s (a ++ b)) = _
    rw [if_neg (by rw [this]; cases s <;> simp)]
    exact ih (fun w hw => h w (by simp [hw]))
theorem cpre_app (a b : List Fr) : cpre (a ++ b) = cpre b ++ cpre a := by
  induction a with
  | nil => simp [cpre]
  | cons y a ih => simp [cpre, ih]
theorem cpost_app (a b : List Fr) : cpost (a ++ b) = cpost a ++ cpost b := by
  induction a with
  | nil => simp [cpost]
  | cons y a ih => simp [cpost, ih]
theorem cpre_left (a : List Fr) (h : ∀ z ∈ a, z.s = false) : cpre a = [] := by
  induction a with
  | nil => rfl
  | cons y a ih =>
    have h1 := h y (by simp)
    simp [cpre, h1, ih (fun z hz => h z (by simp [hz]))]
theorem cpost_right (a : List Fr) (h : ∀ z ∈ a, z.s = true) : cpost a = [] := by
  induction a with
  | nil => rfl
  | cons y a ih =>
    have h1 := h y (by simp)
    simp [cpost, h1, ih (fun z hz => h z (by simp [hz]))]
theorem fnr_last (cx : List Fr) : (cpre cx).getLast? = (fnr true cx).map (·.g) := by
  cases h : fnr true cx with
  | none => rw [cpre_left cx (fnr_none true cx h)]; rfl
  | some y =>
    obtain ⟨a, b, rfl, h2, h3⟩ := fnr_split true cx y h
    rw [cpre_app, cpre_left a h3, List.append_nil]
    simp [cpre, h2]
theorem fnr_head (cx : List Fr) : (cpost cx).head? = (fnr false cx).map (·.g) := by
  cases h : fnr false cx with
  | none => rw [cpost_right cx (fnr_none false cx h)]; rfl
  | some y =>
    obtain ⟨a, b, rfl, h2, h3⟩ := fnr_split false cx y h
    rw [cpost_app, cpost_right a h3, List.nil_append]
    simp [cpost, h2]
abbrev Ris (l : List G5) : Prop := l.Pairwise (fun a b => a.key < b.key)
/-- A question that holds of a part ahead. -/
structure Cutq (wy : G5 → Bool) : Prop where
  down : ∀ a b : G5, a.key < b.key → wy b = true → wy a = true
/-- Ahead of the place where the way ends it holds, behind it it doesn't. -/
theorem way_pre (wy : G5 → Bool) (hw : Cutq wy) (cx : List Fr) : ∀ (M : List G5), Ris (cpre cx ++ M ++ cpost cx) → (∀ y ∈ cx, y.s = wy y.g) → (∀ g ∈ cpre cx, wy g = true) ∧ ∀ g ∈ cpost cx, wy g = false := by
  induction cx with
  | nil => intro M _ _; exact ⟨fun g hg => by simp [cpre] at hg, fun g hg => by simp [cpost] at hg⟩
  | cons y cx ih =>
    intro M hr hs
    have hy := hs y (by simp)
    cases e : y.s with
    | true =>
      have e1 : cpre (y :: cx) = cpre cx ++ (y.o.ino ++ [y.g]) := by simp [cpre, e]
      have e2 : cpost (y :: cx) = cpost cx := by simp [cpost, e]
      rw [e1, e2] at hr
      obtain ⟨k1, k2⟩ := ih (y.o.ino ++ [y.g] ++ M) (by simpa using hr) (fun z hz => hs z (by simp [hz]))
      rw [e1, e2]
      refine ⟨fun g hg => ?_, k2⟩
      rcases List.mem_append.1 hg with hg | hg
      · exact k1 g hg
      · rcases List.mem_append.1 hg with hg | hg
        · refine hw.down g y.g ?_ (hy.symm.trans e)
          simp only [Ris, List.pairwise_append, List.append_assoc] at hr
          exact hr.2.1.2.2 g hg y.g (by simp)
        · simp at hg; subst hg; exact hy.symm.trans e
    | false =>
      have e1 : cpre (y :: cx) = cpre cx := by simp [cpre, e]
      have e2 : cpost (y :: cx) = (y.g :: y.o.ino) ++ cpost cx := by simp [cpost, e]
      rw [e1, e2] at hr
      obtain ⟨k1, k2⟩ := ih (M ++ (y.g :: y.o.ino)) (by simpa using hr) (fun z hz => hs z (by simp [hz]))
      rw [e1, e2]
      refine ⟨k1, fun g hg => ?_⟩
      rcases List.mem_append.1 hg with hg | hg
      · rcases List.mem_cons.1 hg with rfl | hg
        · exact hy.symm.trans e
        · cases q : wy g with
          | false => rfl
          | true =>
            have : y.g.key < g.key := by
              simp only [Ris, List.pairwise_append, List.pairwise_cons] at hr
              exact hr.2.1.1.1 g hg
            have := hw.down y.g g this q
            rw [hy.symm.trans e] at this; cases this
      · exact k2 g hg
/-- The way down a tree by rising keys. -/
theorem dn_cut (wy : G5 → Bool) (hw : Cutq wy) (x : Tr) (h : Ris x.ino) : x.ino = cpre (dn wy x []) ++ cpost (dn wy x []) ∧ (∀ g ∈ cpre (dn wy x []), wy g = true) ∧ ∀ g ∈ cpost (dn wy x []), wy g = false := by
  have e : x.ino = cpre (dn wy x []) ++ cpost (dn wy x []) := by
    have := ino_plug (dn wy x []) .nil
    rw [dn_plug] at this
    simpa [Tr.ino, plug] using this
  rw [e] at h
  exact ⟨e, way_pre wy hw _ [] (by simpa using h) (dn_sides wy x [] (fun y hy => by simp at hy))⟩
theorem filter_cut (wy : G5 → Bool) (a b : List G5) (ha : ∀ g ∈ a, wy g = true) (hb : ∀ g ∈ b, wy g = false) : (a ++ b).filter wy = a ∧ (a ++ b).filter (fun g => !(wy g)) = b := by
  rw [List.filter_append, List.filter_append]
  refine ⟨?_, ?_⟩
  · rw [List.filter_eq_self.2 ha, List.filter_eq_nil_iff.2 (fun g hg => by rw [hb g hg]; simp), List.append_nil]
  · have e1 : a.filter (fun g => !(wy g)) = [] := List.filter_eq_nil_iff.2 (fun g hg => by rw [ha g hg]; simp)
    have e2 : b.filter (fun g => !(wy g)) = b := List.filter_eq_self.2 (fun g hg => by rw [hb g hg]; rfl)
    rw [e1, e2, List.nil_append]
/-- The last one of which it holds, and the first one of which it doesn't. -/
theorem dn_near (wy : G5 → Bool) (hw : Cutq wy) (x : Tr) (h : Ris x.ino) :
    (fnr true (dn wy x [])).map (·.g) = (x.ino.filter wy).getLast? ∧ (fnr false (dn wy x [])).map (·.g) = (x.ino.filter (fun g => !(wy g))).head? := by
  obtain ⟨e, h1, h2⟩ := dn_cut wy hw x h
  obtain ⟨f1, f2⟩ := filter_cut wy _ _ h1 h2
  rw [← fnr_last, ← fnr_head, e, f1, f2]
  exact ⟨rfl, rfl⟩
end Go.Proofs.Ytakkmnhiaddnnaa.Bo

/- The furthest node that fits. -/
namespace Go.Proofs.Ytakkmnhiaddnnaa
open Go.RowKit Go.Sort Go.Proofs.Ytakkmnhiaddnnaa.Bo
set_option linter.unusedVariables false

abbrev iO (n : Int) : Obj := .cells #[.int .i64 n] 3
abbrev fO (fid : Nat) (cp : Value) : Obj := .cells #[.func (.func fid) #[] #[cp]] 67
/-- The blocks of outermost. -/
structure OmAt (w : World) (fid : Nat) (cp : Value) (s fnd : Int) (W : World) : Prop where
  so : W.heap[w.heap.size]? = some (iO s)
  ff : W.heap[w.heap.size + 1]? = some (fO fid cp)
  fo : W.heap[w.heap.size + 1 + 1]? = some (iO fnd)
  be : Go.RowKit.Below w.heap.size w W
theorem OmAt.bc {w : World} {fid : Nat} {cp : Value} {s fnd : Int} : Bc (OmAt w fid cp s fnd) := fun W W' h hb => ⟨box_on h.so hb, box_on h.ff hb, box_on h.fo hb, bt h.be hb⟩
theorem OmAt.put {w W : World} {fid : Nat} {cp : Value} {s fnd : Int} (h : OmAt w fid cp s fnd W) (n : Int) : OmAt w fid cp s n (W.setCell ⟨w.heap.size + 1 + 1, 0, none⟩ (.int .i64 n)) :=
  ⟨set_far h.so (by omega), set_far h.ff (by omega), heap_setCell_same _ _ _ _ _ _ h.fo, h.be.setCell (p := ⟨w.heap.size + 1 + 1, 0, none⟩) (by show w.heap.size ≤ w.heap.size + 1 + 1; omega) _⟩
theorem one_cell {W : World} {b : Nat} {v : Value} {t : TypeId} (h : W.heap[b]? = some (.cells #[v] t (0, 0))) : W.cell? ⟨b, 0, none⟩ = some v := (cell_of_row _ _ 0 _ _ _ h).trans rfl
theorem om_new (w : World) (fid : Nat) (cp : Value) (s : Int) : OmAt w fid cp s (-1) (((w.alloc (iO s)).alloc (fO fid cp)).alloc (iO (-1))) :=
  ⟨box_on (box_on (heap_alloc_new w _) (below_new _ _)) (below_new _ _), box_on (new_at' _ (by simp)) (below_new _ _), new_at' _ (by simp), bt (bt (below_new _ _) (below_new _ _)) (below_new _ _)⟩
set_option maxRecDepth 100000 in
set_option maxHeartbeats 2000000 in
theorem routm_core (T fid : Nat) (cp : Value) (s r : Int) (w : World)
    (HD : Hid (∀ W, OmAt w fid cp s (-1) W → Rd 71 #[aP T, .func (.func 72) #[] #[.pointer (some ⟨w.heap.size + 1, 0, none⟩), .pointer (some ⟨w.heap.size, 0, none⟩), .pointer (some ⟨w.heap.size + 1 + 1, 0, none⟩)]] (.tuple #[]) (OmAt w fid cp s r) W)) :
    Calls Try.prog 46 #[aP T, .int .i64 s, .func (.func fid) #[] #[cp]] w fun e w' => e = .returned (.int .i64 r) ∧ Go.RowKit.Below w.heap.size w w' := by
  have mx := mixed
  have HN := Lib.hid (om_new w fid cp s)
  go_enter Try.func46, Try.ntmps46
  go_wp2_with fail
  refine (HD.out _ HN.out).mono ?_
  rintro e y ⟨rfl, hy⟩
  have HY := Lib.hid hy
  have c1 := one_cell hy.fo
  clear hy
  go_wp2_with fail
  go_ret
  exact ⟨rfl, HY.out.be⟩
/-- What At answers of a tree's root. -/
def NV (w : World) : Tr → Int → Value → Prop
  | .nil, _, nv => nv = .pointer none
  | .node c l i g r, p, nv => ∃ gb, nv = .pointer (some ⟨gb, i * 10, none⟩) ∧ ∀ j u, (rnE.e ⟨g, p, l.idx, r.idx, c⟩)[j]? = some u → w.cell? ⟨gb, i * 10 + j, none⟩ = some u
theorem at_tree {w : World} {base T A : Nat} {t : Rt} {S1 : Nat → Prop} (h : RtIs w base T A t S1) (hok : t.ar.ok) (y : Tr) (p : Int) (hy : RepT t.look y p) (W : World) (hb : Go.RowKit.Below w.heap.size w W) :
    Calls Try.prog 64 #[aP A, .int .i64 y.idx] W fun e w' => ∃ nv, e = .returned nv ∧ NV w y p nv ∧ W = w' := by
  cases y with
  | nil =>
    obtain ⟨_, k2⟩ := h.nil hok (-1) ((t.ar.look_none _).1 t.ar.look_neg)
    exact (k2 W hb).mono fun e w' ⟨he, hw⟩ => ⟨_, he, rfl, hw⟩
  | node c l i g r =>
    obtain ⟨is, hl⟩ := t.ar.look_some _ _ hy.1
    obtain ⟨gb, _, k2, k3, _, _⟩ := h.cellset hok i is
    rw [Int.toNat_natCast] at hl
    rw [hl] at k3
    exact (k2 W hb).mono fun e w' ⟨he, hw⟩ => ⟨_, he, ⟨gb, rfl, k3⟩, hw⟩
/-- To which side a search goes: to the side s from what fits. -/
def wyOf (s : Bool) (q : G5 → Bool) (g : G5) : Bool := if q g = true then s else !s
theorem fni_step (s : Bool) (q : G5 → Bool) (c : Bool) (i : Nat) (g : G5) (o : Tr) (cx : List Fr) : fni s (⟨wyOf s q g, c, i, g, o⟩ :: cx) = if q g = true then (i : Int) else fni s cx := by
  have e : fnr s (⟨wyOf s q g, c, i, g, o⟩ :: cx) = if wyOf s q g = s then some ⟨wyOf s q g, c, i, g, o⟩ else fnr s cx := rfl
  unfold fni
  rw [e]
  by_cases hq : q g = true
  · rw [if_pos hq, if_pos (by unfold wyOf; rw [if_pos hq])]
  · rw [if_neg hq, if_neg (by unfold wyOf; rw [if_neg hq]; cases s <;> simp)]
set_option maxHeartbeats 1000000 in
theorem routm_any {w : World} {base T A : Nat} {t : Rt} {S1 : Nat → Prop} {x : Tr} (h : RtIs w base T A t S1) (hok : t.ar.ok) (hx : RepL t x) (hG : ∀ g ∈ x.ino, g.ok) (s : Bool) (fid : Nat) (eg : ∀ args w, (callFunc fid args).run Try.prog w = .ok (.enter fid args) w) (cp : Value) (q : G5 → Bool)
    (HC : ∀ W, Go.RowKit.Below w.heap.size w W → ∀ g : G5, g.ok → Calls Try.prog fid #[.agg #[.int .i64 g.ls, .int .i64 g.la], cp] W fun e w' => e = .returned (.bool (q g)) ∧ Go.RowKit.Below W.heap.size W w') :
    Calls Try.prog 46 #[aP T, .int .i64 (sv s), .func (.func fid) #[] #[cp]] w fun e w' => e = .returned (.int .i64 (fni s (dn (wyOf s q) x []))) ∧ Go.RowKit.Below w.heap.size w w' := by
  have hT := h
  obtain ⟨S0, _, hbox, _⟩ := hT
  refine routm_core T fid cp (sv s) _ w (Lib.hid fun W0 hW0 => ?_)
  refine rdown_core T A 72 (fun _ _ => rfl) _ _ _ (fun k i nv W => ∃ cx y, k = y.ids.length ∧ plug cx y = x ∧ dn (wyOf s q) y cx = dn (wyOf s q) x [] ∧ i = y.idx ∧ OmAt w fid cp (sv s) (fni s cx) W ∧ NV w y (cpi cx) nv)
    (OmAt w fid cp (sv s) (fni s (dn (wyOf s q) x []))) t.root x.ids.length W0 ?_ ?_ ?_
  · exact box_on hbox hW0.be
  · have := at_tree h hok x (-1) hx.rep W0 hW0.be
    rw [← hx.root] at this
    refine this.mono ?_
    rintro e w' ⟨nv, he, hnv, rfl⟩
    exact ⟨nv, he, [], x, rfl, rfl, rfl, hx.root, hW0, hnv⟩
  · rintro k i nv W ⟨cx, y, rfl, hp, hd, rfl, hW, hnv⟩
    cases y with
    | nil => exact .inl ⟨hnv, by rw [← hd]; exact hW⟩
    | node c l n g r =>
      obtain ⟨gb, rfl, hcells⟩ := hnv
      have hgx : g ∈ x.ino := by rw [← hp, ino_plug]; simp [Tr.ino]
      have hg := hG g hgx
      have hrep : RepT t.look (plug cx (.node c l n g r)) (-1) := by rw [hp]; exact hx.rep
      have hsub := ((rep_plug cx _).1 hrep).2
      have hcl : ∀ W, OmAt w fid cp (sv s) (fni s cx) W → ∀ j u, (rnE.e ⟨g, cpi cx, l.idx, r.idx, c⟩)[j]? = some u → W.cell? ⟨gb, n * 10 + j, none⟩ = some u := fun W hW j u hu =>
        (hW.be.cell (World.block_lt_of_cell? w _ (hcells j u hu))).trans (hcells j u hu)
      have hgo : ∀ (z : Bool) (ch : Tr) (o : Tr), wyOf s q g = z → plug (⟨z, c, n, g, o⟩ :: cx) ch = x → dn (wyOf s q) ch (⟨z, c, n, g, o⟩ :: cx) = dn (wyOf s q) x [] → ch.ids.length < (Tr.node c l n g r).ids.length → RepT t.look ch n →
          w.cell? ⟨gb, n * 10 + 6 + (sv z).toNat, none⟩ = some (.int .i64 ch.idx) →
          DnRound T A 72 (.pointer (some ⟨w.heap.size + 1, 0, none⟩)) (.pointer (some ⟨w.heap.size, 0, none⟩)) (.pointer (some ⟨w.heap.size + 1 + 1, 0, none⟩)) (fun k i nv W => ∃ cx y, k = y.ids.length ∧ plug cx y = x ∧ dn (wyOf s q) y cx = dn (wyOf s q) x [] ∧ i = y.idx ∧ OmAt w fid cp (sv s) (fni s cx) W ∧ NV w y (cpi cx) nv)
            (OmAt w fid cp (sv s) (fni s (dn (wyOf s q) x []))) (Tr.node c l n g r).ids.length (n : Int) (.pointer (some ⟨gb, n * 10, none⟩)) W := by
        intro z ch o hz hpl hdn hlen hrch hcell
        have hfn := fni_step s q c n g o cx
        rw [hz] at hfn
        refine .inr ⟨gb, n, sv z, ch.idx, OmAt w fid cp (sv s) (fni s cx), OmAt w fid cp (sv s) (fni s (⟨z, c, n, g, o⟩ :: cx)), hW, OmAt.bc, rfl, rfl, (sv_nat z).1, (sv_nat z).2.1, fun W hW => ?_, fun W' hW' => ?_, fun W' hW' => ?_, fun W' hW' => ?_, ch.ids.length, hlen, fun W' hW' => ?_⟩
        · have hs : sv z = if q g then sv s else sv (!s) := by rw [← hz]; unfold wyOf; cases q g <;> simp
          rw [hs]
          refine rout1_core fid eg cp gb n (w.heap.size + 1) w.heap.size (w.heap.size + 1 + 1) (sv s) (sv (!s)) g.ls g.la (fni s cx) (q g) (OmAt w fid cp (sv s) (fni s cx)) _ W OmAt.bc hW (sv_not s)
            (fun W hW => one_cell hW.ff) (fun W hW => one_cell hW.so) (fun W hW => one_cell hW.fo) (fun W hW => frozen_of_row _ _ _ _ _ hW.fo) (by omega)
            (fun W hW => (rnkey_core gb n g.ls g.la W (hcl W hW 0 _ rfl) (hcl W hW 1 _ rfl)).mono fun e w' ⟨he, hb⟩ => ⟨he, OmAt.bc _ _ hW hb⟩)
            (fun W hW => (HC W hW.be g hg).mono fun e w' ⟨he, hb⟩ => ⟨he, OmAt.bc _ _ hW hb⟩) (fun hq W hW => ?_) (fun hq W hW => ?_)
          · rw [hfn, if_pos hq]; exact hW.put _
          · rw [hfn, if_neg (by rw [hq]; simp)]; exact hW
        · exact (hW'.be.cell (World.block_lt_of_cell? w _ hcell)).trans hcell
        · exact (hW'.be.cell (World.block_lt_of_cell? w _ hcell)).trans hcell
        · have hb := box_on hbox hW'.be
          exact (cell_of_row _ _ 0 _ _ _ hb).trans rfl
        · refine (at_tree h hok ch n hrch W' hW'.be).mono ?_
          rintro e w' ⟨nv, he, hnv, rfl⟩
          exact ⟨nv, he, _, ch, rfl, hpl, hdn, rfl, hW', hnv⟩
      cases hz : wyOf s q g with
      | false =>
        refine hgo false l r hz (by rw [← hp]; rfl) (by rw [← hd]; exact (dn_step _ false c l n g r cx hz).symm) (by simp [Tr.ids]) hsub.2.1 (hcells 6 _ rfl)
      | true =>
        refine hgo true r l hz (by rw [← hp]; rfl) (by rw [← hd]; exact (dn_step _ true c r n g l cx hz).symm) (by simp [Tr.ids]; omega) hsub.2.2 (hcells 7 _ rfl)
end Go.Proofs.Ytakkmnhiaddnnaa

/- Rows of segments; contracts of the reference's: key, Find, Same, Bits. -/
namespace Go.Proofs.Ytakkmnhiaddnnaa
open Go.RowKit Go.Sort Go.Proofs.Ytakkmnhiaddnnaa.Bo
set_option linter.unusedVariables false

abbrev vG (g : G5) : Value := .agg #[.int .i64 g.ls, .int .i64 g.la, .int .i64 g.hs, .int .i64 g.ha, .int .i64 g.v]
abbrev oG (g : G5) : Obj := .cells #[.int .i64 g.ls, .int .i64 g.la, .int .i64 g.hs, .int .i64 g.ha, .int .i64 g.v] 35
def Cells5 (w : World) (b o : Nat) (g : G5) : Prop := w.cell? ⟨b, o, none⟩ = some (.int .i64 g.ls) ∧ w.cell? ⟨b, o + 1, none⟩ = some (.int .i64 g.la) ∧ w.cell? ⟨b, o + 2, none⟩ = some (.int .i64 g.hs) ∧ w.cell? ⟨b, o + 3, none⟩ = some (.int .i64 g.ha) ∧ w.cell? ⟨b, o + 4, none⟩ = some (.int .i64 g.v)
theorem Cells5.below {w w' : World} {b o : Nat} {g : G5} (h : Cells5 w b o g) (hb : Go.RowKit.Below w.heap.size w w') : Cells5 w' b o g :=
  ⟨(hb.cell (World.block_lt_of_cell? w _ h.1)).trans h.1, (hb.cell (World.block_lt_of_cell? w _ h.2.1)).trans h.2.1, (hb.cell (World.block_lt_of_cell? w _ h.2.2.1)).trans h.2.2.1, (hb.cell (World.block_lt_of_cell? w _ h.2.2.2.1)).trans h.2.2.2.1, (hb.cell (World.block_lt_of_cell? w _ h.2.2.2.2)).trans h.2.2.2.2⟩
/-- A slice of segments that holds l. -/
def GRow (w : World) (a : Option Addr) (l : List G5) : Prop := 0 < l.length → ∃ b off, a = some ⟨b, off, none⟩ ∧ ∀ (j : Nat) (h : j < l.length), Cells5 w b (off + j * 5) l[j]
theorem GRow.below {w w' : World} {a : Option Addr} {l : List G5} (h : GRow w a l) (hb : Go.RowKit.Below w.heap.size w w') : GRow w' a l := by
  intro hp
  obtain ⟨b, off, e, hc⟩ := h hp
  exact ⟨b, off, e, fun j hj => (hc j hj).below hb⟩
theorem grow_nil (w : World) (a : Option Addr) : GRow w a [] := fun h => by simp at h
/-- A block of a segment. -/
theorem five_cells {W : World} {b : Nat} {g : G5} (h : W.heap[b]? = some (oG g)) : Cells5 W b 0 g :=
  ⟨(cell_of_row _ _ 0 _ _ _ h).trans rfl, (cell_of_row _ _ 1 _ _ _ h).trans rfl, (cell_of_row _ _ 2 _ _ _ h).trans rfl, (cell_of_row _ _ 3 _ _ _ h).trans rfl, (cell_of_row _ _ 4 _ _ _ h).trans rfl⟩
set_option maxRecDepth 100000 in
theorem rkey_any (g : G5) (w : World) : Calls Try.prog 41 #[vG g] w fun e w' => e = .returned (.agg #[.int .i64 g.ls, .int .i64 g.la]) ∧ Go.RowKit.Below w.heap.size w w' := by
  have h0 : ((w.alloc (oG g)).alloc (.cells #[.int .i64 0, .int .i64 0] 31)).heap[w.heap.size]? = some (oG g) := box_on (heap_alloc_new w _) (below_new _ _)
  have h1 : ((w.alloc (oG g)).alloc (.cells #[.int .i64 0, .int .i64 0] 31)).heap[w.heap.size + 1]? = some (.cells #[.int .i64 0, .int .i64 0] 31) := heap_alloc2_new _ _ _
  have hL := bt (below_new w (oG g)) (below_new _ (.cells #[.int .i64 0, .int .i64 0] 31))
  go_enter Try.func41, Try.ntmps41
  go_upto_region 1 with fail
  generalize ((w.alloc (oG g)).alloc (.cells #[.int .i64 0, .int .i64 0] 31)) = X at *
  obtain ⟨c1, c2, c3, c4, c5⟩ := five_cells h0
  obtain ⟨d1, d2, d3, d4⟩ := two_cells h1
  obtain ⟨f1, f2, _, _⟩ := two_cells (two_put (p := .int .i64 g.ls) (q := .int .i64 g.la) h1)
  have hL2 := (hL.setCell (p := ⟨w.heap.size + 1, 0, none⟩) (by show w.heap.size ≤ w.heap.size + 1; omega) (.int .i64 g.ls)).setCell (p := ⟨w.heap.size + 1, 1, none⟩) (by show w.heap.size ≤ w.heap.size + 1; omega) (.int .i64 g.la)
  clear h0 h1
  go_wp2_with fail
  refine bodyPost_ret (v := .agg #[.int .i64 g.ls, .int .i64 g.la]) (by simp [results, Try.results41, go_sem, f1, f2]) rfl ?_
  exact ⟨rfl, hL2⟩
theorem findG_step (l : List G5) (k : Int) (j : Nat) (hj : j < l.length) (hno : ∀ i (h : i < l.length), i < j → l[i].is k = false) (h : l[j].is k = true) : findV l k = (j : Int) := by
  have e : findG l k = j := by
    unfold findG
    rw [List.findIdx_eq hj]
    exact ⟨h, fun i hi => by have := hno i (by omega) hi; simpa using this⟩
  unfold findV
  rw [e, if_pos hj]
theorem findG_none (l : List G5) (k : Int) (hno : ∀ i (h : i < l.length), l[i].is k = false) : findV l k = -1 := by
  have e : ¬ findG l k < l.length := by
    unfold findG
    rw [List.findIdx_lt_length]
    rintro ⟨g, hg, h⟩
    obtain ⟨i, hi, rfl⟩ := List.getElem_of_mem hg
    rw [hno i hi] at h
    cases h
  unfold findV
  rw [if_neg e]

set_option maxRecDepth 100000 in
set_option maxHeartbeats 2000000 in
theorem rfind_any (a : Option Addr) (cap : Nat) (l : List G5) (s x : Int) (w : World) (hx : I64 x) (hr : GRow w a l) (hl : l.length ≤ 100000) :
    Calls Try.prog 25 #[.slice a l.length cap, .agg #[.int .i64 s, .int .i64 x]] w fun e w' => e = .returned (.int .i64 (findV l (key s x))) ∧ Go.RowKit.Below w.heap.size w w' := by
  have mx := mixed
  have HC := Lib.hid (fun W => rcanon_any s x W hx)
  have HK := Lib.hid rkey_any
  obtain ⟨EV, hEV⟩ : ∃ EV, findV l (key s x) = EV := ⟨_, rfl⟩
  rw [hEV]
  have HEV := Lib.hid hEV
  have HST := Lib.hid (findG_step l (key s x))
  have HNN := Lib.hid (findG_none l (key s x))
  have HIS : Hid (∀ g : G5, g.is (key s x) = (g.ls == sd (key s x) && g.la == pa (key s x))) := fun g => rfl
  generalize key s x = k at *
  generalize sd k = ks at *
  generalize pa k = kp at *
  have hb0 : (w.alloc (.cells #[.int .i64 s, .int .i64 x] 31)).heap[w.heap.size]? = some (.cells #[.int .i64 s, .int .i64 x] 31) := heap_alloc_new _ _
  have hL0 := below_new w (.cells #[.int .i64 s, .int .i64 x] 31)
  have HR := Lib.hid (hr.below hL0)
  clear hEV hr hx
  go_enter Try.func25, Try.ntmps25
  go_wp2_with fail
  generalize w.alloc (.cells #[.int .i64 s, .int .i64 x] 31) = X at *
  have HB := Lib.hid hb0
  clear hb0
  go_loopw [5] (fun i wr => ∃ j : Nat, i = .int .i64 (j : Int) ∧ j ≤ l.length ∧ (∀ i (h : i < l.length), i < j → l[i].is k = false) ∧ Go.RowKit.Below X.heap.size X wr) (fun i _ => l.length - (intOf i).toNat)
  case atStart => exact ⟨0, rfl, Nat.zero_le _, fun i _ h => by omega, Go.RowKit.Below.refl _ _⟩
  case round =>
    obtain ⟨j, rfl, hj, hno, hBr⟩ := hrel
    have HNO := Lib.hid hno
    clear hno
    by_cases hlt : j < l.length
    · obtain ⟨b, off, rfl, hc⟩ := (HR.out.below hBr) (by omega)
      have HC5 := Lib.hid (hc j hlt)
      have HB1 := Lib.hid (box_on HB.out hBr)
      have ti0 : (0 : Int) ≤ (j : Int) := by omega
      have ti1 : (j : Int) < (l.length : Int) := by omega
      have HISJ := Lib.hid (HIS.out l[j])
      have HSTJ := Lib.hid (fun h => HST.out j hlt HNO.out h)
      have HNOJ : Hid (l[j].is k = false → ∀ i (h : i < l.length), i < j + 1 → l[i].is k = false) := by
        intro h i hi hij
        rcases Nat.lt_or_ge i j with h2 | h2
        · exact HNO.out i hi h2
        · obtain rfl : i = j := by omega
          exact h
      clear hc
      generalize l[j] = g at *
      have hc5 := HC5.out
      obtain ⟨c1, c2, c3, c4, c5⟩ := hc5
      obtain ⟨d1, d2, _, _⟩ := two_cells HB1.out
      have p1 := cell_regrown c1
      have p2 := cell_regrown c2
      have p3 := cell_regrown c3
      have p4 := cell_regrown c4
      have p5 := cell_regrown c5
      have p6 := cell_regrown d1
      have p7 := cell_regrown d2
      have eqc := eql_cut g.ls g.la ks kp
      obtain ⟨D, hD⟩ : ∃ D, (g.ls == ks && g.la == kp) = D := ⟨_, rfl⟩
      rw [hD] at eqc HISJ
      clear c1 c2 c3 c4 c5 d1 d2 hD
      have HKg := Lib.hid (fun W => HK.out g W)
      go_wp2_with fail
      refine wp_region_quiet_below (by assumption) (by kernel_rfl) ?_
      repeat (go_big_quiet_step (first
        | (go_at_call 41; exact Calls.regrown_of (HKg.out _))
        | (go_at_call 53; exact Calls.regrown_of (HC.out _))))
      refine wpQuiet_nil ?_
      intro _ hw'
      obtain ⟨⟨nq, osq⟩, hw''⟩ := hw'
      subst hw''
      have hB5 := bt hBr (below_regrown wr nq osq)
      clear p1 p2 p3 p4 p5 p6 p7 eqc
      generalize grow (redrawn wr nq) osq = y5 at *
      cases D with
      | true =>
        have HE : Hid (EV = (j : Int)) := HEV.out.symm.trans (HSTJ.out HISJ.out)
        go_wp2_with fail
        go_ret
        refine ⟨?_, bt hL0 hB5⟩
        rw [HE.out]; rfl
      | false =>
        go_wp2_with fail
        go_roundw
        case rel => exact ⟨j + 1, by go_num, by omega, HNOJ.out HISJ.out, hB5⟩
        case measure => simp [intOf]; omega
    · obtain rfl : j = l.length := by omega
      have HE : Hid (EV = -1) := HEV.out.symm.trans (HNN.out fun i hi => HNO.out i hi hi)
      go_wp2_with fail
      go_ret
      refine ⟨?_, bt hL0 hBr⟩
      rw [HE.out]; rfl
end Go.Proofs.Ytakkmnhiaddnnaa

/- Segments compared; contracts of the reference's Same, Bits; rows of segments appended. -/
namespace Go.Proofs.Ytakkmnhiaddnnaa
open Go.RowKit Go.Sort Go.Proofs.Ytakkmnhiaddnnaa.Bo
set_option linter.unusedVariables false

theorem eqIn_cut98 (s a t b : Int) (w : World) : (Op.equalIn 9998 31 (.agg #[.int .i64 s, .int .i64 a]) (.agg #[.int .i64 t, .int .i64 b])).run Try.prog w = .ok (s == t && a == b) w := by
  have hS : Try.prog.underlying 31 = some (.struct (Try.prog.fieldsOf 31)) := by kernel_rfl
  have hp : Try.prog.stoodInHeld 31 = false := by kernel_rfl
  have u3 := Try.underlying3
  have u2 := Try.underlying2
  rw [show (9998 : Nat) = 9997 + 1 from rfl, run_equalIn_agg w 9997 31 _ _ hS hp]
  simp only [Program.fieldsOf, Try.underlying31]
  go_simp
  by_cases h1 : s = t <;> by_cases h2 : a = b <;> simp [h1, h2]
theorem eqIn_span99 (q r : S4) (w : World) : (Op.equalIn 9999 33 (.agg #[.int .i64 q.ls, .int .i64 q.la, .int .i64 q.hs, .int .i64 q.ha]) (.agg #[.int .i64 r.ls, .int .i64 r.la, .int .i64 r.hs, .int .i64 r.ha])).run Try.prog w = .ok (q.ls == r.ls && q.la == r.la && (q.hs == r.hs && q.ha == r.ha)) w := by
  have hS : Try.prog.underlying 33 = some (.struct (Try.prog.fieldsOf 33)) := by kernel_rfl
  have hp : Try.prog.stoodInHeld 33 = false := by kernel_rfl
  have h1 := eqIn_cut98
  rw [show (9999 : Nat) = 9998 + 1 from rfl, run_equalIn_agg w 9998 33 _ _ hS hp]
  simp only [Program.fieldsOf, Try.underlying33]
  generalize 9998 = N at *
  simp [Op.eqFields, Sem.run_bind, part_low, part_high, h1, Result.andThen]
  by_cases a1 : q.ls = r.ls <;> by_cases a2 : q.la = r.la <;> by_cases a3 : q.hs = r.hs <;> by_cases a4 : q.ha = r.ha <;> simp [a1, a2, a3, a4]
theorem eqIn_i64 (a b : Int) (w : World) : (Op.equalIn 9999 2 (.int .i64 a) (.int .i64 b)).run Try.prog w = .ok (a == b) w := by
  have u2 := Try.underlying2
  rw [show (9999 : Nat) = 9998 + 1 from rfl]
  generalize 9998 = N
  go_simp
theorem part_span (a b c d e : Value) (w : World) : (part 33 #[a, b, c, d, e] 0).run Try.prog w = .ok (.agg #[a, b, c, d]) w := by
  have h1 := Try.isAgg33
  have h2 := Try.sizeOf33
  unfold part
  simp [Sem.run_bind, h1, h2, Result.andThen]
theorem part_v (a b c d e : Value) (w : World) : (part 2 #[a, b, c, d, e] 4).run Try.prog w = .ok e w := by
  have h1 := Try.isAgg2
  unfold part
  simp [Sem.run_bind, h1, Result.andThen]
theorem eqSeg_run (g h : G5) (w : World) : (Op.equalIn 10000 35 (vG g) (vG h)).run Try.prog w = .ok (g.eqb h) w := by
  have hS : Try.prog.underlying 35 = some (.struct (Try.prog.fieldsOf 35)) := by kernel_rfl
  have hp : Try.prog.stoodInHeld 35 = false := by kernel_rfl
  have h1 := eqIn_span99 ⟨g.ls, g.la, g.hs, g.ha⟩ ⟨h.ls, h.la, h.hs, h.ha⟩
  have h2 := eqIn_i64 g.v h.v
  dsimp only at h1
  rw [show (10000 : Nat) = 9999 + 1 from rfl, run_equalIn_agg w 9999 35 _ _ hS hp]
  simp only [Program.fieldsOf, Try.underlying35]
  generalize 9999 = N at *
  unfold G5.eqb
  simp [Op.eqFields, Sem.run_bind, part_span, part_v, h1, h2, Result.andThen]
  by_cases a1 : g.ls = h.ls <;> by_cases a2 : g.la = h.la <;> by_cases a3 : g.hs = h.hs <;> by_cases a4 : g.ha = h.ha <;> by_cases a5 : g.v = h.v <;> simp [a1, a2, a3, a4, a5]
theorem neq_seg (g h : G5) (w : World) : Sem.run Try.prog (binOp .neq 35 (vG g) (vG h)) w = .ok (.bool (!(g.eqb h))) w := by
  rw [run_neq_struct, eqSeg_run]; rfl
theorem eql_seg (g h : G5) (w : World) : Sem.run Try.prog (binOp .eql 35 (vG g) (vG h)) w = .ok (.bool (g.eqb h)) w := by
  rw [run_eql_struct, eqSeg_run]; rfl
theorem Cells5.re {w : World} {b o : Nat} {g : G5} (h : Cells5 w b o g) : (∀ d os, (grow (redrawn w d) os).cell? ⟨b, o, none⟩ = some (.int .i64 g.ls)) ∧ (∀ d os, (grow (redrawn w d) os).cell? ⟨b, o + 1, none⟩ = some (.int .i64 g.la)) ∧ (∀ d os, (grow (redrawn w d) os).cell? ⟨b, o + 2, none⟩ = some (.int .i64 g.hs)) ∧ (∀ d os, (grow (redrawn w d) os).cell? ⟨b, o + 3, none⟩ = some (.int .i64 g.ha)) ∧ (∀ d os, (grow (redrawn w d) os).cell? ⟨b, o + 4, none⟩ = some (.int .i64 g.v)) :=
  ⟨cell_regrown h.1, cell_regrown h.2.1, cell_regrown h.2.2.1, cell_regrown h.2.2.2.1, cell_regrown h.2.2.2.2⟩

set_option maxRecDepth 100000 in
set_option maxHeartbeats 4000000 in
theorem rsameG_any (a a2 : Option Addr) (cap cap2 : Nat) (l : List G5) (w : World) (h1 : GRow w a l) (h2 : GRow w a2 l) (hl : l.length ≤ 100000) :
    Calls Try.prog 15 #[.slice a l.length cap, .slice a2 l.length cap2] w fun e w' => e = .returned (.bool true) ∧ Go.RowKit.Below w.heap.size w w' := by
  have mx := mixed
  have H1 := Lib.hid h1
  have H2 := Lib.hid h2
  clear h1 h2
  have tl : ((l.length : Int) != (l.length : Int)) = false := by simp
  go_enter Try.func15, Try.ntmps15
  go_wp2_with fail
  go_loopw [5] (fun i wr => ∃ j : Nat, i = .int .i64 (j : Int) ∧ j ≤ l.length ∧ Go.RowKit.Below w.heap.size w wr) (fun i _ => l.length - (intOf i).toNat)
  case atStart => exact ⟨0, rfl, Nat.zero_le _, Go.RowKit.Below.refl _ _⟩
  case round =>
    obtain ⟨j, rfl, hj, hBr⟩ := hrel
    by_cases hlt : j < l.length
    · obtain ⟨b, off, rfl, hc⟩ := (H1.out.below hBr) (by omega)
      obtain ⟨b2, off2, rfl, hd⟩ := (H2.out.below hBr) (by omega)
      obtain ⟨p1, p2, p3, p4, p5⟩ := (hc j hlt).re
      obtain ⟨p6, p7, p8, p9, p10⟩ := (hd j hlt).re
      clear hc hd
      have nes := neq_seg l[j] l[j]
      rw [G5.eqb_self, Bool.not_true] at nes
      generalize l[j] = q at *
      have ti0 : (0 : Int) ≤ (j : Int) := by omega
      have ti1 : (j : Int) < (l.length : Int) := by omega
      go_wp2_with fail
      refine wp_region_quiet_below (by assumption) (by kernel_rfl) ?_
      repeat (go_big_quiet_step (fail))
      refine wpQuiet_nil ?_
      intro _ hw'
      obtain ⟨⟨nq, osq⟩, hw''⟩ := hw'
      subst hw''
      have hBn := bt hBr (below_regrown wr nq osq)
      clear p1 p2 p3 p4 p5 p6 p7 p8 p9 p10
      go_wp2_with fail
      go_roundw
      case rel => exact ⟨j + 1, by go_num, by omega, hBn⟩
      case measure => simp [intOf]; omega
    · obtain rfl : j = l.length := by omega
      go_wp2_with fail
      go_ret
      exact ⟨rfl, hBr⟩

/-- The cells of a row of segments. -/
def flatG (l : List G5) : List Value := l.flatMap fun g => [.int .i64 g.ls, .int .i64 g.la, .int .i64 g.hs, .int .i64 g.ha, .int .i64 g.v]
theorem flatG_cons (g : G5) (l : List G5) : flatG (g :: l) = .int .i64 g.ls :: .int .i64 g.la :: .int .i64 g.hs :: .int .i64 g.ha :: .int .i64 g.v :: flatG l := rfl
theorem flatG_append (l m : List G5) : flatG (l ++ m) = flatG l ++ flatG m := by unfold flatG; rw [List.flatMap_append]
theorem flatG_len (l : List G5) : (flatG l).length = l.length * 5 := by
  induction l with
  | nil => rfl
  | cons a l ih => rw [flatG_cons]; simp only [List.length_cons, ih]; omega
theorem flatG_one (l : List G5) : ∀ u ∈ flatG l, u.oneCell' = true := by
  intro u hu
  unfold flatG at hu
  obtain ⟨g, _, h⟩ := List.mem_flatMap.1 hu
  simp at h
  rcases h with rfl | rfl | rfl | rfl | rfl <;> rfl
theorem cells_newsG (w : World) (b : Nat) (l : List G5) : ∀ (off : Nat), (∀ (j : Nat) (h : j < l.length), Cells5 w b (off + j * 5) l[j]) → ∀ j u, (flatG l)[j]? = some u → w.cell? ⟨b, off + j, none⟩ = some u := by
  induction l with
  | nil => intro off _ j u h; simp [flatG] at h
  | cons q l ih =>
    intro off hc j u h
    have h0 : Cells5 w b off q := by have := hc 0 (by simp); simpa using this
    rw [flatG_cons] at h
    match j, h with
    | 0, h => simp at h; subst h; exact h0.1
    | 1, h => simp at h; subst h; exact h0.2.1
    | 2, h => simp at h; subst h; exact h0.2.2.1
    | 3, h => simp at h; subst h; exact h0.2.2.2.1
    | 4, h => simp at h; subst h; exact h0.2.2.2.2
    | j + 5, h =>
      have := ih (off + 5) (fun i hi => by
        have h1 := hc (i + 1) (by simpa using hi)
        rw [show off + (i + 1) * 5 = off + 5 + i * 5 by omega] at h1
        simpa using h1) j u (by simpa using h)
      rw [show off + (j + 5) = off + 5 + j by omega]; exact this
theorem news_cellsG (w : World) (b : Nat) (l : List G5) : ∀ (off : Nat), (∀ j u, (flatG l)[j]? = some u → w.cell? ⟨b, off + j, none⟩ = some u) → ∀ (j : Nat) (h : j < l.length), Cells5 w b (off + j * 5) l[j] := by
  induction l with
  | nil => intro off _ j h; simp at h
  | cons q l ih =>
    intro off hc j h
    rw [flatG_cons] at hc
    cases j with
    | zero =>
      rw [Nat.zero_mul, Nat.add_zero]
      exact ⟨hc 0 _ (by simp), hc 1 _ (by simp), hc 2 _ (by simp), hc 3 _ (by simp), hc 4 _ (by simp)⟩
    | succ j =>
      have := ih (off + 5) (fun i u hi => by
        have h1 := hc (i + 5) u (by simpa using hi)
        rw [show off + (i + 5) = off + 5 + i by omega] at h1
        exact h1) j (by simpa using h)
      rw [show off + (j + 1) * 5 = off + 5 + j * 5 by omega]
      simpa using this
/-- A slice of segments of one's own reads as such. -/
theorem own_grow {w : World} {base cap n : Nat} {a : Option Addr} {l : List G5} (h : w.ownsRow base 35 5 (.slice a n cap) n (flatG l)) (hn : n = l.length) : GRow w a l := by
  intro hp
  rcases h.2 with ⟨h1, h2⟩ | ⟨g, cap', cur, h1, hb, hh, hnc, hcm, hcs, htake⟩
  · omega
  · injection h1 with e1 e2 e3
    subst e1
    refine ⟨g, 0, rfl, news_cellsG w g l 0 fun j u hu => ?_⟩
    rw [Nat.zero_add]
    rw [← htake, List.getElem?_take] at hu
    by_cases hj : j < n * 5
    · rw [if_pos hj] at hu
      exact (cell_of_row _ _ _ _ _ _ hh).trans (by simpa using hu)
    · rw [if_neg hj] at hu; cases hu
/-- append of a row of segments, also of none. -/
theorem run_append_segs (w : World) (t ty e : TypeId) (base : Nat) (i : TypeInfo) (z : Value) (bytes : Nat) (ht : Try.prog.underlying t = some (.slice e)) (hi : Try.prog.info? e = some i) (hz : i.zero = some z)
    (hsize : i.size = 5) (hby : i.bytes = bytes) (hzs : z.cells.size = 5) (v : Value) (n : Nat) (xs : List Value) (hown : w.ownsRow base e 5 v n xs)
    (a : Option Addr) (c : Nat) (l : List G5) (hr : GRow w a l) (h63 : n + l.length ≤ maxLen) (hbytes : (n + l.length) * bytes ≤ 140737488355328) (hbase : base ≤ w.heap.size) :
    ∃ a' cap w', (Builtin.append_ #[t, t] ty #[v, .slice a l.length c]).run Try.prog w = .ok (.slice a' (n + l.length) cap) w' ∧
      w'.ownsRow base e 5 (.slice a' (n + l.length) cap) (n + l.length) (xs ++ flatG l) ∧ w.grownBy w' v.ownBlock := by
  rcases Nat.eq_zero_or_pos l.length with h0 | h0
  · obtain rfl : l = [] := List.length_eq_zero_iff.1 h0
    have hsrc : Src Try.prog i.size t (.slice a 0 c) 0 [] w := by
      cases a with
      | none => exact Src.ofNil w ht c
      | some ad => exact Src.ofSlice w ht ad 0 c [] (by simp) (by simp) (by simp)
    have key : ∀ base' cap', v = .slice base' n cap' → n ≤ cap' → (Builtin.append_ #[t, t] ty #[v, .slice a 0 c]).run Try.prog w = .ok (.slice base' n cap') w := by
      intro base' cap' hv hle
      rw [hv]
      exact run_append_nothing w t t ty e i ht hi base' n cap' hle _ hsrc
    have hxs : xs ++ flatG [] = xs := by simp [flatG]
    rw [hxs]
    rcases hown.2 with ⟨hv, hn⟩ | ⟨g, cap, cur, hv, r⟩
    · subst hn
      refine ⟨none, 0, w, key none 0 hv (Nat.le_refl _), ?_, World.grownBy.refl _ _⟩
      rw [hv] at hown; exact hown
    · refine ⟨some ⟨g, 0, none⟩, cap, w, key _ _ hv r.2.2.1, ?_, World.grownBy.refl _ _⟩
      rw [hv] at hown; exact hown
  · obtain ⟨b, off, rfl, hc⟩ := hr h0
    obtain ⟨g, cap, w', h1, h2, h3, _, _⟩ := run_append_lies (P := Try.prog) w t ty base e i z 5 bytes ht hi hz hsize hby hzs (by omega) v n xs hown ⟨b, off, none⟩ l.length c (flatG l) (flatG_len l) (fun j u hu => by
      have h4 := cells_newsG w b l off hc j u hu
      unfold Addr.add
      split
      · next e => subst e; exact h4
      · exact h4) (flatG_one l) h0 h63 hbytes hbase _ rfl
    exact ⟨_, cap, w', h1, h2, h3⟩
theorem wpList_append_segs {ops : Array Oper} {rest : List Oper} {o : Oper} {a : Act} {Q : Exit → Act → World → Prop} (w : World) (hgd : o.guard = none) (s x : Operand) (t : TypeId)
    (ho : o.op = .call { callee := .builtin .append, args := #[s, x], argTypes := #[t, t] })
    (base : Nat) (e : TypeId) (i : TypeInfo) (z : Value) (bytes : Nat) (ht : Try.prog.underlying t = some (.slice e)) (hi : Try.prog.info? e = some i) (hz : i.zero = some z)
    (hsize : i.size = 5) (hby : i.bytes = bytes) (hzs : z.cells.size = 5)
    (v : Value) (n : Nat) (xs : List Value) (hs : a.eval s = v) (hown : w.ownsRow base e 5 v n xs)
    (ax : Option Addr) (c : Nat) (l : List G5) (hx : a.eval x = .slice ax l.length c) (hr : GRow w ax l)
    (h63 : n + l.length ≤ maxLen) (hbytes : (n + l.length) * bytes ≤ 140737488355328) (hbase : base ≤ w.heap.size)
    (h : ∀ a' cap w', w'.ownsRow base e 5 (.slice a' (n + l.length) cap) (n + l.length) (xs ++ flatG l) → w.grownBy w' v.ownBlock → wpList Try.prog ops Q rest (a.put o.dst (.slice a' (n + l.length) cap)) w') : wpList Try.prog ops Q (o :: rest) a w := by
  refine wpList_plain hgd fun _ hK => ?_
  obtain ⟨a', cap, w', hr', h2, h3⟩ := run_append_segs w t o.type e base i z bytes ht hi hz hsize hby hzs v n xs hown ax c l hr h63 hbytes hbase
  unfold Oper.wp execOp
  simp only [ho, resolve, invoke, builtin, Sem.run_bind, Sem.run_pure, Result.andThen_ok, List.map_toArray, List.map_cons, List.map_nil, hs, hx, hr']
  exact hK _ _ (h a' cap w' h2 h3)
theorem Try.infoSeg : (Try.prog.info? 35).map (fun i => (i.zero, i.size, i.bytes)) = some (some (.agg #[.int .i64 0, .int .i64 0, .int .i64 0, .int .i64 0, .int .i64 0]), 5, 40) := by kernel_rfl
/-- A block of one segment is a row of it. -/
theorem grow_one {W : World} {p : Nat} {g : G5} (h : W.heap[p]? = some (oG g)) : GRow W (some ⟨p, 0, none⟩) [g] := by
  intro _
  refine ⟨p, 0, rfl, fun j hj => ?_⟩
  have : j = 0 := by simp at hj; exact hj
  subst this
  exact five_cells h
end Go.Proofs.Ytakkmnhiaddnnaa

/- Contract of the reference's Put over rows of segments. -/
namespace Go.Proofs.Ytakkmnhiaddnnaa
open Go.RowKit Go.Sort Go.Proofs.Ytakkmnhiaddnnaa.Bo
set_option linter.unusedVariables false

/-- Where a row that is answered lies: it is the one that came, or it lies in a block that was not there. -/
def NewOr (n : Nat) (a0 : Option Addr) (l0 : List G5) (a : Option Addr) (l : List G5) : Prop := (a = a0 ∧ l = l0) ∨ ∀ p, a = some p → n ≤ p.block
theorem NewOr.on {n m : Nat} {a0 a : Option Addr} {l0 l : List G5} (h : NewOr n a0 l0 a l) (hm : m ≤ n) : NewOr m a0 l0 a l := h.imp id fun h p hp => Nat.le_trans hm (h p hp)
theorem own_new {w : World} {base cap n k size : Nat} {e : TypeId} {a : Option Addr} {xs : List Value} (h : w.ownsRow base e size (.slice a n cap) n xs) (hk : k ≤ base) : ∀ p, a = some p → k ≤ p.block := by
  rintro p rfl
  rcases h.2 with ⟨h1, _⟩ | ⟨g, cap', cur, h1, hb, _⟩
  · cases h1
  · injection h1 with e1 _ _
    injection e1 with e1
    subst e1
    exact Nat.le_trans hk hb
/-- What a call that answers a row of segments leaves. -/
def PutG (a0 : Option Addr) (l0 : List G5) (x : List G5 × Int) (w : World) (e : Ending) (w' : World) : Prop := ∃ a cap, (e = .returned (.tuple #[.slice a x.1.length cap, .int .i64 x.2]) ∧ GRow w' a x.1 ∧ x.1.length ≤ cap ∧ NewOr w.heap.size a0 l0 a x.1) ∧ Go.RowKit.Below w.heap.size w w'
theorem own_emptyG (X : World) : (X.alloc (.cells #[] 35)).ownsRow X.heap.size 35 5 (.slice (some ⟨X.heap.size, 0, none⟩) 0 0) 0 [] := ⟨rfl, .inr ⟨X.heap.size, 0, #[], rfl, Nat.le_refl _, heap_alloc_new _ _, Nat.le_refl _, Nat.zero_le _, rfl, rfl⟩⟩
theorem own_capG {w : World} {base cap n size : Nat} {e : TypeId} {a : Option Addr} {xs : List Value} (h : w.ownsRow base e size (.slice a n cap) n xs) : n ≤ cap := by
  rcases h.2 with ⟨h1, h2⟩ | ⟨g, cap', cur, h1, hb, hh, hnc, hcm, hcs, htake⟩
  · omega
  · injection h1 with e1 e2 e3
    subst e3
    exact hnc
theorem flatG_set (l : List G5) (s : G5) : ∀ (i : Nat), i < l.length → flatG (l.set i s) = (((((flatG l).set (i * 5) (.int .i64 s.ls)).set (i * 5 + 1) (.int .i64 s.la)).set (i * 5 + 2) (.int .i64 s.hs)).set (i * 5 + 3) (.int .i64 s.ha)).set (i * 5 + 4) (.int .i64 s.v) := by
  induction l with
  | nil => intro i h; simp at h
  | cons g t ih =>
    intro i h
    cases i with
    | zero => simp [flatG_cons]
    | succ i =>
      rw [List.set_cons_succ, flatG_cons, flatG_cons, ih i (by simpa using h)]
      rw [show (i + 1) * 5 = i * 5 + 5 by omega, show i * 5 + 5 + 1 = i * 5 + 1 + 5 by omega, show i * 5 + 5 + 2 = i * 5 + 2 + 5 by omega, show i * 5 + 5 + 3 = i * 5 + 3 + 5 by omega, show i * 5 + 5 + 4 = i * 5 + 4 + 5 by omega]
      simp only [List.set_cons_succ]
abbrev set5 (W : World) (b o : Nat) (s : G5) : World := ((((W.setCell ⟨b, o, none⟩ (.int .i64 s.ls)).setCell ⟨b, o + 1, none⟩ (.int .i64 s.la)).setCell ⟨b, o + 2, none⟩ (.int .i64 s.hs)).setCell ⟨b, o + 3, none⟩ (.int .i64 s.ha)).setCell ⟨b, o + 4, none⟩ (.int .i64 s.v)
theorem own_setG {w : World} {base cap n g : Nat} {l : List G5} (h : w.ownsRow base 35 5 (.slice (some ⟨g, 0, none⟩) n cap) n (flatG l)) (i : Nat) (hi : i < l.length) (s : G5) : (set5 w g (i * 5) s).ownsRow base 35 5 (.slice (some ⟨g, 0, none⟩) n cap) n (flatG (l.set i s)) := by
  have := own_put (own_put (own_put (own_put (own_put h (i * 5) (.int .i64 s.ls)) (i * 5 + 1) (.int .i64 s.la)) (i * 5 + 2) (.int .i64 s.hs)) (i * 5 + 3) (.int .i64 s.ha)) (i * 5 + 4) (.int .i64 s.v)
  rw [flatG_set l s i hi]
  exact this
/-- A place of a row of one's own. -/
theorem own_atG {w : World} {base cap n : Nat} {a : Option Addr} {l : List G5} (h : w.ownsRow base 35 5 (.slice a n cap) n (flatG l)) (hn : n = l.length) (i : Nat) (hi : i < n) :
    ∃ g, a = some ⟨g, 0, none⟩ ∧ base ≤ g ∧ Cells5 w g (i * 5) (l[i]'(by omega)) ∧ ∀ x, w.frozen? ⟨g, x, none⟩ = false := by
  rcases h.2 with ⟨h1, h2⟩ | ⟨g, cap', cur, h1, hb, hh, hnc, hcm, hcs, htake⟩
  · omega
  · injection h1 with e1 e2 e3
    subst e1
    obtain ⟨b, off, e, hc⟩ := own_grow h hn (by omega)
    injection e with e
    injection e with e4 e5
    subst e4 e5
    refine ⟨g, rfl, hb, ?_, fun x => frozen_of_row _ _ x _ _ hh⟩
    have := hc i (by omega)
    rwa [Nat.zero_add] at this
set_option maxRecDepth 100000 in
set_option maxHeartbeats 2000000 in
/-- Not a key that may be. -/
theorem rputG_arg (a : Option Addr) (cap : Nat) (l : List G5) (room : Int) (s : G5) (w : World) (hs : s.ok) (hno : s.may = false) (hr : GRow w a l) (hc : l.length ≤ cap) :
    Calls Try.prog 34 #[.slice a l.length cap, .int .i64 room, vG s] w (PutG a l (l, 1) w) := by
  have mx := mixed
  have hfd : ∀ W : World, (Instr.field 31 (.agg #[.int .i64 s.ls, .int .i64 s.la]) 0).run Try.prog W = .ok (.int .i64 s.ls) W := fun _ => by kernel_rfl
  have HK := Lib.hid (fun W => rkey_any s W)
  have HC := Lib.hid (fun W => rcanon_any s.ls s.la W hs.1)
  have nec := neq_cut (sd (key s.ls s.la)) (pa (key s.ls s.la)) s.ls s.la
  have hD : ∀ D, (sd (key s.ls s.la) == s.ls && pa (key s.ls s.la) == s.la) = D → D = true → 0 < s.ls := by
    intro D h1 h2
    subst h2
    unfold G5.may G5.is G5.key at hno
    simp at h1 hno
    exact hno h1.1.symm h1.2.symm
  obtain ⟨D, hDe⟩ : ∃ D, (sd (key s.ls s.la) == s.ls && pa (key s.ls s.la) == s.la) = D := ⟨_, rfl⟩
  have hD2 := hD D hDe
  rw [hDe] at nec
  generalize sd (key s.ls s.la) = x1 at *
  generalize pa (key s.ls s.la) = x2 at *
  have HB : Hid ((w.alloc (oG s)).heap[w.heap.size]? = some (oG s)) := heap_alloc_new _ _
  have hL := below_new w (oG s)
  have HR := Lib.hid hr
  clear hD hDe hno hr hs
  go_enter Try.func34, Try.ntmps34
  go_upto_region 1 with fail
  generalize w.alloc (oG s) = X at *
  obtain ⟨p1, p2, p3, p4, p5⟩ := (five_cells HB.out).re
  cases D with
  | false =>
    refine wp_region_quiet_below (by assumption) (by kernel_rfl) ?_
    repeat (go_big_quiet_step (first
      | (go_at_call 41; exact Calls.regrown_of (HK.out _))
      | (go_at_call 53; exact Calls.regrown_of (HC.out _))))
    refine wpQuiet_nil ?_
    intro _ hw'
    obtain ⟨⟨nq, osq⟩, hw''⟩ := hw'
    subst hw''
    have hB := bt hL (below_regrown X nq osq)
    go_wp2_with fail
    go_ret2
    exact ⟨a, cap, ⟨rfl, HR.out.below hB, hc, .inl ⟨rfl, rfl⟩⟩, hB⟩
  | true =>
    have t1 : decide (0 < s.ls) = true := decide_eq_true (hD2 rfl)
    refine wp_region_quiet_below (by assumption) (by kernel_rfl) ?_
    repeat (go_big_quiet_step (first
      | (go_at_call 41; exact Calls.regrown_of (HK.out _))
      | (go_at_call 53; exact Calls.regrown_of (HC.out _))))
    refine wpQuiet_nil ?_
    intro _ hw'
    obtain ⟨⟨nq, osq⟩, hw''⟩ := hw'
    subst hw''
    have hB := bt hL (below_regrown X nq osq)
    go_wp2_with fail
    go_ret2
    exact ⟨a, cap, ⟨rfl, HR.out.below hB, hc, .inl ⟨rfl, rfl⟩⟩, hB⟩
set_option maxRecDepth 100000 in
set_option maxHeartbeats 4000000 in
theorem rputG_full (a : Option Addr) (cap : Nat) (l : List G5) (room : Int) (s : G5) (w : World) (hs : s.ok) (hmay : s.may = true) (hno : ¬ findG l s.key < l.length) (hfull : room ≤ (l.length : Int)) (hr : GRow w a l) (hc : l.length ≤ cap) (hl : l.length ≤ 10000) :
    Calls Try.prog 34 #[.slice a l.length cap, .int .i64 room, vG s] w (PutG a l (l, 50) w) := by
  have mx := mixed
  have hfd : ∀ W : World, (Instr.field 31 (.agg #[.int .i64 s.ls, .int .i64 s.la]) 0).run Try.prog W = .ok (.int .i64 s.ls) W := fun _ => by kernel_rfl
  obtain ⟨i0, hi0, hz0, hz1, hz2⟩ := info_parts Try.infoSeg
  have HK := Lib.hid (fun W => rkey_any s W)
  have HC := Lib.hid (fun W => rcanon_any s.ls s.la W hs.1)
  have nec := neq_cut (sd (key s.ls s.la)) (pa (key s.ls s.la)) s.ls s.la
  have hD : (sd (key s.ls s.la) == s.ls && pa (key s.ls s.la) == s.la) = true ∧ ¬ 0 < s.ls := by
    unfold G5.may G5.is G5.key at hmay
    simp at hmay ⊢
    exact ⟨⟨hmay.1.1.symm, hmay.1.2.symm⟩, hmay.2⟩
  have t1 : decide (0 < s.ls) = false := decide_eq_false hD.2
  rw [hD.1] at nec
  have HFI := Lib.hid (fun W (h : GRow W a l) => rfind_any a cap l s.ls s.la W hs.1 h (by omega))
  have hfv : findV l (key s.ls s.la) = -1 := by unfold findV; exact if_neg hno
  rw [hfv] at HFI
  have t2 : decide (room ≤ (l.length : Int)) = true := decide_eq_true hfull
  clear hfv hno
  generalize sd (key s.ls s.la) = x1 at *
  generalize pa (key s.ls s.la) = x2 at *
  have HB0 : Hid ((w.alloc (oG s)).heap[w.heap.size]? = some (oG s)) := heap_alloc_new _ _
  have hL := below_new w (oG s)
  have HR := Lib.hid hr
  clear hD hmay hr
  go_enter Try.func34, Try.ntmps34
  go_upto_region 1 with fail
  generalize w.alloc (oG s) = X at *
  obtain ⟨p1, p2, p3, p4, p5⟩ := (five_cells HB0.out).re
  refine wp_region_quiet_below (by assumption) (by kernel_rfl) ?_
  repeat (go_big_quiet_step (first
    | (go_at_call 41; exact Calls.regrown_of (HK.out _))
    | (go_at_call 53; exact Calls.regrown_of (HC.out _))))
  refine wpQuiet_nil ?_
  intro _ hw'
  obtain ⟨⟨nq, osq⟩, hw''⟩ := hw'
  subst hw''
  have hBq := below_regrown X nq osq
  have hL1 := bt hL hBq
  have HB1 := Lib.hid (box_on HB0.out hBq)
  clear p1 p2 p3 p4 p5 hBq HB0 hL HC nec t1
  generalize grow (redrawn X nq) osq = X1 at *
  obtain ⟨c1, c2, c3, c4, c5⟩ := five_cells HB1.out
  rw [Nat.zero_add] at c2 c3 c4 c5
  go_wp2_with fail
  clear c1 c2 c3 c4 c5
  refine (HK.out _).mono ?_
  rintro e y1 ⟨rfl, hB1⟩
  have hL2 := bt hL1 hB1
  have HB2 := Lib.hid (box_on HB1.out hB1)
  clear hB1 hL1 HB1
  go_wp2_with fail
  refine (HFI.out _ (HR.out.below hL2)).mono ?_
  rintro e y2 ⟨rfl, hB2⟩
  have hL3 := bt hL2 hB2
  have HB3 := Lib.hid (box_on HB2.out hB2)
  clear hB2 hL2 HB2 HFI
  go_wp2_with fail
  go_ret2
  exact ⟨a, cap, ⟨rfl, HR.out.below hL3, hc, .inl ⟨rfl, rfl⟩⟩, hL3⟩
set_option maxRecDepth 100000 in
set_option maxHeartbeats 4000000 in
theorem rputG_set (a : Option Addr) (cap : Nat) (l : List G5) (room : Int) (s : G5) (w : World) (hs : s.ok) (hmay : s.may = true) (kN : Nat) (hkN : kN = findG l s.key) (hk : kN < l.length) (hr : GRow w a l) (hc : l.length ≤ cap) (hl : l.length ≤ 10000) :
    Calls Try.prog 34 #[.slice a l.length cap, .int .i64 room, vG s] w (PutG a l (l.set kN s, 0) w) := by
  have mx := mixed
  have hfd : ∀ W : World, (Instr.field 31 (.agg #[.int .i64 s.ls, .int .i64 s.la]) 0).run Try.prog W = .ok (.int .i64 s.ls) W := fun _ => by kernel_rfl
  obtain ⟨i0, hi0, hz0, hz1, hz2⟩ := info_parts Try.infoSeg
  have HK := Lib.hid (fun W => rkey_any s W)
  have HC := Lib.hid (fun W => rcanon_any s.ls s.la W hs.1)
  have nec := neq_cut (sd (key s.ls s.la)) (pa (key s.ls s.la)) s.ls s.la
  have hD : (sd (key s.ls s.la) == s.ls && pa (key s.ls s.la) == s.la) = true ∧ ¬ 0 < s.ls := by
    unfold G5.may G5.is G5.key at hmay
    simp at hmay ⊢
    exact ⟨⟨hmay.1.1.symm, hmay.1.2.symm⟩, hmay.2⟩
  have t1 : decide (0 < s.ls) = false := decide_eq_false hD.2
  rw [hD.1] at nec
  have HFI := Lib.hid (fun W (h : GRow W a l) => rfind_any a cap l s.ls s.la W hs.1 h (by omega))
  have hfv : findV l (key s.ls s.la) = (kN : Int) := by subst hkN; unfold findV; exact if_pos hk
  rw [hfv] at HFI
  have i1 : (0 : Int) ≤ (kN : Int) := by omega
  have i2 : (kN : Int) < (l.length : Int) := by omega
  clear hfv hkN
  generalize sd (key s.ls s.la) = x1 at *
  generalize pa (key s.ls s.la) = x2 at *
  have HB0 : Hid ((w.alloc (oG s)).heap[w.heap.size]? = some (oG s)) := heap_alloc_new _ _
  have hL := below_new w (oG s)
  have HR := Lib.hid hr
  clear hD hmay hr
  go_enter Try.func34, Try.ntmps34
  go_upto_region 1 with fail
  generalize w.alloc (oG s) = X at *
  obtain ⟨p1, p2, p3, p4, p5⟩ := (five_cells HB0.out).re
  refine wp_region_quiet_below (by assumption) (by kernel_rfl) ?_
  repeat (go_big_quiet_step (first
    | (go_at_call 41; exact Calls.regrown_of (HK.out _))
    | (go_at_call 53; exact Calls.regrown_of (HC.out _))))
  refine wpQuiet_nil ?_
  intro _ hw'
  obtain ⟨⟨nq, osq⟩, hw''⟩ := hw'
  subst hw''
  have hBq := below_regrown X nq osq
  have hL1 := bt hL hBq
  have HB1 := Lib.hid (box_on HB0.out hBq)
  clear p1 p2 p3 p4 p5 hBq HB0 hL HC nec t1
  generalize grow (redrawn X nq) osq = X1 at *
  obtain ⟨c1, c2, c3, c4, c5⟩ := five_cells HB1.out
  rw [Nat.zero_add] at c2 c3 c4 c5
  go_wp2_with fail
  clear c1 c2 c3 c4 c5
  refine (HK.out _).mono ?_
  rintro e y1 ⟨rfl, hB1⟩
  have hL2 := bt hL1 hB1
  have HB2 := Lib.hid (box_on HB1.out hB1)
  clear hB1 hL1 HB1
  go_wp2_with fail
  refine (HFI.out _ (HR.out.below hL2)).mono ?_
  rintro e y2 ⟨rfl, hB2⟩
  have hL3 := bt hL2 hB2
  have HB3 := Lib.hid (box_on HB2.out hB2)
  clear hB2 hL2 HB2 HFI
  go_upto_region 5 with fail
  have hB0 := below_new y2 (.cells #[] 35)
  have HO0 := Lib.hid (own_emptyG y2)
  have HL0 := Lib.hid ((HR.out.below hL3).below hB0)
  go_upto_region 6 with (at_builtin; refine wpList_append_segs _ rfl _ _ 29 rfl y2.heap.size 35 i0 (.agg #[.int .i64 0, .int .i64 0, .int .i64 0, .int .i64 0, .int .i64 0]) 40 Try.underlying29 hi0 hz0 hz1 hz2 rfl _ 0 [] (by rfl) HO0.out a cap l (by rfl) HL0.out (by unfold maxLen; omega) (by omega) (by simp) ?_; intro a1 cap1 w1 hown1 hgrow1; rw [Nat.zero_add, List.nil_append] at hown1; have hBn : Go.RowKit.Below y2.heap.size y2 w1 := hB0.grown hgrow1 (by simp) (fun k hk => (HO0.out.lt k hk).1); have HO1 := Lib.hid hown1; clear hown1 hgrow1)
  have HB4 := Lib.hid (box_on HB3.out hBn)
  have hlt := lt_of_block HB3.out
  obtain ⟨g, rfl, hg, hc5, hfz⟩ := own_atG HO1.out rfl kN hk
  have HO2 := Lib.hid (own_setG HO1.out kN hk s)
  have HCAP := Lib.hid (own_capG HO1.out)
  obtain ⟨c1, c2, c3, c4, c5⟩ := five_cells HB4.out
  rw [Nat.zero_add] at c2 c3 c4 c5
  obtain ⟨d1, d2, d3, d4, d5⟩ := hc5
  have f1 := hfz (kN * 5)
  have f2 := hfz (kN * 5 + 1)
  have f3 := hfz (kN * 5 + 2)
  have f4 := hfz (kN * 5 + 3)
  have f5 := hfz (kN * 5 + 4)
  have hge : w.heap.size ≤ g := by have := hL3.size; omega
  have hLf := (((((bt hL3 hBn).setCell (p := ⟨g, kN * 5, none⟩) hge (.int .i64 s.ls)).setCell (p := ⟨g, kN * 5 + 1, none⟩) hge (.int .i64 s.la)).setCell (p := ⟨g, kN * 5 + 2, none⟩) hge (.int .i64 s.hs)).setCell (p := ⟨g, kN * 5 + 3, none⟩) hge (.int .i64 s.ha)).setCell (p := ⟨g, kN * 5 + 4, none⟩) hge (.int .i64 s.v)
  generalize l[kN] = old at *
  clear hfz hB0 HL0 HO0 HO1 hBn
  go_wp2_with fail
  go_ret2
  refine ⟨some ⟨g, 0, none⟩, cap1, ⟨by rw [List.length_set]; rfl, own_grow HO2.out (by simp), by rw [List.length_set]; exact HCAP.out, .inr fun p hp => by cases hp; exact hge⟩, hLf⟩
end Go.Proofs.Ytakkmnhiaddnnaa
