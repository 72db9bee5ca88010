/- A part of the proof: contracts of the functions that the statements reach. -/
import Derived.Test.YtakkmnhiaddnnaaRows
import Derived.Test.YtakkmnhiaddnnaaCA
import Derived.Test.YtakkmnhiaddnnaaCB
import Derived.Test.YtakkmnhiaddnnaaCC
import Derived.Test.YtakkmnhiaddnnaaCD
import Derived.Test.YtakkmnhiaddnnaaCE
import Derived.Test.YtakkmnhiaddnnaaCF
import Derived.Test.YtakkmnhiaddnnaaCG
import Derived.Test.YtakkmnhiaddnnaaCH
import Derived.Test.YtakkmnhiaddnnaaCI
import Derived.Test.YtakkmnhiaddnnaaCJ
import Derived.Test.YtakkmnhiaddnnaaCK
import Derived.Test.YtakkmnhiaddnnaaCL
import Derived.Test.YtakkmnhiaddnnaaCM
import Derived.Test.YtakkmnhiaddnnaaCN
import Derived.Lib.MinMax
import Derived.Deep.RegionHeld3
import Derived.Deep.CutRange
import Derived.Lib.QuietBelow

/- Delete, told by the row. -/
namespace Go.Proofs.Ytakkmnhiaddnnaa
open Go.RowKit Go.Sort Go.Proofs.Ytakkmnhiaddnnaa.Bo
set_option linter.unusedVariables false
set_option maxRecDepth 100000

set_option maxHeartbeats 1000000 in
theorem rdel_any {w0 w : World} {S : Nat → Prop} {base T A : Nat} {R : Int} {L : List G5} (h : TrAt w0 S base T A R L w) (hR : RowOk L) (hG : ∀ g ∈ L, g.ok) (a b : Int) (hb64 : I64 b) :
    Rd 38 #[aP T, .agg #[.int .i64 a, .int .i64 b]] (.bool (delG L (key a b)).2) (TrAt w0 S base T A R (delG L (key a b)).1) w := by
  have hA := h
  obtain ⟨t, hrt, hroom, hfin⟩ := h
  obtain ⟨x, hr, hb, rfl⟩ := hfin
  have hrt' := hrt
  obtain ⟨S1, hI, hk, hsb⟩ := hrt'
  have hTr := TrR.of hI hr hb hR hG
  have hbox := hrt.root
  have hky : Ky (key a b) := key_ky _ _ hb64
  have hPl : ∀ W, Go.RowKit.Below w.heap.size w W → Calls Try.prog 52 #[aP T, .agg #[.int .i64 a, .int .i64 b]] W fun e w' => e = .returned (.int .i64 (plI (key a b) x)) ∧ Go.RowKit.Below W.heap.size W w' := fun W hW => rplace_any (hTr.below hW) a b hb64
  cases hp : plF (key a b) x with
  | none =>
    rw [plI_none hp] at hPl
    rw [del_none _ _ hky (pl_none x _ (ris_of _ hR) hp)]
    obtain ⟨_, hnil⟩ := hI.nil hr.ok (-1) ((t.ar.look_none _).1 t.ar.look_neg)
    exact (rdel_none T A a b (-1) t.root w hbox hPl (Lib.hid fun W hW => (hnil W hW).mono fun e w' ⟨he, hw⟩ => ⟨he, hw ▸ Go.RowKit.Below.refl _ _⟩)).mono fun e w' ⟨he, hw⟩ => ⟨he, TrAt.bc _ _ hA hw⟩
  | some y =>
    rw [plI_some hp] at hPl
    obtain ⟨_, _, q1, q2, q3, q4, q6⟩ := pl_some x _ y hp
    obtain ⟨nn, hnl, hng, his⟩ := hTr.stepNode _ y (fnr_mem _ _ _ q6)
    obtain ⟨S0, rfl, hb0, hT0, hrn⟩ := hI
    obtain ⟨gb, k0, k1, k2, k3, _⟩ := RtIs.cellset (⟨S0, rfl, hb0, hT0, hrn⟩ : RtIs w base T A t (fun b => b = T ∨ S0 b)) hr.ok y.i his
    have hC : ∀ W, Go.RowKit.Below w.heap.size w W → W.cell? ⟨gb, y.i * 10 + 6, none⟩ = some (.int .i64 (t.ch y.i false)) ∧ W.cell? ⟨gb, y.i * 10 + 7, none⟩ = some (.int .i64 (t.ch y.i true)) := fun W hW =>
      ⟨(hW.cell (World.block_lt_of_cell? w _ (k2 6 _ rfl))).trans (k2 6 _ rfl), (hW.cell (World.block_lt_of_cell? w _ (k2 7 _ rfl))).trans (k2 7 _ rfl)⟩
    have hAt : ∀ W, Go.RowKit.Below w.heap.size w W → Calls Try.prog 64 #[aP A, .int .i64 (y.i : Int)] W fun e w' => e = .returned (.pointer (some ⟨gb, y.i * 10, none⟩)) ∧ Go.RowKit.Below W.heap.size W w' := fun W hW => (k1 W hW).mono fun e w' ⟨he, hw⟩ => ⟨he, hw ▸ Go.RowKit.Below.refl _ _⟩
    by_cases hch : t.ch y.i false = -1 ∨ t.ch y.i true = -1
    · obtain ⟨d1, d2⟩ := del_one hr hb hR _ hky y hp hch
      rw [d2]
      exact rdel_one T A gb y.i a b t.root _ _ _ _ (TrAt w0 S base T A R (delG x.ino (key a b)).1) w hbox hPl hAt hC rfl rfl (by rcases hch with e | e <;> simp [e])
        (Lib.hid fun W hW => rtakeOut_any (rtAt_bc _ _ hrt hW) hroom d1)
    · rw [not_or] at hch
      obtain ⟨f, f1, ⟨p, c0, c1, c, f2⟩, f3, f4, f5⟩ := del_two hr hb hR _ hky y hp hch.2
      rw [f5]
      have hisf := (t.ar.look_some _ _ f2).1
      have hlf := (t.ar.look_some _ _ f2).2
      rw [Int.toNat_natCast] at hlf
      obtain ⟨gf, _, j1, j2, _, _⟩ := RtIs.cellset (⟨S0, rfl, hb0, hT0, hrn⟩ : RtIs w base T A t (fun b => b = T ∨ S0 b)) hr.ok f.i hisf
      rw [hlf] at j2
      obtain ⟨g2, hSg, i0, i1, i2, i3⟩ := rn_set5 hrn hr.ok y.i his f.g
      have hAbv : ∀ W, Go.RowKit.Below w.heap.size w W → Calls Try.prog 50 #[aP T, .agg #[.int .i64 a, .int .i64 b]] W fun e w' => e = .returned (.int .i64 (f.i : Int)) ∧ Go.RowKit.Below W.heap.size W w' := fun W hW => by
        have := rabv_any (hTr.below hW) a b hb64
        rw [fni_eq, f1] at this
        exact this
      have hCf : ∀ W, Go.RowKit.Below w.heap.size w W → Cells5 W gf (f.i * 10) f.g := fun W hW => by
        have cc : ∀ j u, (rnE.e ⟨f.g, p, c0, c1, c⟩)[j]? = some u → W.cell? ⟨gf, f.i * 10 + j, none⟩ = some u := fun j u hu => (hW.cell (World.block_lt_of_cell? w _ (j2 j u hu))).trans (j2 j u hu)
        exact ⟨cc 0 _ rfl, cc 1 _ rfl, cc 2 _ rfl, cc 3 _ rfl, cc 4 _ rfl⟩
      have htw : t.tw (y.i : Int) (·.setG f.g) = ⟨t.ar.set y.i ((t.ar.l.getD y.i ndZ).setG f.g), t.root⟩ := by unfold Rt.tw; rw [if_pos his, Int.toNat_natCast]
      have hC2 : ∀ W, Go.RowKit.Below w.heap.size w W → W.cell? ⟨g2, y.i * 10 + 6, none⟩ = some (.int .i64 (t.ch y.i false)) ∧ W.cell? ⟨g2, y.i * 10 + 7, none⟩ = some (.int .i64 (t.ch y.i true)) := fun W hW => ⟨i0 W hW 6 _ rfl, i0 W hW 7 _ rfl⟩
      refine rdel_two T A g2 y.i gf f.i a b t.root _ _ f.g (fun W => RtAt w0 S base T A (t.tw (y.i : Int) (·.setG f.g)) W) _ w hbox hPl (Lib.hid fun W hW => (i1 W hW).mono fun e w' ⟨he, hw⟩ => ⟨he, hw ▸ Go.RowKit.Below.refl _ _⟩) hC2 (by simpa using hch.1) (by simpa using hch.2) hAbv
        (Lib.hid fun W hW => (j1 W hW).mono fun e w' ⟨he, hw⟩ => ⟨he, hw ▸ Go.RowKit.Below.refl _ _⟩) hCf i2 (Lib.hid fun W hW => ?_) (Lib.hid fun W hW => rtakeOut_any hW (by rw [t.tw_room]; exact hroom) f4)
      obtain ⟨z1, z2⟩ := i3 W hW
      have hTg : T ≠ g2 := fun e => rt_type hb0 hrn (e ▸ hSg)
      have hbW := box_on hb0 hW
      rw [htw]
      exact RtAt.step (S1 := fun b => b = T ∨ S0 b) (S2 := fun b => b = T ∨ S0 b) ⟨S0, rfl, hbW, hT0, hrn.below hW⟩ (hk.trans (Kp.of_below S hW) (fun _ _ h => h)) hsb
        ⟨S0, rfl, set_far (set_far (set_far (set_far (set_far hbW hTg) hTg) hTg) hTg) hTg, hT0, z1⟩ (z2.mono fun b hb => .inr hb) (fun b hb => .inl hb)
end Go.Proofs.Ytakkmnhiaddnnaa

/- Height. -/
namespace Go.Proofs.Ytakkmnhiaddnnaa
open Go.RowKit Go.Sort Go.Proofs.Ytakkmnhiaddnnaa.Bo
set_option linter.unusedVariables false
set_option maxRecDepth 100000

set_option maxHeartbeats 2000000 in
theorem rheight_no (T A : Nat) (i root : Int) (w : World) (HT : Hid (w.heap[T]? = some (tO A root)))
    (HA : Hid (Calls Try.prog 64 #[aP A, .int .i64 i] w fun e w' => e = .returned (.pointer none) ∧ Go.RowKit.Below w.heap.size w w')) :
    Calls Try.prog 57 #[aP T, .int .i64 i] w fun e w' => e = .returned (.int .i64 0) ∧ Go.RowKit.Below w.heap.size w w' := by
  have mx := mixed
  have c0 : w.cell? ⟨T, 0, none⟩ = some (aP A) := (cell_of_row _ _ 0 _ _ _ HT.out).trans rfl
  go_enter Try.func57, Try.ntmps57
  go_wp2_with fail
  refine HA.out.mono ?_
  rintro e y1 ⟨rfl, hb⟩
  have HB := Lib.hid hb
  clear hb c0
  go_wp2_with fail
  go_ret
  exact ⟨rfl, HB.out⟩
set_option maxHeartbeats 2000000 in
theorem rheight_core (T A g n : Nat) (root li ri hl hr : Int) (w : World) (HT : Hid (w.heap[T]? = some (tO A root)))
    (HA : Hid (Calls Try.prog 64 #[aP A, .int .i64 (n : Int)] w fun e w' => e = .returned (.pointer (some ⟨g, n * 10, none⟩)) ∧ Go.RowKit.Below w.heap.size w w'))
    (HC : Hid (w.cell? ⟨g, n * 10 + 6, none⟩ = some (.int .i64 li) ∧ w.cell? ⟨g, n * 10 + 7, none⟩ = some (.int .i64 ri)))
    (HL : Hid (∀ W, Go.RowKit.Below w.heap.size w W → Calls Try.prog 57 #[aP T, .int .i64 li] W fun e w' => e = .returned (.int .i64 hl) ∧ Go.RowKit.Below W.heap.size W w'))
    (HR : Hid (∀ W, Go.RowKit.Below w.heap.size w W → Calls Try.prog 57 #[aP T, .int .i64 ri] W fun e w' => e = .returned (.int .i64 hr) ∧ Go.RowKit.Below W.heap.size W w'))
    (b1 : 0 ≤ hl ∧ hl ≤ 1000000) (b2 : 0 ≤ hr ∧ hr ≤ 1000000) :
    Calls Try.prog 57 #[aP T, .int .i64 (n : Int)] w fun e w' => e = .returned (.int .i64 (1 + max hl hr)) ∧ Go.RowKit.Below w.heap.size w w' := by
  have mx := mixed
  have c0 : w.cell? ⟨T, 0, none⟩ = some (aP A) := (cell_of_row _ _ 0 _ _ _ HT.out).trans rfl
  have q1 : IntKind.i64.wrap (1 + max hl hr) = 1 + max hl hr := IntWalk.i64_in _ (by omega)
  go_enter Try.func57, Try.ntmps57
  go_wp2_with fail
  refine HA.out.mono ?_
  rintro e y1 ⟨rfl, hb⟩
  have HB := Lib.hid hb
  have p1 := cell_regrown ((hb.cell (World.block_lt_of_cell? w _ HC.out.1)).trans HC.out.1)
  have p2 := cell_regrown ((hb.cell (World.block_lt_of_cell? w _ HC.out.2)).trans HC.out.2)
  clear hb c0
  go_wp2_with fail
  have HB2 : Hid (∀ (d : Nat) (os : Array Obj), Go.RowKit.Below w.heap.size w (grow (redrawn y1 d) os)) := fun d os => bt HB.out (below_regrown y1 d os)
  refine wp_region_quiet_below (by assumption) (by kernel_rfl) ?_
  repeat (go_big_quiet_step (first
    | (go_at_call 57; with_reducible exact Calls.regrown_of (HL.out _ (HB2.out _ _)))
    | (go_at_call 57; with_reducible exact Calls.regrown_of (HR.out _ (HB2.out _ _)))))
  refine wpQuiet_nil ?_
  intro _ hw'
  obtain ⟨⟨nq, osq⟩, hw''⟩ := hw'
  subst hw''
  have HY := Lib.hid (HB2.out nq osq)
  clear p1 p2
  generalize grow (redrawn y1 nq) osq = Y at *
  go_wp2_with fail
  go_ret
  exact ⟨rfl, HY.out⟩
theorem height_le (y : Tr) : y.height ≤ y.ids.length := by
  induction y with
  | nil => exact Nat.le_refl _
  | node c l i g r ih1 ih2 => simp only [Tr.height, Tr.ids, List.length_append, List.length_cons]; omega
theorem rheight_sub {w : World} {base T A : Nat} {t : Rt} {S1 : Nat → Prop} (h : RtIs w base T A t S1) (hok : t.ar.ok) (y : Tr) : ∀ (p : Int), RepT t.look y p → y.ids.length ≤ 100000 → ∀ W, Go.RowKit.Below w.heap.size w W → Calls Try.prog 57 #[aP T, .int .i64 y.idx] W fun e w' => e = .returned (.int .i64 (y.height : Int)) ∧ Go.RowKit.Below W.heap.size W w' := by
  induction y with
  | nil =>
    intro p _ _ W hW
    obtain ⟨k1, k2⟩ := h.nil hok (-1) ((t.ar.look_none _).1 t.ar.look_neg)
    exact rheight_no T A (-1) t.root W (box_on k1 hW) (Lib.hid ((k2 W hW).mono fun e w' ⟨he, hw⟩ => ⟨he, hw ▸ Go.RowKit.Below.refl _ _⟩))
  | node c l i g r ih1 ih2 =>
    intro p hr hl W hW
    obtain ⟨is, hlk⟩ := t.ar.look_some _ _ hr.1
    obtain ⟨gb, k1, k2, k3, _, _⟩ := h.cellset hok i is
    rw [Int.toNat_natCast] at hlk
    rw [hlk] at k3
    simp only [Tr.ids, List.length_append, List.length_cons] at hl
    have e1 := height_le l
    have e2 := height_le r
    have := rheight_core T A gb i t.root l.idx r.idx (l.height : Int) (r.height : Int) W (box_on k1 hW) (Lib.hid ((k2 W hW).mono fun e w' ⟨he, hw⟩ => ⟨he, hw ▸ Go.RowKit.Below.refl _ _⟩))
      ⟨(hW.cell (World.block_lt_of_cell? w _ (k3 6 _ rfl))).trans (k3 6 _ rfl), (hW.cell (World.block_lt_of_cell? w _ (k3 7 _ rfl))).trans (k3 7 _ rfl)⟩
      (Lib.hid fun W' hW' => ih1 _ hr.2.1 (by omega) W' (bt hW hW')) (Lib.hid fun W' hW' => ih2 _ hr.2.2 (by omega) W' (bt hW hW')) ⟨by omega, by omega⟩ ⟨by omega, by omega⟩
    have e3 : ((Tr.node c l i g r).height : Int) = 1 + max (l.height : Int) (r.height : Int) := by simp only [Tr.height]; omega
    rw [e3]
    exact this
set_option maxHeartbeats 1000000 in
theorem rHeight_core (T A : Nat) (root v : Int) (w : World) (HT : Hid (w.heap[T]? = some (tO A root))) (HH : Hid (Calls Try.prog 57 #[aP T, .int .i64 root] w fun e w' => e = .returned (.int .i64 v) ∧ Go.RowKit.Below w.heap.size w w')) :
    Calls Try.prog 29 #[aP T] w fun e w' => e = .returned (.int .i64 v) ∧ Go.RowKit.Below w.heap.size w w' := by
  have mx := mixed
  have c0 : w.cell? ⟨T, 1, none⟩ = some (.int .i64 root) := (cell_of_row _ _ 1 _ _ _ HT.out).trans rfl
  go_enter Try.func29, Try.ntmps29
  go_wp2_with fail
  refine HH.out.mono ?_
  rintro e y1 ⟨rfl, hb⟩
  have HB := Lib.hid hb
  clear hb c0
  go_wp2_with fail
  go_ret
  exact ⟨rfl, HB.out⟩
theorem TrR.len {w : World} {base T A : Nat} {t : Rt} {x : Tr} {S : Nat → Prop} (h : TrR w base T A t x S) : x.ids.length ≤ 65536 := by
  have h1 := h.rep.len
  have h2 := h.rep.ok.fits
  have h3 := h.rep.ok.room
  rw [ino_len] at h1
  unfold Ag.len at h1
  omega
theorem rHeight_any {w : World} {base T A : Nat} {t : Rt} {x : Tr} {S : Nat → Prop} (h : TrR w base T A t x S) : Calls Try.prog 29 #[aP T] w fun e w' => e = .returned (.int .i64 (x.height : Int)) ∧ Go.RowKit.Below w.heap.size w w' := by
  have hl := h.len
  have := rheight_sub h.is h.rep.ok x (-1) h.rep.rep (by omega) w (Go.RowKit.Below.refl _ _)
  rw [← h.rep.root] at this
  obtain ⟨S0, _, hbox, _⟩ := h.is
  exact rHeight_core T A t.root _ w hbox this
/-! Len, Room, New, Clear -/
set_option maxHeartbeats 1000000 in
theorem rlen_core (T A : Nat) (root v : Int) (w : World) (HT : Hid (w.heap[T]? = some (tO A root))) (HH : Hid (Calls Try.prog 43 #[aP A] w fun e w' => e = .returned (.int .i64 v) ∧ Go.RowKit.Below w.heap.size w w')) :
    Calls Try.prog 17 #[aP T] w fun e w' => e = .returned (.int .i64 v) ∧ Go.RowKit.Below w.heap.size w w' := by
  have mx := mixed
  have c0 : w.cell? ⟨T, 0, none⟩ = some (aP A) := (cell_of_row _ _ 0 _ _ _ HT.out).trans rfl
  go_enter Try.func17, Try.ntmps17
  go_wp2_with fail
  refine HH.out.mono ?_
  rintro e y1 ⟨rfl, hb⟩
  have HB := Lib.hid hb
  clear hb c0
  go_wp2_with fail
  go_ret
  exact ⟨rfl, HB.out⟩
set_option maxHeartbeats 1000000 in
theorem rroom_core (T A : Nat) (root v : Int) (w : World) (HT : Hid (w.heap[T]? = some (tO A root))) (HH : Hid (Calls Try.prog 40 #[aP A] w fun e w' => e = .returned (.int .i64 v) ∧ w = w')) :
    Calls Try.prog 12 #[aP T] w fun e w' => e = .returned (.int .i64 v) ∧ Go.RowKit.Below w.heap.size w w' := by
  have mx := mixed
  have c0 : w.cell? ⟨T, 0, none⟩ = some (aP A) := (cell_of_row _ _ 0 _ _ _ HT.out).trans rfl
  go_enter Try.func12, Try.ntmps12
  go_wp2_with fail
  refine HH.out.mono ?_
  rintro e y1 ⟨rfl, rfl⟩
  go_wp2_with fail
  go_ret
  exact ⟨rfl, Go.RowKit.Below.refl _ _⟩
set_option maxHeartbeats 1000000 in
theorem rclear_core (T A : Nat) (root : Int) (P1 : World → Prop) (w : World) (HT : Hid (w.heap[T]? = some (tO A root)))
    (HH : Hid (Calls Try.prog 68 #[aP A] w fun e w' => e = .returned (.tuple #[]) ∧ P1 w')) (HP : Hid (∀ W, P1 W → W.cell? ⟨T, 1, none⟩ = some (.int .i64 root))) (HPf : Hid (∀ W, P1 W → W.frozen? ⟨T, 1, none⟩ = false)) :
    Calls Try.prog 42 #[aP T] w fun e w' => e = .returned (.tuple #[]) ∧ ∃ W, P1 W ∧ w' = W.setCell ⟨T, 1, none⟩ (.int .i64 (-1)) := by
  have mx := mixed
  have c0 : w.cell? ⟨T, 0, none⟩ = some (aP A) := (cell_of_row _ _ 0 _ _ _ HT.out).trans rfl
  go_enter Try.func42, Try.ntmps42
  go_wp2_with fail
  refine HH.out.mono ?_
  rintro e y1 ⟨rfl, hp⟩
  have c1 := HP.out _ hp
  have c2 := HPf.out _ hp
  have HP1 := Lib.hid hp
  clear hp c0
  go_wp2_with fail
  go_end0
  exact ⟨rfl, y1, HP1.out, rfl⟩
theorem empty_rep (room : Int) (h : 0 ≤ room ∧ room ≤ 65536) : Rep ⟨Ag.new room, -1⟩ .nil :=
  ⟨Ag.new_ok room h, rfl, trivial, List.nodup_nil, fun k hk => by have := ((Ag.is_iff _ _).1 hk).2.2; exact absurd this (by show ¬ (k : Int) < 0; omega)⟩
theorem empty_fin (room : Int) (h : 0 ≤ room ∧ room ≤ 65536) : Fin ⟨Ag.new room, -1⟩ [] := ⟨.nil, empty_rep room h, ⟨⟨0, rfl⟩, rfl⟩, rfl⟩
theorem rclear_any {w0 w : World} {S : Nat → Prop} {base T A : Nat} {R : Int} {L : List G5} (h : TrAt w0 S base T A R L w) :
    Rd 42 #[aP T] (.tuple #[]) (TrAt w0 S base T A R []) w := by
  obtain ⟨t, hrt, hroom, hfin⟩ := h
  have hok := hfin.ok
  have hc := rpost_calls (f := 68) (args := #[aP A]) (ans := .tuple #[]) (a' := Ag.new t.ar.room) hrt (fun S0 hr => rnreset_any hr)
  refine (rclear_core T A t.root _ w hrt.root hc (Lib.hid fun W hW => (cell_of_row _ _ 1 _ _ _ hW.root).trans rfl) (Lib.hid fun W hW => frozen_of_row _ _ _ _ _ hW.root)).mono ?_
  rintro e w' ⟨rfl, W, hW, rfl⟩
  obtain ⟨S1, h1, h2, h3⟩ := hW
  obtain ⟨z1, z2⟩ := h1.setRoot (-1)
  exact ⟨rfl, ⟨Ag.new t.ar.room, -1⟩, RtAt.step h1 h2 h3 z1 z2 (fun b hb => .inl hb), hroom, empty_fin _ hok.room⟩
end Go.Proofs.Ytakkmnhiaddnnaa

/- New; what Check asks of a key. -/
namespace Go.Proofs.Ytakkmnhiaddnnaa
open Go.RowKit Go.Sort Go.Proofs.Ytakkmnhiaddnnaa.Bo
set_option linter.unusedVariables false
set_option maxRecDepth 100000

set_option maxHeartbeats 1000000 in
theorem rbnew_no (room : Int) (w : World) (h : ¬ (0 ≤ room ∧ room ≤ 4096)) :
    Calls Try.prog 11 #[.int .i64 room] w fun e w' => e = .returned (.tuple #[.pointer none, .int .i64 1]) ∧ w = w' := by
  by_cases h1 : room < 0
  · have t1 : decide (room < 0) = true := decide_eq_true h1
    clear h h1
    go_enter Try.func11, Try.ntmps11
    go_wp2_with fail
    go_ret2
    exact ⟨rfl, rfl⟩
  · have t1 : decide (room < 0) = false := decide_eq_false h1
    have t2 : decide (4096 < room) = true := decide_eq_true (by omega)
    clear h h1
    go_enter Try.func11, Try.ntmps11
    go_wp2_with fail
    go_ret2
    exact ⟨rfl, rfl⟩
set_option maxHeartbeats 1000000 in
theorem rbnew_core (room : Int) (A : Nat) (P : World → Prop) (w : World) (h : 0 ≤ room ∧ room ≤ 4096)
    (HN : Hid (Calls Try.prog 39 #[.int .i64 room] w fun e w' => e = .returned (.tuple #[aP A, .int .i64 0]) ∧ P w')) :
    Calls Try.prog 11 #[.int .i64 room] w fun e w' => ∃ W, (e = .returned (.tuple #[aP W.heap.size, .int .i64 0]) ∧ w' = W.alloc (tO A (-1))) ∧ P W := by
  have mx := mixed
  have t1 : decide (room < 0) = false := decide_eq_false (by omega)
  have t2 : decide (4096 < room) = false := decide_eq_false (by omega)
  clear h
  go_enter Try.func11, Try.ntmps11
  go_wp2_with fail
  refine HN.out.mono ?_
  rintro e y1 ⟨rfl, hp⟩
  have HP := Lib.hid hp
  clear hp
  go_wp2_with fail
  go_ret2
  exact ⟨y1, ⟨rfl, rfl⟩, HP.out⟩
theorem rbnew_ok (room : Int) (w : World) (h : 0 ≤ room ∧ room ≤ 4096) :
    Calls Try.prog 11 #[.int .i64 room] w fun e w' => ∃ T A S, (e = .returned (.tuple #[aP T, .int .i64 0]) ∧ RtIs w' w.heap.size T A ⟨Ag.new room, -1⟩ S) ∧ Go.RowKit.Below w.heap.size w w' := by
  have hA : 0 ≤ room ∧ room ≤ 65536 := ⟨h.1, by omega⟩
  refine (rbnew_core room w.heap.size (fun W => W = w.alloc (rnO room (.slice none 0 0) (.slice none 0 0))) w h (Lib.hid ((rnnew_ok room w hA).mono fun e w' ⟨he, hw⟩ => ⟨he, hw.symm⟩))).mono ?_
  rintro e w' ⟨W, ⟨rfl, rfl⟩, rfl⟩
  have hi := rnis_new room w
  have hb := below_new w (rnO room (.slice none 0 0) (.slice none 0 0))
  have hb2 := below_new (w.alloc (rnO room (.slice none 0 0) (.slice none 0 0))) (tO w.heap.size (-1))
  exact ⟨_, w.heap.size, _, ⟨rfl, _, rfl, heap_alloc_new _ _, hb.size, hi.below hb2⟩, bt hb hb2⟩
/-! between, next, mayBeRed -/
abbrev sK (a b c d : Int) : Obj := .cells #[.int .i64 a, .int .i64 b, .int .i64 c, .int .i64 d] 33
theorem four_of {W : World} {b : Nat} {p q r s : Int} (h : W.heap[b]? = some (sK p q r s)) : W.cell? ⟨b, 0, none⟩ = some (.int .i64 p) ∧ W.cell? ⟨b, 1, none⟩ = some (.int .i64 q) ∧ W.cell? ⟨b, 2, none⟩ = some (.int .i64 r) ∧ W.cell? ⟨b, 3, none⟩ = some (.int .i64 s) :=
  ⟨(cell_of_row _ _ 0 _ _ _ h).trans rfl, (cell_of_row _ _ 1 _ _ _ h).trans rfl, (cell_of_row _ _ 2 _ _ _ h).trans rfl, (cell_of_row _ _ 3 _ _ _ h).trans rfl⟩
set_option maxHeartbeats 2000000 in
theorem rbetween_any (ks ka a b c d : Int) (w : World) (hka : I64 ka) (hb : I64 b) (hd : I64 d) (hr : (ks == sd (key ks ka) && ka == pa (key ks ka)) = true) (h1 : key a b ≤ key ks ka) (h2 : key ks ka < key c d) :
    Calls Try.prog 78 #[.agg #[.int .i64 ks, .int .i64 ka], .agg #[.int .i64 a, .int .i64 b, .int .i64 c, .int .i64 d]] w fun e w' => e = .returned (.bool true) ∧ Go.RowKit.Below w.heap.size w w' := by
  have mx := mixed
  have HR := Lib.hid (fun W => right_any ks ka W hka)
  rw [hr] at HR
  have HL := Lib.hid (fun W => compare_any a b ks ka W hb hka)
  have HH := Lib.hid (fun W => compare_any ks ka c d W hka hd)
  have e1 : decide (kcmp (key a b) (key ks ka) ≤ 0) = true := by rw [kcmp_le]; exact decide_eq_true h1
  have e2 : decide (kcmp (key ks ka) (key c d) < 0) = true := by rw [kcmp_lt0]; exact decide_eq_true h2
  generalize kcmp (key a b) (key ks ka) = K1 at *
  generalize kcmp (key ks ka) (key c d) = K2 at *
  have f1 : K1 ≤ 0 := by simpa using e1
  have f2 : K2 < 0 := by simpa using e2
  have f3 : ¬ 0 < K1 := by omega
  have f4 : ¬ 0 ≤ K2 := by omega
  clear hr h1 h2
  have hN := bt (below_new w (.cells #[.int .i64 ks, .int .i64 ka] 31)) (below_new _ (sK a b c d))
  have hk : ((w.alloc (.cells #[.int .i64 ks, .int .i64 ka] 31)).alloc (sK a b c d)).heap[w.heap.size]? = some (.cells #[.int .i64 ks, .int .i64 ka] 31) := box_on (heap_alloc_new w _) (below_new _ _)
  have hs : ((w.alloc (.cells #[.int .i64 ks, .int .i64 ka] 31)).alloc (sK a b c d)).heap[w.heap.size + 1]? = some (sK a b c d) := new_at' _ (by simp)
  have HN := Lib.hid hN
  have HK := Lib.hid hk
  have HS := Lib.hid hs
  obtain ⟨d1, d2, _, _⟩ := two_cells hk
  clear hN hk hs
  go_enter Try.func78, Try.ntmps78
  go_wp2_with fail
  refine (HR.out _).mono ?_
  rintro e y1 ⟨rfl, hl⟩
  replace HN := Lib.hid (bt HN.out hl.1)
  replace HK := Lib.hid (box_on HK.out hl.1)
  replace HS := Lib.hid (box_on HS.out hl.1)
  clear hl d1 d2
  obtain ⟨d1, d2, _, _⟩ := two_cells HK.out
  obtain ⟨q1, q2, q3, q4⟩ := four_of HS.out
  go_wp2_with fail
  refine (HL.out _).mono ?_
  rintro e y2 ⟨rfl, hl⟩
  replace HN := Lib.hid (bt HN.out hl.1)
  replace HK := Lib.hid (box_on HK.out hl.1)
  replace HS := Lib.hid (box_on HS.out hl.1)
  clear hl d1 d2 q1 q2 q3 q4
  obtain ⟨d1, d2, _, _⟩ := two_cells HK.out
  obtain ⟨q1, q2, q3, q4⟩ := four_of HS.out
  go_wp2_with fail
  refine (HH.out _).mono ?_
  rintro e y3 ⟨rfl, hl⟩
  replace HN := Lib.hid (bt HN.out hl.1)
  replace HK := Lib.hid (box_on HK.out hl.1)
  replace HS := Lib.hid (box_on HS.out hl.1)
  clear hl d1 d2 q1 q2 q3 q4
  go_wp2_with fail
  go_ret
  exact ⟨rfl, HN.out⟩
theorem nx_i64 (k : Int) (h : Ky k) (h2 : k < 9223372036854775808) : I64 k := by unfold Ky at h; unfold I64; omega
set_option maxHeartbeats 2000000 in
theorem rnext_any (ks ka : Int) (w : World) (hka : I64 ka) (hlt : key ks ka < 9223372036854775808) :
    Calls Try.prog 80 #[.agg #[.int .i64 ks, .int .i64 ka]] w fun e w' => e = .returned (.agg #[.int .i64 (sd (key ks ka + 1)), .int .i64 (pa (key ks ka + 1))]) ∧ Go.RowKit.Below w.heap.size w w' := by
  have mx := mixed
  have hky := key_ky ks ka hka
  have HN1 : Hid (∀ W, Calls Try.prog 95 #[.agg #[.int .i64 ks, .int .i64 ka]] W fun e w' => e = .returned (.tuple #[.int .i64 (key ks ka), .bool true]) ∧ Lays W w') := fun W => by
    have := next_any ks ka W hka
    rw [(nx_in _ hlt).1, (nx_in _ hlt).2] at this
    exact this
  have HB := Lib.hid (fun W => behind_any (key ks ka) W (nx_i64 _ hky hlt))
  generalize key ks ka = k at *
  generalize sd (k + 1) = s1 at *
  generalize pa (k + 1) = p1 at *
  clear hky hlt
  have hR : ((w.alloc (.cells #[.int .i64 ks, .int .i64 ka] 31)).alloc (.cells #[.int .i64 0, .int .i64 0] 31)).heap[w.heap.size + 1]? = some (.cells #[.int .i64 0, .int .i64 0] 31) := new_at' _ (by simp)
  have HN := Lib.hid (bt (below_new w (.cells #[.int .i64 ks, .int .i64 ka] 31)) (below_new _ (.cells #[.int .i64 0, .int .i64 0] 31)))
  have HR := Lib.hid hR
  have hk : ((w.alloc (.cells #[.int .i64 ks, .int .i64 ka] 31)).alloc (.cells #[.int .i64 0, .int .i64 0] 31)).heap[w.heap.size]? = some (.cells #[.int .i64 ks, .int .i64 ka] 31) := box_on (heap_alloc_new w _) (below_new _ _)
  obtain ⟨e1, e2, _, _⟩ := two_cells hk
  clear hR hk
  go_enter Try.func80, Try.ntmps80
  go_wp2_with fail
  refine (HN1.out _).mono ?_
  rintro e y1 ⟨rfl, hl⟩
  replace HN := Lib.hid (bt HN.out hl.1)
  replace HR := Lib.hid (box_on HR.out hl.1)
  clear hl e1 e2
  go_wp2_with fail
  refine (HB.out _).mono ?_
  rintro e y2 ⟨rfl, hl⟩
  replace HN := Lib.hid (bt HN.out hl.1)
  have hR := box_on HR.out hl.1
  clear hl
  obtain ⟨d1, d2, d3, d4⟩ := two_cells hR
  obtain ⟨f1, f2, _, _⟩ := two_cells (two_put (p := .int .i64 s1) (q := .int .i64 p1) hR)
  have HE := Lib.hid ((HN.out.setCell (p := ⟨w.heap.size + 1, 0, none⟩) (by show w.heap.size ≤ w.heap.size + 1; omega) (.int .i64 s1)).setCell (p := ⟨w.heap.size + 1, 1, none⟩) (by show w.heap.size ≤ w.heap.size + 1; omega) (.int .i64 p1))
  clear hR
  go_wp2_with fail
  refine bodyPost_ret (v := .agg #[.int .i64 s1, .int .i64 p1]) (by simp [results, Try.results80, go_sem, f1, f2]) rfl ?_
  exact ⟨rfl, HE.out⟩
set_option maxHeartbeats 2000000 in
theorem rmay_core (T A g n : Nat) (root p : Int) (w : World) (hp : (p == -1) = false) (HC : Hid (w.cell? ⟨g, n * 10 + 5, none⟩ = some (.int .i64 p)))
    (HR : Hid (∀ W, Go.RowKit.Below w.heap.size w W → Calls Try.prog 91 #[aP T, .int .i64 p] W fun e w' => e = .returned (.bool false) ∧ Go.RowKit.Below W.heap.size W w')) :
    Calls Try.prog 79 #[aP T, .pointer (some ⟨g, n * 10, none⟩)] w fun e w' => e = .returned (.bool true) ∧ Go.RowKit.Below w.heap.size w w' := by
  have mx := mixed
  have t1 : (p != -1) = true := by rw [bne, hp]; rfl
  have t2 : ¬ p = -1 := by simpa using hp
  clear hp
  have c1 := HC.out
  go_enter Try.func79, Try.ntmps79
  go_wp2_with fail
  refine (HR.out _ (Go.RowKit.Below.refl _ _)).mono ?_
  rintro e y1 ⟨rfl, hl⟩
  have HL := Lib.hid hl
  clear hl c1
  go_wp2_with fail
  go_ret
  exact ⟨rfl, HL.out⟩
end Go.Proofs.Ytakkmnhiaddnnaa

/- sound. -/
namespace Go.Proofs.Ytakkmnhiaddnnaa
open Go.RowKit Go.Sort Go.Proofs.Ytakkmnhiaddnnaa.Bo
set_option linter.unusedVariables false
set_option maxRecDepth 100000

abbrev cnt (n b : Int) : Value := .agg #[.int .i64 n, .int .i64 b]
abbrev cO (n b : Int) : Obj := .cells #[.int .i64 n, .int .i64 b] 85
set_option maxHeartbeats 2000000 in
theorem rsound_nil (T : Nat) (p a b c d : Int) (w : World) :
    Calls Try.prog 56 #[aP T, .int .i64 (-1), .int .i64 p, .agg #[.int .i64 a, .int .i64 b, .int .i64 c, .int .i64 d]] w fun e w' => e = .returned (.tuple #[cnt 0 0, .bool true]) ∧ Go.RowKit.Below w.heap.size w w' := by
  have mx := mixed
  have hR : ((w.alloc (sK a b c d)).alloc (cO 0 0)).heap[w.heap.size + 1]? = some (cO 0 0) := new_at' _ (by simp)
  have HN := Lib.hid (bt (below_new w (sK a b c d)) (below_new _ (cO 0 0)))
  have f1 : ((w.alloc (sK a b c d)).alloc (cO 0 0)).cell? ⟨w.heap.size + 1, 0, none⟩ = some (.int .i64 0) := (cell_of_row _ _ 0 _ _ _ hR).trans rfl
  have f2 : ((w.alloc (sK a b c d)).alloc (cO 0 0)).cell? ⟨w.heap.size + 1, 1, none⟩ = some (.int .i64 0) := (cell_of_row _ _ 1 _ _ _ hR).trans rfl
  clear hR
  go_enter Try.func56, Try.ntmps56
  go_wp2_with fail
  refine bodyPost_ret (v := .tuple #[cnt 0 0, .bool true]) (by simp [results, Try.results56, go_sem, f1, f2]) rfl ?_
  exact ⟨rfl, HN.out⟩
/-- The blocks of sound: the keys, the answer, a count that is there already. -/
structure So0 (w : World) (a b c d : Int) (M : Nat) (x y : Int) (W : World) : Prop where
  kb : W.heap[w.heap.size]? = some (sK a b c d)
  rb : W.heap[w.heap.size + 1]? = some (cO 0 0)
  mb : W.heap[M]? = some (cO x y)
  be : Go.RowKit.Below w.heap.size w W
theorem So0.on {w W W' : World} {a b c d : Int} {M : Nat} {x y : Int} (h : So0 w a b c d M x y W) (hb : Go.RowKit.Below W.heap.size W W') : So0 w a b c d M x y W' := ⟨box_on h.kb hb, box_on h.rb hb, box_on h.mb hb, bt h.be hb⟩
theorem So0.drew {w W : World} {a b c d : Int} {M : Nat} {x y : Int} (h : So0 w a b c d M x y W) : So0 w a b c d M x y W.drew := h.on (Go.RowKit.Below.refl _ _).drew
/-- And a count of its own. -/
structure SoN (w : World) (a b c d : Int) (M : Nat) (x y : Int) (N : Nat) (u v : Int) (W : World) : Prop where
  so : So0 w a b c d M x y W
  nb : W.heap[N]? = some (cO u v)
  gt : w.heap.size + 1 < N ∧ M < N
theorem SoN.on {w W W' : World} {a b c d : Int} {M N : Nat} {x y u v : Int} (h : SoN w a b c d M x y N u v W) (hb : Go.RowKit.Below W.heap.size W W') : SoN w a b c d M x y N u v W' := ⟨h.so.on hb, box_on h.nb hb, h.gt⟩
theorem SoN.be {w W : World} {a b c d : Int} {M N : Nat} {x y u v : Int} (h : SoN w a b c d M x y N u v W) : Go.RowKit.Below w.heap.size w W := h.so.be
theorem so_alloc {w W : World} {a b c d : Int} {M : Nat} {x y : Int} (h : So0 w a b c d M x y W) (u v : Int) : SoN w a b c d M x y W.heap.size u v (W.alloc (cO u v)) :=
  ⟨h.on (below_new _ _), heap_alloc_new _ _, lt_of_block h.rb, lt_of_block h.mb⟩
theorem SoN.put {w W : World} {a b c d : Int} {M N : Nat} {x y u v : Int} (h : SoN w a b c d M x y N u v W) (u' v' : Int) : SoN w a b c d M x y N u' v' ((W.setCell ⟨N, 0, none⟩ (.int .i64 u')).setCell ⟨N, 1, none⟩ (.int .i64 v')) := by
  obtain ⟨⟨h1, h2, h3, h4⟩, h5, h6, h7⟩ := h
  exact ⟨⟨set_far (set_far h1 (by omega)) (by omega), set_far (set_far h2 (by omega)) (by omega), set_far (set_far h3 (by omega)) (by omega), (h4.setCell (p := ⟨N, 0, none⟩) (by show w.heap.size ≤ N; omega) _).setCell (p := ⟨N, 1, none⟩) (by show w.heap.size ≤ N; omega) _⟩, heap_setCell_same _ _ _ _ _ _ (heap_setCell_same _ _ _ _ _ _ h5), h6, h7⟩
theorem SoN.cells {w W : World} {a b c d : Int} {M N : Nat} {x y u v : Int} (h : SoN w a b c d M x y N u v W) : W.cell? ⟨N, 0, none⟩ = some (.int .i64 u) ∧ W.cell? ⟨N, 1, none⟩ = some (.int .i64 v) ∧ W.frozen? ⟨N, 0, none⟩ = false ∧ W.frozen? ⟨N, 1, none⟩ = false :=
  ⟨(cell_of_row _ _ 0 _ _ _ h.nb).trans rfl, (cell_of_row _ _ 1 _ _ _ h.nb).trans rfl, frozen_of_row _ _ _ _ _ h.nb, frozen_of_row _ _ _ _ _ h.nb⟩
set_option maxHeartbeats 4000000 in
theorem rsound_core (T A g n : Nat) (root p ls la li ri a b c d ln gn lb s1 p1 : Int) (red : Bool) (w : World) (HT : Hid (w.heap[T]? = some (tO A root)))
    (HA : Hid (∀ W, Go.RowKit.Below w.heap.size w W → Calls Try.prog 64 #[aP A, .int .i64 (n : Int)] W fun e w' => e = .returned (.pointer (some ⟨g, n * 10, none⟩)) ∧ Go.RowKit.Below W.heap.size W w'))
    (HC : Hid (∀ W, Go.RowKit.Below w.heap.size w W → W.cell? ⟨g, n * 10 + 5, none⟩ = some (.int .i64 p) ∧ W.cell? ⟨g, n * 10 + 6, none⟩ = some (.int .i64 li) ∧ W.cell? ⟨g, n * 10 + 7, none⟩ = some (.int .i64 ri) ∧ W.cell? ⟨g, n * 10 + 8, none⟩ = some (.bool red)))
    (HKy : Hid (∀ W, Go.RowKit.Below w.heap.size w W → Calls Try.prog 73 #[.pointer (some ⟨g, n * 10, none⟩)] W fun e w' => e = .returned (.agg #[.int .i64 ls, .int .i64 la]) ∧ Go.RowKit.Below W.heap.size W w'))
    (HBt : Hid (∀ W, Calls Try.prog 78 #[.agg #[.int .i64 ls, .int .i64 la], .agg #[.int .i64 a, .int .i64 b, .int .i64 c, .int .i64 d]] W fun e w' => e = .returned (.bool true) ∧ Go.RowKit.Below W.heap.size W w'))
    (HMy : Hid (red = true → ∀ W, Go.RowKit.Below w.heap.size w W → Calls Try.prog 79 #[aP T, .pointer (some ⟨g, n * 10, none⟩)] W fun e w' => e = .returned (.bool true) ∧ Go.RowKit.Below W.heap.size W w'))
    (HNx : Hid (∀ W, Go.RowKit.Below w.heap.size w W → Calls Try.prog 80 #[.agg #[.int .i64 ls, .int .i64 la]] W fun e w' => e = .returned (.agg #[.int .i64 s1, .int .i64 p1]) ∧ Go.RowKit.Below W.heap.size W w'))
    (HL : Hid (∀ W, Go.RowKit.Below w.heap.size w W → Calls Try.prog 56 #[aP T, .int .i64 li, .int .i64 (n : Int), .agg #[.int .i64 a, .int .i64 b, .int .i64 ls, .int .i64 la]] W fun e w' => e = .returned (.tuple #[cnt ln lb, .bool true]) ∧ Go.RowKit.Below W.heap.size W w'))
    (HRt : Hid (∀ W, Go.RowKit.Below w.heap.size w W → Calls Try.prog 56 #[aP T, .int .i64 ri, .int .i64 (n : Int), .agg #[.int .i64 s1, .int .i64 p1, .int .i64 c, .int .i64 d]] W fun e w' => e = .returned (.tuple #[cnt gn lb, .bool true]) ∧ Go.RowKit.Below W.heap.size W w'))
    (b1 : 0 ≤ ln ∧ ln ≤ 1000000) (b2 : 0 ≤ gn ∧ gn ≤ 1000000) (b3 : 0 ≤ lb ∧ lb ≤ 1000000) :
    Calls Try.prog 56 #[aP T, .int .i64 (n : Int), .int .i64 p, .agg #[.int .i64 a, .int .i64 b, .int .i64 c, .int .i64 d]] w fun e w' => e = .returned (.tuple #[cnt (ln + 1 + gn) (if red then lb else lb + 1), .bool true]) ∧ Go.RowKit.Below w.heap.size w w' := by
  have mx := mixed
  have t0 : ((n : Int) == -1) = false := by simp
  have t1 : ¬ (n : Int) = -1 := by omega
  have q1 : IntKind.i64.wrap (ln + 1) = ln + 1 := IntWalk.i64_in _ (by omega)
  have q2 : IntKind.i64.wrap (ln + 1 + gn) = ln + 1 + gn := IntWalk.i64_in _ (by omega)
  have q3 : IntKind.i64.wrap (lb + 1) = lb + 1 := IntWalk.i64_in _ (by omega)
  have bs1 : ∀ W : World, (Instr.build 33 #[(0, .agg #[.int .i64 a, .int .i64 b]), (1, .agg #[.int .i64 ls, .int .i64 la])]).run Try.prog W = .ok (.agg #[.int .i64 a, .int .i64 b, .int .i64 ls, .int .i64 la]) W := fun W => run_build W _ _ _ (by kernel_rfl)
  have bs2 : ∀ W : World, (Instr.build 33 #[(0, .agg #[.int .i64 s1, .int .i64 p1]), (1, .agg #[.int .i64 c, .int .i64 d])]).run Try.prog W = .ok (.agg #[.int .i64 s1, .int .i64 p1, .int .i64 c, .int .i64 d]) W := fun W => run_build W _ _ _ (by kernel_rfl)
  have HR := Lib.hid (show ((w.alloc (sK a b c d)).alloc (cO 0 0)).heap[w.heap.size + 1]? = some (cO 0 0) from new_at' _ (by simp))
  have HS := Lib.hid (show ((w.alloc (sK a b c d)).alloc (cO 0 0)).heap[w.heap.size]? = some (sK a b c d) from box_on (heap_alloc_new w _) (below_new _ _))
  have HN := Lib.hid (bt (below_new w (sK a b c d)) (below_new _ (cO 0 0)))
  have c0 : ((w.alloc (sK a b c d)).alloc (cO 0 0)).cell? ⟨T, 0, none⟩ = some (aP A) := (HN.out.cell (p := ⟨T, 0, none⟩) (lt_of_block HT.out)).trans ((cell_of_row _ _ 0 _ _ _ HT.out).trans rfl)
  have HBS1 := Lib.hid bs1
  have HBS2 := Lib.hid bs2
  clear bs1 bs2 b1 b2 b3
  go_enter Try.func56, Try.ntmps56
  go_wp2_with fail
  refine (HA.out _ HN.out).mono ?_
  rintro e y1 ⟨rfl, hb⟩
  replace HR := Lib.hid (box_on HR.out hb)
  replace HS := Lib.hid (box_on HS.out hb)
  replace HN := Lib.hid (bt HN.out hb)
  clear hb c0
  obtain ⟨k5, k6, k7, k8⟩ := HC.out _ HN.out
  obtain ⟨e1, e2, e3, e4⟩ := four_of HS.out
  have u5 := cell_regrown k5
  have u8 := cell_regrown k8
  have v1 := cell_regrown e1
  have v2 := cell_regrown e2
  have v3 := cell_regrown e3
  have v4 := cell_regrown e4
  have HG : Hid (∀ (d : Nat) (os : Array Obj), Go.RowKit.Below w.heap.size w (grow (redrawn y1 d) os)) := fun d os => bt HN.out (below_regrown y1 d os)
  clear k5 k6 k7 k8 e1 e2 e3 e4
  cases red
  all_goals
    try have HMT := Lib.hid (HMy.out rfl)
    go_wp2_with fail
    refine wp_region_quiet_below (by assumption) (by kernel_rfl) ?_
    repeat (go_big_quiet_step (first
      | (go_at_call 73; with_reducible exact Calls.regrown_of (HKy.out _ (HG.out _ _)))
      | (go_at_call 78; with_reducible exact Calls.regrown_of (HBt.out _))
      | (go_at_call 79; with_reducible exact Calls.regrown_of (HMT.out _ (HG.out _ _)))))
    refine wpQuiet_nil ?_
    intro _ hw'
    obtain ⟨⟨nq, osq⟩, hw''⟩ := hw'
    subst hw''
    replace HR := Lib.hid (box_on HR.out (below_regrown y1 nq osq))
    replace HS := Lib.hid (box_on HS.out (below_regrown y1 nq osq))
    replace HN := Lib.hid (bt HN.out (below_regrown y1 nq osq))
    clear u5 u8 v1 v2 v3 v4 HG
    generalize grow (redrawn y1 nq) osq = Y at *
    have HA := Lib.hid (So0.mk HS.out HR.out HR.out HN.out)
    clear HS HR HN
    go_upto_region 6 with fail
    go_cut [11, 12] from 54 to 69 (fun s11 s12 wx => ∃ N, s11 = .pointer (some ⟨N, 0, none⟩) ∧ s12 = .bool true ∧ SoN w a b c d (w.heap.size + 1) 0 0 N ln lb wx)
    case first =>
      have HA0 := Lib.hid HA.out.drew
      have HAD := Lib.hid ((so_alloc HA.out 0 0).on (Go.RowKit.Below.refl _ _).drew)
      have bs1 := HBS1.out
      have HCL : Hid (∀ W, So0 w a b c d (w.heap.size + 1) 0 0 W → W.cell? ⟨g, n * 10 + 6, none⟩ = some (.int .i64 li) ∧ W.cell? ⟨w.heap.size, 0, none⟩ = some (.int .i64 a) ∧ W.cell? ⟨w.heap.size, 1, none⟩ = some (.int .i64 b)) := fun W hW => ⟨(HC.out _ hW.be).2.1, (four_of hW.kb).1, (four_of hW.kb).2.1⟩
      go_region_held3 (fun w' => w'.cell? ⟨g, n * 10 + 6, none⟩ = some (.int .i64 li) ∧ w'.cell? ⟨w.heap.size, 0, none⟩ = some (.int .i64 a) ∧ w'.cell? ⟨w.heap.size, 1, none⟩ = some (.int .i64 b))
        (with_reducible first | exact HCL.out _ HAN.out.so | exact HCL.out _ HA0.out | exact HCL.out _ HAD.out.so | exact HCL.out _ (so_alloc HA0.out 0 0).so | exact HCL.out _ (SoN.put HAN.out _ _).so | exact HCL.out _ (so_alloc HA0.out _ _).so)
        (first
      | (go_at_call 73; with_reducible first
          | (refine (HKy.out _ HAN.out.be).mono ?_; rintro e y2 ⟨rfl, hb⟩; replace HAN := Lib.hid (SoN.on HAN.out hb); clear hb)
          | (refine (HKy.out _ HA0.out.be).mono ?_; rintro e y2 ⟨rfl, hb⟩; replace HA0 := Lib.hid (So0.on HA0.out hb); clear hb)
          | (refine (HKy.out _ (so_alloc HA0.out 0 0).be).mono ?_; rintro e y2 ⟨rfl, hb⟩; have HAN := Lib.hid (SoN.on (so_alloc HA0.out 0 0) hb); clear hb)
          | (refine (HKy.out _ HAD.out.be).mono ?_; rintro e y2 ⟨rfl, hb⟩; have HAN := Lib.hid (SoN.on HAD.out hb); clear hb))
      | (go_at_call 56; with_reducible first
          | (refine (HL.out _ HAN.out.be).mono ?_; rintro e y3 ⟨rfl, hb⟩; replace HAN := Lib.hid (SoN.on HAN.out hb); clear hb; obtain ⟨z1, z2, z3, z4⟩ := HAN.out.cells)
          | (refine (HL.out _ HA0.out.be).mono ?_; rintro e y3 ⟨rfl, hb⟩; replace HA0 := Lib.hid (So0.on HA0.out hb); clear hb)
          | (refine (HL.out _ (so_alloc HA0.out 0 0).be).mono ?_; rintro e y3 ⟨rfl, hb⟩; have HAN := Lib.hid (SoN.on (so_alloc HA0.out 0 0) hb); clear hb; obtain ⟨z1, z2, z3, z4⟩ := HAN.out.cells)
          | (refine (HL.out _ HAD.out.be).mono ?_; rintro e y3 ⟨rfl, hb⟩; have HAN := Lib.hid (SoN.on HAD.out hb); clear hb; obtain ⟨z1, z2, z3, z4⟩ := HAN.out.cells)))
      all_goals
        go_wp2_with fail
        go_meet
        first
          | exact ⟨_, rfl, rfl, SoN.put HAN.out _ _⟩
          | exact ⟨_, rfl, rfl, so_alloc HA0.out _ _⟩
    case rest =>
      obtain ⟨N, rfl, rfl, hN⟩ := hcut
      have HL1 := Lib.hid hN
      have HA := Lib.hid (So0.mk hN.so.kb hN.so.rb hN.nb hN.so.be)
      clear hN HBS1 HL
      go_wp2_with fail
      go_cut [13, 12] from 73 to 89 (fun s13 s12 wx => ∃ G, s13 = .pointer (some ⟨G, 0, none⟩) ∧ s12 = .bool true ∧ SoN w a b c d N ln lb G gn lb wx)
      case first =>
        have HA0 := Lib.hid HA.out.drew
        have HAD := Lib.hid ((so_alloc HA.out 0 0).on (Go.RowKit.Below.refl _ _).drew)
        have bs2 := HBS2.out
        have HCL : Hid (∀ W, So0 w a b c d N ln lb W → W.cell? ⟨g, n * 10 + 7, none⟩ = some (.int .i64 ri) ∧ W.cell? ⟨w.heap.size, 2, none⟩ = some (.int .i64 c) ∧ W.cell? ⟨w.heap.size, 3, none⟩ = some (.int .i64 d)) := fun W hW => ⟨(HC.out _ hW.be).2.2.1, (four_of hW.kb).2.2.1, (four_of hW.kb).2.2.2⟩
        go_region_held3 (fun w' => w'.cell? ⟨g, n * 10 + 7, none⟩ = some (.int .i64 ri) ∧ w'.cell? ⟨w.heap.size, 2, none⟩ = some (.int .i64 c) ∧ w'.cell? ⟨w.heap.size, 3, none⟩ = some (.int .i64 d))
          (with_reducible first | exact HCL.out _ HAN.out.so | exact HCL.out _ HA0.out | exact HCL.out _ HAD.out.so | exact HCL.out _ (so_alloc HA0.out 0 0).so | exact HCL.out _ (SoN.put HAN.out _ _).so | exact HCL.out _ (so_alloc HA0.out _ _).so)
          (first
        | (go_at_call 73; with_reducible first
            | (refine (HKy.out _ HAN.out.be).mono ?_; rintro e y2 ⟨rfl, hb⟩; replace HAN := Lib.hid (SoN.on HAN.out hb); clear hb)
            | (refine (HKy.out _ HA0.out.be).mono ?_; rintro e y2 ⟨rfl, hb⟩; replace HA0 := Lib.hid (So0.on HA0.out hb); clear hb)
            | (refine (HKy.out _ (so_alloc HA0.out 0 0).be).mono ?_; rintro e y2 ⟨rfl, hb⟩; have HAN := Lib.hid (SoN.on (so_alloc HA0.out 0 0) hb); clear hb)
            | (refine (HKy.out _ HAD.out.be).mono ?_; rintro e y2 ⟨rfl, hb⟩; have HAN := Lib.hid (SoN.on HAD.out hb); clear hb))
        | (go_at_call 80; with_reducible first
            | (refine (HNx.out _ HAN.out.be).mono ?_; rintro e y4 ⟨rfl, hb⟩; replace HAN := Lib.hid (SoN.on HAN.out hb); clear hb)
            | (refine (HNx.out _ HA0.out.be).mono ?_; rintro e y4 ⟨rfl, hb⟩; replace HA0 := Lib.hid (So0.on HA0.out hb); clear hb)
            | (refine (HNx.out _ (so_alloc HA0.out 0 0).be).mono ?_; rintro e y4 ⟨rfl, hb⟩; have HAN := Lib.hid (SoN.on (so_alloc HA0.out 0 0) hb); clear hb)
            | (refine (HNx.out _ HAD.out.be).mono ?_; rintro e y4 ⟨rfl, hb⟩; have HAN := Lib.hid (SoN.on HAD.out hb); clear hb))
        | (go_at_call 56; with_reducible first
            | (refine (HRt.out _ HAN.out.be).mono ?_; rintro e y3 ⟨rfl, hb⟩; replace HAN := Lib.hid (SoN.on HAN.out hb); clear hb; obtain ⟨z1, z2, z3, z4⟩ := HAN.out.cells)
            | (refine (HRt.out _ HA0.out.be).mono ?_; rintro e y3 ⟨rfl, hb⟩; replace HA0 := Lib.hid (So0.on HA0.out hb); clear hb)
            | (refine (HRt.out _ (so_alloc HA0.out 0 0).be).mono ?_; rintro e y3 ⟨rfl, hb⟩; have HAN := Lib.hid (SoN.on (so_alloc HA0.out 0 0) hb); clear hb; obtain ⟨z1, z2, z3, z4⟩ := HAN.out.cells)
            | (refine (HRt.out _ HAD.out.be).mono ?_; rintro e y3 ⟨rfl, hb⟩; have HAN := Lib.hid (SoN.on HAD.out hb); clear hb; obtain ⟨z1, z2, z3, z4⟩ := HAN.out.cells)))
        all_goals
          go_wp2_with fail
          go_meet
          first
            | exact ⟨_, rfl, rfl, SoN.put HAN.out _ _⟩
            | exact ⟨_, rfl, rfl, so_alloc HA0.out _ _⟩
      case rest =>
        obtain ⟨G, rfl, rfl, hG⟩ := hcut
        have HG1 := Lib.hid hG
        clear HA HL1
        obtain ⟨z1, z2, _, _⟩ := hG.cells
        have x1 : wc.cell? ⟨N, 0, none⟩ = some (.int .i64 ln) := (cell_of_row _ _ 0 _ _ _ hG.so.mb).trans rfl
        have x2 : wc.cell? ⟨N, 1, none⟩ = some (.int .i64 lb) := (cell_of_row _ _ 1 _ _ _ hG.so.mb).trans rfl
        have bs3 : ∀ W : World, (Instr.build 85 #[(0, .int .i64 (ln + 1 + gn)), (1, .int .i64 lb)]).run Try.prog W = .ok (.agg #[.int .i64 (ln + 1 + gn), .int .i64 lb]) W := fun W => run_build W _ _ _ (by kernel_rfl)
        clear hG
        go_upto_region 13 with fail
        have hA := heap_alloc_new wc (cO (ln + 1 + gn) lb)
        have hRR := box_on HG1.out.so.rb (below_new wc (cO (ln + 1 + gn) lb))
        have hBB := bt HG1.out.be (below_new wc (cO (ln + 1 + gn) lb))
        have hAR : w.heap.size + 1 ≠ wc.heap.size := Nat.ne_of_lt (lt_of_block HG1.out.so.rb)
        have hAw : w.heap.size ≤ wc.heap.size := HG1.out.be.size
        have k8 := (HC.out _ hBB).2.2.2
        generalize wc.alloc (cO (ln + 1 + gn) lb) = Z at *
        generalize wc.heap.size = A2 at *
        have a0 : Z.cell? ⟨A2, 0, none⟩ = some (.int .i64 (ln + 1 + gn)) := (cell_of_row _ _ 0 _ _ _ hA).trans rfl
        have a1 : Z.cell? ⟨A2, 1, none⟩ = some (.int .i64 lb) := (cell_of_row _ _ 1 _ _ _ hA).trans rfl
        have az : Z.frozen? ⟨A2, 1, none⟩ = false := frozen_of_row _ _ _ _ _ hA
        have hA1 := heap_setCell_same Z A2 1 _ _ (.int .i64 (lb + 1)) hA
        have hR1 := set_far (i := 1) (v := .int .i64 (lb + 1)) hRR hAR
        have hB1 := hBB.setCell (p := ⟨A2, 1, none⟩) hAw (.int .i64 (lb + 1))
        have HX0 := Lib.hid (And.intro hA (And.intro hRR hBB))
        have HX1 := Lib.hid (And.intro hA1 (And.intro hR1 hB1))
        clear hA hRR hBB hA1 hR1 hB1 bs3 z1 z2 x1 x2 HG1
        go_upto_region 15 with fail
        clear a0 a1 az k8
        first
          | (have hq := HMT
             clear hq HX1
             obtain ⟨hA, hRR, hBB⟩ := HX0.out
             have f0 : Z.cell? ⟨A2, 0, none⟩ = some (.int .i64 (ln + 1 + gn)) := (cell_of_row _ _ 0 _ _ _ hA).trans rfl
             have f1 : Z.cell? ⟨A2, 1, none⟩ = some (.int .i64 lb) := (cell_of_row _ _ 1 _ _ _ hA).trans rfl
             have r0 : Z.cell? ⟨w.heap.size + 1, 0, none⟩ = some (.int .i64 0) := (cell_of_row _ _ 0 _ _ _ hRR).trans rfl
             have r1 : Z.cell? ⟨w.heap.size + 1, 1, none⟩ = some (.int .i64 0) := (cell_of_row _ _ 1 _ _ _ hRR).trans rfl
             have r2 : Z.frozen? ⟨w.heap.size + 1, 0, none⟩ = false := frozen_of_row _ _ _ _ _ hRR
             have r3 : Z.frozen? ⟨w.heap.size + 1, 1, none⟩ = false := frozen_of_row _ _ _ _ _ hRR
             have hF := heap_setCell_same _ (w.heap.size + 1) 1 _ _ (.int .i64 lb) (heap_setCell_same _ (w.heap.size + 1) 0 _ _ (.int .i64 (ln + 1 + gn)) hRR)
             have g0 : ((Z.setCell ⟨w.heap.size + 1, 0, none⟩ (.int .i64 (ln + 1 + gn))).setCell ⟨w.heap.size + 1, 1, none⟩ (.int .i64 lb)).cell? ⟨w.heap.size + 1, 0, none⟩ = some (.int .i64 (ln + 1 + gn)) := (cell_of_row _ _ 0 _ _ _ hF).trans rfl
             have g1 : ((Z.setCell ⟨w.heap.size + 1, 0, none⟩ (.int .i64 (ln + 1 + gn))).setCell ⟨w.heap.size + 1, 1, none⟩ (.int .i64 lb)).cell? ⟨w.heap.size + 1, 1, none⟩ = some (.int .i64 lb) := (cell_of_row _ _ 1 _ _ _ hF).trans rfl
             have HE := Lib.hid ((hBB.setCell (p := ⟨w.heap.size + 1, 0, none⟩) (by show w.heap.size ≤ w.heap.size + 1; omega) (.int .i64 (ln + 1 + gn))).setCell (p := ⟨w.heap.size + 1, 1, none⟩) (by show w.heap.size ≤ w.heap.size + 1; omega) (.int .i64 lb))
             clear hA hRR hBB hF
             go_wp2_with fail
             refine bodyPost_ret (v := .tuple #[cnt (ln + 1 + gn) (lb), .bool true]) (by simp [results, Try.results56, go_sem, g0, g1]) rfl ?_
             exact ⟨rfl, HE.out⟩)
          | (clear HX0
             generalize Z.setCell ⟨A2, 1, none⟩ (.int .i64 (lb + 1)) = V at *
             obtain ⟨hA, hRR, hBB⟩ := HX1.out
             have f0 : V.cell? ⟨A2, 0, none⟩ = some (.int .i64 (ln + 1 + gn)) := (cell_of_row _ _ 0 _ _ _ hA).trans rfl
             have f1 : V.cell? ⟨A2, 1, none⟩ = some (.int .i64 (lb + 1)) := (cell_of_row _ _ 1 _ _ _ hA).trans rfl
             have r0 : V.cell? ⟨w.heap.size + 1, 0, none⟩ = some (.int .i64 0) := (cell_of_row _ _ 0 _ _ _ hRR).trans rfl
             have r1 : V.cell? ⟨w.heap.size + 1, 1, none⟩ = some (.int .i64 0) := (cell_of_row _ _ 1 _ _ _ hRR).trans rfl
             have r2 : V.frozen? ⟨w.heap.size + 1, 0, none⟩ = false := frozen_of_row _ _ _ _ _ hRR
             have r3 : V.frozen? ⟨w.heap.size + 1, 1, none⟩ = false := frozen_of_row _ _ _ _ _ hRR
             have hF := heap_setCell_same _ (w.heap.size + 1) 1 _ _ (.int .i64 (lb + 1)) (heap_setCell_same _ (w.heap.size + 1) 0 _ _ (.int .i64 (ln + 1 + gn)) hRR)
             have g0 : ((V.setCell ⟨w.heap.size + 1, 0, none⟩ (.int .i64 (ln + 1 + gn))).setCell ⟨w.heap.size + 1, 1, none⟩ (.int .i64 (lb + 1))).cell? ⟨w.heap.size + 1, 0, none⟩ = some (.int .i64 (ln + 1 + gn)) := (cell_of_row _ _ 0 _ _ _ hF).trans rfl
             have g1 : ((V.setCell ⟨w.heap.size + 1, 0, none⟩ (.int .i64 (ln + 1 + gn))).setCell ⟨w.heap.size + 1, 1, none⟩ (.int .i64 (lb + 1))).cell? ⟨w.heap.size + 1, 1, none⟩ = some (.int .i64 (lb + 1)) := (cell_of_row _ _ 1 _ _ _ hF).trans rfl
             have HE := Lib.hid ((hBB.setCell (p := ⟨w.heap.size + 1, 0, none⟩) (by show w.heap.size ≤ w.heap.size + 1; omega) (.int .i64 (ln + 1 + gn))).setCell (p := ⟨w.heap.size + 1, 1, none⟩) (by show w.heap.size ≤ w.heap.size + 1; omega) (.int .i64 (lb + 1)))
             clear hA hRR hBB hF
             go_wp2_with fail
             refine bodyPost_ret (v := .tuple #[cnt (ln + 1 + gn) ((lb + 1)), .bool true]) (by simp [results, Try.results56, go_sem, g0, g1]) rfl ?_
             exact ⟨rfl, HE.out⟩)
end Go.Proofs.Ytakkmnhiaddnnaa

/- Check. -/
namespace Go.Proofs.Ytakkmnhiaddnnaa
open Go.RowKit Go.Sort Go.Proofs.Ytakkmnhiaddnnaa.Bo
set_option linter.unusedVariables false
set_option maxRecDepth 100000

theorem rred_below {w : World} {base T A : Nat} {t : Rt} {S1 : Nat → Prop} (h : RtIs w base T A t S1) (hok : t.ar.ok) (i : Int) : Calls Try.prog 91 #[aP T, .int .i64 i] w fun e w' => e = .returned (.bool (t.red i)) ∧ Go.RowKit.Below w.heap.size w w' := by
  have same : ∀ {b : Bool}, (Calls Try.prog 91 #[aP T, .int .i64 i] w fun e w' => e = .returned (.bool b) ∧ w = w') → Calls Try.prog 91 #[aP T, .int .i64 i] w fun e w' => e = .returned (.bool b) ∧ Go.RowKit.Below w.heap.size w w' := fun hc => hc.mono fun e w' ⟨he, hw⟩ => ⟨he, hw ▸ Go.RowKit.Below.refl _ _⟩
  cases hi : t.ar.is i with
  | true =>
    obtain ⟨n, rfl⟩ := is_nat i hi
    obtain ⟨g, k1, k2, k3, _⟩ := h.cellset hok n hi
    unfold Rt.red
    rw [hi, Bool.true_and]
    exact same (rred_core T A g n _ _ w k1 (k2 _ (Go.RowKit.Below.refl _ _)) (k3 8 _ rfl))
  | false =>
    obtain ⟨k1, k2⟩ := h.nil hok i hi
    unfold Rt.red
    rw [hi, Bool.false_and]
    exact same (rred_no_core T A i _ w k1 (k2 _ (Go.RowKit.Below.refl _ _)))
set_option maxHeartbeats 1000000 in
theorem rsound_sub {w : World} {base T A : Nat} {t : Rt} {S1 : Nat → Prop} (h : RtIs w base T A t S1) (hok : t.ar.ok) (y : Tr) : ∀ (p : Int) (n : Nat) (a b c d : Int), RepT t.look y p → RB y n → (y.isRed = true → p ≠ -1 ∧ t.red p = false) → I64 b → I64 d → Ris y.ino → (∀ g ∈ y.ino, g.ok ∧ g.is g.key = true ∧ key a b ≤ g.key ∧ g.key < key c d) → y.ids.length ≤ 100000 → n ≤ 100000 →
    ∀ W, Go.RowKit.Below w.heap.size w W → Calls Try.prog 56 #[aP T, .int .i64 y.idx, .int .i64 p, .agg #[.int .i64 a, .int .i64 b, .int .i64 c, .int .i64 d]] W fun e w' => e = .returned (.tuple #[cnt (y.ids.length : Int) (n : Int), .bool true]) ∧ Go.RowKit.Below W.heap.size W w' := by
  induction y with
  | nil =>
    intro p n a b c d _ hb _ _ _ _ _ _ _ W _
    have : n = 0 := hb
    subst this
    exact rsound_nil T p a b c d W
  | node cl l i g r ih1 ih2 =>
    intro p n a b c d hr hb hred hb64 hd64 hris hall hlen hn W hW
    obtain ⟨is, hlk⟩ := t.ar.look_some _ _ hr.1
    obtain ⟨gb, k1, k2, k3, _, _⟩ := h.cellset hok i is
    rw [Int.toNat_natCast] at hlk
    rw [hlk] at k3
    simp only [Tr.ids, List.length_append, List.length_cons] at hlen ⊢
    have hti : t.red (i : Int) = cl := t.red_of _ _ hr.1
    have hg := hall g (by simp [Tr.ino])
    obtain ⟨hgok, hgis, hlo, hhi⟩ := hg
    have hris' : Ris l.ino ∧ Ris r.ino ∧ (∀ x ∈ l.ino, x.key < g.key) ∧ (∀ x ∈ r.ino, g.key < x.key) := by
      simp only [Tr.ino, Ris, List.pairwise_append, List.pairwise_cons] at hris
      exact ⟨hris.1, hris.2.1.2, fun x hx => hris.2.2 x hx g (by simp), fun x hx => hris.2.1.1 x hx⟩
    obtain ⟨r1, r2, r3, r4⟩ := hris'
    have hkcd := key_ky c d hd64
    have hlt : g.key < 9223372036854775808 := by unfold Ky at hkcd; omega
    have hkg := g.ky hgok
    have hk1 : Ky (g.key + 1) := by unfold Ky at hkg ⊢; omega
    have hback := key_back (g.key + 1) hk1
    -- the heights in black ones
    have hsub : ∃ m : Nat, m ≤ 100000 ∧ RB l m ∧ RB r m ∧ (l.isRed = true → (i : Int) ≠ -1 ∧ t.red (i : Int) = false) ∧ (r.isRed = true → (i : Int) ≠ -1 ∧ t.red (i : Int) = false) ∧ ((n : Int) = if cl then (m : Int) else (m : Int) + 1) := by
      cases cl with
      | true =>
        obtain ⟨q1, q2, q3, q4⟩ := hb
        exact ⟨n, hn, q1, q2, fun e => absurd (q3.symm.trans e) (by simp), fun e => absurd (q4.symm.trans e) (by simp), rfl⟩
      | false =>
        obtain ⟨m, rfl, q1, q2⟩ := hb
        exact ⟨m, by omega, q1, q2, fun _ => ⟨by omega, hti⟩, fun _ => ⟨by omega, hti⟩, by simp⟩
    obtain ⟨m, hm, b1, b2, b3, b4, b5⟩ := hsub
    have hcell : ∀ W', Go.RowKit.Below W.heap.size W W' → ∀ j u, (rnE.e ⟨g, p, l.idx, r.idx, cl⟩)[j]? = some u → W'.cell? ⟨gb, i * 10 + j, none⟩ = some u := fun W' hW' j u hu => ((bt hW hW').cell (World.block_lt_of_cell? w _ (k3 j u hu))).trans (k3 j u hu)
    have main := rsound_core T A gb i t.root p g.ls g.la l.idx r.idx a b c d (l.ids.length : Int) (r.ids.length : Int) (m : Int) (sd (g.key + 1)) (pa (g.key + 1)) cl W (box_on k1 hW)
      (Lib.hid fun W' hW' => (k2 W' (bt hW hW')).mono fun e w' ⟨he, hw⟩ => ⟨he, hw ▸ Go.RowKit.Below.refl _ _⟩)
      (Lib.hid fun W' hW' => ⟨hcell W' hW' 5 _ rfl, hcell W' hW' 6 _ rfl, hcell W' hW' 7 _ rfl, hcell W' hW' 8 _ rfl⟩)
      (Lib.hid fun W' hW' => rnkey_core gb i g.ls g.la W' (hcell W' hW' 0 _ rfl) (hcell W' hW' 1 _ rfl))
      (Lib.hid fun W' => rbetween_any g.ls g.la a b c d W' hgok.1 hb64 hd64 hgis hlo hhi)
      (Lib.hid fun e W' hW' => rmay_core T A gb i t.root p W' (by simpa using (hred e).1) (hcell W' hW' 5 _ rfl) (Lib.hid fun W2 hW2 => by have := rred_below (h.below (bt (bt hW hW') hW2)) hok p; rw [(hred e).2] at this; exact this))
      (Lib.hid fun W' _ => rnext_any g.ls g.la W' hgok.1 hlt)
      (Lib.hid fun W' hW' => ih1 (i : Int) m a b g.ls g.la hr.2.1 b1 b3 hb64 hgok.1 r1 (fun x hx => ⟨(hall x (by simp [Tr.ino, hx])).1, (hall x (by simp [Tr.ino, hx])).2.1, (hall x (by simp [Tr.ino, hx])).2.2.1, r3 x hx⟩) (by omega) hm W' (bt hW hW'))
      (Lib.hid fun W' hW' => ih2 (i : Int) m (sd (g.key + 1)) (pa (g.key + 1)) c d hr.2.2 b2 b4 (pa_i64 _ hk1) hd64 r2 (fun x hx => ⟨(hall x (by simp [Tr.ino, hx])).1, (hall x (by simp [Tr.ino, hx])).2.1, by rw [hback]; have := r4 x hx; omega, (hall x (by simp [Tr.ino, hx])).2.2.2⟩) (by omega) hm W' (bt hW hW'))
      ⟨by omega, by omega⟩ ⟨by omega, by omega⟩ ⟨by omega, by omega⟩
    rw [b5]
    have e1 : ((l.ids.length + (r.ids.length + 1) : Nat) : Int) = (l.ids.length : Int) + 1 + (r.ids.length : Int) := by omega
    rw [e1]
    exact main
end Go.Proofs.Ytakkmnhiaddnnaa

/- Check, the walk. -/
namespace Go.Proofs.Ytakkmnhiaddnnaa
open Go.RowKit Go.Sort Go.Proofs.Ytakkmnhiaddnnaa.Bo
set_option linter.unusedVariables false
set_option maxRecDepth 100000

/-- The count that Check holds. -/
structure CkN (w : World) (N : Nat) (u v : Int) (W : World) : Prop where
  nb : W.heap[N]? = some (cO u v)
  ge : w.heap.size ≤ N
  be : Go.RowKit.Below w.heap.size w W
theorem CkN.on {w W W' : World} {N : Nat} {u v : Int} (h : CkN w N u v W) (hb : Go.RowKit.Below W.heap.size W W') : CkN w N u v W' := ⟨box_on h.nb hb, h.ge, bt h.be hb⟩
theorem ck_alloc {w W : World} (h : Go.RowKit.Below w.heap.size w W) (u v : Int) : CkN w W.heap.size u v (W.alloc (cO u v)) := ⟨heap_alloc_new _ _, h.size, bt h (below_new _ _)⟩
theorem CkN.put {w W : World} {N : Nat} {u v : Int} (h : CkN w N u v W) (u' v' : Int) : CkN w N u' v' ((W.setCell ⟨N, 0, none⟩ (.int .i64 u')).setCell ⟨N, 1, none⟩ (.int .i64 v')) :=
  ⟨heap_setCell_same _ _ _ _ _ _ (heap_setCell_same _ _ _ _ _ _ h.nb), h.ge, (h.be.setCell (p := ⟨N, 0, none⟩) h.ge _).setCell (p := ⟨N, 1, none⟩) h.ge _⟩
theorem CkN.cells {w W : World} {N : Nat} {u v : Int} (h : CkN w N u v W) : W.cell? ⟨N, 0, none⟩ = some (.int .i64 u) ∧ W.cell? ⟨N, 1, none⟩ = some (.int .i64 v) ∧ W.frozen? ⟨N, 0, none⟩ = false ∧ W.frozen? ⟨N, 1, none⟩ = false :=
  ⟨(cell_of_row _ _ 0 _ _ _ h.nb).trans rfl, (cell_of_row _ _ 1 _ _ _ h.nb).trans rfl, frozen_of_row _ _ _ _ _ h.nb, frozen_of_row _ _ _ _ _ h.nb⟩
set_option maxHeartbeats 4000000 in
theorem rcheck_core (T A : Nat) (root k n : Int) (w : World) (HT : Hid (w.heap[T]? = some (tO A root)))
    (HF : Hid (∀ W, Go.RowKit.Below w.heap.size w W → Calls Try.prog 54 #[] W fun e w' => e = .returned (.agg #[.int .i64 (-1), .int .i64 0]) ∧ Go.RowKit.Below W.heap.size W w')) (HLa : Hid (∀ W, Go.RowKit.Below w.heap.size w W → Calls Try.prog 55 #[] W fun e w' => e = .returned (.agg #[.int .i64 1, .int .i64 0]) ∧ Go.RowKit.Below W.heap.size W w'))
    (HS : Hid (∀ W, Go.RowKit.Below w.heap.size w W → Calls Try.prog 56 #[aP T, .int .i64 root, .int .i64 (-1), .agg #[.int .i64 (-1), .int .i64 0, .int .i64 1, .int .i64 0]] W fun e w' => e = .returned (.tuple #[cnt k n, .bool true]) ∧ Go.RowKit.Below W.heap.size W w'))
    (HLn : Hid (∀ W, Go.RowKit.Below w.heap.size w W → Calls Try.prog 17 #[aP T] W fun e w' => e = .returned (.int .i64 k) ∧ Go.RowKit.Below W.heap.size W w')) :
    Calls Try.prog 28 #[aP T] w fun e w' => e = .returned (.bool true) ∧ Go.RowKit.Below w.heap.size w w' := by
  have mx := mixed
  have HBS : Hid (∀ W : World, (Instr.build 33 #[(0, .agg #[.int .i64 (-1), .int .i64 0]), (1, .agg #[.int .i64 1, .int .i64 0])]).run Try.prog W = .ok (.agg #[.int .i64 (-1), .int .i64 0, .int .i64 1, .int .i64 0]) W) := fun W => run_build W _ _ _ (by kernel_rfl)
  have HCL : Hid (∀ W, Go.RowKit.Below w.heap.size w W → W.cell? ⟨T, 1, none⟩ = some (.int .i64 root)) := fun W hW => (cell_of_row _ _ 1 _ _ _ (box_on HT.out hW)).trans rfl
  go_enter Try.func28, Try.ntmps28
  go_upto_region 1 with fail
  go_cut [3, 4] from 5 to 16 (fun s3 s4 wx => ∃ N, s3 = .pointer (some ⟨N, 0, none⟩) ∧ s4 = .bool true ∧ CkN w N k n wx)
  case first =>
    have HA0 : Hid (Go.RowKit.Below w.heap.size w w.drew) := (Go.RowKit.Below.refl _ _).drew
    have HAD := Lib.hid ((ck_alloc (Go.RowKit.Below.refl w.heap.size w) 0 0).on (Go.RowKit.Below.refl _ _).drew)
    have bs := HBS.out
    go_region_held3 (fun w' => w'.cell? ⟨T, 1, none⟩ = some (.int .i64 root))
      (with_reducible first | exact HCL.out _ HAN.out.be | exact HCL.out _ HA0.out | exact HCL.out _ HAD.out.be | exact HCL.out _ (ck_alloc HA0.out 0 0).be | exact HCL.out _ (CkN.put HAN.out _ _).be | exact HCL.out _ (ck_alloc HA0.out _ _).be)
      (first
      | (go_at_call 54; with_reducible first
          | (refine (HF.out _ HAN.out.be).mono ?_; rintro e y1 ⟨rfl, hb⟩; replace HAN := Lib.hid (CkN.on HAN.out hb); clear hb)
          | (refine (HF.out _ HA0.out).mono ?_; rintro e y1 ⟨rfl, hb⟩; replace HA0 := Lib.hid (bt HA0.out hb); clear hb)
          | (refine (HF.out _ (ck_alloc HA0.out 0 0).be).mono ?_; rintro e y1 ⟨rfl, hb⟩; have HAN := Lib.hid (CkN.on (ck_alloc HA0.out 0 0) hb); clear hb)
          | (refine (HF.out _ HAD.out.be).mono ?_; rintro e y1 ⟨rfl, hb⟩; have HAN := Lib.hid (CkN.on HAD.out hb); clear hb))
      | (go_at_call 55; with_reducible first
          | (refine (HLa.out _ HAN.out.be).mono ?_; rintro e y2 ⟨rfl, hb⟩; replace HAN := Lib.hid (CkN.on HAN.out hb); clear hb)
          | (refine (HLa.out _ HA0.out).mono ?_; rintro e y2 ⟨rfl, hb⟩; replace HA0 := Lib.hid (bt HA0.out hb); clear hb)
          | (refine (HLa.out _ (ck_alloc HA0.out 0 0).be).mono ?_; rintro e y2 ⟨rfl, hb⟩; have HAN := Lib.hid (CkN.on (ck_alloc HA0.out 0 0) hb); clear hb)
          | (refine (HLa.out _ HAD.out.be).mono ?_; rintro e y2 ⟨rfl, hb⟩; have HAN := Lib.hid (CkN.on HAD.out hb); clear hb))
      | (go_at_call 56; with_reducible first
          | (refine (HS.out _ HAN.out.be).mono ?_; rintro e y3 ⟨rfl, hb⟩; replace HAN := Lib.hid (CkN.on HAN.out hb); clear hb; obtain ⟨z1, z2, z3, z4⟩ := HAN.out.cells)
          | (refine (HS.out _ HA0.out).mono ?_; rintro e y3 ⟨rfl, hb⟩; replace HA0 := Lib.hid (bt HA0.out hb); clear hb)
          | (refine (HS.out _ (ck_alloc HA0.out 0 0).be).mono ?_; rintro e y3 ⟨rfl, hb⟩; have HAN := Lib.hid (CkN.on (ck_alloc HA0.out 0 0) hb); clear hb; obtain ⟨z1, z2, z3, z4⟩ := HAN.out.cells)
          | (refine (HS.out _ HAD.out.be).mono ?_; rintro e y3 ⟨rfl, hb⟩; have HAN := Lib.hid (CkN.on HAD.out hb); clear hb; obtain ⟨z1, z2, z3, z4⟩ := HAN.out.cells)))
    all_goals
      go_wp2_with fail
      go_meet
      first
        | exact ⟨_, rfl, rfl, CkN.put HAN.out _ _⟩
        | exact ⟨_, rfl, rfl, ck_alloc HA0.out _ _⟩
  case rest =>
    obtain ⟨N, rfl, rfl, hN⟩ := hcut
    have HN1 := Lib.hid hN
    obtain ⟨z1, z2, _, _⟩ := hN.cells
    have p1 := cell_regrown z1
    clear hN HBS
    have HG : Hid (∀ (d : Nat) (os : Array Obj), Go.RowKit.Below w.heap.size w (grow (redrawn wc d) os)) := fun d os => bt HN1.out.be (below_regrown wc d os)
    go_wp2_with fail
    refine wp_region_quiet_below (by assumption) (by kernel_rfl) ?_
    repeat (go_big_quiet_step (first
      | (go_at_call 17; with_reducible exact Calls.regrown_of (HLn.out _ (HG.out _ _)))))
    refine wpQuiet_nil ?_
    intro _ hw'
    obtain ⟨⟨nq, osq⟩, hw''⟩ := hw'
    subst hw''
    have HY := Lib.hid (HG.out nq osq)
    clear p1 z1 z2
    generalize grow (redrawn wc nq) osq = Y at *
    go_wp2_with fail
    go_ret
    exact ⟨rfl, HY.out⟩
theorem lt_last (g : G5) (h : g.may = true) (hk : Ky g.key) : g.key < 9223372036854775808 := by
  unfold G5.may at h
  simp at h
  have h2 := h.2
  unfold G5.key key
  unfold Ky at hk
  unfold G5.key key at hk
  have h1 := h.1
  split
  · omega
  · split
    · omega
    · rename_i a b
      have hz : g.ls = 0 := by omega
      unfold G5.is G5.key at h1
      rw [hz, key_zero] at h1
      simp at h1
      have := h1.1
      by_cases e : g.la = 9223372036854775808
      · rw [e, sd_hi] at this; omega
      · rw [hz] at hk
        simp at hk
        omega
theorem rCheck_any {w : World} {base T A : Nat} {t : Rt} {x : Tr} {S : Nat → Prop} (h : TrR w base T A t x S) : Calls Try.prog 28 #[aP T] w fun e w' => e = .returned (.bool true) ∧ Go.RowKit.Below w.heap.size w w' := by
  have hlen := h.len
  obtain ⟨⟨n, hn⟩, hred⟩ := h.rbt
  have hnle : n ≤ x.ids.length := by
    have : ∀ (y : Tr) (n : Nat), RB y n → n ≤ y.ids.length := by
      intro y
      induction y with
      | nil => intro n hn; have : n = 0 := hn; omega
      | node c l i g r ih1 ih2 =>
        intro n hn
        simp only [Tr.ids, List.length_append, List.length_cons]
        cases c with
        | true => have := ih1 n hn.1; omega
        | false =>
          obtain ⟨m, rfl, q1, _⟩ := hn
          have := ih1 m q1; omega
    exact this x n hn
  have hall : ∀ g ∈ x.ino, g.ok ∧ g.is g.key = true ∧ key (-1) 0 ≤ g.key ∧ g.key < key 1 0 := fun g hg => by
    have h1 := h.ok g hg
    have h2 := h.row.may g hg
    have h3 := g.ky h1
    have h4 := lt_last g h2 h3
    rw [key_neg _ _ (by omega), key_pos _ _ (by omega)]
    exact ⟨h1, g.may_is h2, h3.1, h4⟩
  have hs : ∀ W, Go.RowKit.Below w.heap.size w W → Calls Try.prog 56 #[aP T, .int .i64 t.root, .int .i64 (-1), .agg #[.int .i64 (-1), .int .i64 0, .int .i64 1, .int .i64 0]] W fun e w' => e = .returned (.tuple #[cnt (x.ids.length : Int) (n : Int), .bool true]) ∧ Go.RowKit.Below W.heap.size W w' := fun W hW => by
    have := rsound_sub h.is h.rep.ok x (-1) n (-1) 0 1 0 h.rep.rep hn (fun e => by rw [hred] at e; cases e) i64_0 i64_0 (ris_of _ h.row) hall (by omega) (by omega) W hW
    rw [← h.rep.root] at this
    exact this
  have hln : ∀ W, Go.RowKit.Below w.heap.size w W → Calls Try.prog 17 #[aP T] W fun e w' => e = .returned (.int .i64 (x.ids.length : Int)) ∧ Go.RowKit.Below W.heap.size W w' := fun W hW => by
    obtain ⟨S0, _, hbox, _, hrn⟩ := h.is
    have := rnlen_any (hrn.below hW) h.rep.ok
    rw [h.rep.len, ino_len] at this
    exact rlen_core T A t.root _ W (box_on hbox hW) this
  obtain ⟨S0, _, hbox, _, _⟩ := h.is
  exact rcheck_core T A t.root _ (n : Int) w hbox (Lib.hid fun W _ => (first_any W).mono fun _ _ h => ⟨h.1, h.2.1⟩) (Lib.hid fun W _ => (last_any W).mono fun _ _ h => ⟨h.1, h.2.1⟩) hs hln
end Go.Proofs.Ytakkmnhiaddnnaa

/- The laws' does. -/
namespace Go.Proofs.Ytakkmnhiaddnnaa
open Go.RowKit Go.Sort Go.Proofs.Ytakkmnhiaddnnaa.Bo
set_option linter.unusedVariables false
set_option maxRecDepth 100000

abbrev vOp (k : Int) (s : G5) : Value := .agg #[.int .i64 k, .int .i64 s.ls, .int .i64 s.la, .int .i64 s.hs, .int .i64 s.ha, .int .i64 s.v]
abbrev oOp (k : Int) (s : G5) : Obj := .cells #[.int .i64 k, .int .i64 s.ls, .int .i64 s.la, .int .i64 s.hs, .int .i64 s.ha, .int .i64 s.v] 37
theorem op6_cells {W : World} {b : Nat} {k : Int} {s : G5} (h : W.heap[b]? = some (oOp k s)) : W.cell? ⟨b, 0, none⟩ = some (.int .i64 k) ∧ W.cell? ⟨b, 1, none⟩ = some (.int .i64 s.ls) ∧ W.cell? ⟨b, 2, none⟩ = some (.int .i64 s.la) ∧ W.cell? ⟨b, 3, none⟩ = some (.int .i64 s.hs) ∧ W.cell? ⟨b, 4, none⟩ = some (.int .i64 s.ha) ∧ W.cell? ⟨b, 5, none⟩ = some (.int .i64 s.v) :=
  ⟨(cell_of_row _ _ 0 _ _ _ h).trans rfl, (cell_of_row _ _ 1 _ _ _ h).trans rfl, (cell_of_row _ _ 2 _ _ _ h).trans rfl, (cell_of_row _ _ 3 _ _ _ h).trans rfl, (cell_of_row _ _ 4 _ _ _ h).trans rfl, (cell_of_row _ _ 5 _ _ _ h).trans rfl⟩
set_option maxHeartbeats 2000000 in
theorem rdoes_put (T : Nat) (s : G5) (e0 : Int) (PF : World → Prop) (w : World) (HP : Hid (∀ W, Go.RowKit.Below w.heap.size w W → Rd 36 #[aP T, vG s] (.int .i64 e0) PF W)) :
    Rd 14 #[aP T, vOp 0 s] (.tuple #[.bool false, .int .i64 e0]) PF w := by
  have mx := mixed
  have hb := heap_alloc_new w (oOp 0 s)
  obtain ⟨d0, d1, d2, d3, d4, d5⟩ := op6_cells hb
  have HB := Lib.hid (below_new w (oOp 0 s))
  clear hb
  go_enter Try.func14, Try.ntmps14
  go_wp2_with fail
  refine (HP.out _ HB.out).mono ?_
  rintro e y1 ⟨rfl, hp⟩
  have HP1 := Lib.hid hp
  clear hp d0 d1 d2 d3 d4 d5
  go_wp2_with fail
  go_ret2
  exact ⟨rfl, HP1.out⟩
set_option maxHeartbeats 2000000 in
theorem rdoes_del (T : Nat) (s : G5) (b0 : Bool) (PF : World → Prop) (w : World) (HP : Hid (∀ W, Go.RowKit.Below w.heap.size w W → Rd 38 #[aP T, .agg #[.int .i64 s.ls, .int .i64 s.la]] (.bool b0) PF W)) :
    Rd 14 #[aP T, vOp 1 s] (.tuple #[.bool b0, .int .i64 0]) PF w := by
  have mx := mixed
  have hb := heap_alloc_new w (oOp 1 s)
  obtain ⟨d0, d1, d2, d3, d4, d5⟩ := op6_cells hb
  have HB := Lib.hid (below_new w (oOp 1 s))
  clear hb
  go_enter Try.func14, Try.ntmps14
  go_wp2_with fail
  refine (HP.out _ HB.out).mono ?_
  rintro e y1 ⟨rfl, hp⟩
  have HP1 := Lib.hid hp
  clear hp d0 d1 d2 d3 d4 d5
  go_wp2_with fail
  go_ret2
  exact ⟨rfl, HP1.out⟩
set_option maxHeartbeats 2000000 in
theorem rdoes_clear (T : Nat) (s : G5) (PF : World → Prop) (w : World) (HP : Hid (∀ W, Go.RowKit.Below w.heap.size w W → Rd 42 #[aP T] (.tuple #[]) PF W)) :
    Rd 14 #[aP T, vOp 2 s] (.tuple #[.bool false, .int .i64 0]) PF w := by
  have mx := mixed
  have hb := heap_alloc_new w (oOp 2 s)
  obtain ⟨d0, d1, d2, d3, d4, d5⟩ := op6_cells hb
  have HB := Lib.hid (below_new w (oOp 2 s))
  clear hb
  go_enter Try.func14, Try.ntmps14
  go_wp2_with fail
  refine (HP.out _ HB.out).mono ?_
  rintro e y1 ⟨rfl, hp⟩
  have HP1 := Lib.hid hp
  clear hp d0 d1 d2 d3 d4 d5
  go_wp2_with fail
  go_ret2
  exact ⟨rfl, HP1.out⟩
set_option maxHeartbeats 2000000 in
theorem rdoes_other (T : Nat) (k : Int) (s : G5) (w : World) (h0 : ¬ k = 0) (h1 : ¬ k = 1) (h2 : ¬ k = 2) :
    Calls Try.prog 14 #[aP T, vOp k s] w fun e w' => e = .returned (.tuple #[.bool false, .int .i64 0]) ∧ Go.RowKit.Below w.heap.size w w' := by
  have mx := mixed
  have hb := heap_alloc_new w (oOp k s)
  obtain ⟨d0, d1, d2, d3, d4, d5⟩ := op6_cells hb
  have HB := Lib.hid (below_new w (oOp k s))
  have t0 : (k == 0) = false := by simpa using h0
  have t1 : (k == 1) = false := by simpa using h1
  have t2 : (k == 2) = false := by simpa using h2
  clear hb
  go_enter Try.func14, Try.ntmps14
  go_wp2_with fail
  go_ret2
  exact ⟨rfl, HB.out⟩
theorem rdoes_any {w0 w : World} {S : Nat → Prop} {base T A : Nat} {R : Int} {L : List G5} (h : TrAt w0 S base T A R L w) (hR : RowOk L) (hG : ∀ g ∈ L, g.ok) (k : Int) (s : G5) (hs : s.ok) :
    Rd 14 #[aP T, vOp k s] (.tuple #[.bool (doG L R k s).2.1, .int .i64 (doG L R k s).2.2]) (TrAt w0 S base T A R (doG L R k s).1) w := by
  unfold doG
  by_cases h0 : k = 0
  · subst h0
    rw [if_pos rfl]
    exact rdoes_put T s _ _ w (Lib.hid fun W hW => rput_any (TrAt.bc _ _ h hW) hR hG s hs)
  rw [if_neg h0]
  by_cases h1 : k = 1
  · subst h1
    rw [if_pos rfl]
    exact rdoes_del T s _ _ w (Lib.hid fun W hW => rdel_any (TrAt.bc _ _ h hW) hR hG s.ls s.la hs.1)
  rw [if_neg h1]
  by_cases h2 : k = 2
  · subst h2
    rw [if_pos rfl]
    exact rdoes_clear T s _ w (Lib.hid fun W hW => rclear_any (TrAt.bc _ _ h hW))
  rw [if_neg h2]
  exact (rdoes_other T k s w h0 h1 h2).mono fun e w' ⟨he, hw⟩ => ⟨he, TrAt.bc _ _ h hw⟩
end Go.Proofs.Ytakkmnhiaddnnaa

/- Contracts of the program's arena, told by the document's: Len, Room, At, Get, Set, Free, Put, Reset. -/
namespace Go.Proofs.Ytakkmnhiaddnnaa
open Go.RowKit Go.Sort Go.Proofs.Ytakkmnhiaddnnaa.Bo
set_option linter.unusedVariables false

theorem ar_ps_no (a : Ar) (hok : a.ok) (i : Int) (h : a.is i = false) : ∀ (n : Nat) (hn : n < a.ps.length), i = (n : Int) → a.ps[n].2 = false := by
  rintro n hn rfl
  have := a.ps_at n (by rw [← a.ps_len]; exact hn)
  rw [List.getElem?_eq_getElem hn] at this
  injection this with this
  rw [this, Ar.pl_no a n h]
theorem ar_ps_yes (a : Ar) (n : Nat) (hn : n < a.ps.length) (h : a.is (n : Int) = true) : a.ps[n] = (a.l.getD n 0, true) := by
  have := a.ps_at n (by rw [← a.ps_len]; exact hn)
  rw [List.getElem?_eq_getElem hn] at this
  injection this with this
  rw [this, Ar.pl_is a n h]
end Go.Proofs.Ytakkmnhiaddnnaa
