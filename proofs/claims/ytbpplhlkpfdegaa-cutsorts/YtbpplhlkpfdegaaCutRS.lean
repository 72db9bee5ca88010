/- The contract of the reference's Sort of cuts. -/
import Derived.Test.YtbpplhlkpfdegaaCutSo
import Derived.Test.YtbpplhlkpfdegaaCutRSM
import Derived.Deep.LoopGhost
namespace Go.Proofs.Ytbpplhlkpfdegaa
open Go.RowKit Go.Sort Go.Proofs.Ytbpplhlkpfdegaa.Bo
set_option linter.unusedVariables false

/-- The cells of the cuts of these keys. -/
def flatL (ks : List Int) : List Value := ks.flatMap fun k => [.int .i64 (sd k), .int .i64 (pa k)]
theorem flatL_snoc (ks : List Int) (k : Int) : flatL (ks ++ [k]) = flatL ks ++ [.int .i64 (sd k), .int .i64 (pa k)] := by
  unfold flatL; rw [List.flatMap_append]; simp
theorem flatL_get (cs : List Int) (j : Nat) (hj : j < cs.length) : (flatL cs)[j * 2]? = some (.int .i64 (sd cs[j])) ∧ (flatL cs)[j * 2 + 1]? = some (.int .i64 (pa cs[j])) := by
  induction cs generalizing j with
  | nil => simp at hj
  | cons a l ih =>
    cases j with
    | zero => exact ⟨rfl, rfl⟩
    | succ j =>
      have := ih j (by simpa using hj)
      unfold flatL at *
      rw [List.flatMap_cons]
      rw [show (j + 1) * 2 = j * 2 + 2 by omega]
      simpa [List.getElem?_append] using this
theorem own_cells {w : World} {base g cap n n2 : Nat} {ks : List Int} (h : w.ownsRow base 27 2 (.slice (some ⟨g, 0, none⟩) n2 cap) n (flatL ks)) (hn : n = ks.length) (j : Nat) (hj : j < ks.length) :
    w.cell? ⟨g, j * 2, none⟩ = some (.int .i64 (sd ks[j])) ∧ w.cell? ⟨g, j * 2 + 1, none⟩ = some (.int .i64 (pa ks[j])) := by
  rcases h.2 with ⟨h1, _⟩ | ⟨g', cap', cur, h1, hb, hh, hnc, hcm, hcs, htake⟩
  · cases h1
  · injection h1 with e1 e2 e3
    injection e1 with e1
    injection e1 with e1
    subst e1 e3
    obtain ⟨f1, f2⟩ := flatL_get ks j hj
    rw [← htake, List.getElem?_take, if_pos (by omega)] at f1 f2
    exact ⟨(cell_of_row _ _ _ _ _ _ hh).trans (by simpa using f1), (cell_of_row _ _ _ _ _ _ hh).trans (by simpa using f2)⟩
theorem own_far {w : World} {base : Nat} {e : TypeId} {size : Nat} {v : Value} {n : Nat} {xs : List Value} (h : w.ownsRow base e size v n xs) (N i : Nat) (u : Value) (hN : ∀ k, v.ownBlock = some k → k ≠ N) : (w.setCell ⟨N, i, none⟩ u).ownsRow base e size v n xs := by
  obtain ⟨h1, h2⟩ := h
  refine ⟨h1, ?_⟩
  rcases h2 with h2 | ⟨g, cap, cur, hv, hg, hh, r⟩
  · exact .inl h2
  · refine .inr ⟨g, cap, cur, hv, hg, ?_, r⟩
    rw [heap_setCell_other _ _ _ _ (by have := hN g (by rw [hv]; rfl); simpa using this)]
    exact hh
theorem rless_b (s a t b : Int) (D : Bool) (h : decide (key s a < key t b) = D) (ha : I64 a) (hb : I64 b) (w : World) :
    Calls Try.prog 23 #[.agg #[.int .i64 s, .int .i64 a], .agg #[.int .i64 t, .int .i64 b]] w fun e w' => e = .returned (.bool D) ∧ Go.RowKit.Below w.heap.size w w' := by
  subst h; exact rless_any s a t b w ha hb

/-- What lies in memory while the reference looks for the next one. -/
structure InAt (w : World) (N : Nat) (ks os : List Int) (v : Value) (f : Bool) (m nx ny : Int) (wr : World) : Prop where
  seen : Seen ks os f m
  cut : f = true → nx = sd m ∧ ny = pa m ∧ Ky m
  box : wr.heap[N]? = some (.cells #[.int .i64 nx, .int .i64 ny] 27 (0, 0))
  own : wr.ownsRow w.heap.size 27 2 v os.length (flatL os)
  below : Go.RowKit.Below w.heap.size w wr
theorem InAt.on {w : World} {N : Nat} {ks os : List Int} {v : Value} {f : Bool} {m nx ny : Int} {wr wr' : World} (h : InAt w N ks os v f m nx ny wr) (hb : Go.RowKit.Below wr.heap.size wr wr') : InAt w N ks os v f m nx ny wr' :=
  ⟨h.seen, h.cut, box_on h.box hb, own_on h.own hb, bt h.below hb⟩
theorem InAt.skip {w : World} {N : Nat} {ks os : List Int} {v : Value} {f : Bool} {m nx ny : Int} {wr : World} (h : InAt w N ks os v f m nx ny wr) (x : Int) (hc : ¬ lb os < x ∨ (f = true ∧ ¬ x < m)) : InAt w N (ks ++ [x]) os v f m nx ny wr :=
  ⟨seen_skip _ _ _ _ _ h.seen hc, h.cut, h.box, h.own, h.below⟩
theorem InAt.take {w : World} {N : Nat} {ks os : List Int} {v : Value} {f : Bool} {m nx ny : Int} {wr : World} (h : InAt w N ks os v f m nx ny wr) (x : Int) (hx : Ky x) (hl : lb os < x) (hc : f = false ∨ x < m) (hN : w.heap.size ≤ N) (hv : ∀ k, v.ownBlock = some k → k ≠ N) :
    InAt w N (ks ++ [x]) os v true x (sd x) (pa x) ((wr.setCell ⟨N, 0, none⟩ (.int .i64 (sd x))).setCell ⟨N, 1, none⟩ (.int .i64 (pa x))) :=
  ⟨seen_take _ _ _ _ _ h.seen hl hc, fun _ => ⟨rfl, rfl, hx⟩, two_put h.box, own_far (own_far h.own _ _ _ hv) _ _ _ hv, (h.below.setCell hN _).setCell hN _⟩
/-- How the row that was put stands. -/
def OutIs (N : Nat) (os : List Int) (v : Value) : Prop := (os = [] ∧ v = .slice none 0 0) ∨ ∃ g cap q, os.length = q + 1 ∧ v = .slice (some ⟨g, 0, none⟩) (q + 1) cap ∧ g < N

theorem up_len : ∀ (l m : List Int), Up l → (∀ x ∈ l, x ∈ m) → l.length ≤ m.length := by
  intro l
  induction l with
  | nil => intro m _ _; exact Nat.zero_le _
  | cons a l ih =>
    intro m h hs
    have h' := List.pairwise_cons.1 h
    have ha := hs a (List.mem_cons_self ..)
    have := ih (m.erase a) h'.2 (fun x hx => by
      have hne : x ≠ a := by have := h'.1 x hx; omega
      exact (List.mem_erase_of_ne hne).2 (hs x (List.mem_cons_of_mem _ hx)))
    rw [List.length_erase_of_mem ha] at this
    have hp : 0 < m.length := List.length_pos_of_mem ha
    simp; omega
def RSortPost (cs : List (Int × Int)) (w : World) (e : Ending) (w' : World) : Prop :=
  ∃ (v : Value) (ks : List Int), (e = .returned v ∧ Up ks ∧ (∀ x, x ∈ ks ↔ x ∈ cs.map kOf) ∧ OutIs w'.heap.size ks v ∧ w'.ownsRow w.heap.size 27 2 v ks.length (flatL ks)) ∧ Go.RowKit.Below w.heap.size w w'
/-- A cut's two cells. -/
def CellsAt (w : World) (b o : Nat) (c1 c2 : Int) : Prop := w.cell? ⟨b, o, none⟩ = some (.int .i64 c1) ∧ w.cell? ⟨b, o + 1, none⟩ = some (.int .i64 c2)
theorem CellsAt.below {w w' : World} {b o : Nat} {c1 c2 : Int} (h : CellsAt w b o c1 c2) (hb : Go.RowKit.Below w.heap.size w w') : CellsAt w' b o c1 c2 :=
  ⟨(hb.cell (World.block_lt_of_cell? w _ h.1)).trans h.1, (hb.cell (World.block_lt_of_cell? w _ h.2)).trans h.2⟩

set_option maxRecDepth 100000 in
set_option maxHeartbeats 8000000 in
theorem rsort_any (a : Option Addr) (cap0 : Nat) (cs : List (Int × Int)) (w : World) (hz : ∀ c ∈ cs, I64 c.2) (hr : CRow w a cs) (hl : cs.length ≤ 100) :
    Calls Try.prog 8 #[.slice a cs.length cap0] w (RSortPost cs w) := by
  have mx := mixed
  have eqc := eql_cut
  obtain ⟨i0, hi, hz0, hz1, hz2⟩ := info_parts Try.infoCut
  have HR := Lib.hid hr
  have HZ := Lib.hid hz
  have HKY : Hid (∀ k ∈ cs.map kOf, Ky k) := by
    intro k hk
    obtain ⟨c, hc, rfl⟩ := List.mem_map.1 hk
    exact key_ky _ _ (hz c hc)
  clear hr hz
  go_enter Try.func8, Try.ntmps8
  go_wp2_with fail
  go_loopg [3] (left (cs.map kOf) []) (fun gh s3 wr => ∃ (os : List Int) (v : Value), v = s3 ∧ Put (cs.map kOf) os ∧ left (cs.map kOf) os ≤ gh ∧ OutIs wr.heap.size os v ∧ os.length ≤ cs.length ∧ wr.ownsRow w.heap.size 27 2 v os.length (flatL os) ∧ Go.RowKit.Below w.heap.size w wr)
  case atStart => exact ⟨[], _, rfl, put_nil _ HKY.out, Nat.le_refl _, .inl ⟨rfl, rfl⟩, Nat.zero_le _, ⟨rfl, .inl ⟨rfl, rfl⟩⟩, Go.RowKit.Below.refl _ _⟩
  case round =>
    obtain ⟨os, v, rfl, hput, hgh, hout, hol, hown, hBr⟩ := hrel
    have HPUT := Lib.hid hput
    have HOUT := Lib.hid hout
    have hNw : w.heap.size ≤ wr.heap.size := hBr.size
    have HNV : Hid (∀ k, v.ownBlock = some k → k ≠ wr.heap.size) := by
      intro k hk
      have := (hown.lt k hk).2
      omega
    have HIN0 : Hid (InAt w wr.heap.size [] os v false 0 0 0 (wr.alloc (.cells #[.int .i64 0, .int .i64 0] 27))) :=
      ⟨seen_nil os 0, (fun h => by cases h), heap_alloc_new _ _, hown.alloc _, bt hBr (below_new wr _)⟩
    have hout' := hout
    clear hput hout hown hBr
    rcases hout' with ⟨rfl, rfl⟩ | ⟨g, cap, q, hq, rfl, hgN⟩
    · obtain ⟨N, hN⟩ : ∃ N, N = wr.heap.size := ⟨_, rfl⟩
      have HN := Lib.hid hN
      rw [← hN] at HIN0 HNV HOUT hNw
      clear hN
      go_wp2_with fail
      rw [← HN.out]
      go_loopw [4, 6] (fun s4 s6 wr2 => ∃ (i : Nat) (f : Bool) (m nx ny : Int), s4 = .bool f ∧ s6 = .int .i64 (i : Int) ∧ i ≤ cs.length ∧ InAt w N ((cs.take i).map kOf) [] (.slice none 0 0) f m nx ny wr2) (fun _ s6 _ => cs.length - (intOf s6).toNat)
      case atStart => exact ⟨0, false, 0, 0, 0, rfl, rfl, Nat.zero_le _, by have h := HIN0.out; rw [HN.out] at h ⊢; exact h⟩
      case round =>
        clear HIN0 HN
        obtain ⟨i, f, m, nx, ny, rfl, rfl, hil, hin⟩ := hrel
        have HI := Lib.hid hin
        clear hin
        by_cases hlt : i < cs.length
        · obtain ⟨b, off, rfl, hcell⟩ := (HR.out.below HI.out.below) (by omega)
          obtain ⟨hc1, hc2⟩ := hcell i hlt
          have HE : Hid ((cs.take (i + 1)).map kOf = (cs.take i).map kOf ++ [kOf cs[i]]) := by
            show _ = _
            rw [List.take_succ_eq_append_getElem hlt, List.map_append]; rfl
          have HCI : Hid (I64 cs[i].2) := HZ.out _ (List.getElem_mem hlt)
          have HCAN := Lib.hid (fun W => rcanon_any cs[i].1 cs[i].2 W HCI.out)
          have HKX : Hid (Ky (kOf cs[i])) := key_ky _ _ HCI.out
          have HXK : Hid (key cs[i].1 cs[i].2 = kOf cs[i]) := rfl
          rw [HXK.out] at HCAN
          clear hcell
          generalize kOf cs[i] = X at *
          generalize cs[i].1 = c1 at *
          generalize cs[i].2 = c2 at *
          have HCR : Hid (CellsAt wr b (off + i * 2) c1 c2) := ⟨hc1, hc2⟩
          obtain ⟨sx, px, hsx, hpx⟩ : ∃ sx px, sx = sd X ∧ px = pa X := ⟨_, _, rfl, rfl⟩
          rw [← hsx, ← hpx] at HCAN
          have HSX := Lib.hid (And.intro hsx hpx)
          clear hsx hpx
          have hNr : N < wr.heap.size := lt_of_block HI.out.box
          have HLX : Hid (lb [] < X) := by have h := HKX.out; unfold Ky at h; show lb [] < X; rw [lb_nil]; omega
          cases f with
          | false =>
            have HNO : Hid (false = true → nx = sd m ∧ ny = pa m ∧ Ky m) := HI.out.cut
            obtain ⟨p1, p2⟩ : (∀ d os, (grow (redrawn wr d) os).cell? ⟨b, off + i * 2, none⟩ = some (.int .i64 c1)) ∧ (∀ d os, (grow (redrawn wr d) os).cell? ⟨b, off + i * 2 + 1, none⟩ = some (.int .i64 c2)) := ⟨cell_regrown hc1, cell_regrown hc2⟩
            go_wp2_with fail
            refine wp_region_quiet_below (by assumption) (by kernel_rfl) ?_
            repeat (go_big_quiet_step (fail))
            refine wpQuiet_nil ?_
            intro _ hw'
            obtain ⟨⟨nq1, osq1⟩, hw''⟩ := hw'
            subst hw''
            have hB1 := below_regrown wr nq1 osq1
            have HI1 := Lib.hid (HI.out.on hB1)
            have hcr := (HCR.out.below hB1)
            clear p1 p2
            go_wp2_with fail
            generalize grow (redrawn wr nq1) osq1 = Y at *
            obtain ⟨p1, p2⟩ : (∀ d os, (grow (redrawn Y d) os).cell? ⟨b, off + i * 2, none⟩ = some (.int .i64 c1)) ∧ (∀ d os, (grow (redrawn Y d) os).cell? ⟨b, off + i * 2 + 1, none⟩ = some (.int .i64 c2)) := ⟨cell_regrown hcr.1, cell_regrown hcr.2⟩
            obtain ⟨p5, p6⟩ := cut_regrown HI1.out.box
            refine wp_region_quiet_below (by assumption) (by kernel_rfl) ?_
            repeat (go_big_quiet_step (fail))
            refine wpQuiet_nil ?_
            intro _ hw'
            obtain ⟨⟨nq2, osq2⟩, hw''⟩ := hw'
            subst hw''
            have hB2 := below_regrown Y nq2 osq2
            have HI2 := Lib.hid (HI1.out.on hB2)
            have hcr2 := CellsAt.below hcr hB2
            clear p1 p2 p5 p6
            obtain ⟨d1, d2⟩ := hcr2
            go_wp2_with fail
            generalize grow (redrawn Y nq2) osq2 = Z at *
            refine (HCAN.out _).mono ?_
            rintro e z1 ⟨rfl, hB3⟩
            have HI3 := Lib.hid (HI2.out.on hB3)
            obtain ⟨q1, q2, q3, q4⟩ := two_cells HI3.out.box
            have HT := Lib.hid (HI3.out.take X HKX.out HLX.out (.inl rfl) hNw HNV.out)
            rw [← HSX.out.1, ← HSX.out.2] at HT
            clear d1 d2 hB3
            go_wp2_with fail
            go_roundw
            case rel => exact ⟨i + 1, true, X, sx, px, rfl, by go_num, by omega, by rw [HE.out]; exact HT.out⟩
            case measure => simp [intOf]; omega

          | true =>
            have hcut := HI.out.cut rfl
            obtain ⟨e1, e2, e3⟩ := hcut
            have hkb := key_back m e3
            rw [← e1, ← e2] at hkb
            have hnyi : I64 ny := by rw [e2]; exact pa_i64 m e3
            have HNYI := Lib.hid hnyi
            have HKB := Lib.hid hkb
            clear e1 e2 e3 hkb hnyi
            by_cases hxm : X < m
            · have HD2 := Lib.hid hxm
              have HL2 := Lib.hid (fun W => rless_b c1 c2 nx ny true (by rw [HKB.out, HXK.out]; exact decide_eq_true HD2.out) HCI.out HNYI.out W)
              clear hxm
              obtain ⟨p1, p2⟩ : (∀ d os, (grow (redrawn wr d) os).cell? ⟨b, off + i * 2, none⟩ = some (.int .i64 c1)) ∧ (∀ d os, (grow (redrawn wr d) os).cell? ⟨b, off + i * 2 + 1, none⟩ = some (.int .i64 c2)) := ⟨cell_regrown hc1, cell_regrown hc2⟩
              go_wp2_with fail
              refine wp_region_quiet_below (by assumption) (by kernel_rfl) ?_
              repeat (go_big_quiet_step (fail))
              refine wpQuiet_nil ?_
              intro _ hw'
              obtain ⟨⟨nq1, osq1⟩, hw''⟩ := hw'
              subst hw''
              have hB1 := below_regrown wr nq1 osq1
              have HI1 := Lib.hid (HI.out.on hB1)
              have hcr := (HCR.out.below hB1)
              clear p1 p2
              go_wp2_with fail
              generalize grow (redrawn wr nq1) osq1 = Y at *
              obtain ⟨p1, p2⟩ : (∀ d os, (grow (redrawn Y d) os).cell? ⟨b, off + i * 2, none⟩ = some (.int .i64 c1)) ∧ (∀ d os, (grow (redrawn Y d) os).cell? ⟨b, off + i * 2 + 1, none⟩ = some (.int .i64 c2)) := ⟨cell_regrown hcr.1, cell_regrown hcr.2⟩
              obtain ⟨p5, p6⟩ := cut_regrown HI1.out.box
              refine wp_region_quiet_below (by assumption) (by kernel_rfl) ?_
              repeat (go_big_quiet_step (first | (go_at_call 23; exact Calls.regrown_of (HL2.out _))))
              refine wpQuiet_nil ?_
              intro _ hw'
              obtain ⟨⟨nq2, osq2⟩, hw''⟩ := hw'
              subst hw''
              have hB2 := below_regrown Y nq2 osq2
              have HI2 := Lib.hid (HI1.out.on hB2)
              have hcr2 := CellsAt.below hcr hB2
              clear p1 p2 p5 p6
              obtain ⟨d1, d2⟩ := hcr2
              go_wp2_with fail
              generalize grow (redrawn Y nq2) osq2 = Z at *
              refine (HCAN.out _).mono ?_
              rintro e z1 ⟨rfl, hB3⟩
              have HI3 := Lib.hid (HI2.out.on hB3)
              obtain ⟨q1, q2, q3, q4⟩ := two_cells HI3.out.box
              have HT := Lib.hid (HI3.out.take X HKX.out HLX.out (.inr HD2.out) hNw HNV.out)
              rw [← HSX.out.1, ← HSX.out.2] at HT
              clear d1 d2 hB3
              go_wp2_with fail
              go_roundw
              case rel => exact ⟨i + 1, true, X, sx, px, rfl, by go_num, by omega, by rw [HE.out]; exact HT.out⟩
              case measure => simp [intOf]; omega

            · have HD2 := Lib.hid hxm
              have HL2 := Lib.hid (fun W => rless_b c1 c2 nx ny false (by rw [HKB.out, HXK.out]; exact decide_eq_false HD2.out) HCI.out HNYI.out W)
              clear hxm
              obtain ⟨p1, p2⟩ : (∀ d os, (grow (redrawn wr d) os).cell? ⟨b, off + i * 2, none⟩ = some (.int .i64 c1)) ∧ (∀ d os, (grow (redrawn wr d) os).cell? ⟨b, off + i * 2 + 1, none⟩ = some (.int .i64 c2)) := ⟨cell_regrown hc1, cell_regrown hc2⟩
              go_wp2_with fail
              refine wp_region_quiet_below (by assumption) (by kernel_rfl) ?_
              repeat (go_big_quiet_step (fail))
              refine wpQuiet_nil ?_
              intro _ hw'
              obtain ⟨⟨nq1, osq1⟩, hw''⟩ := hw'
              subst hw''
              have hB1 := below_regrown wr nq1 osq1
              have HI1 := Lib.hid (HI.out.on hB1)
              have hcr := (HCR.out.below hB1)
              clear p1 p2
              go_wp2_with fail
              generalize grow (redrawn wr nq1) osq1 = Y at *
              obtain ⟨p1, p2⟩ : (∀ d os, (grow (redrawn Y d) os).cell? ⟨b, off + i * 2, none⟩ = some (.int .i64 c1)) ∧ (∀ d os, (grow (redrawn Y d) os).cell? ⟨b, off + i * 2 + 1, none⟩ = some (.int .i64 c2)) := ⟨cell_regrown hcr.1, cell_regrown hcr.2⟩
              obtain ⟨p5, p6⟩ := cut_regrown HI1.out.box
              refine wp_region_quiet_below (by assumption) (by kernel_rfl) ?_
              repeat (go_big_quiet_step (first | (go_at_call 23; exact Calls.regrown_of (HL2.out _))))
              refine wpQuiet_nil ?_
              intro _ hw'
              obtain ⟨⟨nq2, osq2⟩, hw''⟩ := hw'
              subst hw''
              have hB2 := below_regrown Y nq2 osq2
              have HI2 := Lib.hid (HI1.out.on hB2)
              have hcr2 := CellsAt.below hcr hB2
              clear p1 p2 p5 p6
              go_wp2_with fail
              go_roundw
              case rel => exact ⟨i + 1, true, m, nx, ny, rfl, by go_num, by omega, by rw [HE.out]; exact HI2.out.skip X (.inr ⟨rfl, by have := HD2.out; omega⟩)⟩
              case measure => simp [intOf]; omega

        · obtain rfl : i = cs.length := by omega
          have HIL := HI
          rw [List.take_length] at HIL
          clear HI
          cases f with
          | false =>
            have HDN : Hid (∀ x ∈ cs.map kOf, ¬ lb [] < x) := by
              rcases HIL.out.seen with ⟨h, _⟩ | ⟨_, h⟩
              · cases h
              · exact h
            go_wp2_with fail
            go_ret
            refine ⟨(.slice none 0 0), [], ⟨rfl, (put_done _ _ HPUT.out (fun x hx => by have := HDN.out x hx; omega)).1, (put_done _ _ HPUT.out (fun x hx => by have := HDN.out x hx; omega)).2, ?_, HIL.out.own⟩, HIL.out.below⟩
            exact .inl ⟨rfl, rfl⟩
          | true =>
            have hseen : m ∈ cs.map kOf ∧ lb [] < m ∧ ∀ x ∈ cs.map kOf, lb [] < x → m ≤ x := by
              rcases HIL.out.seen with ⟨_, h⟩ | ⟨h, _⟩
              · exact h
              · cases h
            have HSE := Lib.hid hseen
            obtain ⟨e1, e2, e3⟩ := HIL.out.cut rfl
            have HCU := Lib.hid (And.intro e1 e2)
            obtain ⟨m1, m2, _, _⟩ := two_cells HIL.out.box
            have HO2 := Lib.hid (HIL.out.own.alloc (.cells #[.int .i64 nx, .int .i64 ny] 27))
            have hL3 := bt HIL.out.below (below_new wr (.cells #[.int .i64 nx, .int .i64 ny] 27))
            have hsz2 := HIL.out.below.size
            have HPN := Lib.hid (put_snoc _ _ m HPUT.out HSE.out.1 HSE.out.2.1 HSE.out.2.2)
            have HLN := Lib.hid (left_snoc _ _ m HSE.out.1 HSE.out.2.1)
            have hlen := up_len _ _ HPN.out.1 HPN.out.2.1
            rw [List.length_append, List.length_singleton, List.length_map] at hlen
            clear hseen e1 e2 e3
            go_wp2_with (at_builtin; refine wpList_append_lies _ rfl _ _ 22 rfl w.heap.size 27 i0 (.agg #[.int .i64 0, .int .i64 0]) 2 16 Try.underlying22 hi hz0 hz1 hz2 rfl (by decide) _ 0 (flatL []) (by rfl) HO2.out ⟨wr.heap.size, 0, none⟩ 1 1 [.int .i64 nx, .int .i64 ny] (by rfl) rfl (World.news_of_block (heap_alloc_new wr _)) (one_two nx ny) (by decide) (by unfold maxLen; omega) (by omega) (by simp; omega) _ rfl ?_; intro g2 cap2 w1 hown1 hgrow1 hat1 hlt1)
            have hL4 : Go.RowKit.Below w.heap.size w w1 := hL3.grown hgrow1 (by simp; omega) (fun k hk => (HO2.out.lt k hk).1)
            have hfl : flatL (([] : List Int) ++ [m]) = flatL ([] : List Int) ++ [.int .i64 nx, .int .i64 ny] := by rw [flatL_snoc, HCU.out.1, HCU.out.2]
            have hln : (([] : List Int) ++ [m]).length = 0 + 1 := by rfl
            go_roundg (left (cs.map kOf) (([] : List Int) ++ [m]))
            case measure => have := HLN.out; omega
            case rel => exact ⟨([] : List Int) ++ [m], _, rfl, HPN.out, Nat.le_refl _, .inr ⟨g2, cap2, 0, hln, rfl, hlt1⟩, by rw [List.length_append, List.length_singleton]; omega, by rw [hfl, hln]; exact hown1, hL4⟩

    · obtain ⟨N, hN⟩ : ∃ N, N = wr.heap.size := ⟨_, rfl⟩
      have HN := Lib.hid hN
      rw [← hN] at HIN0 HNV HOUT hNw hgN
      clear hN
      go_wp2_with fail
      rw [← HN.out]
      go_loopw [4, 6] (fun s4 s6 wr2 => ∃ (i : Nat) (f : Bool) (m nx ny : Int), s4 = .bool f ∧ s6 = .int .i64 (i : Int) ∧ i ≤ cs.length ∧ InAt w N ((cs.take i).map kOf) os (.slice (some ⟨g, 0, none⟩) (q + 1) cap) f m nx ny wr2) (fun _ s6 _ => cs.length - (intOf s6).toNat)
      case atStart => exact ⟨0, false, 0, 0, 0, rfl, rfl, Nat.zero_le _, by have h := HIN0.out; rw [HN.out] at h ⊢; exact h⟩
      case round =>
        clear HIN0 HN
        obtain ⟨i, f, m, nx, ny, rfl, rfl, hil, hin⟩ := hrel
        have HI := Lib.hid hin
        clear hin
        by_cases hlt : i < cs.length
        · obtain ⟨b, off, rfl, hcell⟩ := (HR.out.below HI.out.below) (by omega)
          obtain ⟨hc1, hc2⟩ := hcell i hlt
          have HE : Hid ((cs.take (i + 1)).map kOf = (cs.take i).map kOf ++ [kOf cs[i]]) := by
            show _ = _
            rw [List.take_succ_eq_append_getElem hlt, List.map_append]; rfl
          have HCI : Hid (I64 cs[i].2) := HZ.out _ (List.getElem_mem hlt)
          have HCAN := Lib.hid (fun W => rcanon_any cs[i].1 cs[i].2 W HCI.out)
          have HKX : Hid (Ky (kOf cs[i])) := key_ky _ _ HCI.out
          have HXK : Hid (key cs[i].1 cs[i].2 = kOf cs[i]) := rfl
          rw [HXK.out] at HCAN
          clear hcell
          generalize kOf cs[i] = X at *
          generalize cs[i].1 = c1 at *
          generalize cs[i].2 = c2 at *
          have HCR : Hid (CellsAt wr b (off + i * 2) c1 c2) := ⟨hc1, hc2⟩
          obtain ⟨sx, px, hsx, hpx⟩ : ∃ sx px, sx = sd X ∧ px = pa X := ⟨_, _, rfl, rfl⟩
          rw [← hsx, ← hpx] at HCAN
          have HSX := Lib.hid (And.intro hsx hpx)
          clear hsx hpx
          have hNr : N < wr.heap.size := lt_of_block HI.out.box
          have tq : ((q : Int) + 1 == 0) = false := beq_eq_false_iff_ne.2 (by omega)
          have tq0 : (0 : Int) ≤ (q : Int) := by omega
          have ti0 : (0 : Int) ≤ (i : Int) := by omega
          have ti1 : (i : Int) < (cs.length : Int) := by omega
          have hy := own_cells HI.out.own rfl q (by omega)
          have HYK : Hid (Ky (os[q]'(by omega))) := HKY.out _ (HPUT.out.2.1 _ (List.getElem_mem (by omega)))
          have HYL : Hid (lb os = os[q]'(by omega)) := by
            show _ = _
            rw [lb_get os (by omega)]; congr 1; omega
          obtain ⟨y, hyy⟩ : ∃ y, y = os[q]'(by omega) := ⟨_, rfl⟩
          rw [← hyy] at hy HYK HYL
          clear hyy
          obtain ⟨y1, y2, hy1, hy2⟩ : ∃ y1 y2, y1 = sd y ∧ y2 = pa y := ⟨_, _, rfl, rfl⟩
          have hyb := key_back y HYK.out
          have hyi := pa_i64 y HYK.out
          rw [← hy1, ← hy2] at hyb hy
          rw [← hy2] at hyi
          have HYB := Lib.hid hyb
          have HYI := Lib.hid hyi
          clear hy1 hy2 hyb hyi
          by_cases hxl : y < X
          · have HLX : Hid (lb os < X) := by show lb os < X; rw [HYL.out]; exact hxl
            have HD1 := Lib.hid hxl
            have HL1 := Lib.hid (fun W => rless_b y1 y2 c1 c2 true (by rw [HYB.out, HXK.out]; exact decide_eq_true HD1.out) HYI.out HCI.out W)
            clear hxl
            cases f with
            | false =>
              have HNO : Hid (false = true → nx = sd m ∧ ny = pa m ∧ Ky m) := HI.out.cut
              obtain ⟨p1, p2⟩ : (∀ d os, (grow (redrawn wr d) os).cell? ⟨b, off + i * 2, none⟩ = some (.int .i64 c1)) ∧ (∀ d os, (grow (redrawn wr d) os).cell? ⟨b, off + i * 2 + 1, none⟩ = some (.int .i64 c2)) := ⟨cell_regrown hc1, cell_regrown hc2⟩
              obtain ⟨p3, p4⟩ : (∀ d os, (grow (redrawn wr d) os).cell? ⟨g, q * 2, none⟩ = some (.int .i64 y1)) ∧ (∀ d os, (grow (redrawn wr d) os).cell? ⟨g, q * 2 + 1, none⟩ = some (.int .i64 y2)) := ⟨cell_regrown hy.1, cell_regrown hy.2⟩
              go_wp2_with fail
              refine wp_region_quiet_below (by assumption) (by kernel_rfl) ?_
              repeat (go_big_quiet_step (first | (go_at_call 23; exact Calls.regrown_of (HL1.out _))))
              refine wpQuiet_nil ?_
              intro _ hw'
              obtain ⟨⟨nq1, osq1⟩, hw''⟩ := hw'
              subst hw''
              have hB1 := below_regrown wr nq1 osq1
              have HI1 := Lib.hid (HI.out.on hB1)
              have hcr := (HCR.out.below hB1)
              clear p1 p2 p3 p4
              go_wp2_with fail
              generalize grow (redrawn wr nq1) osq1 = Y at *
              obtain ⟨p1, p2⟩ : (∀ d os, (grow (redrawn Y d) os).cell? ⟨b, off + i * 2, none⟩ = some (.int .i64 c1)) ∧ (∀ d os, (grow (redrawn Y d) os).cell? ⟨b, off + i * 2 + 1, none⟩ = some (.int .i64 c2)) := ⟨cell_regrown hcr.1, cell_regrown hcr.2⟩
              obtain ⟨p5, p6⟩ := cut_regrown HI1.out.box
              refine wp_region_quiet_below (by assumption) (by kernel_rfl) ?_
              repeat (go_big_quiet_step (fail))
              refine wpQuiet_nil ?_
              intro _ hw'
              obtain ⟨⟨nq2, osq2⟩, hw''⟩ := hw'
              subst hw''
              have hB2 := below_regrown Y nq2 osq2
              have HI2 := Lib.hid (HI1.out.on hB2)
              have hcr2 := CellsAt.below hcr hB2
              clear p1 p2 p5 p6
              obtain ⟨d1, d2⟩ := hcr2
              go_wp2_with fail
              generalize grow (redrawn Y nq2) osq2 = Z at *
              refine (HCAN.out _).mono ?_
              rintro e z1 ⟨rfl, hB3⟩
              have HI3 := Lib.hid (HI2.out.on hB3)
              obtain ⟨q1, q2, q3, q4⟩ := two_cells HI3.out.box
              have HT := Lib.hid (HI3.out.take X HKX.out HLX.out (.inl rfl) hNw HNV.out)
              rw [← HSX.out.1, ← HSX.out.2] at HT
              clear d1 d2 hB3
              go_wp2_with fail
              go_roundw
              case rel => exact ⟨i + 1, true, X, sx, px, rfl, by go_num, by omega, by rw [HE.out]; exact HT.out⟩
              case measure => simp [intOf]; omega

            | true =>
              have hcut := HI.out.cut rfl
              obtain ⟨e1, e2, e3⟩ := hcut
              have hkb := key_back m e3
              rw [← e1, ← e2] at hkb
              have hnyi : I64 ny := by rw [e2]; exact pa_i64 m e3
              have HNYI := Lib.hid hnyi
              have HKB := Lib.hid hkb
              clear e1 e2 e3 hkb hnyi
              by_cases hxm : X < m
              · have HD2 := Lib.hid hxm
                have HL2 := Lib.hid (fun W => rless_b c1 c2 nx ny true (by rw [HKB.out, HXK.out]; exact decide_eq_true HD2.out) HCI.out HNYI.out W)
                clear hxm
                obtain ⟨p1, p2⟩ : (∀ d os, (grow (redrawn wr d) os).cell? ⟨b, off + i * 2, none⟩ = some (.int .i64 c1)) ∧ (∀ d os, (grow (redrawn wr d) os).cell? ⟨b, off + i * 2 + 1, none⟩ = some (.int .i64 c2)) := ⟨cell_regrown hc1, cell_regrown hc2⟩
                obtain ⟨p3, p4⟩ : (∀ d os, (grow (redrawn wr d) os).cell? ⟨g, q * 2, none⟩ = some (.int .i64 y1)) ∧ (∀ d os, (grow (redrawn wr d) os).cell? ⟨g, q * 2 + 1, none⟩ = some (.int .i64 y2)) := ⟨cell_regrown hy.1, cell_regrown hy.2⟩
                go_wp2_with fail
                refine wp_region_quiet_below (by assumption) (by kernel_rfl) ?_
                repeat (go_big_quiet_step (first | (go_at_call 23; exact Calls.regrown_of (HL1.out _))))
                refine wpQuiet_nil ?_
                intro _ hw'
                obtain ⟨⟨nq1, osq1⟩, hw''⟩ := hw'
                subst hw''
                have hB1 := below_regrown wr nq1 osq1
                have HI1 := Lib.hid (HI.out.on hB1)
                have hcr := (HCR.out.below hB1)
                clear p1 p2 p3 p4
                go_wp2_with fail
                generalize grow (redrawn wr nq1) osq1 = Y at *
                obtain ⟨p1, p2⟩ : (∀ d os, (grow (redrawn Y d) os).cell? ⟨b, off + i * 2, none⟩ = some (.int .i64 c1)) ∧ (∀ d os, (grow (redrawn Y d) os).cell? ⟨b, off + i * 2 + 1, none⟩ = some (.int .i64 c2)) := ⟨cell_regrown hcr.1, cell_regrown hcr.2⟩
                obtain ⟨p5, p6⟩ := cut_regrown HI1.out.box
                refine wp_region_quiet_below (by assumption) (by kernel_rfl) ?_
                repeat (go_big_quiet_step (first | (go_at_call 23; exact Calls.regrown_of (HL2.out _))))
                refine wpQuiet_nil ?_
                intro _ hw'
                obtain ⟨⟨nq2, osq2⟩, hw''⟩ := hw'
                subst hw''
                have hB2 := below_regrown Y nq2 osq2
                have HI2 := Lib.hid (HI1.out.on hB2)
                have hcr2 := CellsAt.below hcr hB2
                clear p1 p2 p5 p6
                obtain ⟨d1, d2⟩ := hcr2
                go_wp2_with fail
                generalize grow (redrawn Y nq2) osq2 = Z at *
                refine (HCAN.out _).mono ?_
                rintro e z1 ⟨rfl, hB3⟩
                have HI3 := Lib.hid (HI2.out.on hB3)
                obtain ⟨q1, q2, q3, q4⟩ := two_cells HI3.out.box
                have HT := Lib.hid (HI3.out.take X HKX.out HLX.out (.inr HD2.out) hNw HNV.out)
                rw [← HSX.out.1, ← HSX.out.2] at HT
                clear d1 d2 hB3
                go_wp2_with fail
                go_roundw
                case rel => exact ⟨i + 1, true, X, sx, px, rfl, by go_num, by omega, by rw [HE.out]; exact HT.out⟩
                case measure => simp [intOf]; omega

              · have HD2 := Lib.hid hxm
                have HL2 := Lib.hid (fun W => rless_b c1 c2 nx ny false (by rw [HKB.out, HXK.out]; exact decide_eq_false HD2.out) HCI.out HNYI.out W)
                clear hxm
                obtain ⟨p1, p2⟩ : (∀ d os, (grow (redrawn wr d) os).cell? ⟨b, off + i * 2, none⟩ = some (.int .i64 c1)) ∧ (∀ d os, (grow (redrawn wr d) os).cell? ⟨b, off + i * 2 + 1, none⟩ = some (.int .i64 c2)) := ⟨cell_regrown hc1, cell_regrown hc2⟩
                obtain ⟨p3, p4⟩ : (∀ d os, (grow (redrawn wr d) os).cell? ⟨g, q * 2, none⟩ = some (.int .i64 y1)) ∧ (∀ d os, (grow (redrawn wr d) os).cell? ⟨g, q * 2 + 1, none⟩ = some (.int .i64 y2)) := ⟨cell_regrown hy.1, cell_regrown hy.2⟩
                go_wp2_with fail
                refine wp_region_quiet_below (by assumption) (by kernel_rfl) ?_
                repeat (go_big_quiet_step (first | (go_at_call 23; exact Calls.regrown_of (HL1.out _))))
                refine wpQuiet_nil ?_
                intro _ hw'
                obtain ⟨⟨nq1, osq1⟩, hw''⟩ := hw'
                subst hw''
                have hB1 := below_regrown wr nq1 osq1
                have HI1 := Lib.hid (HI.out.on hB1)
                have hcr := (HCR.out.below hB1)
                clear p1 p2 p3 p4
                go_wp2_with fail
                generalize grow (redrawn wr nq1) osq1 = Y at *
                obtain ⟨p1, p2⟩ : (∀ d os, (grow (redrawn Y d) os).cell? ⟨b, off + i * 2, none⟩ = some (.int .i64 c1)) ∧ (∀ d os, (grow (redrawn Y d) os).cell? ⟨b, off + i * 2 + 1, none⟩ = some (.int .i64 c2)) := ⟨cell_regrown hcr.1, cell_regrown hcr.2⟩
                obtain ⟨p5, p6⟩ := cut_regrown HI1.out.box
                refine wp_region_quiet_below (by assumption) (by kernel_rfl) ?_
                repeat (go_big_quiet_step (first | (go_at_call 23; exact Calls.regrown_of (HL2.out _))))
                refine wpQuiet_nil ?_
                intro _ hw'
                obtain ⟨⟨nq2, osq2⟩, hw''⟩ := hw'
                subst hw''
                have hB2 := below_regrown Y nq2 osq2
                have HI2 := Lib.hid (HI1.out.on hB2)
                have hcr2 := CellsAt.below hcr hB2
                clear p1 p2 p5 p6
                go_wp2_with fail
                go_roundw
                case rel => exact ⟨i + 1, true, m, nx, ny, rfl, by go_num, by omega, by rw [HE.out]; exact HI2.out.skip X (.inr ⟨rfl, by have := HD2.out; omega⟩)⟩
                case measure => simp [intOf]; omega

          · have HLX : Hid (¬ lb os < X) := by show ¬ lb os < X; rw [HYL.out]; exact hxl
            have HD1 := Lib.hid hxl
            have HL1 := Lib.hid (fun W => rless_b y1 y2 c1 c2 false (by rw [HYB.out, HXK.out]; exact decide_eq_false HD1.out) HYI.out HCI.out W)
            clear hxl
            obtain ⟨p1, p2⟩ : (∀ d os, (grow (redrawn wr d) os).cell? ⟨b, off + i * 2, none⟩ = some (.int .i64 c1)) ∧ (∀ d os, (grow (redrawn wr d) os).cell? ⟨b, off + i * 2 + 1, none⟩ = some (.int .i64 c2)) := ⟨cell_regrown hc1, cell_regrown hc2⟩
            obtain ⟨p3, p4⟩ : (∀ d os, (grow (redrawn wr d) os).cell? ⟨g, q * 2, none⟩ = some (.int .i64 y1)) ∧ (∀ d os, (grow (redrawn wr d) os).cell? ⟨g, q * 2 + 1, none⟩ = some (.int .i64 y2)) := ⟨cell_regrown hy.1, cell_regrown hy.2⟩
            go_wp2_with fail
            refine wp_region_quiet_below (by assumption) (by kernel_rfl) ?_
            repeat (go_big_quiet_step (first | (go_at_call 23; exact Calls.regrown_of (HL1.out _))))
            refine wpQuiet_nil ?_
            intro _ hw'
            obtain ⟨⟨nq1, osq1⟩, hw''⟩ := hw'
            subst hw''
            have hB1 := below_regrown wr nq1 osq1
            have HI1 := Lib.hid (HI.out.on hB1)
            have hcr := (HCR.out.below hB1)
            clear p1 p2 p3 p4
            go_wp2_with fail
            generalize grow (redrawn wr nq1) osq1 = Y at *
            obtain ⟨p1, p2⟩ : (∀ d os, (grow (redrawn Y d) os).cell? ⟨b, off + i * 2, none⟩ = some (.int .i64 c1)) ∧ (∀ d os, (grow (redrawn Y d) os).cell? ⟨b, off + i * 2 + 1, none⟩ = some (.int .i64 c2)) := ⟨cell_regrown hcr.1, cell_regrown hcr.2⟩
            obtain ⟨p5, p6⟩ := cut_regrown HI1.out.box
            refine wp_region_quiet_below (by assumption) (by kernel_rfl) ?_
            repeat (go_big_quiet_step (fail))
            refine wpQuiet_nil ?_
            intro _ hw'
            obtain ⟨⟨nq2, osq2⟩, hw''⟩ := hw'
            subst hw''
            have hB2 := below_regrown Y nq2 osq2
            have HI2 := Lib.hid (HI1.out.on hB2)
            have hcr2 := CellsAt.below hcr hB2
            clear p1 p2 p5 p6
            go_wp2_with fail
            go_roundw
            case rel => exact ⟨i + 1, f, m, nx, ny, rfl, by go_num, by omega, by rw [HE.out]; exact HI2.out.skip X (.inl (by have := HLX.out; omega))⟩
            case measure => simp [intOf]; omega

        · obtain rfl : i = cs.length := by omega
          have HIL := HI
          rw [List.take_length] at HIL
          clear HI
          cases f with
          | false =>
            have HDN : Hid (∀ x ∈ cs.map kOf, ¬ lb os < x) := by
              rcases HIL.out.seen with ⟨h, _⟩ | ⟨_, h⟩
              · cases h
              · exact h
            go_wp2_with fail
            go_ret
            refine ⟨(.slice (some ⟨g, 0, none⟩) (q + 1) cap), os, ⟨rfl, (put_done _ _ HPUT.out (fun x hx => by have := HDN.out x hx; omega)).1, (put_done _ _ HPUT.out (fun x hx => by have := HDN.out x hx; omega)).2, ?_, HIL.out.own⟩, HIL.out.below⟩
            exact .inr ⟨g, cap, q, hq, rfl, by have := lt_of_block HIL.out.box; omega⟩
          | true =>
            have hseen : m ∈ cs.map kOf ∧ lb os < m ∧ ∀ x ∈ cs.map kOf, lb os < x → m ≤ x := by
              rcases HIL.out.seen with ⟨_, h⟩ | ⟨h, _⟩
              · exact h
              · cases h
            have HSE := Lib.hid hseen
            obtain ⟨e1, e2, e3⟩ := HIL.out.cut rfl
            have HCU := Lib.hid (And.intro e1 e2)
            obtain ⟨m1, m2, _, _⟩ := two_cells HIL.out.box
            have HO2 := Lib.hid (HIL.out.own.alloc (.cells #[.int .i64 nx, .int .i64 ny] 27))
            have HO3 := HO2
            rw [hq] at HO3
            have hL3 := bt HIL.out.below (below_new wr (.cells #[.int .i64 nx, .int .i64 ny] 27))
            have hsz2 := HIL.out.below.size
            have HPN := Lib.hid (put_snoc _ _ m HPUT.out HSE.out.1 HSE.out.2.1 HSE.out.2.2)
            have HLN := Lib.hid (left_snoc _ _ m HSE.out.1 HSE.out.2.1)
            have hlen := up_len _ _ HPN.out.1 HPN.out.2.1
            rw [List.length_append, List.length_singleton, List.length_map] at hlen
            clear hseen e1 e2 e3
            go_wp2_with (at_builtin; refine wpList_append_lies _ rfl _ _ 22 rfl w.heap.size 27 i0 (.agg #[.int .i64 0, .int .i64 0]) 2 16 Try.underlying22 hi hz0 hz1 hz2 rfl (by decide) _ (q + 1) (flatL os) (by rfl) HO3.out ⟨wr.heap.size, 0, none⟩ 1 1 [.int .i64 nx, .int .i64 ny] (by rfl) rfl (World.news_of_block (heap_alloc_new wr _)) (one_two nx ny) (by decide) (by unfold maxLen; omega) (by omega) (by simp; omega) _ rfl ?_; intro g2 cap2 w1 hown1 hgrow1 hat1 hlt1)
            have hL4 : Go.RowKit.Below w.heap.size w w1 := hL3.grown hgrow1 (by simp; omega) (fun k hk => (HO2.out.lt k hk).1)
            have hfl : flatL (os ++ [m]) = flatL os ++ [.int .i64 nx, .int .i64 ny] := by rw [flatL_snoc, HCU.out.1, HCU.out.2]
            have hln : (os ++ [m]).length = q + 1 + 1 := by rw [List.length_append, List.length_singleton, hq]
            go_roundg (left (cs.map kOf) (os ++ [m]))
            case measure => have := HLN.out; omega
            case rel => exact ⟨os ++ [m], _, rfl, HPN.out, Nat.le_refl _, .inr ⟨g2, cap2, q + 1, hln, rfl, hlt1⟩, by rw [List.length_append, List.length_singleton]; omega, by rw [hfl, hln]; exact hown1, hL4⟩
end Go.Proofs.Ytbpplhlkpfdegaa
