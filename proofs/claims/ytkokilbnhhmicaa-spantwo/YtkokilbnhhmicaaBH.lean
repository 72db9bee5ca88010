/- A part of the proof: contracts of the functions that the statements reach. -/
import Derived.Test.YtkokilbnhhmicaaRows
import Derived.Test.YtkokilbnhhmicaaBA
import Derived.Test.YtkokilbnhhmicaaBB
import Derived.Test.YtkokilbnhhmicaaBC
import Derived.Test.YtkokilbnhhmicaaBD
import Derived.Test.YtkokilbnhhmicaaBE
import Derived.Test.YtkokilbnhhmicaaBF
import Derived.Test.YtkokilbnhhmicaaBG
import Derived.Shelf.SlSortCmp.WholeK
import Derived.Lib.SliceRun
import Derived.Lib.SmallJoins
import Derived.Deep.SlicePairs
import Derived.OpenShut
import Derived.ChangeOld

/- The closure of span.List where two spans become one. -/
namespace Go.Proofs.Ytkokilbnhhmicaa
open Go.RowKit Go.Sort Go.Proofs.Ytkokilbnhhmicaa.Bo
set_option linter.unusedVariables false

set_option maxRecDepth 100000 in
set_option maxHeartbeats 4000000 in
theorem sjoin_join (X : World) (P n cap : Nat) (qs : List (Int × Int)) (x : Int × Int) (a : Option Addr) (k l : Int) (W : World) (hk : Ky k) (hkl : Ky l) (hx : Ky x.1 ∧ Ky x.2) (hn : n ≤ 100) (h : RowCell X P n (qs ++ [x]) a cap W) (hlt : ¬ x.2 < k) (hlk : k < l) (hxx : x.1 < x.2) (hle : x.1 ≤ k) :
    Calls Try.prog 69 #[.agg #[.int .i64 (sd k), .int .i64 (pa k), .int .i64 (sd l), .int .i64 (pa l)], .pointer (some ⟨P, 0, none⟩)] W (PutPost X P (qs ++ [(x.1, mxk x.2 l)])) := by
  have mx := mixed
  obtain ⟨i0, hi, hz0, hz1, hz2⟩ := info_parts Try.infoSpan
  obtain ⟨rfl, g, rfl, hg, hgP, _, _⟩ := h.last
  have HA := Lib.hid (fun W => sahead_any (sd x.2) (pa x.2) (sd k) (pa k) W (pa_i64 _ hx.2) (pa_i64 _ hk))
  rw [key_back _ hx.2, key_back _ hk, decide_eq_false hlt] at HA
  have HU := Lib.hid (fun W => shull_any (sp x) (sp (k, l)) W (sp_ok x hx.1 hx.2) (sp_ok (k, l) hk hkl))
  have eH : hullS (sp x) (sp (k, l)) = sp (x.1, mxk x.2 l) := by
    unfold hullS
    rw [sp_right x hx.1 hx.2, sp_right (k, l) hk hkl, decide_eq_true hxx, decide_eq_true (show (k, l).1 < (k, l).2 from hlk)]
    rw [if_pos (by rfl), sp_lo x hx.1, sp_lo (k, l) hk, sp_hi x hx.2, sp_hi (k, l) hkl]
    rw [show klow x.1 (k, l).1 = x.1 from by unfold klow; rw [if_neg (by show ¬ k < x.1; omega)]]
    rfl
  rw [eH] at HU
  dsimp only [sp] at HU
  obtain ⟨x1, e1⟩ : ∃ x, x = sd k := ⟨_, rfl⟩
  obtain ⟨y1, e2⟩ : ∃ x, x = pa k := ⟨_, rfl⟩
  obtain ⟨x2, e3⟩ : ∃ x, x = sd l := ⟨_, rfl⟩
  obtain ⟨y2, e4⟩ : ∃ x, x = pa l := ⟨_, rfl⟩
  obtain ⟨x3, e5⟩ : ∃ y, y = sd x.1 := ⟨_, rfl⟩
  obtain ⟨y3, e6⟩ : ∃ y, y = pa x.1 := ⟨_, rfl⟩
  obtain ⟨x4, e7⟩ : ∃ y, y = sd x.2 := ⟨_, rfl⟩
  obtain ⟨y4, e8⟩ : ∃ y, y = pa x.2 := ⟨_, rfl⟩
  have HE := Lib.hid (And.intro e1 (And.intro e2 (And.intro e3 e4)))
  have HF := Lib.hid (And.intro e5 (And.intro e6 (And.intro e7 e8)))
  rw [← e1, ← e2, ← e3, ← e4]
  rw [← e1, ← e2, ← e7, ← e8] at HA
  rw [← e1, ← e2, ← e3, ← e4, ← e5, ← e6, ← e7, ← e8] at HU
  obtain ⟨x5, e9⟩ : ∃ y, y = sd (mxk x.2 l) := ⟨_, rfl⟩
  obtain ⟨y5, e10⟩ : ∃ y, y = pa (mxk x.2 l) := ⟨_, rfl⟩
  rw [← e9, ← e10] at HU
  have HM := Lib.hid (And.intro e9 e10)
  clear e9 e10 hlt hlk hxx hle eH
  clear e1 e2 e3 e4 e5 e6 e7 e8 hx hk hkl
  have H1 := Lib.hid (h.on (below_new W (.cells #[.int .i64 x1, .int .i64 y1, .int .i64 x2, .int .i64 y2] 25)))
  have HB : Hid (Box4 (W.alloc (.cells #[.int .i64 x1, .int .i64 y1, .int .i64 x2, .int .i64 y2] 25)) W.heap.size ⟨x1, y1, x2, y2⟩) := heap_alloc_new _ _
  clear h
  obtain ⟨c1, c2⟩ := H1.out.got
  have tq : (0 : Int) ≤ (qs.length : Int) := by omega
  have tq0 : decide ((qs.length : Int) < 0) = false := decide_eq_false (by omega)
  have tq1 : (qs.length : Int) < ((qs.length + 1 : Nat) : Int) := by omega
  have tq2 : (qs.length : Int) < (qs.length : Int) + 1 := by omega
  go_enter Try.func69, Try.ntmps69
  go_wp2_with fail
  generalize W.alloc (.cells #[.int .i64 x1, .int .i64 y1, .int .i64 x2, .int .i64 y2] 25) = Y at *
  have HQ : Hid (Cells4 Y g (qs.length * 4) ⟨x3, y3, x4, y4⟩) := by
    obtain ⟨_, g', e, _, _, hc, _⟩ := H1.out.last
    injection e with e
    injection e with e
    subst e
    rw [HF.out.1, HF.out.2.1, HF.out.2.2.1, HF.out.2.2.2]
    exact hc
  obtain ⟨p1, p2, p3, p4⟩ := HQ.out.re
  obtain ⟨p5, p6, p7, p8⟩ := HB.out.re
  have p9 : ∀ d os, (grow (redrawn Y d) os).cell? ⟨P, 0, none⟩ = some (.slice (some ⟨g, 0, none⟩) (qs.length + 1) cap) := cell_regrown c1
  refine wp_region_quiet_below (by assumption) (by kernel_rfl) ?_
  repeat (go_big_quiet_step (first | (go_at_call 50; exact Calls.regrown_of (HA.out _))))
  refine wpQuiet_nil ?_
  intro _ hw'
  obtain ⟨⟨nq, osq⟩, hw''⟩ := hw'
  subst hw''
  have hB2 := below_regrown Y nq osq
  have H2 := Lib.hid (H1.out.on hB2)
  have HB2 := Lib.hid (HB.out.on hB2)
  have HQ2 := Lib.hid (HQ.out.below hB2)
  clear c1 c2 H1 HB hB2 HQ p1 p2 p3 p4 p5 p6 p7 p8 p9
  generalize grow (redrawn Y nq) osq = Z at *
  obtain ⟨c1, c2⟩ := H2.out.got
  obtain ⟨d1, d2, d3, d4⟩ := HB2.out.cells
  obtain ⟨q1, q2, q3, q4⟩ := HQ2.out
  go_wp2_with fail
  go_region_with (go_at_call 21; (with_reducible refine (HU.out _).mono ?_); rintro e Y3 ⟨rfl, hB3'⟩; have hB3 : Go.RowKit.Below Z.heap.size Z Y3 := bt (Go.RowKit.Below.refl _ _).drew hB3'; have H3 := Lib.hid (H2.out.on hB3); obtain ⟨f1, f2⟩ := H3.out.got; obtain ⟨r1, r2, r3, r4⟩ := HQ2.out.below hB3; have HZ3 := Lib.hid (fz_of H3.out); have z1 := HZ3.out (qs.length * 4); have z2 := HZ3.out (qs.length * 4 + 1); have z3 := HZ3.out (qs.length * 4 + 2); have z4 := HZ3.out (qs.length * 4 + 3); clear hB3')
  all_goals
    have H6 := Lib.hid (H3.out.join hg hgP (mxk x.2 l))
    rw [← HM.out.1, ← HM.out.2, ← HF.out.1, ← HF.out.2.1] at H6
    go_wp2_with fail
    go_end0
    exact ⟨rfl, qs.length + 1, some ⟨g, 0, none⟩, cap, H6.out⟩
/-- A span comes behind a row. -/
theorem sjoin_any (X : World) (P n cap : Nat) (ps : List (Int × Int)) (a : Option Addr) (k l : Int) (W : World) (hk : Ky k) (hl : Ky l) (hkl : k < l) (hn : n ≤ 100) (h : RowCell X P n ps a cap W) (hnorm : Norm ps) (hky : ∀ p ∈ ps, Ky p.1 ∧ Ky p.2) (hle : ∀ p ∈ ps, p.1 ≤ k) :
    Calls Try.prog 69 #[.agg #[.int .i64 (sd k), .int .i64 (pa k), .int .i64 (sd l), .int .i64 (pa l)], .pointer (some ⟨P, 0, none⟩)] W (PutPost X P (joinL ps k l)) := by
  rcases List.eq_nil_or_concat ps with rfl | ⟨qs, x, rfl⟩
  · obtain rfl : n = 0 := h.len
    rw [joinL_nil]
    exact sjoin_nil X P cap a k l W h
  · rw [List.concat_eq_append] at *
    have hxm : x ∈ qs ++ [x] := by simp
    by_cases hx : x.2 < k
    · rw [joinL_put qs x k l hx]
      exact sjoin_put X P n cap qs x a k l W hk hl (hky x hxm) hn h hx
    · rw [joinL_join qs x k l hx]
      exact sjoin_join X P n cap qs x a k l W hk hl (hky x hxm) hn h hx hkl (hnorm.1 x hxm) (hle x hxm)
end Go.Proofs.Ytkokilbnhhmicaa

/- slices.SortFunc at rows of spans: the shelf's contract, laid at this dump. -/
namespace Go.Proofs.Ytkokilbnhhmicaa
open Go.Shelf
def sortSpan_ren : Go.Shelf.Ren := ⟨fun | 6 => 68 | 15 => 82 | 14 => 81 | 28 => 93 | 29 => 94 | 20 => 85 | 21 => 86 | 22 => 87 | 23 => 88 | 24 => 89 | 25 => 90 | 26 => 91 | 27 => 92 | 46 => 96 | 47 => 97 | 48 => 98 | 49 => 99 | 50 => 100 | 57 => 101 | n => n, fun | 22 => 26 | 24 => 25 | 25 => 56 | 3 => 3 | 39 => 88 | 0 => 0 | 53 => 100 | 55 => 42 | 4 => 4 | 46 => 93 | 45 => 92 | 50 => 97 | 5 => 5 | 9 => 9 | 66 => 103 | 70 => 107 | 76 => 109 | 77 => 110 | n => n, fun | n => n⟩
theorem sortSpan : Go.Proofs.SlLaysF0.n6 Try.prog sortSpan_ren := {
  mixed := by kernel_rfl
  f6 := ⟨Try.f68.name, by decide, Try.func68.trans (congrArg some (by kernel_rfl))⟩
  f14 := ⟨Try.f81.name, by decide, Try.func81.trans (congrArg some (by kernel_rfl))⟩
  f15 := Try.func82.trans (congrArg some (by kernel_rfl))
  f20 := ⟨Try.f85.name, by decide, Try.func85.trans (congrArg some (by kernel_rfl))⟩
  f21 := ⟨Try.f86.name, by decide, Try.func86.trans (congrArg some (by kernel_rfl))⟩
  f22 := ⟨Try.f87.name, by decide, Try.func87.trans (congrArg some (by kernel_rfl))⟩
  f23 := ⟨Try.f88.name, by decide, Try.func88.trans (congrArg some (by kernel_rfl))⟩
  f24 := ⟨Try.f89.name, by decide, Try.func89.trans (congrArg some (by kernel_rfl))⟩
  f25 := ⟨Try.f90.name, by decide, Try.func90.trans (congrArg some (by kernel_rfl))⟩
  f26 := ⟨Try.f91.name, by decide, Try.func91.trans (congrArg some (by kernel_rfl))⟩
  f27 := ⟨Try.f92.name, by decide, Try.func92.trans (congrArg some (by kernel_rfl))⟩
  f28 := Try.func93.trans (congrArg some (by kernel_rfl))
  f29 := Try.func94.trans (congrArg some (by kernel_rfl))
  f46 := ⟨Try.f96.name, by decide, Try.func96.trans (congrArg some (by kernel_rfl))⟩
  f47 := Try.func97.trans (congrArg some (by kernel_rfl))
  f48 := Try.func98.trans (congrArg some (by kernel_rfl))
  f49 := ⟨Try.f99.name, by decide, Try.func99.trans (congrArg some (by kernel_rfl))⟩
  f50 := ⟨Try.f100.name, by decide, Try.func100.trans (congrArg some (by kernel_rfl))⟩
  f57 := ⟨Try.f101.name, by decide, Try.func101.trans (congrArg some (by kernel_rfl))⟩
  t0 := Try.underlying0
  a0 := Try.isAgg0
  z0 := Try.sizeOf0
  v0 := Try.zeroValue0
  t3 := Try.underlying3
  a3 := Try.isAgg3
  z3 := Try.sizeOf3
  v3 := Try.zeroValue3
  t4 := Try.underlying4
  a4 := Try.isAgg4
  z4 := Try.sizeOf4
  v4 := Try.zeroValue4
  t5 := Try.underlying5
  a5 := Try.isAgg5
  z5 := Try.sizeOf5
  v5 := Try.zeroValue5
  t9 := Try.underlying9
  a9 := Try.isAgg9
  z9 := Try.sizeOf9
  v9 := Try.zeroValue9
  t22 := Try.underlying26
  a22 := Try.isAgg26
  z22 := Try.sizeOf26
  v22 := Try.zeroValue26
  t25 := Try.underlying56
  a25 := Try.isAgg56
  z25 := Try.sizeOf56
  v25 := Try.zeroValue56
  t39 := Try.underlying88
  a39 := Try.isAgg88
  z39 := Try.sizeOf88
  v39 := Try.zeroValue88
  t45 := Try.underlying92
  a45 := Try.isAgg92
  z45 := Try.sizeOf92
  v45 := Try.zeroValue92
  t46 := Try.underlying93
  a46 := Try.isAgg93
  z46 := Try.sizeOf93
  v46 := Try.zeroValue93
  t50 := Try.underlying97
  a50 := Try.isAgg97
  z50 := Try.sizeOf97
  v50 := Try.zeroValue97
  t53 := Try.underlying100
  a53 := Try.isAgg100
  z53 := Try.sizeOf100
  v53 := Try.zeroValue100
  t55 := Try.underlying42
  a55 := Try.isAgg42
  z55 := Try.sizeOf42
  v55 := Try.zeroValue42
  t66 := Try.underlying103
  a66 := Try.isAgg103
  z66 := Try.sizeOf103
  v66 := Try.zeroValue103
  t70 := Try.underlying107
  a70 := Try.isAgg107
  z70 := Try.sizeOf107
  v70 := Try.zeroValue107
  t76 := Try.underlying109
  a76 := Try.isAgg109
  z76 := Try.sizeOf109
  v76 := Try.zeroValue109
  t77 := Try.underlying110
  a77 := Try.isAgg110
  z77 := Try.sizeOf110
  v77 := Try.zeroValue110 }
end Go.Proofs.Ytkokilbnhhmicaa

/- slices.Clone and slices.SortFunc by span.Compare over a row of spans; at none, too. -/
namespace Go.Proofs.Ytkokilbnhhmicaa
open Go.RowKit Go.Sort Go.Shelf Go.Proofs.Ytkokilbnhhmicaa.Bo
set_option linter.unusedVariables false

/-- A block of cap spans. -/
def SBlk (w : World) (g cap : Nat) : Prop := ∃ cur, w.heap[g]? = some (.cells cur 25 (0, 0)) ∧ cur.size = cap * 4
theorem SBlk.lt {w : World} {g cap : Nat} (h : SBlk w g cap) : g < w.heap.size := by obtain ⟨_, h, _⟩ := h; exact lt_of_block h
theorem SBlk.free {w : World} {g cap : Nat} (h : SBlk w g cap) (i : Nat) : w.frozen? ⟨g, i, none⟩ = false := by
  obtain ⟨cur, h, hs⟩ := h
  exact frozen_of_row _ _ i _ _ h
/-- The block's first spans are those of l. -/
def SRowAt (w : World) (g cap : Nat) (l : List S4) : Prop := SBlk w g cap ∧ l.length ≤ cap ∧ ∀ (j : Nat) (h : j < l.length), Cells4 w g (j * 4) l[j]
theorem SRowAt.srow {w : World} {g cap : Nat} {l : List S4} (h : SRowAt w g cap l) : SRow w (some ⟨g, 0, none⟩) l := fun _ => ⟨g, 0, rfl, fun j hj => by rw [Nat.zero_add]; exact h.2.2 j hj⟩
theorem own_rowAt {w : World} {base g cap n : Nat} {l : List S4} (h : w.ownsRow base 25 4 (.slice (some ⟨g, 0, none⟩) n cap) n (flatS l)) (hn : n = l.length) : SRowAt w g cap l ∧ base ≤ g := by
  have hs := own_flatS h hn
  rcases h.2 with ⟨h1, _⟩ | ⟨g', cap', cur, h1, hb, hh, hnc, hcm, hcs, htake⟩
  · cases h1
  · injection h1 with e1 e2 e3
    injection e1 with e1
    injection e1 with e1
    subst e1 e3
    refine ⟨⟨⟨cur, hh, hcs⟩, by omega, fun j hj => ?_⟩, hb⟩
    obtain ⟨b, off, e, hc⟩ := hs (by omega)
    injection e with e
    injection e with e1 e2
    subst e1 e2
    have := hc j hj
    rwa [Nat.zero_add] at this

/-- A span, with the word that its numbers fit. -/
abbrev KS := {q : S4 // q.ok}
instance : Inhabited KS := ⟨⟨⟨0, 0, 0, 0⟩, ⟨⟨by decide, by decide⟩, ⟨by decide, by decide⟩⟩⟩⟩
def encS (x : KS) : List Value := [.int .i64 x.1.ls, .int .i64 x.1.la, .int .i64 x.1.hs, .int .i64 x.1.ha]
def cfS (x y : KS) : Int := scmp x.1 y.1
theorem ltS (x y : KS) : ltOf cfS x y = decide (x.1.lo < y.1.lo ∨ (x.1.lo = y.1.lo ∧ x.1.hi < y.1.hi)) := by
  unfold ltOf cfS scmp kcmp
  rcases Int.lt_trichotomy x.1.lo y.1.lo with h | h | h
  · simp [h]
  · rcases Int.lt_trichotomy x.1.hi y.1.hi with g | g | g
    · simp [h, g]
    · simp [h, g]
    · have g' : ¬ x.1.hi < y.1.hi := by omega
      simp [h, g, g']
  · have h' : ¬ x.1.lo < y.1.lo := by omega
    have h2 : ¬ x.1.lo = y.1.lo := by omega
    simp [h, h', h2]
theorem swoS : SWO (ltOf cfS) where
  irrefl x := by rw [ltS]; simp
  trans x y z h1 h2 := by rw [ltS] at *; simp at *; omega
  ntrans x y z h1 h2 := by rw [ltS] at *; simp at *; omega
theorem cmpLaysS (blk off size : Nat) (w : World) : CmpLays Try.prog 43 #[] encS 4 cfS blk off size w := by
  intro m os dk _ x y
  have h := scompare_any x.1 y.1 (sortWorldK encS 4 w blk off m dk os) x.2 y.2
  exact h.mono fun _ _ h => ⟨h.1, h.2.grown⟩

/-- The row as the sort's kit holds it. -/
theorem holds_rowS {w : World} {g cap : Nat} {l : List S4} (h : SRowAt w g cap l) (d : Array KS) (hd : d.toList.map (·.1) = l) : HoldsK encS 4 w g 0 d := by
  have hl : d.size = l.length := by rw [← hd]; simp
  intro j hj
  rw [size_flatK] at hj
  rw [get_flatK _ _ _ _ hj]
  have hq : j / 4 < l.length := by omega
  have hc := h.2.2 (j / 4) hq
  have e : (d[j / 4]!).1 = l[j / 4] := by
    rw [getElem!_pos d (j / 4) (by omega)]
    have : (d.toList.map (·.1))[j / 4]'(by simp; omega) = l[j / 4] := by simp only [hd]
    simpa using this
  refine ⟨?_, h.1.free _⟩
  rcases (show j % 4 = 0 ∨ j % 4 = 1 ∨ j % 4 = 2 ∨ j % 4 = 3 by omega) with e2 | e2 | e2 | e2
  · rw [e2, show 0 + j = j / 4 * 4 by omega, hc.1, ← e]; rfl
  · rw [e2, show 0 + j = j / 4 * 4 + 1 by omega, hc.2.1, ← e]; rfl
  · rw [e2, show 0 + j = j / 4 * 4 + 2 by omega, hc.2.2.1, ← e]; rfl
  · rw [e2, show 0 + j = j / 4 * 4 + 3 by omega, hc.2.2.2, ← e]; rfl
theorem row_holdsS {w : World} {g cap : Nat} {l : List S4} (d : Array KS) (hd : d.toList.map (·.1) = l) (hb : SBlk w g cap) (hl : l.length ≤ cap) (h : HoldsK encS 4 w g 0 d) : SRowAt w g cap l := by
  have hs : d.size = l.length := by rw [← hd]; simp
  refine ⟨hb, hl, fun j hj => ?_⟩
  have e : (d[j]!).1 = l[j] := by
    rw [getElem!_pos d j (by omega)]
    have : (d.toList.map (·.1))[j]'(by simp; omega) = l[j] := by simp only [hd]
    simpa using this
  have c0 := (h.cell (i := j) (c := 0) (by omega) (by omega)).1
  have c1 := (h.cell (i := j) (c := 1) (by omega) (by omega)).1
  have c2 := (h.cell (i := j) (c := 2) (by omega) (by omega)).1
  have c3 := (h.cell (i := j) (c := 3) (by omega) (by omega)).1
  rw [Nat.zero_add, Nat.add_zero] at c0
  rw [Nat.zero_add] at c1 c2 c3
  unfold Cells4
  rw [c0, c1, c2, c3, ← e]
  exact ⟨rfl, rfl, rfl, rfl⟩
theorem blk_sortedS {w : World} {g cap : Nat} (h : SBlk w g cap) (m : Nat) (d : Array KS) (os : Array Obj) : SBlk (sortWorldK encS 4 w g 0 m d os) g cap := by
  obtain ⟨cur, h1, h2⟩ := h
  refine ⟨putCells id 0 (flatK encS 4 d) cur, ?_, by simp [putCells, h2]⟩
  unfold sortWorldK putRowK putRow mapBlock grow
  rw [Array.getElem?_append_left (by simp; exact lt_of_block h1)]
  simp only [Array.getElem?_modify, if_true, heap_ahead, h1]
  rfl
theorem below_sortedS {w : World} {B g : Nat} (hB : B ≤ g) (hg : g < w.heap.size) (m : Nat) (d : Array KS) (os : Array Obj) : Go.RowKit.Below B w (sortWorldK encS 4 w g 0 m d os) := by
  refine ⟨rfl, rfl, rfl, ?_, fun k hk => ?_⟩
  · unfold sortWorldK; rw [size_grow]; simp [putRowK]
  · unfold sortWorldK putRowK putRow mapBlock grow
    rw [Array.getElem?_append_left (by simp; omega)]
    simp only [Array.getElem?_modify, heap_ahead]
    rw [if_neg (by omega)]
/-- What the sort leaves. -/
def SortPost (B g cap : Nat) (l : List S4) (w : World) (e : Ending) (w' : World) : Prop :=
  (e = .returned (.tuple #[]) ∧ ∃ ls : List S4, ls.length = l.length ∧ ls.Pairwise (fun q r => q.lo ≤ r.lo) ∧ (∀ x, x ∈ ls ↔ x ∈ l) ∧ SRowAt w' g cap ls) ∧ Go.RowKit.Below B w w'
theorem sortfuncS_any (B g cap : Nat) (l : List S4) (w : World) (hB : B ≤ g) (hrow : SRowAt w g cap l) (hok : ∀ q ∈ l, q.ok) (hn : l.length ≤ 100000) :
    Calls Try.prog 68 #[.slice (some ⟨g, 0, none⟩) l.length cap, .func (.func 43) #[] #[]] w (SortPost B g cap l w) := by
  have eg : ∀ args w, (callFunc 43 args).run Try.prog w = .ok (.enter 43 args) w := enters_of Try.func43 (by kernel_rfl) rfl
  obtain ⟨d, hd⟩ : ∃ d : Array KS, d.toList.map (·.1) = l := ⟨(l.attachWith S4.ok hok).toArray, by simp⟩
  have hs : d.size = l.length := by rw [← hd]; simp
  have hH := holds_rowS hrow d hd
  have h := AnyQ.slices_SortFunc sortSpan 4 (fun w => Try.isAgg25 w) (fun w => Try.sizeOf25 w) encS (fun _ => rfl) (fun x v hv => by simp [encS] at hv; rcases hv with rfl | rfl | rfl | rfl <;> rfl) cfS swoS 43 #[] g 0 cap d w eg (cmpLaysS g 0 d.size w) hH hrow.1.lt (by omega)
  rw [hs] at h
  refine h.mono ?_
  rintro e w' ⟨he, d', n, os, hp, hst, rfl⟩
  have hs' : d'.size = d.size := hp.1
  have hperm : d'.toList.Perm d.toList := by
    have := hp.2.2
    rw [← hs, Array.extract_size] at this
    rwa [show d'.extract 0 d.size = d' from by rw [← hs', Array.extract_size]] at this
  refine ⟨⟨he, d'.toList.map (·.1), by simp; omega, ?_, fun x => ?_, ?_⟩, below_sortedS hB hrow.1.lt n d' os⟩
  · rw [List.pairwise_map, List.pairwise_iff_getElem]
    intro i j hi hj hij
    have hi' : i < d'.size := by simpa using hi
    have hj' : j < d'.size := by simpa using hj
    have := hst i j (Nat.zero_le _) hij (by omega)
    rw [ltS, getElem!_pos d' i hi', getElem!_pos d' j hj'] at this
    simp at this
    simpa using this.1
  · rw [← hd]
    exact (hperm.map (·.1)).mem_iff
  · refine row_holdsS d' rfl (blk_sortedS hrow.1 n d' os) (by simp; have := hrow.2.1; omega) ?_
    exact holdsK_sortWorldK_c encS 4 w g 0 d d' n os hH hrow.1.lt hs'

theorem insnone_any (p : Option Addr) (cap : Nat) (fv : Value) (w : World) :
    Calls Try.prog 85 #[.slice p 0 cap, .int .i64 0, .int .i64 0, fv] w fun e w' => e = .returned (.tuple #[]) ∧ w' = w := by
  go_enter Try.func85, Try.ntmps85
  go_wp2
  refine wp_loop_rounds 1 ?_
  rw [rounds_succ]
  go_wp2
  go_end0
  exact ⟨rfl, rfl⟩
set_option maxHeartbeats 2000000 in
theorem pdqnone_any (p : Option Addr) (cap : Nat) (lim : Int) (fv : Value) (w : World) :
    Calls Try.prog 81 #[.slice p 0 cap, .int .i64 0, .int .i64 0, .int .i64 lim, fv] w fun e w' => e = .returned (.tuple #[]) ∧ w' = w := by
  go_enter Try.func81, Try.ntmps81
  go_wp2
  refine wp_loop_rounds 1 ?_
  rw [rounds_succ]
  go_wp2_with (go_at_call 85; refine (insnone_any _ _ _ _).mono ?_; rintro e w' ⟨rfl, rfl⟩)
  (try simp only [Exit.inBlock, Exit.then]); refine bodyPost_ret (results_none rfl _ _ _) rfl ?_
  exact ⟨rfl, rfl⟩
set_option maxHeartbeats 2000000 in
theorem sortnone_any (p : Option Addr) (cap : Nat) (fv : Value) (w : World) :
    Calls Try.prog 68 #[.slice p 0 cap, fv] w fun e w' => e = .returned (.tuple #[]) ∧ w' = w := by
  have hl : ∀ W, Calls Try.prog 82 #[.int .u64 0] W fun e w' => e = .returned (.int .i64 (Lib.bitLen 0 : Nat)) ∧ w' = W := fun W => by
    have h := Any.bits_Len (Go.Proofs.SlLaysF0.n15.bits (P := Try.prog) (ρ := sortSpan_ren) { sortSpan with }) 0 W (by omega) (by omega)
    exact h
  go_enter Try.func68, Try.ntmps68
  go_wp2_with (first | (go_at_call 82; refine (hl _).mono ?_; rintro e w' ⟨rfl, rfl⟩) | (go_at_call 81; refine (pdqnone_any _ _ _ _ _).mono ?_; rintro e w' ⟨rfl, rfl⟩))
  go_end0
  exact ⟨rfl, rfl⟩

/-- What Clone leaves. -/
def ClonePost (l : List S4) (w : World) (e : Ending) (w' : World) : Prop :=
  (∃ (a : Option Addr) (cap : Nat), e = .returned (.slice a l.length cap) ∧ (0 < l.length → ∃ g, a = some ⟨g, 0, none⟩ ∧ w.heap.size ≤ g ∧ SRowAt w' g cap l)) ∧ Go.RowKit.Below w.heap.size w w'
set_option maxRecDepth 100000 in
set_option maxHeartbeats 2000000 in
theorem clone_any (a : Option Addr) (cap0 : Nat) (l : List S4) (w : World) (hr : SRow w a l) (hl : l.length ≤ 1000) :
    Calls Try.prog 67 #[.slice a l.length cap0] w (ClonePost l w) := by
  obtain ⟨i0, hi, hz0, hz1, hz2⟩ := info_parts Try.infoSpan
  have q22 : ∀ (w : World) (a : Option Addr) (n c n' c' : Nat), (binOp .eql 26 (.slice a n c) (.slice none n' c')).run Try.prog w = .ok (.bool a.isNone) w := fun w a n c n' c' => Lib.run_eql_slice_nil w _ _ a n c n' c' Try.underlying26
  cases a with
  | none =>
    have h0 : l.length = 0 := by
      rcases Nat.eq_zero_or_pos l.length with h | h
      · exact h
      · obtain ⟨_, _, e, _⟩ := hr h; cases e
    obtain rfl := List.length_eq_zero_iff.1 h0
    clear hr
    go_enter Try.func67, Try.ntmps67
    go_wp2_with fail
    go_ret
    exact ⟨⟨none, 0, rfl, fun h => by simp at h⟩, Go.RowKit.Below.refl _ _⟩
  | some ad =>
    have hB0 := below_new w (.cells #[] 25)
    have hO0 : (w.alloc (.cells #[] 25)).ownsRow w.heap.size 25 4 (.slice (some ⟨w.heap.size, 0, none⟩) 0 0) 0 [] := ⟨rfl, .inr ⟨w.heap.size, 0, #[], rfl, Nat.le_refl _, heap_alloc_new _ _, Nat.le_refl _, Nat.zero_le _, rfl, rfl⟩⟩
    have HA1 := Lib.hid (And.intro hO0 (hr.below hB0))
    clear hr hO0
    go_enter Try.func67, Try.ntmps67
    go_wp2_with (at_builtin; refine wpList_append_rows _ rfl _ _ 26 rfl w.heap.size 25 i0 (.agg #[.int .i64 0, .int .i64 0, .int .i64 0, .int .i64 0]) 32 Try.underlying26 hi hz0 hz1 hz2 rfl _ 0 [] (by rfl) HA1.out.1 (some ad) cap0 l (by rfl) HA1.out.2 (by unfold maxLen; omega) (by omega) (by simp) ?_; intro a1 cap1 w1 hown1 hgrow1; rw [Nat.zero_add, List.nil_append] at hown1; have hB1 : Go.RowKit.Below w.heap.size w w1 := hB0.grown hgrow1 (by simp) (fun k hk => (HA1.out.1.lt k hk).1); have HA2 := Lib.hid hown1; clear hown1 hgrow1 hB0)
    go_ret
    refine ⟨⟨a1, cap1, rfl, fun hp => ?_⟩, hB1⟩
    rcases HA2.out.2 with ⟨_, h2⟩ | ⟨g, cap', cur, h1, _⟩
    · omega
    · injection h1 with e1 _ _
      subst e1
      have := own_rowAt HA2.out rfl
      exact ⟨g, rfl, this.2, this.1⟩
/-- What the sort leaves, of a row, or of none. -/
def SortedPost (B : Nat) (a : Option Addr) (l : List S4) (w : World) (e : Ending) (w' : World) : Prop :=
  ∃ ms : List S4, (e = .returned (.tuple #[]) ∧ ms.length = l.length ∧ ms.Pairwise (fun q r => q.lo ≤ r.lo) ∧ (∀ x, x ∈ ms ↔ x ∈ l) ∧ SRow w' a ms) ∧ Go.RowKit.Below B w w'
theorem ssort_any (B : Nat) (a : Option Addr) (cap : Nat) (l : List S4) (w : World) (hok : ∀ q ∈ l, q.ok) (hn : l.length ≤ 100000) (hrow : 0 < l.length → ∃ g, a = some ⟨g, 0, none⟩ ∧ B ≤ g ∧ SRowAt w g cap l) :
    Calls Try.prog 68 #[.slice a l.length cap, .func (.func 43) #[] #[]] w (SortedPost B a l w) := by
  rcases Nat.eq_zero_or_pos l.length with h | h
  · have h2 := sortnone_any a cap (.func (.func 43) #[] #[]) w
    rw [h]
    refine h2.mono ?_
    rintro e w' ⟨rfl, rfl⟩
    obtain rfl := List.length_eq_zero_iff.1 h
    exact ⟨[], ⟨rfl, rfl, List.Pairwise.nil, fun x => Iff.rfl, fun h => by simp at h⟩, Go.RowKit.Below.refl _ _⟩
  · obtain ⟨g, rfl, hB, hr⟩ := hrow h
    refine (sortfuncS_any B g cap l w hB hr hok hn).mono ?_
    rintro e w' ⟨⟨rfl, ms, h1, h2, h3, h4⟩, h5⟩
    exact ⟨ms, ⟨rfl, h1, h2, h3, h4.srow⟩, h5⟩
end Go.Proofs.Ytkokilbnhhmicaa

/- The contracts of span.List and span.Sorted. -/
namespace Go.Proofs.Ytkokilbnhhmicaa
open Go.RowKit Go.Sort Go.Proofs.Ytkokilbnhhmicaa.Bo
set_option linter.unusedVariables false

set_option maxRecDepth 100000 in
set_option maxHeartbeats 4000000 in
theorem slist_any (a : Option Addr) (cap0 : Nat) (l : List S4) (w : World) (hz : ∀ q ∈ l, q.ok) (hr : SRow w a l) (hl : l.length ≤ 50) :
    Calls Try.prog 39 #[.slice a l.length cap0] w (ListPost (cov (rights l)) l.length w) := by
  have hmf : ∀ (fn : Fn) (first cap : Array Value) (w : World), (Instr.makeFunc fn first cap).run Try.prog w = .ok (.func fn first cap) w := fun _ _ _ _ => rfl
  have mx := mixed
  have HCL := Lib.hid (clone_any a cap0 l w hr (by omega))
  have HZ := Lib.hid hz
  clear hr hz
  go_enter Try.func39, Try.ntmps39
  go_wp2_with fail
  refine HCL.out.mono ?_
  rintro e y1 ⟨⟨a1, cap1, rfl, hrow⟩, hB1⟩
  have HSO := Lib.hid (ssort_any w.heap.size a1 cap1 l y1 HZ.out (by omega) hrow)
  clear hrow HCL
  go_wp2_with fail
  refine HSO.out.mono ?_
  rintro e Y ⟨ms, ⟨rfl, hml, hso, hmem, hsr⟩, hBs⟩
  have HLY := Lib.hid (hB1.trans hBs)
  have HSO2 := Lib.hid hso
  have HMEM := Lib.hid hmem
  have HSR := Lib.hid hsr
  have HOK : Hid (∀ q ∈ ms, q.ok) := fun q hq => HZ.out q ((hmem q).1 hq)
  have HML := Lib.hid hml
  rw [← hml]
  clear hso hmem hsr hB1 hBs HSO hml
  have HR0 : Hid (RowCell Y Y.heap.size 0 [] none 0 (Y.alloc (.cells #[.slice none 0 0] 26))) := ⟨rfl, heap_alloc_new _ _, ⟨rfl, .inl ⟨rfl, rfl⟩⟩, below_new _ _, Nat.le_refl _⟩
  go_wp2_with fail
  go_loopw [15] (fun i wr => ∃ (j n cap : Nat) (a2 : Option Addr) (ps : List (Int × Int)), i = .int .i64 (j : Int) ∧ j ≤ ms.length ∧ RowCell Y Y.heap.size n ps a2 cap wr ∧ LInv ms j ps) (fun i _ => ms.length - (intOf i).toNat)
  case atStart => exact ⟨0, 0, 0, none, [], rfl, Nat.zero_le _, HR0.out, LInv.start ms⟩
  case round =>
    obtain ⟨j, n, cap, a2, ps, rfl, hj, hcell, hinv⟩ := hrel
    have HC := Lib.hid hcell
    have HI := Lib.hid hinv
    have hmn : ms.length ≤ 50 := by rw [HML.out]; exact hl
    clear hcell hinv
    by_cases hlt : j < ms.length
    · obtain ⟨b, off, rfl, hcs⟩ := (HSR.out.below HC.out.below) (by omega)
      obtain ⟨c1, c2, c3, c4⟩ := hcs j hlt
      have HRT := Lib.hid (fun W => sright_any ms[j] W (HOK.out _ (List.getElem_mem hlt)))
      have hn100 : n ≤ 100 := by have h1 := HC.out.len; have h2 := HI.out.len; omega
      have HNO : Hid (ms[j].right = false → LInv ms (j + 1) ps) := fun h => HI.out.skip hlt h
      have HYE : Hid (ms[j].right = true → LInv ms (j + 1) (joinL ps ms[j].lo ms[j].hi) ∧ ∀ W, RowCell Y Y.heap.size n ps a2 cap W → Calls Try.prog 69 #[.agg #[.int .i64 ms[j].ls, .int .i64 ms[j].la, .int .i64 ms[j].hs, .int .i64 ms[j].ha], .pointer (some ⟨Y.heap.size, 0, none⟩)] W (PutPost Y Y.heap.size (joinL ps ms[j].lo ms[j].hi))) := by
        intro h
        have hok := HOK.out _ (List.getElem_mem hlt)
        refine ⟨HI.out.step HSO2.out hlt h hok, fun W hW => ?_⟩
        obtain ⟨e, hlo⟩ := sp_of_right _ h
        have h2 := sjoin_any Y Y.heap.size n cap ps a2 ms[j].lo ms[j].hi W (S4.ky_lo _ hok) (S4.ky_hi _ hok) hlo hn100 hW HI.out.norm HI.out.ky (HI.out.le HSO2.out hlt)
        have e1 : (.agg #[.int .i64 ms[j].ls, .int .i64 ms[j].la, .int .i64 ms[j].hs, .int .i64 ms[j].ha] : Value) = .agg #[.int .i64 (sd ms[j].lo), .int .i64 (pa ms[j].lo), .int .i64 (sd ms[j].hi), .int .i64 (pa ms[j].hi)] := congrArg (fun q : S4 => vS q) e
        rw [e1]
        exact h2
      clear hcs
      generalize joinL ps ms[j].lo ms[j].hi = qs at *
      generalize ms[j] = q at *
      generalize q.right = R at *
      have ti0 : (0 : Int) ≤ (j : Int) := by omega
      have ti1 : (j : Int) < (ms.length : Int) := by omega
      go_wp2_with fail
      have hBx : Box4 (wr.alloc (.cells #[.int .i64 q.ls, .int .i64 q.la, .int .i64 q.hs, .int .i64 q.ha] 25)) wr.heap.size q := heap_alloc_new _ _
      have HC1 := Lib.hid (HC.out.on (below_new wr (.cells #[.int .i64 q.ls, .int .i64 q.la, .int .i64 q.hs, .int .i64 q.ha] 25)))
      refine (HRT.out _).mono ?_
      rintro e y3 ⟨rfl, hB3⟩
      have HC2 := Lib.hid (HC1.out.on hB3)
      have HB3 := Lib.hid (hBx.on hB3)
      obtain ⟨d1, d2, d3, d4⟩ := HB3.out.cells
      clear hBx HC1 hB3 c1 c2 c3 c4 HRT
      cases R with
      | false =>
        have HI2 := Lib.hid (HNO.out rfl)
        clear HNO HYE
        go_wp2_with fail
        go_roundw
        case rel => exact ⟨j + 1, n, cap, a2, ps, by go_num, by omega, HC2.out, HI2.out⟩
        case measure => simp [intOf]; omega
      | true =>
        have HI2 := Lib.hid (HYE.out rfl).1
        have HCA := Lib.hid (HYE.out rfl).2
        clear HNO HYE
        go_wp2_with fail
        refine (HCA.out _ HC2.out).mono ?_
        rintro e y4 ⟨rfl, n', a', cap', hR'⟩
        have HC3 := Lib.hid hR'
        clear hR' d1 d2 d3 d4
        go_wp2_with fail
        go_roundw
        case rel => exact ⟨j + 1, n', cap', a', qs, by go_num, by omega, HC3.out, HI2.out⟩
        case measure => simp [intOf]; omega
    · obtain rfl : j = ms.length := by omega
      obtain ⟨g1, g2⟩ := HC.out.got
      go_wp2_with fail
      go_ret
      have hi := HI.out
      refine ⟨a2, cap, ps, ⟨by rw [← HC.out.len]; rfl, hi.norm, fun m => ?_, hi.ky, by rw [← HML.out]; exact hi.len, own_srow HC.out.own HC.out.len⟩, bt HLY.out HC.out.below⟩
      rw [hi.cov m, List.take_length]
      exact cov_mem ms l HMEM.out m
end Go.Proofs.Ytkokilbnhhmicaa

/- The contract of span.Sorted. -/
namespace Go.Proofs.Ytkokilbnhhmicaa
open Go.RowKit Go.Sort Go.Proofs.Ytkokilbnhhmicaa.Bo
set_option linter.unusedVariables false

set_option maxRecDepth 100000 in
set_option maxHeartbeats 4000000 in
theorem ssorted_any (a : Option Addr) (cap : Nat) (l : List S4) (D : Bool) (hD : D = true ↔ sortedL l) (w : World) (hz : ∀ q ∈ l, q.ok) (hr : SRow w a l) (hl : l.length ≤ 100000) :
    Calls Try.prog 40 #[.slice a l.length cap] w fun e w' => e = .returned (.bool D) ∧ Go.RowKit.Below w.heap.size w w' := by
  have mx := mixed
  have HR := Lib.hid hr
  have HZ := Lib.hid hz
  have HD := Lib.hid hD
  clear hr hz hD
  go_enter Try.func40, Try.ntmps40
  go_wp2_with fail
  refine (first_b _).mono ?_
  rintro e x1 ⟨rfl, hB1⟩
  have hL1 := bt hB1 (below_new x1 (.cells #[.int .i64 (-1), .int .i64 0] 23))
  have hE1 := heap_alloc_new x1 (.cells #[.int .i64 (-1), .int .i64 0] 23)
  have HX := Lib.hid (And.intro hL1 hE1)
  have hsx : w.heap.size ≤ x1.heap.size := hB1.size
  clear hL1 hE1 hB1
  go_wp2_with fail
  go_loopw [9] (fun i wr => ∃ (j : Nat) (s t : Int), i = .int .i64 (j : Int) ∧ j ≤ l.length ∧ wr.heap[x1.heap.size]? = some (.cells #[.int .i64 s, .int .i64 t] 23 (0, 0)) ∧ I64 t ∧ (j = 0 → key s t = -9223372036854775808) ∧ (∀ k (hk : k < l.length), j = k + 1 → key s t = l[k].hi) ∧ (∀ k (hk : k < l.length), k < j → okAt l k hk = true) ∧ Go.RowKit.Below w.heap.size w wr) (fun i _ => l.length - (intOf i).toNat)
  case atStart => exact ⟨0, -1, 0, rfl, Nat.zero_le _, HX.out.2, ⟨by decide, by decide⟩, fun _ => by decide, fun k _ h => absurd h.symm (Nat.succ_ne_zero _), fun k _ h => absurd h (Nat.not_lt_zero _), HX.out.1⟩
  case round =>
    obtain ⟨j, s, t, rfl, hj, hE, ht, hk0, hk1, hall, hBr⟩ := hrel
    have HE := Lib.hid hE
    have HALL := Lib.hid hall
    clear hall hE HX
    by_cases hlt : j < l.length
    · obtain ⟨b, off, rfl, hc⟩ := (HR.out.below hBr) (by omega)
      obtain ⟨c1, c2, c3, c4⟩ := hc j hlt
      have HOK : Hid (l[j].ok) := HZ.out _ (List.getElem_mem hlt)
      have HRT := Lib.hid (fun W => sright_any l[j] W HOK.out)
      have HAH := Lib.hid (fun W => sahead_any l[j].ls l[j].la s t W HOK.out.1 ht)
      have HOA : Hid (okAt l j hlt = (l[j].right && !decide (key l[j].ls l[j].la < key s t))) := by
        show _ = _
        unfold okAt
        congr 1
        rcases Nat.eq_zero_or_pos j with h0 | h0
        · subst h0
          rw [dif_neg (by omega), hk0 rfl]
          have := key_ky l[0].ls l[0].la HOK.out.1
          unfold Ky at this
          rw [decide_eq_false (by omega)]; rfl
        · obtain ⟨k, rfl⟩ : ∃ k, j = k + 1 := ⟨j - 1, by omega⟩
          rw [dif_pos (by omega), hk1 k (by omega) rfl]; rfl
      have HBAD : Hid (okAt l j hlt = false → D = false) := by
        intro h
        rcases hq : D with _ | _
        · rfl
        · have := HD.out.1 hq j hlt; rw [h] at this; cases this
      have HGO : Hid (okAt l j hlt = true → ∀ k (hk : k < l.length), k < j + 1 → okAt l k hk = true) := by
        intro h k hk hkj
        rcases Nat.lt_or_ge k j with h1 | h1
        · exact HALL.out k hk h1
        · have : k = j := by omega
          subst this; exact h
      have HHI : Hid (∀ k (hk : k < l.length), j + 1 = k + 1 → key l[j].hs l[j].ha = l[k].hi) := by
        intro k hk e
        have : k = j := by omega
        subst this; rfl
      have ti0 : (0 : Int) ≤ (j : Int) := by omega
      have ti1 : (j : Int) < (l.length : Int) := by omega
      clear hc hk0 hk1
      generalize decide (key l[j].ls l[j].la < key s t) = A at *
      generalize l[j].right = R at *
      generalize okAt l j hlt = K at *
      generalize l[j] = q at *
      have hxr : x1.heap.size < wr.heap.size := lt_of_block HE.out
      go_wp2_with fail
      have hBx : Box4 (wr.alloc (.cells #[.int .i64 q.ls, .int .i64 q.la, .int .i64 q.hs, .int .i64 q.ha] 25)) wr.heap.size q := heap_alloc_new _ _
      refine (HRT.out _).mono ?_
      rintro e y3 ⟨rfl, hB3⟩
      have hB4 := bt (below_new wr (.cells #[.int .i64 q.ls, .int .i64 q.la, .int .i64 q.hs, .int .i64 q.ha] 25)) hB3
      have HE3 := Lib.hid (box_on HE.out hB4)
      have HB3 := Lib.hid (hBx.on hB3)
      have hL3 := bt hBr hB4
      obtain ⟨d1, d2, d3, d4⟩ := HB3.out.cells
      obtain ⟨f1, f2, f3, f4⟩ := two_cells HE3.out
      clear hBx hB3 hB4 c1 c2 c3 c4 HRT
      cases R with
      | false =>
        have HF : Hid (D = false) := HBAD.out (by rw [HOA.out]; rfl)
        go_wp2_with fail
        go_ret
        exact ⟨ret_bool HF.out.symm, hL3⟩
      | true =>
        go_wp2_with fail
        refine (HAH.out _).mono ?_
        rintro e y5 ⟨rfl, hB5⟩
        have HE5 := Lib.hid (box_on HE3.out hB5)
        have HB5 := Lib.hid (HB3.out.on hB5)
        have hL5 := bt hL3 hB5
        clear d1 d2 d3 d4 f1 f2 f3 f4
        obtain ⟨d1, d2, d3, d4⟩ := HB5.out.cells
        obtain ⟨f1, f2, f3, f4⟩ := two_cells HE5.out
        cases A with
        | true =>
          have HF : Hid (D = false) := HBAD.out (by rw [HOA.out]; rfl)
          go_wp2_with fail
          go_ret
          exact ⟨ret_bool HF.out.symm, hL5⟩
        | false =>
          have HG := Lib.hid (HGO.out (by rw [HOA.out]; rfl))
          have HE6 := Lib.hid (two_put (p := .int .i64 q.hs) (q := .int .i64 q.ha) HE5.out)
          have hL6 := (hL5.setCell (p := ⟨x1.heap.size, 0, none⟩) hsx (.int .i64 q.hs)).setCell (p := ⟨x1.heap.size, 1, none⟩) hsx (.int .i64 q.ha)
          go_wp2_with fail
          go_roundw
          case rel => exact ⟨j + 1, q.hs, q.ha, by go_num, by omega, HE6.out, HOK.out.2, fun h => absurd h (Nat.succ_ne_zero _), fun k hk e => HHI.out k hk e, HG.out, hL6⟩
          case measure => simp [intOf]; omega
    · obtain rfl : j = l.length := by omega
      have HF : Hid (D = true) := HD.out.2 fun k hk => HALL.out k hk hk
      go_wp2_with fail
      go_ret
      exact ⟨ret_bool HF.out.symm, hBr⟩
end Go.Proofs.Ytkokilbnhhmicaa

/- Contracts of package span's functions: Shift. -/
namespace Go.Proofs.Ytkokilbnhhmicaa
open Go.RowKit Go.Sort Go.Proofs.Ytkokilbnhhmicaa.Bo
set_option linter.unusedVariables false

theorem sshift_zero {w x : World} {N : Nat} (hB : Box4 x N z4) (hL : Go.RowKit.Below w.heap.size w x) (hN : w.heap.size ≤ N) : Go.RowKit.Below w.heap.size w ((((x.setCell ⟨N, 0, none⟩ (.int .i64 0)).setCell ⟨N, 1, none⟩ (.int .i64 0)).setCell ⟨N, 2, none⟩ (.int .i64 0)).setCell ⟨N, 3, none⟩ (.int .i64 0)) :=
  (((hL.setCell hN _).setCell hN _).setCell hN _).setCell hN _
set_option maxRecDepth 100000 in
set_option maxHeartbeats 1000000 in
theorem sshift_any (q : S4) (d : Int) (w : World) (hq : q.ok) (hd : I64 d) : Calls Try.prog 37 #[vS q, .int .i64 d] w fun e w' => e = .returned (.tuple #[vS (shS q d), .bool (q.right && shb q.lo d && shb q.hi d)]) ∧ Go.RowKit.Below w.heap.size w w' := by
  have mx := mixed
  have HC1 := Lib.hid (fun W => shift_any q.ls q.la d W hq.1 hd)
  have HC2 := Lib.hid (fun W => shift_any q.hs q.ha d W hq.2 hd)
  have HRT := Lib.hid (fun W => sright_any q W hq)
  rw [show key q.ls q.la = q.lo from rfl] at HC1
  rw [show key q.hs q.ha = q.hi from rfl] at HC2
  have HSH : Hid (∀ B, (q.right && shb q.lo d && shb q.hi d) = B → shS q d = if B = true then ⟨sd (shk q.lo d), pa (shk q.lo d), sd (shk q.hi d), pa (shk q.hi d)⟩ else z4) := by
    intro B hB; unfold shS; rw [hB]
  generalize sd (shk q.lo d) = x1 at *
  generalize pa (shk q.lo d) = y1 at *
  generalize sd (shk q.hi d) = x2 at *
  generalize pa (shk q.hi d) = y2 at *
  generalize shb q.lo d = B1 at *
  generalize shb q.hi d = B2 at *
  generalize q.right = R at *
  generalize shS q d = Z at *
  have hB0 : Box4 ((w.alloc (.cells #[.int .i64 q.ls, .int .i64 q.la, .int .i64 q.hs, .int .i64 q.ha] 25)).alloc (.cells #[.int .i64 0, .int .i64 0, .int .i64 0, .int .i64 0] 25)) w.heap.size q := Box4.on (heap_alloc_new _ _) (below_new _ _)
  have hR0 : Box4 ((w.alloc (.cells #[.int .i64 q.ls, .int .i64 q.la, .int .i64 q.hs, .int .i64 q.ha] 25)).alloc (.cells #[.int .i64 0, .int .i64 0, .int .i64 0, .int .i64 0] 25)) (w.heap.size + 1) z4 := heap_alloc2_new _ _ _
  have hL0 : Go.RowKit.Below w.heap.size w ((w.alloc (.cells #[.int .i64 q.ls, .int .i64 q.la, .int .i64 q.hs, .int .i64 q.ha] 25)).alloc (.cells #[.int .i64 0, .int .i64 0, .int .i64 0, .int .i64 0] 25)) := bt (below_new w _) (below_new _ _)
  have hgy : w.heap.size ≤ w.heap.size + 1 := by omega
  go_enter Try.func37, Try.ntmps37
  go_wp2_with fail
  generalize ((w.alloc (.cells #[.int .i64 q.ls, .int .i64 q.la, .int .i64 q.hs, .int .i64 q.ha] 25)).alloc (.cells #[.int .i64 0, .int .i64 0, .int .i64 0, .int .i64 0] 25)) = X at *
  refine (HRT.out _).mono ?_
  rintro e Y0 ⟨rfl, hB1⟩
  have HB1 := Lib.hid (hB0.on hB1)
  have HR1 := Lib.hid (hR0.on hB1)
  have HL1 := Lib.hid (bt hL0 hB1)
  clear hB0 hR0 hL0 hB1
  cases R with
  | false =>
    obtain ⟨⟨d1, d2, d3, d4⟩, e1, e2, e3, e4⟩ := Box4.zero HR1.out
    obtain ⟨f1, f2, f3, f4⟩ := (box_put4 HR1.out ⟨0, 0, 0, 0⟩).cells
    dsimp only at f1 f2 f3 f4
    have hL4 := sshift_zero HR1.out HL1.out hgy
    go_wp2_with fail
    refine bodyPost_ret (v := .tuple #[.agg #[.int .i64 0, .int .i64 0, .int .i64 0, .int .i64 0], .bool false]) (by simp [results, Try.results37, go_sem, f1, f2, f3, f4]) rfl ?_
    refine ⟨?_, hL4⟩
    have hz := HSH.out _ rfl
    simp at hz
    rw [hz]
    rfl
  | true =>
    obtain ⟨c1, c2, c3, c4⟩ := HB1.out.cells
    go_wp2_with fail
    refine (HC1.out _).mono ?_
    rintro e Y1 ⟨rfl, hB1⟩
    have hA1 := bt hB1 (below_new Y1 (.cells #[.int .i64 x1, .int .i64 y1] 23))
    have HB2 := Lib.hid (HB1.out.on hA1)
    have HR2 := Lib.hid (HR1.out.on hA1)
    have HL2 := Lib.hid (bt HL1.out hA1)
    have HA1 := Lib.hid (heap_alloc_new Y1 (.cells #[.int .i64 x1, .int .i64 y1] 23))
    clear hB1 hA1 c1 c2 c3 c4 HB1 HR1 HL1
    obtain ⟨c1, c2, c3, c4⟩ := HB2.out.cells
    go_wp2_with fail
    clear c1 c2 c3 c4
    generalize Y1.alloc (.cells #[.int .i64 x1, .int .i64 y1] 23) = X1 at *
    generalize Y1.heap.size = N1 at *
    refine (HC2.out _).mono ?_
    rintro e Y2 ⟨rfl, hB2⟩
    have hA2 := bt hB2 (below_new Y2 (.cells #[.int .i64 x2, .int .i64 y2] 23))
    have HR3 := Lib.hid (HR2.out.on hA2)
    have HL3 := Lib.hid (bt HL2.out hA2)
    have HA2 := Lib.hid (box_on HA1.out hA2)
    have HA3 := Lib.hid (heap_alloc_new Y2 (.cells #[.int .i64 x2, .int .i64 y2] 23))
    clear hB2 hA2 HB2 HR2 HL2 HA1
    obtain ⟨⟨d1, d2, d3, d4⟩, e1, e2, e3, e4⟩ := Box4.zero HR3.out
    obtain ⟨g1, g2, _, _⟩ := two_cells HA2.out
    cases B1 with
    | false =>
      obtain ⟨f1, f2, f3, f4⟩ := (box_put4 HR3.out ⟨0, 0, 0, 0⟩).cells
      dsimp only at f1 f2 f3 f4
      have hL4 := sshift_zero HR3.out HL3.out hgy
      go_wp2_with fail
      refine bodyPost_ret (v := .tuple #[.agg #[.int .i64 0, .int .i64 0, .int .i64 0, .int .i64 0], .bool false]) (by simp [results, Try.results37, go_sem, f1, f2, f3, f4]) rfl ?_
      refine ⟨?_, hL4⟩
      have hz := HSH.out _ rfl
      simp at hz
      rw [hz]
      rfl
    | true =>
      cases B2 with
      | false =>
        obtain ⟨f1, f2, f3, f4⟩ := (box_put4 HR3.out ⟨0, 0, 0, 0⟩).cells
        dsimp only at f1 f2 f3 f4
        have hL4 := sshift_zero HR3.out HL3.out hgy
        go_wp2_with fail
        refine bodyPost_ret (v := .tuple #[.agg #[.int .i64 0, .int .i64 0, .int .i64 0, .int .i64 0], .bool false]) (by simp [results, Try.results37, go_sem, f1, f2, f3, f4]) rfl ?_
        refine ⟨?_, hL4⟩
        have hz := HSH.out _ rfl
        simp at hz
        rw [hz]
        rfl
      | true =>
        obtain ⟨f1, f2, f3, f4⟩ := (box_put4 HR3.out ⟨x1, y1, x2, y2⟩).cells
        dsimp only at f1 f2 f3 f4
        have hL4 := (((HL3.out.setCell (p := ⟨w.heap.size + 1, 0, none⟩) hgy (.int .i64 x1)).setCell (p := ⟨w.heap.size + 1, 1, none⟩) hgy (.int .i64 y1)).setCell (p := ⟨w.heap.size + 1, 2, none⟩) hgy (.int .i64 x2)).setCell (p := ⟨w.heap.size + 1, 3, none⟩) hgy (.int .i64 y2)
        go_wp2_with fail
        refine bodyPost_ret (v := .tuple #[.agg #[.int .i64 x1, .int .i64 y1, .int .i64 x2, .int .i64 y2], .bool true]) (by simp [results, Try.results37, go_sem, f1, f2, f3, f4]) rfl ?_
        refine ⟨?_, hL4⟩
        have hz := HSH.out _ rfl
        simp at hz
        rw [hz]
        rfl
end Go.Proofs.Ytkokilbnhhmicaa

/- The law's guard 'alive' of layer 3 answers true. -/
namespace Go.Proofs.Ytkokilbnhhmicaa
open Go.RowKit Go.Sort Go.Proofs.Ytkokilbnhhmicaa.Bo
set_option linter.unusedVariables false

theorem to_any (a b : Int) (w : World) : Calls Try.prog 52 #[.int .i64 a, .int .i64 b] w fun e w' => e = .returned (.agg #[.int .i64 0, .int .i64 a, .int .i64 0, .int .i64 b]) ∧ Go.RowKit.Below w.heap.size w w' := by
  have hR0 : Box4 (w.alloc (.cells #[.int .i64 0, .int .i64 0, .int .i64 0, .int .i64 0] 25)) w.heap.size z4 := heap_alloc_new _ _
  have hL0 := below_new w (.cells #[.int .i64 0, .int .i64 0, .int .i64 0, .int .i64 0] 25)
  obtain ⟨⟨d1, d2, d3, d4⟩, e1, e2, e3, e4⟩ := Box4.zero hR0
  obtain ⟨f1, f2, f3, f4⟩ := (box_put4 hR0 ⟨0, a, 0, b⟩).cells
  dsimp only at f1 f2 f3 f4
  have hgy : w.heap.size ≤ w.heap.size := Nat.le_refl _
  have hL4 := (((hL0.setCell (p := ⟨w.heap.size, 0, none⟩) hgy (.int .i64 0)).setCell (p := ⟨w.heap.size, 1, none⟩) hgy (.int .i64 a)).setCell (p := ⟨w.heap.size, 2, none⟩) hgy (.int .i64 0)).setCell (p := ⟨w.heap.size, 3, none⟩) hgy (.int .i64 b)
  have hL5 := below_new w (.cells #[.int .i64 0, .int .i64 a, .int .i64 0, .int .i64 b] 25)
  go_enter Try.func52, Try.ntmps52
  go_wp2_with fail
  first
    | (refine bodyPost_ret (v := .agg #[.int .i64 0, .int .i64 a, .int .i64 0, .int .i64 b]) (by simp [results, Try.results52, go_sem]) rfl ?_; exact ⟨rfl, hL5⟩)
    | (refine bodyPost_ret (v := .agg #[.int .i64 0, .int .i64 a, .int .i64 0, .int .i64 b]) (by simp [results, Try.results52, go_sem, f1, f2, f3, f4]) rfl ?_; exact ⟨rfl, hL4⟩)

theorem srow_block2 {W : World} {p : Nat} {q r : S4} (h : W.heap[p]? = some (.cells #[.int .i64 q.ls, .int .i64 q.la, .int .i64 q.hs, .int .i64 q.ha, .int .i64 r.ls, .int .i64 r.la, .int .i64 r.hs, .int .i64 r.ha] 25 (0, 0))) : SRow W (some ⟨p, 0, none⟩) [q, r] := by
  intro _
  refine ⟨p, 0, rfl, fun j hj => ?_⟩
  have hj' : j < 2 := hj
  rcases (show j = 0 ∨ j = 1 by omega) with rfl | rfl
  · exact ⟨(cell_of_row _ _ 0 _ _ _ h).trans rfl, (cell_of_row _ _ 1 _ _ _ h).trans rfl, (cell_of_row _ _ 2 _ _ _ h).trans rfl, (cell_of_row _ _ 3 _ _ _ h).trans rfl⟩
  · exact ⟨(cell_of_row _ _ 4 _ _ _ h).trans rfl, (cell_of_row _ _ 5 _ _ _ h).trans rfl, (cell_of_row _ _ 6 _ _ _ h).trans rfl, (cell_of_row _ _ 7 _ _ _ h).trans rfl⟩
theorem srow_block3 {W : World} {p : Nat} {q r s : S4} (h : W.heap[p]? = some (.cells #[.int .i64 q.ls, .int .i64 q.la, .int .i64 q.hs, .int .i64 q.ha, .int .i64 r.ls, .int .i64 r.la, .int .i64 r.hs, .int .i64 r.ha, .int .i64 s.ls, .int .i64 s.la, .int .i64 s.hs, .int .i64 s.ha] 25 (0, 0))) : SRow W (some ⟨p, 0, none⟩) [q, r, s] := by
  intro _
  refine ⟨p, 0, rfl, fun j hj => ?_⟩
  have hj' : j < 3 := hj
  rcases (show j = 0 ∨ j = 1 ∨ j = 2 by omega) with rfl | rfl | rfl
  · exact ⟨(cell_of_row _ _ 0 _ _ _ h).trans rfl, (cell_of_row _ _ 1 _ _ _ h).trans rfl, (cell_of_row _ _ 2 _ _ _ h).trans rfl, (cell_of_row _ _ 3 _ _ _ h).trans rfl⟩
  · exact ⟨(cell_of_row _ _ 4 _ _ _ h).trans rfl, (cell_of_row _ _ 5 _ _ _ h).trans rfl, (cell_of_row _ _ 6 _ _ _ h).trans rfl, (cell_of_row _ _ 7 _ _ _ h).trans rfl⟩
  · exact ⟨(cell_of_row _ _ 8 _ _ _ h).trans rfl, (cell_of_row _ _ 9 _ _ _ h).trans rfl, (cell_of_row _ _ 10 _ _ _ h).trans rfl, (cell_of_row _ _ 11 _ _ _ h).trans rfl⟩
/-- A row of two spans is answered. -/
def TwoPost (q r : S4) (w : World) (e : Ending) (w' : World) : Prop := ∃ (a : Option Addr) (cap : Nat), (e = .returned (.slice a 2 cap) ∧ SRow w' a [q, r]) ∧ Go.RowKit.Below w.heap.size w w'
theorem small_ok (s a t b : Int) (h1 : -100 ≤ a) (h2 : a ≤ 100) (h3 : -100 ≤ b) (h4 : b ≤ 100) : S4.ok ⟨s, a, t, b⟩ := by
  unfold S4.ok I64
  simp only
  omega
theorem al_minus (w : World) : Calls Try.prog 23 #[.agg #[.int .i64 0, .int .i64 0, .int .i64 0, .int .i64 9], .agg #[.int .i64 0, .int .i64 3, .int .i64 0, .int .i64 4]] w (TwoPost ⟨0, 0, 0, 3⟩ ⟨0, 4, 0, 9⟩ w) := by
  have h := sminus_any ⟨0, 0, 0, 9⟩ ⟨0, 3, 0, 4⟩ w (small_ok _ _ _ _ (by decide) (by decide) (by decide) (by decide)) (small_ok _ _ _ _ (by decide) (by decide) (by decide) (by decide))
  rw [show minusF ⟨0, 0, 0, 9⟩ ⟨0, 3, 0, 4⟩ = [(0, 3), (4, 9)] from by decide] at h
  refine h.mono ?_
  rintro e w' ⟨a, cap, ⟨rfl, hs⟩, hb⟩
  exact ⟨a, cap, ⟨rfl, hs⟩, hb⟩
theorem al_list (a : Option Addr) (w : World) (hr : SRow w a [⟨0, 3, 0, 5⟩, ⟨0, 0, 0, 3⟩, ⟨0, 7, 0, 8⟩]) : Calls Try.prog 39 #[.slice a 3 3] w (TwoPost ⟨0, 0, 0, 5⟩ ⟨0, 7, 0, 8⟩ w) := by
  have h := slist_any a 3 [⟨0, 3, 0, 5⟩, ⟨0, 0, 0, 3⟩, ⟨0, 7, 0, 8⟩] w (by
    intro q hq
    simp at hq
    rcases hq with rfl | rfl | rfl <;> exact small_ok _ _ _ _ (by decide) (by decide) (by decide) (by decide)) hr (by simp)
  refine h.mono ?_
  rintro e w' ⟨a, cap, ps, ⟨rfl, hn, hc, _, _, hs⟩, hb⟩
  have e : ps = [(0, 5), (7, 8)] := by
    refine norm_ext _ _ hn (norm_two _ _ (by decide) (by decide) (by decide)) fun n => ?_
    rw [hc n, show rights [⟨0, 3, 0, 5⟩, ⟨0, 0, 0, 3⟩, ⟨0, 7, 0, 8⟩] = [(3, 5), (0, 3), (7, 8)] from by decide, cov_cons, cov_two, cov_two]
    show (3 ≤ n ∧ n < 5) ∨ (0 ≤ n ∧ n < 3) ∨ (7 ≤ n ∧ n < 8) ↔ (0 ≤ n ∧ n < 5) ∨ (7 ≤ n ∧ n < 8)
    omega
  subst e
  exact ⟨a, cap, ⟨rfl, hs⟩, hb⟩
theorem al_same (a a2 : Option Addr) (cap cap2 : Nat) (q r : S4) (w : World) (h1 : SRow w a [q, r]) (h2 : SRow w a2 [q, r]) : Calls Try.prog 22 #[.slice a 2 cap, .slice a2 2 cap2] w fun e w' => e = .returned (.bool true) ∧ Go.RowKit.Below w.heap.size w w' := rsame_any a a2 cap cap2 [q, r] w h1 h2 (by simp)
theorem al_count (w : World) : Calls Try.prog 26 #[.agg #[.int .i64 0, .int .i64 (-2), .int .i64 0, .int .i64 3]] w fun e w' => e = .returned (.tuple #[.int .u64 5, .bool true]) ∧ Go.RowKit.Below w.heap.size w w' := by
  have h := scount_any ⟨0, -2, 0, 3⟩ w (small_ok _ _ _ _ (by decide) (by decide) (by decide) (by decide))
  rw [show cntV ⟨0, -2, 0, 3⟩ = 5 from by decide, show cntB ⟨0, -2, 0, 3⟩ = true from by decide] at h
  exact h
theorem al_has (n : Int) (B : Bool) (hB : S4.has ⟨0, 0, 0, 3⟩ n = B) (hn : I64 n) (w : World) : Calls Try.prog 29 #[.agg #[.int .i64 0, .int .i64 0, .int .i64 0, .int .i64 3], .int .i64 n] w fun e w' => e = .returned (.bool B) ∧ Go.RowKit.Below w.heap.size w w' := by
  have h := shas_any ⟨0, 0, 0, 3⟩ n w (small_ok _ _ _ _ (by decide) (by decide) (by decide) (by decide)) hn
  rw [hB] at h
  exact h
theorem al_touch (w : World) : Calls Try.prog 20 #[.agg #[.int .i64 0, .int .i64 0, .int .i64 0, .int .i64 3], .agg #[.int .i64 0, .int .i64 3, .int .i64 0, .int .i64 4]] w fun e w' => e = .returned (.bool true) ∧ Go.RowKit.Below w.heap.size w w' := by
  have h := stouch_any ⟨0, 0, 0, 3⟩ ⟨0, 3, 0, 4⟩ w (small_ok _ _ _ _ (by decide) (by decide) (by decide) (by decide)) (small_ok _ _ _ _ (by decide) (by decide) (by decide) (by decide))
  rw [show (S4.right ⟨0, 0, 0, 3⟩ && S4.right ⟨0, 3, 0, 4⟩ && (decide (S4.hi ⟨0, 0, 0, 3⟩ = S4.lo ⟨0, 3, 0, 4⟩) || decide (S4.hi ⟨0, 3, 0, 4⟩ = S4.lo ⟨0, 0, 0, 3⟩))) = true from by decide] at h
  exact h
theorem al_point (w : World) : Calls Try.prog 34 #[.int .i64 7] w fun e w' => e = .returned (.agg #[.int .i64 0, .int .i64 7, .int .i64 0, .int .i64 8]) ∧ Go.RowKit.Below w.heap.size w w' := by
  have h := spoint_any 7 w ⟨by decide, by decide⟩
  exact h
theorem al_all (w : World) : Calls Try.prog 53 #[] w fun e w' => e = .returned (.agg #[.int .i64 (-1), .int .i64 0, .int .i64 1, .int .i64 0]) ∧ Go.RowKit.Below w.heap.size w w' := sall_any w
theorem al_holds (w : World) : Calls Try.prog 19 #[.agg #[.int .i64 (-1), .int .i64 0, .int .i64 1, .int .i64 0], .agg #[.int .i64 0, .int .i64 7, .int .i64 0, .int .i64 8]] w fun e w' => e = .returned (.bool true) ∧ Go.RowKit.Below w.heap.size w w' := by
  have h := sholds_any ⟨-1, 0, 1, 0⟩ ⟨0, 7, 0, 8⟩ w (small_ok _ _ _ _ (by decide) (by decide) (by decide) (by decide)) (small_ok _ _ _ _ (by decide) (by decide) (by decide) (by decide))
  rw [show (S4.right ⟨-1, 0, 1, 0⟩ && S4.right ⟨0, 7, 0, 8⟩ && decide (S4.lo ⟨-1, 0, 1, 0⟩ ≤ S4.lo ⟨0, 7, 0, 8⟩) && decide (S4.hi ⟨0, 7, 0, 8⟩ ≤ S4.hi ⟨-1, 0, 1, 0⟩)) = true from by decide] at h
  exact h

set_option maxRecDepth 100000 in
set_option maxHeartbeats 2000000 in
theorem salive_any (w : World) : Calls Try.prog 18 #[] w fun e w' => e = .returned (.bool true) ∧ Go.RowKit.Below w.heap.size w w' := by
  have mx := mixed
  have HT := Lib.hid to_any
  go_enter Try.func18, Try.ntmps18
  have hL0 := Go.RowKit.Below.refl w.heap.size w
  go_wp2_with fail
  refine (HT.out _ _ _).mono ?_
  rintro e y1 ⟨rfl, hB1⟩
  have hL1 := bt hL0 hB1
  clear hL0 hB1 
  go_wp2_with fail
  refine (HT.out _ _ _).mono ?_
  rintro e y2 ⟨rfl, hB2⟩
  have hL2 := bt hL1 hB2
  clear hL1 hB2 
  go_wp2_with fail
  refine (al_minus _).mono ?_
  rintro e y3 ⟨a1, cap1, ⟨rfl, hs1⟩, hB3⟩
  have hL3 := bt hL2 hB3
  clear hL2 hB3 
  have R13 := Lib.hid hs1
  clear hs1
  go_wp2_with fail
  refine (HT.out _ _ _).mono ?_
  rintro e y4 ⟨rfl, hB4⟩
  have hL4 := bt hL3 hB4
  have R14 := Lib.hid (R13.out.below hB4)
  clear hL3 hB4 R13
  go_wp2_with fail
  refine (HT.out _ _ _).mono ?_
  rintro e y5 ⟨rfl, hB5⟩
  have hL5 := bt hL4 hB5
  have R15 := Lib.hid (R14.out.below hB5)
  clear hL4 hB5 R14
  go_wp2_with fail
  refine (HT.out _ _ _).mono ?_
  rintro e y6 ⟨rfl, hB6⟩
  have hL6 := bt hL5 hB6
  have R16 := Lib.hid (R15.out.below hB6)
  clear hL5 hB6 R15
  go_wp2_with fail
  refine (al_list _ _ (srow_block3 (q := ⟨0, 3, 0, 5⟩) (r := ⟨0, 0, 0, 3⟩) (s := ⟨0, 7, 0, 8⟩) (heap_alloc_new y6 _))).mono ?_
  rintro e y7 ⟨a2, cap2, ⟨rfl, hs2⟩, hB7⟩
  have hB7 := bt (below_new y6 (.cells #[.int .i64 0, .int .i64 3, .int .i64 0, .int .i64 5, .int .i64 0, .int .i64 0, .int .i64 0, .int .i64 3, .int .i64 0, .int .i64 7, .int .i64 0, .int .i64 8] 25)) hB7
  have hL7 := bt hL6 hB7
  have R17 := Lib.hid (R16.out.below hB7)
  clear hL6 hB7 R16
  have R27 := Lib.hid hs2
  clear hs2
  go_wp2_with fail
  refine (HT.out _ _ _).mono ?_
  rintro e y8 ⟨rfl, hB8⟩
  have hL8 := bt hL7 hB8
  have R18 := Lib.hid (R17.out.below hB8)
  have R28 := Lib.hid (R27.out.below hB8)
  clear hL7 hB8 R17 R27
  go_wp2_with fail
  refine (al_count _).mono ?_
  rintro e y9 ⟨rfl, hB9⟩
  have hL9 := bt hL8 hB9
  have R19 := Lib.hid (R18.out.below hB9)
  have R29 := Lib.hid (R28.out.below hB9)
  clear hL8 hB9 R18 R28
  go_wp2_with fail
  refine (HT.out _ _ _).mono ?_
  rintro e y10 ⟨rfl, hB10⟩
  have hL10 := bt hL9 hB10
  have R110 := Lib.hid (R19.out.below hB10)
  have R210 := Lib.hid (R29.out.below hB10)
  clear hL9 hB10 R19 R29
  go_wp2_with fail
  refine (HT.out _ _ _).mono ?_
  rintro e y11 ⟨rfl, hB11⟩
  have hL11 := bt hL10 hB11
  have R111 := Lib.hid (R110.out.below hB11)
  have R211 := Lib.hid (R210.out.below hB11)
  clear hL10 hB11 R110 R210
  go_wp2_with fail
  refine (al_same _ _ _ _ ⟨0, 0, 0, 3⟩ ⟨0, 4, 0, 9⟩ _ (R111.out.below (below_new _ _)) (srow_block2 (q := ⟨0, 0, 0, 3⟩) (r := ⟨0, 4, 0, 9⟩) (heap_alloc_new y11 _))).mono ?_
  rintro e y12 ⟨rfl, hB12⟩
  have hB12 := bt (below_new y11 (.cells #[.int .i64 0, .int .i64 0, .int .i64 0, .int .i64 3, .int .i64 0, .int .i64 4, .int .i64 0, .int .i64 9] 25)) hB12
  have hL12 := bt hL11 hB12
  have R112 := Lib.hid (R111.out.below hB12)
  have R212 := Lib.hid (R211.out.below hB12)
  clear hL11 hB12 R111 R211
  go_wp2_with fail
  refine (HT.out _ _ _).mono ?_
  rintro e y13 ⟨rfl, hB13⟩
  have hL13 := bt hL12 hB13
  have R113 := Lib.hid (R112.out.below hB13)
  have R213 := Lib.hid (R212.out.below hB13)
  clear hL12 hB13 R112 R212
  go_wp2_with fail
  refine (HT.out _ _ _).mono ?_
  rintro e y14 ⟨rfl, hB14⟩
  have hL14 := bt hL13 hB14
  have R114 := Lib.hid (R113.out.below hB14)
  have R214 := Lib.hid (R213.out.below hB14)
  clear hL13 hB14 R113 R213
  go_wp2_with fail
  refine (al_same _ _ _ _ ⟨0, 0, 0, 5⟩ ⟨0, 7, 0, 8⟩ _ (R214.out.below (below_new _ _)) (srow_block2 (q := ⟨0, 0, 0, 5⟩) (r := ⟨0, 7, 0, 8⟩) (heap_alloc_new y14 _))).mono ?_
  rintro e y15 ⟨rfl, hB15⟩
  have hB15 := bt (below_new y14 (.cells #[.int .i64 0, .int .i64 0, .int .i64 0, .int .i64 5, .int .i64 0, .int .i64 7, .int .i64 0, .int .i64 8] 25)) hB15
  have hL15 := bt hL14 hB15
  have R115 := Lib.hid (R114.out.below hB15)
  have R215 := Lib.hid (R214.out.below hB15)
  clear hL14 hB15 R114 R214
  clear R115 R215
  go_wp2_with fail
  refine (HT.out _ _ _).mono ?_
  rintro e y16 ⟨rfl, hB16⟩
  have hL16 := bt hL15 hB16
  clear hL15 hB16 
  go_wp2_with fail
  refine (al_has 2 true (by decide) ⟨by decide, by decide⟩ _).mono ?_
  rintro e y17 ⟨rfl, hB17⟩
  have hL17 := bt hL16 hB17
  clear hL16 hB17 
  go_wp2_with fail
  refine (HT.out _ _ _).mono ?_
  rintro e y18 ⟨rfl, hB18⟩
  have hL18 := bt hL17 hB18
  clear hL17 hB18 
  go_wp2_with fail
  refine (al_has 3 false (by decide) ⟨by decide, by decide⟩ _).mono ?_
  rintro e y19 ⟨rfl, hB19⟩
  have hL19 := bt hL18 hB19
  clear hL18 hB19 
  go_wp2_with fail
  refine (HT.out _ _ _).mono ?_
  rintro e y20 ⟨rfl, hB20⟩
  have hL20 := bt hL19 hB20
  clear hL19 hB20 
  go_wp2_with fail
  refine (HT.out _ _ _).mono ?_
  rintro e y21 ⟨rfl, hB21⟩
  have hL21 := bt hL20 hB21
  clear hL20 hB21 
  go_wp2_with fail
  refine (al_touch _).mono ?_
  rintro e y22 ⟨rfl, hB22⟩
  have hL22 := bt hL21 hB22
  clear hL21 hB22 
  go_wp2_with fail
  refine (al_all _).mono ?_
  rintro e y23 ⟨rfl, hB23⟩
  have hL23 := bt hL22 hB23
  clear hL22 hB23 
  go_wp2_with fail
  refine (al_point _).mono ?_
  rintro e y24 ⟨rfl, hB24⟩
  have hL24 := bt hL23 hB24
  clear hL23 hB24 
  go_wp2_with fail
  refine (al_holds _).mono ?_
  rintro e y25 ⟨rfl, hB25⟩
  have hL25 := bt hL24 hB25
  clear hL24 hB25 
  go_wp2_with fail
  go_ret
  exact ⟨rfl, hL25⟩
end Go.Proofs.Ytkokilbnhhmicaa

/- Spans as arguments: one by value, a slice of them. -/
namespace Go.Proofs.Ytkokilbnhhmicaa
open Go.ChangeShapes Go.WideShapes Go.ChangeAt Go.RowKit Go.Sort Go.Joins Go.Proofs.Ytkokilbnhhmicaa.Bo
set_option linter.unusedVariables false

set_option maxRecDepth 100000 in
theorem trod_cut2 {H : Type} {enc : TypeId × Value → H} {w : World} {base : Nat} {spare : Nat → Bool} {held : Bool} {n : Nat} {cs : List Value} {y : DataW H × List MemPlace} (h : DataW.trod enc Try.prog w base spare held n 23 cs = some y) :
    ∃ s a : Int, cs = [.int .i64 s, .int .i64 a] ∧ I64 a := by
  obtain ⟨y0, y1, n', hx, hlen, h0, h1⟩ := trod_struct2 Try.underlying23 h
  rw [show Try.prog.cellsOf 23 = 2 by kernel_rfl] at hlen
  obtain ⟨s, es, _, _⟩ := DataW.trod_int Try.underlying3 h0
  obtain ⟨a, ea, _, wa⟩ := DataW.trod_int Try.underlying2 h1
  match cs, hlen with
  | [v0, v1], _ =>
    rw [show Try.prog.cellsOf 3 = 1 by kernel_rfl] at es
    rw [show Try.prog.cellsOf 2 = 1 by kernel_rfl] at ea
    simp at es ea
    exact ⟨s, a, by rw [es, ea], i64_of_wf2 wa⟩
set_option maxRecDepth 100000 in
theorem trod_span {H : Type} {enc : TypeId × Value → H} {w : World} {base : Nat} {spare : Nat → Bool} {held : Bool} {n : Nat} {cs : List Value} {y : DataW H × List MemPlace} (h : DataW.trod enc Try.prog w base spare held n 25 cs = some y) :
    ∃ q : S4, cs = [.int .i64 q.ls, .int .i64 q.la, .int .i64 q.hs, .int .i64 q.ha] ∧ q.ok := by
  obtain ⟨y0, y1, n', hx, hlen, h0, h1⟩ := trod_struct2 Try.underlying25 h
  rw [show Try.prog.cellsOf 25 = 4 by kernel_rfl] at hlen
  obtain ⟨ls, la, e1, o1⟩ := trod_cut2 h0
  obtain ⟨hs, ha, e2, o2⟩ := trod_cut2 h1
  match cs, hlen with
  | [v0, v1, v2, v3], _ =>
    rw [show Try.prog.cellsOf 23 = 2 by kernel_rfl] at e1 e2
    simp at e1 e2
    exact ⟨⟨ls, la, hs, ha⟩, by rw [e1.1, e1.2, e2.1, e2.2], o1, o2⟩
set_option maxRecDepth 100000 in
/-- A span by value. -/
theorem open_span {H : Type} {enc : TypeId × Value → H} {w : World} {base : Nat} {spare : Nat → Bool} {held : Bool} {r : Reach} {b0 : Nat} {v : Value} {d : DataW H} {p : List MemPlace} (hv : Value.okWide Try.prog w r b0 25 v) (h : DataW.Trod enc Try.prog w base spare held 25 v d p) :
    ∃ q : S4, v = vS q ∧ q.ok := by
  obtain ⟨cs, rfl, hsz⟩ := okWide_struct Try.underlying25 hv
  obtain ⟨fuel, hf⟩ := h
  obtain ⟨q, e, ok⟩ := trod_span hf
  refine ⟨q, ?_, ok⟩
  have e2 : cs.toList = [.int .i64 q.ls, .int .i64 q.la, .int .i64 q.hs, .int .i64 q.ha] := by simpa [Value.cells] using e
  have : cs = #[.int .i64 q.ls, .int .i64 q.la, .int .i64 q.hs, .int .i64 q.ha] := by rw [← Array.toArray_toList (xs := cs), e2]
  rw [this]
/-- A slice of spans. -/
def IsSpans (w : World) (a : Option Addr) (len : Nat) (l : List S4) : Prop := len = l.length ∧ (∀ q ∈ l, q.ok) ∧ SRow w a l
theorem isSpans_nil (w : World) : IsSpans w none 0 [] := ⟨rfl, by simp, fun h => by simp at h⟩
theorem isSpans_of (w : World) (x : Addr) (len m : Nat) (hlm : len ≤ m) (hi : ∀ i, i < m → ∃ q : S4, (∀ j u, [Value.int .i64 q.ls, .int .i64 q.la, .int .i64 q.hs, .int .i64 q.ha][j]? = some u → w.cell? (x.add (i * 4 + j)) = some u) ∧ q.ok) : ∃ l, IsSpans w (some x) len l := by
  have h' : ∀ i, ∃ q : S4, i < m → (∀ j u, [Value.int .i64 q.ls, .int .i64 q.la, .int .i64 q.hs, .int .i64 q.ha][j]? = some u → w.cell? (x.add (i * 4 + j)) = some u) ∧ q.ok := by
    intro i
    by_cases h : i < m
    · obtain ⟨q, h1⟩ := hi i h
      exact ⟨q, fun _ => h1⟩
    · exact ⟨⟨0, 0, 0, 0⟩, fun h2 => absurd h2 h⟩
  obtain ⟨f, hf⟩ := Classical.axiomOfChoice h'
  refine ⟨(List.range len).map f, by simp, ?_, ?_⟩
  · intro c hc
    obtain ⟨i, hi2, rfl⟩ := List.mem_map.1 hc
    exact (hf i (by have := List.mem_range.1 hi2; omega)).2
  · intro hp
    have hp' : 0 < len := by simpa using hp
    obtain ⟨b, off, spot⟩ := x
    have hspot : spot = none := by simpa [Addr.add] using World.cell?_spot ((hf 0 (by omega)).1 0 _ rfl)
    subst hspot
    refine ⟨b, off, rfl, fun j hj => ?_⟩
    have hj' : j < len := by simpa using hj
    have h1 := (hf j (by omega)).1
    simp only [List.getElem_map, List.getElem_range]
    have g0 := h1 0 _ rfl
    have g1 := h1 1 _ rfl
    have g2 := h1 2 _ rfl
    have g3 := h1 3 _ rfl
    rw [Addr.add_lit] at g0 g1 g2 g3
    exact ⟨g0, by rw [Nat.add_assoc]; exact g1, by rw [Nat.add_assoc]; exact g2, by rw [Nat.add_assoc]; exact g3⟩
set_option maxRecDepth 100000 in
theorem open_spans {H : Type} {enc : TypeId × Value → H} {w : World} {base : Nat} {spare : Nat → Bool} {held : Bool} {a : Option Addr} {len cap : Nat} {d : DataW H} {p : List MemPlace} (h : DataW.Trod enc Try.prog w base spare held 26 (.slice a len cap) d p) : ∃ l, IsSpans w a len l := by
  obtain ⟨fuel, hf⟩ := h
  rcases Go.Deep.open_slice Try.underlying26 hf with ⟨hcs, _⟩ | ⟨x, l, c, m, n, D, Pl, hcs, _, hl, hm, hmm, _, hc⟩
  · simp [Value.cells] at hcs
    obtain ⟨rfl, rfl, rfl⟩ := hcs
    exact ⟨[], isSpans_nil w⟩
  · simp [Value.cells] at hcs
    obtain ⟨rfl, rfl, rfl⟩ := hcs
    have hlm : len ≤ m := by rw [hmm]; split <;> omega
    refine isSpans_of w x _ m hlm fun i hi => ?_
    obtain ⟨cs', h1, h2⟩ := hc i hi
    obtain ⟨q, e, ok⟩ := trod_span h2
    rw [show Try.prog.cellsOf 25 = 4 by kernel_rfl] at h1
    obtain ⟨_, hlen, hcell⟩ := World.cells?_some h1
    refine ⟨q, fun j u hu => ?_, ok⟩
    rw [e] at hlen hcell
    have hj : j < 4 := by
      rcases Nat.lt_or_ge j 4 with h | h
      · exact h
      · rw [List.getElem?_eq_none (by simpa using h)] at hu; cases hu
    have e0 := hcell j hj
    rw [Go.Deep.add_add] at e0
    rw [e0, hu]
end Go.Proofs.Ytkokilbnhhmicaa

/- Rows of spans as the laws meet them: span.List of such a row, the reference's, Same, Sorted. -/
namespace Go.Proofs.Ytkokilbnhhmicaa
open Go.RowKit Go.Sort Go.Proofs.Ytkokilbnhhmicaa.Bo
set_option linter.unusedVariables false

theorem map_ok (ps : List (Int × Int)) (hk : ∀ p ∈ ps, Ky p.1 ∧ Ky p.2) : ∀ q ∈ ps.map sp, q.ok := by
  intro q hq
  obtain ⟨p, hp, rfl⟩ := List.mem_map.1 hq
  exact sp_ok p (hk p hp).1 (hk p hp).2
theorem map_rights (ps : List (Int × Int)) (hn : Norm ps) (hk : ∀ p ∈ ps, Ky p.1 ∧ Ky p.2) : rights (ps.map sp) = ps := rights_sp ps fun p hp => ⟨hn.1 p hp, hk p hp⟩
/-- A row that is listed already is listed as it is. -/
theorem slist_ps (a : Option Addr) (cap : Nat) (ps : List (Int × Int)) (w : World) (hn : Norm ps) (hk : ∀ p ∈ ps, Ky p.1 ∧ Ky p.2) (hr : SRow w a (ps.map sp)) (hl : ps.length ≤ 50) :
    Calls Try.prog 39 #[.slice a ps.length cap] w (RowPost ps w) := by
  have h := slist_any a cap (ps.map sp) w (map_ok ps hk) hr (by rw [List.length_map]; exact hl)
  rw [List.length_map, map_rights ps hn hk] at h
  refine h.mono ?_
  rintro e w' ⟨a2, cap2, ps2, ⟨rfl, h1, h2, h3, h4, h5⟩, hb⟩
  obtain rfl := norm_ext ps2 ps h1 hn h2
  exact ⟨a2, cap2, ⟨rfl, h5⟩, hb⟩
/-- A row of spans is listed as the normal row with its numbers. -/
theorem slist_eq (a : Option Addr) (cap : Nat) (l : List S4) (ps : List (Int × Int)) (w : World) (hn : Norm ps) (hc : ∀ n, cov ps n ↔ cov (rights l) n) (hz : ∀ q ∈ l, q.ok) (hr : SRow w a l) (hl : l.length ≤ 50) :
    Calls Try.prog 39 #[.slice a l.length cap] w (RowPost ps w) := by
  refine (slist_any a cap l w hz hr hl).mono ?_
  rintro e w' ⟨a2, cap2, ps2, ⟨rfl, h1, h2, h3, h4, h5⟩, hb⟩
  obtain rfl := norm_ext ps2 ps h1 hn (fun n => (h2 n).trans (hc n).symm)
  exact ⟨a2, cap2, ⟨rfl, h5⟩, hb⟩
theorem rlist_eq (a : Option Addr) (cap : Nat) (l : List S4) (ps : List (Int × Int)) (w : World) (hn : Norm ps) (hc : ∀ n, cov ps n ↔ cov (rights l) n) (hz : ∀ q ∈ l, q.ok) (hr : SRow w a l) (hl : l.length ≤ 50) :
    Calls Try.prog 15 #[.slice a l.length cap] w (RowPost ps w) := by
  refine (rlist_any a cap l w hz hr hl).mono ?_
  rintro e w' ⟨a2, cap2, ps2, ⟨rfl, h1, h2, h3, h4, h5⟩, hb⟩
  obtain rfl := norm_ext ps2 ps h1 hn (fun n => (h2 n).trans (hc n).symm)
  exact ⟨a2, cap2, ⟨rfl, h5⟩, hb⟩
theorem same_ps (a a2 : Option Addr) (cap cap2 : Nat) (ps : List (Int × Int)) (w : World) (h1 : SRow w a (ps.map sp)) (h2 : SRow w a2 (ps.map sp)) (hl : ps.length ≤ 100000) : Calls Try.prog 22 #[.slice a ps.length cap, .slice a2 ps.length cap2] w fun e w' => e = .returned (.bool true) ∧ Go.RowKit.Below w.heap.size w w' := by
  have h := rsame_any a a2 cap cap2 (ps.map sp) w h1 h2 (by rw [List.length_map]; exact hl)
  rw [List.length_map] at h
  exact h
theorem sorted_norm (ps : List (Int × Int)) (hn : Norm ps) (hk : ∀ p ∈ ps, Ky p.1 ∧ Ky p.2) : sortedL (ps.map sp) := by
  intro j h
  have hj : j < ps.length := by simpa using h
  unfold okAt
  have e : (ps.map sp)[j] = sp ps[j] := List.getElem_map ..
  have hkj := hk ps[j] (List.getElem_mem hj)
  rw [e, sp_right _ hkj.1 hkj.2, decide_eq_true (hn.1 _ (List.getElem_mem hj)), Bool.true_and]
  split
  · next h0 =>
    have e2 : (ps.map sp)[j - 1]'(by omega) = sp (ps[j - 1]'(by omega)) := List.getElem_map ..
    have hkp := hk (ps[j - 1]'(by omega)) (List.getElem_mem _)
    rw [e2, sp_lo _ hkj.1, sp_hi _ hkp.2]
    have := List.pairwise_iff_getElem.1 hn.2 (j - 1) j (by omega) hj (by omega)
    rw [decide_eq_false (by omega)]; rfl
  · rfl
theorem ssorted_ps (a : Option Addr) (cap : Nat) (ps : List (Int × Int)) (w : World) (hn : Norm ps) (hk : ∀ p ∈ ps, Ky p.1 ∧ Ky p.2) (hr : SRow w a (ps.map sp)) (hl : ps.length ≤ 50) : Calls Try.prog 40 #[.slice a ps.length cap] w fun e w' => e = .returned (.bool true) ∧ Go.RowKit.Below w.heap.size w w' := by
  have h := ssorted_any a cap (ps.map sp) true ⟨fun _ => sorted_norm ps hn hk, fun _ => rfl⟩ w (map_ok ps hk) hr (by rw [List.length_map]; omega)
  rw [List.length_map] at h
  exact h
end Go.Proofs.Ytkokilbnhhmicaa
