/- The walk of the law CutSorts. -/
import Derived.Test.YtbpplhlkpfdegaaCutSa
import Derived.Deep.SlicePairs
import Derived.OpenShut
namespace Go.Proofs.Ytbpplhlkpfdegaa
open Go.RowKit Go.Sort Go.Proofs.Ytbpplhlkpfdegaa.Bo
set_option linter.unusedVariables false

/-- A slice of cuts that came in. -/
def IsCuts (w : World) (a : Option Addr) (len : Nat) (cs : List (Int × Int)) : Prop := len = cs.length ∧ (∀ c ∈ cs, I64 c.2) ∧ CRow w a cs
theorem nil_row0 (w : World) : CRow w none [] := fun h => by simp at h
theorem isCuts_nil (w : World) : IsCuts w none 0 [] := ⟨rfl, by simp, nil_row0 w⟩
theorem isCuts_of (w : World) (x : Addr) (len m : Nat) (hlm : len ≤ m) (hi : ∀ i, i < m → ∃ s t : Int, w.cell? (x.add (i * 2)) = some (.int .i64 s) ∧ w.cell? (x.add (i * 2 + 1)) = some (.int .i64 t) ∧ I64 t) : ∃ cs, IsCuts w (some x) len cs := by
  have h' : ∀ i, ∃ q : Int × Int, i < m → w.cell? (x.add (i * 2)) = some (.int .i64 q.1) ∧ w.cell? (x.add (i * 2 + 1)) = some (.int .i64 q.2) ∧ I64 q.2 := by
    intro i
    by_cases h : i < m
    · obtain ⟨s, t, h1, h2, h3⟩ := hi i h
      exact ⟨(s, t), fun _ => ⟨h1, h2, h3⟩⟩
    · exact ⟨(0, 0), fun h2 => absurd h2 h⟩
  obtain ⟨f, hf⟩ := Classical.axiomOfChoice h'
  refine ⟨(List.range len).map f, by simp, ?_, ?_⟩
  · intro c hc
    obtain ⟨i, hi2, rfl⟩ := List.mem_map.1 hc
    exact (hf i (by have := List.mem_range.1 hi2; omega)).2.2
  · intro hp
    have hp' : 0 < len := by simpa using hp
    obtain ⟨b, off, spot⟩ := x
    have hspot : spot = none := by simpa [Addr.add] using World.cell?_spot (hf 0 (by omega)).1
    subst hspot
    refine ⟨b, off, rfl, fun j hj => ?_⟩
    have hj' : j < len := by simpa using hj
    obtain ⟨h1, h2, _⟩ := hf j (by omega)
    rw [Addr.add_lit] at h1 h2
    simp only [List.getElem_map, List.getElem_range]
    exact ⟨h1, by rw [Nat.add_assoc]; exact h2⟩

/-- The least and the greatest of keys hang on which keys there are alone. -/
theorem low_spec (l : List Int) : ∀ (m : Int), (l.foldl klow m ≤ m) ∧ (∀ x ∈ l, l.foldl klow m ≤ x) ∧ (l.foldl klow m = m ∨ l.foldl klow m ∈ l) := by
  induction l with
  | nil => intro m; exact ⟨Int.le_refl _, by simp, .inl rfl⟩
  | cons a l ih =>
    intro m
    obtain ⟨h1, h2, h3⟩ := ih (klow m a)
    have hk : klow m a ≤ m ∧ klow m a ≤ a ∧ (klow m a = m ∨ klow m a = a) := by unfold klow; split <;> omega
    refine ⟨by show l.foldl klow (klow m a) ≤ m; omega, fun x hx => ?_, ?_⟩
    · show l.foldl klow (klow m a) ≤ x
      rcases List.mem_cons.1 hx with e | e
      · subst e; omega
      · exact h2 x e
    · show l.foldl klow (klow m a) = m ∨ l.foldl klow (klow m a) ∈ a :: l
      rcases h3 with h3 | h3
      · rcases hk.2.2 with h4 | h4
        · left; omega
        · right; rw [h3, h4]; exact List.mem_cons_self ..
      · right; exact List.mem_cons_of_mem _ h3
theorem high_spec (l : List Int) : ∀ (m : Int), (m ≤ l.foldl khigh m) ∧ (∀ x ∈ l, x ≤ l.foldl khigh m) ∧ (l.foldl khigh m = m ∨ l.foldl khigh m ∈ l) := by
  induction l with
  | nil => intro m; exact ⟨Int.le_refl _, by simp, .inl rfl⟩
  | cons a l ih =>
    intro m
    obtain ⟨h1, h2, h3⟩ := ih (khigh m a)
    have hk : m ≤ khigh m a ∧ a ≤ khigh m a ∧ (khigh m a = m ∨ khigh m a = a) := by unfold khigh; split <;> omega
    refine ⟨by show m ≤ l.foldl khigh (khigh m a); omega, fun x hx => ?_, ?_⟩
    · show x ≤ l.foldl khigh (khigh m a)
      rcases List.mem_cons.1 hx with e | e
      · subst e; omega
      · exact h2 x e
    · show l.foldl khigh (khigh m a) = m ∨ l.foldl khigh (khigh m a) ∈ a :: l
      rcases h3 with h3 | h3
      · rcases hk.2.2 with h4 | h4
        · left; omega
        · right; rw [h3, h4]; exact List.mem_cons_self ..
      · right; exact List.mem_cons_of_mem _ h3
theorem low_ext (l m : List Int) (t : Int) (h : ∀ x, x ∈ l ↔ x ∈ m) : l.foldl klow t = m.foldl klow t := by
  obtain ⟨a1, a2, a3⟩ := low_spec l t
  obtain ⟨b1, b2, b3⟩ := low_spec m t
  have h1 : l.foldl klow t ≤ m.foldl klow t := by
    rcases b3 with e | e
    · rw [e]; exact a1
    · exact a2 _ ((h _).2 e)
  have h2 : m.foldl klow t ≤ l.foldl klow t := by
    rcases a3 with e | e
    · rw [e]; exact b1
    · exact b2 _ ((h _).1 e)
  omega
theorem high_ext (l m : List Int) (t : Int) (h : ∀ x, x ∈ l ↔ x ∈ m) : l.foldl khigh t = m.foldl khigh t := by
  obtain ⟨a1, a2, a3⟩ := high_spec l t
  obtain ⟨b1, b2, b3⟩ := high_spec m t
  have h1 : m.foldl khigh t ≤ l.foldl khigh t := by
    rcases b3 with e | e
    · rw [e]; exact a1
    · exact a2 _ ((h _).2 e)
  have h2 : l.foldl khigh t ≤ m.foldl khigh t := by
    rcases a3 with e | e
    · rw [e]; exact b1
    · exact b2 _ ((h _).1 e)
  omega

set_option maxRecDepth 100000 in
set_option maxHeartbeats 8000000 in
theorem cutSorts_walk (a : Option Addr) (len cap : Nat) (cs : List (Int × Int)) (w : World) (w0 : IsCuts w a len cs) :
    Calls Try.prog 3 #[.slice a len cap] w fun e w' => e = .returned (.bool true) ∧ Go.RowKit.Below w.heap.size w w' := by
  obtain ⟨rfl, hz, hr⟩ := w0
  have mx := mixed
  have eqc := eql_cut
  have HAL := Lib.hid calive_any
  have HZ := Lib.hid hz
  have HR := Lib.hid hr
  clear hz hr
  by_cases hbig : 100 < cs.length
  · have t1 : decide ((100 : Int) < (cs.length : Int)) = true := decide_eq_true (by omega)
    go_enter Try.func3, Try.ntmps3
    go_wp2_with fail
    refine (HAL.out _).mono ?_
    rintro e x1 ⟨rfl, hB1⟩
    go_wp2_with fail
    go_ret
    exact ⟨rfl, hB1⟩
  · have t1 : decide ((100 : Int) < (cs.length : Int)) = false := decide_eq_false (by omega)
    have HS := Lib.hid (csort_any a cap cs w HZ.out HR.out (by omega))
    go_enter Try.func3, Try.ntmps3
    go_wp2_with fail
    refine HS.out.mono ?_
    rintro e x1 ⟨g, cp, ks, ⟨rfl, hup, hmem, hrow, hkl⟩, hB1⟩
    have HUP := Lib.hid hup
    have HMEM := Lib.hid hmem
    have HROW := Lib.hid hrow
    have HKY : Hid (∀ k ∈ ks, Ky k) := by
      intro k hk
      obtain ⟨c, hc, rfl⟩ := List.mem_map.1 ((hmem k).1 hk)
      exact key_ky _ _ (HZ.out c hc)
    have hcp := hrow.2.1
    clear hup hmem hrow HS
    go_wp2_with fail
    go_loopw [4] (fun i wr => ∃ j : Nat, i = .int .i64 ((j + 1 : Nat) : Int) ∧ (j = 0 ∨ j + 1 ≤ ks.length) ∧ Go.RowKit.Below x1.heap.size x1 wr) (fun i _ => ks.length - (intOf i).toNat)
    case atStart => exact ⟨0, rfl, .inl rfl, Go.RowKit.Below.refl _ _⟩
    case round =>
      obtain ⟨j, rfl, hj, hBr⟩ := hrel
      by_cases hlt : j + 1 < ks.length
      · have hrow := HROW.out.below hBr
        obtain ⟨p1, p2⟩ := row_regrown hrow j (by omega)
        obtain ⟨p3, p4⟩ := row_regrown hrow (j + 1) hlt
        have hx : Ky (ks[j]'(by omega)) := HKY.out _ (List.getElem_mem _)
        have hy : Ky ks[j + 1] := HKY.out _ (List.getElem_mem hlt)
        have HC := Lib.hid (fun W => compare_b (sd (ks[j]'(by omega))) (pa (ks[j]'(by omega))) (sd ks[j + 1]) (pa ks[j + 1]) (-1) (by rw [key_back _ hx, key_back _ hy]; exact kcmp_lt _ _ (up_get ks HUP.out j hlt)) (pa_i64 _ hx) (pa_i64 _ hy) W)
        have tj : (0 : Int) ≤ (j : Int) := by omega
        have hgr : g < wr.heap.size := hrow.1.lt
        clear hrow hx hy
        generalize sd (ks[j]'(by omega)) = X1 at *
        generalize pa (ks[j]'(by omega)) = X2 at *
        generalize sd ks[j + 1] = Y1 at *
        generalize pa ks[j + 1] = Y2 at *
        go_wp2_with fail
        refine wp_region_quiet_below (by assumption) (by kernel_rfl) ?_
        repeat (go_big_quiet_step (first | (go_at_call 6; exact Calls.regrown_of (HC.out _))))
        refine wpQuiet_nil ?_
        intro _ hw'
        obtain ⟨⟨nq, osq⟩, hw''⟩ := hw'
        subst hw''
        have hBn := bt hBr (below_regrown wr nq osq)
        clear p1 p2 p3 p4
        go_wp2_with fail
        go_roundw
        case rel => exact ⟨j + 1, by go_num, .inr (by omega), hBn⟩
        case measure => simp [intOf]; omega
      · have HW := Lib.hid (bt hB1 hBr)
        have HRW := Lib.hid (crow_of_row (HROW.out.below hBr))
        have HKZ : Hid (∀ c ∈ ks.map cutOf, I64 c.2) := by
          intro c hc
          obtain ⟨k, hk, rfl⟩ := List.mem_map.1 hc
          exact pa_i64 k (HKY.out k hk)
        have HMK := Lib.hid (map_cutOf ks HKY.out)
        have hkl2 : (ks.map cutOf).length = ks.length := List.length_map ..
        have HLQ : Hid (leastK cs = leastK (ks.map cutOf)) := by
          unfold leastK; rw [HMK.out]; exact low_ext _ _ _ (fun x => (HMEM.out x).symm)
        have HGQ : Hid (greatK cs = greatK (ks.map cutOf)) := by
          unfold greatK; rw [HMK.out]; exact high_ext _ _ _ (fun x => (HMEM.out x).symm)
        go_wp2_with fail
        refine (HAL.out _).mono ?_
        rintro e x2 ⟨rfl, hB2⟩
        have hB3 := bt HW.out hB2
        have HRS := Lib.hid (rsort_any a cap cs x2 HZ.out (HR.out.below hB3) (by omega))
        go_wp2_with fail
        refine HRS.out.mono ?_
        rintro e x3 ⟨v, ls, ⟨rfl, hup2, hmem2, hout, hown⟩, hB4⟩
        obtain rfl : ls = ks := up_ext _ _ hup2 HUP.out (fun x => (hmem2 x).trans (HMEM.out x).symm)
        obtain ⟨a3, cp3, rfl, hcr3⟩ := crow_of_own hown hout
        have hcr4 := (HRW.out.below hB2).below hB4
        have HSA := Lib.hid (same_any (some ⟨g, 0, none⟩) a3 cp cp3 (ls.map cutOf) x3 hcr4 hcr3 (by omega))
        rw [hkl2] at HSA
        have hB5 := bt hB3 hB4
        have HC4 := Lib.hid hcr4
        clear hup2 hmem2 hout hown hcr3 hcr4 HRS hB4 hB3 hB2
        go_wp2_with fail
        refine HSA.out.mono ?_
        rintro e x4 ⟨rfl, hB6⟩
        have hB7 := bt hB5 hB6
        have HL1 := Lib.hid (least_any a cap cs x4 HZ.out (HR.out.below hB7) (by omega))
        rw [HLQ.out] at HL1
        obtain ⟨lx, ly, hlx, hly⟩ : ∃ lx ly, lx = sd (leastK (ls.map cutOf)) ∧ ly = pa (leastK (ls.map cutOf)) := ⟨_, _, rfl, rfl⟩
        obtain ⟨gx, gy, hgx, hgy⟩ : ∃ gx gy, gx = sd (greatK (ls.map cutOf)) ∧ gy = pa (greatK (ls.map cutOf)) := ⟨_, _, rfl, rfl⟩
        have HLL := Lib.hid (fun W (h : Go.RowKit.Below x4.heap.size x4 W) => least_any (some ⟨g, 0, none⟩) cp (ls.map cutOf) W HKZ.out ((HC4.out.below hB6).below h) (by omega))
        have HG1 := Lib.hid (fun W (h : Go.RowKit.Below x4.heap.size x4 W) => greatest_any a cap cs W HZ.out ((HR.out.below hB7).below h) (by omega))
        have HGL := Lib.hid (fun W (h : Go.RowKit.Below x4.heap.size x4 W) => greatest_any (some ⟨g, 0, none⟩) cp (ls.map cutOf) W HKZ.out ((HC4.out.below hB6).below h) (by omega))
        rw [HGQ.out, ← hgx, ← hgy] at HG1
        rw [hkl2, ← hgx, ← hgy] at HGL
        rw [hkl2, ← hlx, ← hly] at HLL
        rw [← hlx, ← hly] at HL1
        clear hlx hly hgx hgy hB5 HSA HLQ HGQ
        go_wp2_with fail
        refine HL1.out.mono ?_
        rintro e x5 ⟨rfl, hB8⟩
        go_wp2_with fail
        refine (HLL.out _ hB8).mono ?_
        rintro e x6 ⟨rfl, hB9⟩
        have hBa := bt hB8 hB9
        go_wp2_with fail
        refine (HG1.out _ hBa).mono ?_
        rintro e x7 ⟨rfl, hBb⟩
        have hBc := bt hBa hBb
        go_wp2_with fail
        refine (HGL.out _ hBc).mono ?_
        rintro e x8 ⟨rfl, hBd⟩
        go_wp2_with fail
        go_ret
        exact ⟨rfl, bt hB7 (bt hBc hBd)⟩
end Go.Proofs.Ytbpplhlkpfdegaa
