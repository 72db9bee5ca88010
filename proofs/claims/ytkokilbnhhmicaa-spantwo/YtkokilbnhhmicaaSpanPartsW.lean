/- The walk of the law SpanParts. -/
import Derived.Test.YtkokilbnhhmicaaBH
namespace Go.Proofs.Ytkokilbnhhmicaa
open Go.RowKit Go.Sort Go.Proofs.Ytkokilbnhhmicaa.Bo
set_option linter.unusedVariables false

/-- A row of just one span. -/
def OnePost (q : S4) (w : World) (e : Ending) (w' : World) : Prop := ∃ (a : Option Addr) (cap : Nat), (e = .returned (.slice a 1 cap) ∧ SRow w' a [q]) ∧ Go.RowKit.Below w.heap.size w w'
theorem slist_one (a : Option Addr) (cap : Nat) (q : S4) (ps : List (Int × Int)) (w : World) (hq : q.right = true) (hp : ∀ p ∈ ps, p.1 < p.2 ∧ Ky p.1 ∧ Ky p.2) (hc : ∀ n, (q.lo ≤ n ∧ n < q.hi) ↔ cov ps n) (hr : SRow w a (ps.map sp)) (hl : ps.length ≤ 50) :
    Calls Try.prog 39 #[.slice a ps.length cap] w (OnePost q w) := by
  obtain ⟨e, hlt⟩ := sp_of_right q hq
  have h := slist_eq a cap (ps.map sp) [(q.lo, q.hi)] w (norm_sing _ hlt) (fun n => by rw [cov_sing, rights_sp ps hp]; exact hc n) (map_ok ps fun p h => (hp p h).2) hr (by rw [List.length_map]; exact hl)
  rw [List.length_map] at h
  refine h.mono ?_
  rintro e2 w' ⟨a2, cap2, ⟨rfl, h2⟩, hb⟩
  refine ⟨a2, cap2, ⟨rfl, ?_⟩, hb⟩
  rw [List.map_cons, List.map_nil, ← e] at h2
  exact h2
theorem sp_has (p : Int × Int) (n : Int) (h1 : Ky p.1) (h2 : Ky p.2) : (sp p).has n = (decide (p.1 ≤ n) && decide (n < p.2)) := by
  unfold S4.has
  rw [sp_right p h1 h2, sp_lo p h1, sp_hi p h2]
  by_cases a : p.1 ≤ n <;> by_cases b : n < p.2 <;> simp [a, b]
  omega
theorem minusL_ky (q r : S4) (hq : q.ok) (hr : r.ok) : ∀ p ∈ minusL q r, p.1 < p.2 ∧ Ky p.1 ∧ Ky p.2 := by
  have k1 := q.ky_lo hq
  have k2 := q.ky_hi hq
  have k3 := r.ky_lo hr
  have k4 := r.ky_hi hr
  have k5 : Ky (mnk q.hi r.lo) := klow_ky _ _ k2 k3
  have k6 : Ky (mxk q.lo r.hi) := khigh_ky _ _ k1 k4
  intro p hp
  unfold minusL at hp
  rcases List.mem_append.1 hp with h | h
  · by_cases c : q.lo < mnk q.hi r.lo
    · rw [if_pos c] at h; simp at h; subst h; exact ⟨c, k1, k5⟩
    · rw [if_neg c] at h; simp at h
  · by_cases c : mxk q.lo r.hi < q.hi
    · rw [if_pos c] at h; simp at h; subst h; exact ⟨c, k6, k2⟩
    · rw [if_neg c] at h; simp at h
theorem minusL_len (q r : S4) : (minusL q r).length ≤ 2 := by
  unfold minusL
  rw [List.length_append]
  split <;> split <;> simp
/-- How often a number is counted. -/
def one (b : Bool) : Nat := if b = true then 1 else 0
theorem count_one (q r : S4) (hq : q.ok) (hr : r.ok) (n : Int) : ((minusL q r).map sp).countP (fun x => x.has n) = one (decide (q.lo ≤ n) && decide (n < mnk q.hi r.lo)) + one (decide (mxk q.lo r.hi ≤ n) && decide (n < q.hi)) := by
  have hk := minusL_ky q r hq hr
  have e : ((minusL q r).map sp).countP (fun x => x.has n) = (minusL q r).countP (fun p => decide (p.1 ≤ n) && decide (n < p.2)) := by
    rw [List.countP_map]
    refine List.countP_congr fun p hp => ?_
    have := hk p hp
    show (sp p).has n = true ↔ _
    rw [sp_has p n this.2.1 this.2.2]
  rw [e]
  unfold minusL
  rw [List.countP_append]
  congr 1
  · by_cases c : q.lo < mnk q.hi r.lo
    · rw [if_pos c]; simp [one]
    · rw [if_neg c]
      have : (decide (q.lo ≤ n) && decide (n < mnk q.hi r.lo)) = false := by
        by_cases a : q.lo ≤ n <;> by_cases b : n < mnk q.hi r.lo <;> simp [a, b]
        omega
      rw [this]; rfl
  · by_cases c : mxk q.lo r.hi < q.hi
    · rw [if_pos c]; simp [one]
    · rw [if_neg c]
      have : (decide (mxk q.lo r.hi ≤ n) && decide (n < q.hi)) = false := by
        by_cases a : mxk q.lo r.hi ≤ n <;> by_cases b : n < q.hi <;> simp [a, b]
        omega
      rw [this]; rfl
theorem lap_iff (q r : S4) (h1 : q.right = true) (h2 : r.right = true) : lapB q r = (decide (q.lo < r.hi) && decide (r.lo < q.hi)) := by unfold lapB; rw [h1, h2]; rfl
theorem lap_lt (q r : S4) (h1 : q.right = true) (h2 : r.right = true) (h : lapB q r = true) : q.lo < r.hi ∧ r.lo < q.hi := by
  rw [lap_iff q r h1 h2] at h
  simpa using h
theorem times_eq (q r : S4) (hq : q.ok) (hr : r.ok) (h1 : q.right = true) (h2 : r.right = true) (n : Int) :
    one (lapB q r && (meetS q r).has n) + ((minusL q r).map sp).countP (fun x => x.has n) = one (q.has n) := by
  have l1 := (sp_of_right q h1).2
  have l2 := (sp_of_right r h2).2
  have k1 := q.ky_lo hq
  have k2 := q.ky_hi hq
  have k3 := r.ky_lo hr
  have k4 := r.ky_hi hr
  rw [count_one q r hq hr n]
  have e : (lapB q r && (meetS q r).has n) = (decide (q.lo < r.hi) && decide (r.lo < q.hi) && (decide (mxk q.lo r.lo ≤ n) && decide (n < mnk q.hi r.hi))) := by
    by_cases c : lapB q r = true
    · unfold meetS
      rw [if_pos c, sp_has _ n (khigh_ky _ _ k1 k3) (klow_ky _ _ k2 k4), lap_iff q r h1 h2]; rfl
    · have c' : lapB q r = false := by simpa using c
      rw [c', Bool.false_and, ← lap_iff q r h1 h2, c', Bool.false_and]
  have e2 : q.has n = (decide (q.lo ≤ n) && decide (n < q.hi)) := by unfold S4.has; rw [h1]; rfl
  rw [e, e2]
  clear e e2 h1 h2 hq hr k1 k2 k3 k4
  generalize q.lo = a at *
  generalize q.hi = b at *
  generalize r.lo = c at *
  generalize r.hi = d at *
  unfold one mnk mxk
  simp only [Bool.and_eq_true, decide_eq_true_eq]
  repeat' split
  all_goals omega
/-- The numbers of one, parted. -/
theorem parts_cov (q r : S4) (h1 : q.right = true) (h2 : r.right = true) (n : Int) :
    (lapB q r = false → ((q.lo ≤ n ∧ n < q.hi) ↔ cov (minusL q r) n)) ∧ (lapB q r = true → ((q.lo ≤ n ∧ n < q.hi) ↔ cov (minusL q r ++ [(khigh q.lo r.lo, klow q.hi r.hi)]) n)) := by
  have l1 := (sp_of_right q h1).2
  have l2 := (sp_of_right r h2).2
  rw [cov_append, cov_sing, minusL_cov]
  show _ ∧ (_ → (_ ↔ _ ∨ (mxk q.lo r.lo ≤ n ∧ n < mnk q.hi r.hi)))
  rw [mxk_le, lt_mnk]
  refine ⟨fun h => ?_, fun h => ?_⟩
  · rw [lap_iff q r h1 h2] at h
    simp at h
    omega
  · have := lap_lt q r h1 h2 h
    omega

set_option maxRecDepth 100000 in
set_option maxHeartbeats 8000000 in
theorem spanParts_core (q r Z : S4) (n k l : Int) (D Hz Hq : Bool) (ps : List (Int × Int)) (w : World)
    (HR1 : Hid (∀ W, Calls Try.prog 28 #[.agg #[.int .i64 q.ls, .int .i64 q.la, .int .i64 q.hs, .int .i64 q.ha]] W fun e w' => e = .returned (.bool true) ∧ Go.RowKit.Below W.heap.size W w'))
    (HR2 : Hid (∀ W, Calls Try.prog 28 #[.agg #[.int .i64 r.ls, .int .i64 r.la, .int .i64 r.hs, .int .i64 r.ha]] W fun e w' => e = .returned (.bool true) ∧ Go.RowKit.Below W.heap.size W w'))
    (HM : Hid (∀ W, Calls Try.prog 11 #[.agg #[.int .i64 q.ls, .int .i64 q.la, .int .i64 q.hs, .int .i64 q.ha], .agg #[.int .i64 r.ls, .int .i64 r.la, .int .i64 r.hs, .int .i64 r.ha]] W fun e w' => e = .returned (.tuple #[.agg #[.int .i64 Z.ls, .int .i64 Z.la, .int .i64 Z.hs, .int .i64 Z.ha], .bool D]) ∧ Go.RowKit.Below W.heap.size W w'))
    (HH : Hid (∀ W, Calls Try.prog 29 #[.agg #[.int .i64 Z.ls, .int .i64 Z.la, .int .i64 Z.hs, .int .i64 Z.ha], .int .i64 n] W fun e w' => e = .returned (.bool Hz) ∧ Go.RowKit.Below W.heap.size W w'))
    (HX : Hid (∀ (j : Nat) (h : j < (ps.map sp).length) W, Calls Try.prog 29 #[.agg #[.int .i64 (ps.map sp)[j].ls, .int .i64 (ps.map sp)[j].la, .int .i64 (ps.map sp)[j].hs, .int .i64 (ps.map sp)[j].ha], .int .i64 n] W fun e w' => e = .returned (.bool ((ps.map sp)[j].has n)) ∧ Go.RowKit.Below W.heap.size W w'))
    (HMI : Hid (∀ W, Calls Try.prog 23 #[.agg #[.int .i64 q.ls, .int .i64 q.la, .int .i64 q.hs, .int .i64 q.ha], .agg #[.int .i64 r.ls, .int .i64 r.la, .int .i64 r.hs, .int .i64 r.ha]] W (OwnPost ps W)))
    (HRH : Hid (∀ W, Calls Try.prog 30 #[.agg #[.int .i64 q.ls, .int .i64 q.la, .int .i64 q.hs, .int .i64 q.ha], .int .i64 n] W fun e w' => e = .returned (.bool Hq) ∧ Go.RowKit.Below W.heap.size W w'))
    (hpl : ps.length ≤ 2)
    (HT : Hid (one (D && Hz) + (ps.map sp).countP (fun x => x.has n) = one Hq))
    (HZ : Hid (D = true → Z = sp (k, l)))
    (HLF : Hid (D = false → ∀ (a : Option Addr) cap W, SRow W a (ps.map sp) → Calls Try.prog 39 #[.slice a ps.length cap] W (OnePost q W)))
    (HLT : Hid (D = true → ∀ (a : Option Addr) cap W, SRow W a ((ps ++ [(k, l)]).map sp) → Calls Try.prog 39 #[.slice a (ps.length + 1) cap] W (OnePost q W))) :
    Calls Try.prog 7 #[vS q, vS r, .int .i64 n] w fun e w' => e = .returned (.bool true) ∧ Go.RowKit.Below w.heap.size w w' := by
  have mx := mixed
  obtain ⟨i0, hi, hz0, hz1, hz2⟩ := info_parts Try.infoSpan
  have HAL := Lib.hid salive_any
  have HON := Lib.hid (fun W => one_any q W)
  have HSA := Lib.hid (fun a a2 cap cap2 W (h1 : SRow W a [q]) (h2 : SRow W a2 [q]) => rsame_any a a2 cap cap2 [q] W h1 h2 (by simp))
  have HB := Lib.hid (Pair4.new w q r)
  have hL0 := bt (below_new w (.cells #[.int .i64 q.ls, .int .i64 q.la, .int .i64 q.hs, .int .i64 q.ha] 25)) (below_new _ (.cells #[.int .i64 r.ls, .int .i64 r.la, .int .i64 r.hs, .int .i64 r.ha] 25))
  go_enter Try.func7, Try.ntmps7
  obtain ⟨c1, c2, c3, c4, c5, c6, c7, c8⟩ := HB.out.cells
  go_wp2_with fail
  generalize ((w.alloc (.cells #[.int .i64 q.ls, .int .i64 q.la, .int .i64 q.hs, .int .i64 q.ha] 25)).alloc (.cells #[.int .i64 r.ls, .int .i64 r.la, .int .i64 r.hs, .int .i64 r.ha] 25)) = X0 at *
  refine (HR1.out _).mono ?_
  rintro e y1 ⟨rfl, hB1⟩
  have HB1 := Lib.hid (HB.out.on hB1)
  have hL1 := bt hL0 hB1
  clear c1 c2 c3 c4 c5 c6 c7 c8 HB hB1 hL0
  obtain ⟨c1, c2, c3, c4, c5, c6, c7, c8⟩ := HB1.out.cells
  go_wp2_with fail
  refine (HR2.out _).mono ?_
  rintro e y2 ⟨rfl, hB2⟩
  have HB2 := Lib.hid (HB1.out.on hB2)
  have hL2 := bt hL1 hB2
  clear c1 c2 c3 c4 c5 c6 c7 c8 HB1 hB2 hL1
  obtain ⟨c1, c2, c3, c4, c5, c6, c7, c8⟩ := HB2.out.cells
  go_wp2_with fail
  refine (HM.out _).mono ?_
  rintro e y3 ⟨rfl, hB3⟩
  have hA3 := bt hB3 (below_new y3 (.cells #[.int .i64 Z.ls, .int .i64 Z.la, .int .i64 Z.hs, .int .i64 Z.ha] 25))
  have HB3 := Lib.hid (HB2.out.on hA3)
  have hL3 := bt hL2 hA3
  have HZ3 : Hid (Box4 (y3.alloc (.cells #[.int .i64 Z.ls, .int .i64 Z.la, .int .i64 Z.hs, .int .i64 Z.ha] 25)) y3.heap.size Z) := heap_alloc_new _ _
  clear c1 c2 c3 c4 c5 c6 c7 c8 HB2 hB3 hA3 hL2 HR1 HR2 HM
  obtain ⟨z1, z2, z3, z4⟩ := HZ3.out.cells
  cases D with
  | false =>
    cases Hq with
    | false =>
      have HB4 := HB3
      have HZ4 := HZ3
      have hL4 := hL3
      clear z1 z2 z3 z4
      clear HB3 HZ3 hL3
      obtain ⟨c1, c2, c3, c4, c5, c6, c7, c8⟩ := HB4.out.cells
      go_wp2_with fail
      generalize y3.alloc (.cells #[.int .i64 Z.ls, .int .i64 Z.la, .int .i64 Z.hs, .int .i64 Z.ha] 25) = y4 at *
      generalize y3.heap.size = N3 at *
      clear c1 c2 c3 c4 c5 c6 c7 c8
      refine (HMI.out _).mono ?_
      rintro e y5 ⟨a5, cap5, ⟨rfl, ho5⟩, hB5⟩
      have HO5 := Lib.hid ho5
      have HY5 := Lib.hid hB5
      clear ho5 hB5
      go_wp2_with fail
      go_loopw [9, 42] (fun t i wr => ∃ j : Nat, i = .int .i64 (j : Int) ∧ t = .int .i64 ((0 + ((ps.map sp).take j).countP (fun x => x.has n) : Nat) : Int) ∧ j ≤ ps.length ∧ Go.RowKit.Below y5.heap.size y5 wr) (fun _ i _ => ps.length - (intOf i).toNat)
      case atStart => exact ⟨0, rfl, rfl, Nat.zero_le _, Go.RowKit.Below.refl _ _⟩
      case round =>
        obtain ⟨j, rfl, rfl, hj, hBr⟩ := hrel
        by_cases hlt : j < ps.length
        · have hlt' : j < (ps.map sp).length := by rw [List.length_map]; exact hlt
          obtain ⟨b, off, rfl, hc⟩ := ((own_srow HO5.out rfl).below hBr) (by omega)
          obtain ⟨c1, c2, c3, c4⟩ := hc j hlt'
          have HHX := Lib.hid (fun W => HX.out j hlt' W)
          have HTK : Hid (((ps.map sp).take (j + 1)).countP (fun x => x.has n) = ((ps.map sp).take j).countP (fun x => x.has n) + one ((ps.map sp)[j].has n)) := by
            show _ = _
            rw [List.take_succ_eq_append_getElem hlt', List.countP_append]
            congr 1
            unfold one
            rw [List.countP_singleton]
          have ti0 : (0 : Int) ≤ (j : Int) := by omega
          have ti1 : (j : Int) < (ps.length : Int) := by omega
          have hcl : ((ps.map sp).take j).countP (fun x => x.has n) ≤ j := Nat.le_trans List.countP_le_length (List.length_take_le _ _)
          clear hc
          obtain ⟨A2, hA2⟩ : ∃ A2, ((ps.map sp).take (j + 1)).countP (fun x => x.has n) = A2 := ⟨_, rfl⟩
          rw [hA2] at HTK
          have HA2 := Lib.hid hA2
          clear hA2
          generalize ((ps.map sp).take j).countP (fun x => x.has n) = A1 at *
          generalize (ps.map sp)[j].has n = H at *
          generalize (ps.map sp)[j] = q' at *
          have hBx := bt hBr (below_new wr (.cells #[.int .i64 q'.ls, .int .i64 q'.la, .int .i64 q'.hs, .int .i64 q'.ha] 25))
          go_wp2_with fail
          refine (HHX.out _).mono ?_
          rintro e y6 ⟨rfl, hB6⟩
          have hB7 := bt hBx hB6
          clear c1 c2 c3 c4
          cases H with
          | true =>
            go_wp2_with fail
            go_roundw
            case rel => exact ⟨j + 1, by go_num, by rw [HA2.out, HTK.out]; first | (simp [one]; done) | (simp only [one]; go_num), by omega, hB7⟩
            case measure => simp [intOf]; omega
          | false =>
            go_wp2_with fail
            go_roundw
            case rel => exact ⟨j + 1, by go_num, by rw [HA2.out, HTK.out]; first | rfl | simp [one], by omega, hB7⟩
            case measure => simp [intOf]; omega
        · obtain rfl : j = ps.length := by omega
          have HTE : Hid (0 + ((ps.map sp).take ps.length).countP (fun x => x.has n) = 0) := by
            show _ = _
            rw [show ps.length = (ps.map sp).length from (List.length_map ..).symm, List.take_length]
            exact HT.out
          rw [HTE.out]
          have HY8 := Lib.hid (bt HY5.out hBr)
          have HO8 := Lib.hid (own_on HO5.out hBr)
          clear hBr HO5 HY5
          have HB8 := Lib.hid (HB4.out.on HY8.out)
          have HZ8 := Lib.hid (HZ4.out.on HY8.out)
          have HL8 := Lib.hid (bt hL4 HY8.out)
          obtain ⟨c1, c2, c3, c4, c5, c6, c7, c8⟩ := HB8.out.cells
          go_wp2_with fail
          refine (HRH.out _).mono ?_
          rintro e y9 ⟨rfl, hB9⟩
          have HY9 := Lib.hid (bt HY8.out hB9)
          have HO9 := Lib.hid (own_on HO8.out hB9)
          have HB9 := Lib.hid (HB8.out.on hB9)
          have HZ9 := Lib.hid (HZ8.out.on hB9)
          clear hB9 HY8 HO8 HB8 HZ8 HL8 c1 c2 c3 c4 c5 c6 c7 c8
          have HS11 := Lib.hid (own_srow HO9.out rfl)
          have HLI := Lib.hid (fun a cap W h => HLF.out (by trivial) a cap W h)
          have HB11 := HB9
          have HL11 := Lib.hid (bt hL4 HY9.out)
          clear HO9 HY9 HB9 HZ9 HZ4 hL4 HB4
          go_wp2_with fail
          generalize y9 = w1 at *
          have HQ11 : Hid (Box4 w1 w.heap.size q) := HB11.out.1
          obtain ⟨c1, c2, c3, c4⟩ := HQ11.out.cells
          go_region_held3 (fun w' => w'.cell? ⟨w.heap.size, 0, none⟩ = some (.int .i64 q.ls) ∧ w'.cell? ⟨w.heap.size, 1, none⟩ = some (.int .i64 q.la) ∧ w'.cell? ⟨w.heap.size, 2, none⟩ = some (.int .i64 q.hs) ∧ w'.cell? ⟨w.heap.size, 3, none⟩ = some (.int .i64 q.ha))
            (with_reducible (focus (refine (HQ11.out.on ?_).cells; (repeat (first | assumption | exact Go.RowKit.Below.refl _ _ | refine bl_drew ?_)); done)))
            (first
              | (go_at_call 18; (refine (HAL.out _).mono ?_); rintro e Y1 ⟨rfl, hB1⟩; have hT1 : Go.RowKit.Below w1.heap.size w1 Y1 := bt (by with_reducible repeat (first | exact Go.RowKit.Below.refl _ _ | refine bl_drew ?_)) hB1; clear hB1)
              | (go_at_call 39; (refine (HLI.out _ _ _ (HS11.out.below (by with_reducible repeat (first | exact hT1 | refine bl_drew ?_)))).mono ?_); rintro e Y2 ⟨a2, cap2, ⟨rfl, hs2⟩, hB2⟩; have hT2 : Go.RowKit.Below w1.heap.size w1 Y2 := bt (by with_reducible repeat (first | exact hT1 | refine bl_drew ?_)) hB2; have HQ2 := Lib.hid hs2; clear hB2 hs2)
              | (go_at_call 10; (refine (HON.out _).mono ?_); rintro e Y3 ⟨⟨a3, rfl, hs3⟩, hB3⟩; have hB3' : Go.RowKit.Below Y2.heap.size Y2 Y3 := bt (by with_reducible repeat (first | exact Go.RowKit.Below.refl _ _ | refine bl_drew ?_)) hB3; have hT3 := bt hT2 hB3'; have HQ3 := Lib.hid (HQ2.out.below hB3'); have HR3 := Lib.hid hs3; clear hB3 hB3' hs3)
              | (go_at_call 22; (refine (HSA.out _ _ _ _ _ (HQ3.out.below (by with_reducible repeat (first | exact Go.RowKit.Below.refl _ _ | refine bl_drew ?_))) (HR3.out.below (by with_reducible repeat (first | exact Go.RowKit.Below.refl _ _ | refine bl_drew ?_)))).mono ?_); rintro e Y4 ⟨rfl, hB4⟩; have hT4 : Go.RowKit.Below w1.heap.size w1 Y4 := bt (by with_reducible repeat (first | exact hT3 | refine bl_drew ?_)) hB4; clear hB4))
          all_goals
            go_wp2_with fail
            go_ret
            exact ⟨rfl, bt HL11.out hT4⟩
    | true =>
      have HB4 := HB3
      have HZ4 := HZ3
      have hL4 := hL3
      clear z1 z2 z3 z4
      clear HB3 HZ3 hL3
      obtain ⟨c1, c2, c3, c4, c5, c6, c7, c8⟩ := HB4.out.cells
      go_wp2_with fail
      generalize y3.alloc (.cells #[.int .i64 Z.ls, .int .i64 Z.la, .int .i64 Z.hs, .int .i64 Z.ha] 25) = y4 at *
      generalize y3.heap.size = N3 at *
      clear c1 c2 c3 c4 c5 c6 c7 c8
      refine (HMI.out _).mono ?_
      rintro e y5 ⟨a5, cap5, ⟨rfl, ho5⟩, hB5⟩
      have HO5 := Lib.hid ho5
      have HY5 := Lib.hid hB5
      clear ho5 hB5
      go_wp2_with fail
      go_loopw [9, 42] (fun t i wr => ∃ j : Nat, i = .int .i64 (j : Int) ∧ t = .int .i64 ((0 + ((ps.map sp).take j).countP (fun x => x.has n) : Nat) : Int) ∧ j ≤ ps.length ∧ Go.RowKit.Below y5.heap.size y5 wr) (fun _ i _ => ps.length - (intOf i).toNat)
      case atStart => exact ⟨0, rfl, rfl, Nat.zero_le _, Go.RowKit.Below.refl _ _⟩
      case round =>
        obtain ⟨j, rfl, rfl, hj, hBr⟩ := hrel
        by_cases hlt : j < ps.length
        · have hlt' : j < (ps.map sp).length := by rw [List.length_map]; exact hlt
          obtain ⟨b, off, rfl, hc⟩ := ((own_srow HO5.out rfl).below hBr) (by omega)
          obtain ⟨c1, c2, c3, c4⟩ := hc j hlt'
          have HHX := Lib.hid (fun W => HX.out j hlt' W)
          have HTK : Hid (((ps.map sp).take (j + 1)).countP (fun x => x.has n) = ((ps.map sp).take j).countP (fun x => x.has n) + one ((ps.map sp)[j].has n)) := by
            show _ = _
            rw [List.take_succ_eq_append_getElem hlt', List.countP_append]
            congr 1
            unfold one
            rw [List.countP_singleton]
          have ti0 : (0 : Int) ≤ (j : Int) := by omega
          have ti1 : (j : Int) < (ps.length : Int) := by omega
          have hcl : ((ps.map sp).take j).countP (fun x => x.has n) ≤ j := Nat.le_trans List.countP_le_length (List.length_take_le _ _)
          clear hc
          obtain ⟨A2, hA2⟩ : ∃ A2, ((ps.map sp).take (j + 1)).countP (fun x => x.has n) = A2 := ⟨_, rfl⟩
          rw [hA2] at HTK
          have HA2 := Lib.hid hA2
          clear hA2
          generalize ((ps.map sp).take j).countP (fun x => x.has n) = A1 at *
          generalize (ps.map sp)[j].has n = H at *
          generalize (ps.map sp)[j] = q' at *
          have hBx := bt hBr (below_new wr (.cells #[.int .i64 q'.ls, .int .i64 q'.la, .int .i64 q'.hs, .int .i64 q'.ha] 25))
          go_wp2_with fail
          refine (HHX.out _).mono ?_
          rintro e y6 ⟨rfl, hB6⟩
          have hB7 := bt hBx hB6
          clear c1 c2 c3 c4
          cases H with
          | true =>
            go_wp2_with fail
            go_roundw
            case rel => exact ⟨j + 1, by go_num, by rw [HA2.out, HTK.out]; first | (simp [one]; done) | (simp only [one]; go_num), by omega, hB7⟩
            case measure => simp [intOf]; omega
          | false =>
            go_wp2_with fail
            go_roundw
            case rel => exact ⟨j + 1, by go_num, by rw [HA2.out, HTK.out]; first | rfl | simp [one], by omega, hB7⟩
            case measure => simp [intOf]; omega
        · obtain rfl : j = ps.length := by omega
          have HTE : Hid (0 + ((ps.map sp).take ps.length).countP (fun x => x.has n) = 1) := by
            show _ = _
            rw [show ps.length = (ps.map sp).length from (List.length_map ..).symm, List.take_length]
            exact HT.out
          rw [HTE.out]
          have HY8 := Lib.hid (bt HY5.out hBr)
          have HO8 := Lib.hid (own_on HO5.out hBr)
          clear hBr HO5 HY5
          have HB8 := Lib.hid (HB4.out.on HY8.out)
          have HZ8 := Lib.hid (HZ4.out.on HY8.out)
          have HL8 := Lib.hid (bt hL4 HY8.out)
          obtain ⟨c1, c2, c3, c4, c5, c6, c7, c8⟩ := HB8.out.cells
          go_wp2_with fail
          refine (HRH.out _).mono ?_
          rintro e y9 ⟨rfl, hB9⟩
          have HY9 := Lib.hid (bt HY8.out hB9)
          have HO9 := Lib.hid (own_on HO8.out hB9)
          have HB9 := Lib.hid (HB8.out.on hB9)
          have HZ9 := Lib.hid (HZ8.out.on hB9)
          clear hB9 HY8 HO8 HB8 HZ8 HL8 c1 c2 c3 c4 c5 c6 c7 c8
          have HS11 := Lib.hid (own_srow HO9.out rfl)
          have HLI := Lib.hid (fun a cap W h => HLF.out (by trivial) a cap W h)
          have HB11 := HB9
          have HL11 := Lib.hid (bt hL4 HY9.out)
          clear HO9 HY9 HB9 HZ9 HZ4 hL4 HB4
          go_wp2_with fail
          generalize y9 = w1 at *
          have HQ11 : Hid (Box4 w1 w.heap.size q) := HB11.out.1
          obtain ⟨c1, c2, c3, c4⟩ := HQ11.out.cells
          go_region_held3 (fun w' => w'.cell? ⟨w.heap.size, 0, none⟩ = some (.int .i64 q.ls) ∧ w'.cell? ⟨w.heap.size, 1, none⟩ = some (.int .i64 q.la) ∧ w'.cell? ⟨w.heap.size, 2, none⟩ = some (.int .i64 q.hs) ∧ w'.cell? ⟨w.heap.size, 3, none⟩ = some (.int .i64 q.ha))
            (with_reducible (focus (refine (HQ11.out.on ?_).cells; (repeat (first | assumption | exact Go.RowKit.Below.refl _ _ | refine bl_drew ?_)); done)))
            (first
              | (go_at_call 18; (refine (HAL.out _).mono ?_); rintro e Y1 ⟨rfl, hB1⟩; have hT1 : Go.RowKit.Below w1.heap.size w1 Y1 := bt (by with_reducible repeat (first | exact Go.RowKit.Below.refl _ _ | refine bl_drew ?_)) hB1; clear hB1)
              | (go_at_call 39; (refine (HLI.out _ _ _ (HS11.out.below (by with_reducible repeat (first | exact hT1 | refine bl_drew ?_)))).mono ?_); rintro e Y2 ⟨a2, cap2, ⟨rfl, hs2⟩, hB2⟩; have hT2 : Go.RowKit.Below w1.heap.size w1 Y2 := bt (by with_reducible repeat (first | exact hT1 | refine bl_drew ?_)) hB2; have HQ2 := Lib.hid hs2; clear hB2 hs2)
              | (go_at_call 10; (refine (HON.out _).mono ?_); rintro e Y3 ⟨⟨a3, rfl, hs3⟩, hB3⟩; have hB3' : Go.RowKit.Below Y2.heap.size Y2 Y3 := bt (by with_reducible repeat (first | exact Go.RowKit.Below.refl _ _ | refine bl_drew ?_)) hB3; have hT3 := bt hT2 hB3'; have HQ3 := Lib.hid (HQ2.out.below hB3'); have HR3 := Lib.hid hs3; clear hB3 hB3' hs3)
              | (go_at_call 22; (refine (HSA.out _ _ _ _ _ (HQ3.out.below (by with_reducible repeat (first | exact Go.RowKit.Below.refl _ _ | refine bl_drew ?_))) (HR3.out.below (by with_reducible repeat (first | exact Go.RowKit.Below.refl _ _ | refine bl_drew ?_)))).mono ?_); rintro e Y4 ⟨rfl, hB4⟩; have hT4 : Go.RowKit.Below w1.heap.size w1 Y4 := bt (by with_reducible repeat (first | exact hT3 | refine bl_drew ?_)) hB4; clear hB4))
          all_goals
            go_wp2_with fail
            go_ret
            exact ⟨rfl, bt HL11.out hT4⟩
  | true =>
    obtain rfl := HZ.out rfl
    cases Hz with
    | false =>
      cases Hq with
      | false =>
        go_wp2_with fail
        generalize y3.alloc (.cells #[.int .i64 (sp (k, l)).ls, .int .i64 (sp (k, l)).la, .int .i64 (sp (k, l)).hs, .int .i64 (sp (k, l)).ha] 25) = X3 at *
        generalize y3.heap.size = N3 at *
        refine (HH.out _).mono ?_
        rintro e y4 ⟨rfl, hB4⟩
        have HB4 := Lib.hid (HB3.out.on hB4)
        have HZ4 := Lib.hid (HZ3.out.on hB4)
        have hL4 := bt hL3 hB4
        clear z1 z2 z3 z4 HB3 HZ3 hL3 hB4
        obtain ⟨c1, c2, c3, c4, c5, c6, c7, c8⟩ := HB4.out.cells
        go_wp2_with fail
        clear c1 c2 c3 c4 c5 c6 c7 c8
        refine (HMI.out _).mono ?_
        rintro e y5 ⟨a5, cap5, ⟨rfl, ho5⟩, hB5⟩
        have HO5 := Lib.hid ho5
        have HY5 := Lib.hid hB5
        clear ho5 hB5
        go_wp2_with fail
        go_loopw [9, 42] (fun t i wr => ∃ j : Nat, i = .int .i64 (j : Int) ∧ t = .int .i64 ((0 + ((ps.map sp).take j).countP (fun x => x.has n) : Nat) : Int) ∧ j ≤ ps.length ∧ Go.RowKit.Below y5.heap.size y5 wr) (fun _ i _ => ps.length - (intOf i).toNat)
        case atStart => exact ⟨0, rfl, rfl, Nat.zero_le _, Go.RowKit.Below.refl _ _⟩
        case round =>
          obtain ⟨j, rfl, rfl, hj, hBr⟩ := hrel
          by_cases hlt : j < ps.length
          · have hlt' : j < (ps.map sp).length := by rw [List.length_map]; exact hlt
            obtain ⟨b, off, rfl, hc⟩ := ((own_srow HO5.out rfl).below hBr) (by omega)
            obtain ⟨c1, c2, c3, c4⟩ := hc j hlt'
            have HHX := Lib.hid (fun W => HX.out j hlt' W)
            have HTK : Hid (((ps.map sp).take (j + 1)).countP (fun x => x.has n) = ((ps.map sp).take j).countP (fun x => x.has n) + one ((ps.map sp)[j].has n)) := by
              show _ = _
              rw [List.take_succ_eq_append_getElem hlt', List.countP_append]
              congr 1
              unfold one
              rw [List.countP_singleton]
            have ti0 : (0 : Int) ≤ (j : Int) := by omega
            have ti1 : (j : Int) < (ps.length : Int) := by omega
            have hcl : ((ps.map sp).take j).countP (fun x => x.has n) ≤ j := Nat.le_trans List.countP_le_length (List.length_take_le _ _)
            clear hc
            obtain ⟨A2, hA2⟩ : ∃ A2, ((ps.map sp).take (j + 1)).countP (fun x => x.has n) = A2 := ⟨_, rfl⟩
            rw [hA2] at HTK
            have HA2 := Lib.hid hA2
            clear hA2
            generalize ((ps.map sp).take j).countP (fun x => x.has n) = A1 at *
            generalize (ps.map sp)[j].has n = H at *
            generalize (ps.map sp)[j] = q' at *
            have hBx := bt hBr (below_new wr (.cells #[.int .i64 q'.ls, .int .i64 q'.la, .int .i64 q'.hs, .int .i64 q'.ha] 25))
            go_wp2_with fail
            refine (HHX.out _).mono ?_
            rintro e y6 ⟨rfl, hB6⟩
            have hB7 := bt hBx hB6
            clear c1 c2 c3 c4
            cases H with
            | true =>
              go_wp2_with fail
              go_roundw
              case rel => exact ⟨j + 1, by go_num, by rw [HA2.out, HTK.out]; first | (simp [one]; done) | (simp only [one]; go_num), by omega, hB7⟩
              case measure => simp [intOf]; omega
            | false =>
              go_wp2_with fail
              go_roundw
              case rel => exact ⟨j + 1, by go_num, by rw [HA2.out, HTK.out]; first | rfl | simp [one], by omega, hB7⟩
              case measure => simp [intOf]; omega
          · obtain rfl : j = ps.length := by omega
            have HTE : Hid (0 + ((ps.map sp).take ps.length).countP (fun x => x.has n) = 0) := by
              show _ = _
              rw [show ps.length = (ps.map sp).length from (List.length_map ..).symm, List.take_length]
              exact HT.out
            rw [HTE.out]
            have HY8 := Lib.hid (bt HY5.out hBr)
            have HO8 := Lib.hid (own_on HO5.out hBr)
            clear hBr HO5 HY5
            have HB8 := Lib.hid (HB4.out.on HY8.out)
            have HZ8 := Lib.hid (HZ4.out.on HY8.out)
            have HL8 := Lib.hid (bt hL4 HY8.out)
            obtain ⟨c1, c2, c3, c4, c5, c6, c7, c8⟩ := HB8.out.cells
            go_wp2_with fail
            refine (HRH.out _).mono ?_
            rintro e y9 ⟨rfl, hB9⟩
            have HY9 := Lib.hid (bt HY8.out hB9)
            have HO9 := Lib.hid (own_on HO8.out hB9)
            have HB9 := Lib.hid (HB8.out.on hB9)
            have HZ9 := Lib.hid (HZ8.out.on hB9)
            clear hB9 HY8 HO8 HB8 HZ8 HL8 c1 c2 c3 c4 c5 c6 c7 c8
            obtain ⟨z1, z2, z3, z4⟩ := HZ9.out.cells
            have HO10 := Lib.hid (own_on HO9.out (below_new y9 (.cells #[.int .i64 (sp (k, l)).ls, .int .i64 (sp (k, l)).la, .int .i64 (sp (k, l)).hs, .int .i64 (sp (k, l)).ha] 25)))
            have HY10 := Lib.hid (bt HY9.out (below_new y9 (.cells #[.int .i64 (sp (k, l)).ls, .int .i64 (sp (k, l)).la, .int .i64 (sp (k, l)).hs, .int .i64 (sp (k, l)).ha] 25)))
            have hsz := HY10.out.size
            go_wp2_with (at_builtin; refine wpList_append_lies _ rfl _ _ 26 rfl y4.heap.size 25 i0 (.agg #[.int .i64 0, .int .i64 0, .int .i64 0, .int .i64 0]) 4 32 Try.underlying26 hi hz0 hz1 hz2 rfl (by decide) _ ps.length (flatL (keysOf ps)) (by rfl) HO10.out ⟨y9.heap.size, 0, none⟩ 1 1 [.int .i64 (sd k), .int .i64 (pa k), .int .i64 (sd l), .int .i64 (pa l)] (by rfl) rfl (World.news_of_block (heap_alloc_new y9 _)) (one_four _ _ _ _) (by decide) (by unfold maxLen; omega) (by omega) hsz _ rfl ?_; intro g2 cap2 w1 hown1 hgrow1 hat1 hlt1; have HO11 := Lib.hid hown1; have HY11 := Lib.hid (HY10.out.grown hgrow1 HY10.out.size (fun k hk => (HO10.out.lt k hk).1)); clear hown1 hgrow1 z1 z2 z3 z4)
            have HS11 : Hid (SRow w1 (some ⟨g2, 0, none⟩) ((ps ++ [(k, l)]).map sp)) := by
              have h := HO11.out
              rw [show flatL (keysOf ps) ++ [.int .i64 (sd k), .int .i64 (pa k), .int .i64 (sd l), .int .i64 (pa l)] = flatL (keysOf (ps ++ [(k, l)])) from by rw [keysOf_snoc, flatL_two]] at h
              exact own_srow h (by simp)
            have HLI := Lib.hid (fun a cap W h => HLT.out (by trivial) a cap W h)
            have HB11 := Lib.hid (HB4.out.on HY11.out)
            have HL11 := Lib.hid (bt hL4 HY11.out)
            clear HO9 HO10 HY9 HY10 HO11 HB9 HZ9 HZ4 hL4 HB4 HY11 hsz hat1 hlt1
            have HQ11 : Hid (Box4 w1 w.heap.size q) := HB11.out.1
            obtain ⟨c1, c2, c3, c4⟩ := HQ11.out.cells
            go_region_held3 (fun w' => w'.cell? ⟨w.heap.size, 0, none⟩ = some (.int .i64 q.ls) ∧ w'.cell? ⟨w.heap.size, 1, none⟩ = some (.int .i64 q.la) ∧ w'.cell? ⟨w.heap.size, 2, none⟩ = some (.int .i64 q.hs) ∧ w'.cell? ⟨w.heap.size, 3, none⟩ = some (.int .i64 q.ha))
              (with_reducible (focus (refine (HQ11.out.on ?_).cells; (repeat (first | assumption | exact Go.RowKit.Below.refl _ _ | refine bl_drew ?_)); done)))
              (first
                | (go_at_call 18; (refine (HAL.out _).mono ?_); rintro e Y1 ⟨rfl, hB1⟩; have hT1 : Go.RowKit.Below w1.heap.size w1 Y1 := bt (by with_reducible repeat (first | exact Go.RowKit.Below.refl _ _ | refine bl_drew ?_)) hB1; clear hB1)
                | (go_at_call 39; (refine (HLI.out _ _ _ (HS11.out.below (by with_reducible repeat (first | exact hT1 | refine bl_drew ?_)))).mono ?_); rintro e Y2 ⟨a2, cap2, ⟨rfl, hs2⟩, hB2⟩; have hT2 : Go.RowKit.Below w1.heap.size w1 Y2 := bt (by with_reducible repeat (first | exact hT1 | refine bl_drew ?_)) hB2; have HQ2 := Lib.hid hs2; clear hB2 hs2)
                | (go_at_call 10; (refine (HON.out _).mono ?_); rintro e Y3 ⟨⟨a3, rfl, hs3⟩, hB3⟩; have hB3' : Go.RowKit.Below Y2.heap.size Y2 Y3 := bt (by with_reducible repeat (first | exact Go.RowKit.Below.refl _ _ | refine bl_drew ?_)) hB3; have hT3 := bt hT2 hB3'; have HQ3 := Lib.hid (HQ2.out.below hB3'); have HR3 := Lib.hid hs3; clear hB3 hB3' hs3)
                | (go_at_call 22; (refine (HSA.out _ _ _ _ _ (HQ3.out.below (by with_reducible repeat (first | exact Go.RowKit.Below.refl _ _ | refine bl_drew ?_))) (HR3.out.below (by with_reducible repeat (first | exact Go.RowKit.Below.refl _ _ | refine bl_drew ?_)))).mono ?_); rintro e Y4 ⟨rfl, hB4⟩; have hT4 : Go.RowKit.Below w1.heap.size w1 Y4 := bt (by with_reducible repeat (first | exact hT3 | refine bl_drew ?_)) hB4; clear hB4))
            all_goals
              go_wp2_with fail
              go_ret
              exact ⟨rfl, bt HL11.out hT4⟩
      | true =>
        go_wp2_with fail
        generalize y3.alloc (.cells #[.int .i64 (sp (k, l)).ls, .int .i64 (sp (k, l)).la, .int .i64 (sp (k, l)).hs, .int .i64 (sp (k, l)).ha] 25) = X3 at *
        generalize y3.heap.size = N3 at *
        refine (HH.out _).mono ?_
        rintro e y4 ⟨rfl, hB4⟩
        have HB4 := Lib.hid (HB3.out.on hB4)
        have HZ4 := Lib.hid (HZ3.out.on hB4)
        have hL4 := bt hL3 hB4
        clear z1 z2 z3 z4 HB3 HZ3 hL3 hB4
        obtain ⟨c1, c2, c3, c4, c5, c6, c7, c8⟩ := HB4.out.cells
        go_wp2_with fail
        clear c1 c2 c3 c4 c5 c6 c7 c8
        refine (HMI.out _).mono ?_
        rintro e y5 ⟨a5, cap5, ⟨rfl, ho5⟩, hB5⟩
        have HO5 := Lib.hid ho5
        have HY5 := Lib.hid hB5
        clear ho5 hB5
        go_wp2_with fail
        go_loopw [9, 42] (fun t i wr => ∃ j : Nat, i = .int .i64 (j : Int) ∧ t = .int .i64 ((0 + ((ps.map sp).take j).countP (fun x => x.has n) : Nat) : Int) ∧ j ≤ ps.length ∧ Go.RowKit.Below y5.heap.size y5 wr) (fun _ i _ => ps.length - (intOf i).toNat)
        case atStart => exact ⟨0, rfl, rfl, Nat.zero_le _, Go.RowKit.Below.refl _ _⟩
        case round =>
          obtain ⟨j, rfl, rfl, hj, hBr⟩ := hrel
          by_cases hlt : j < ps.length
          · have hlt' : j < (ps.map sp).length := by rw [List.length_map]; exact hlt
            obtain ⟨b, off, rfl, hc⟩ := ((own_srow HO5.out rfl).below hBr) (by omega)
            obtain ⟨c1, c2, c3, c4⟩ := hc j hlt'
            have HHX := Lib.hid (fun W => HX.out j hlt' W)
            have HTK : Hid (((ps.map sp).take (j + 1)).countP (fun x => x.has n) = ((ps.map sp).take j).countP (fun x => x.has n) + one ((ps.map sp)[j].has n)) := by
              show _ = _
              rw [List.take_succ_eq_append_getElem hlt', List.countP_append]
              congr 1
              unfold one
              rw [List.countP_singleton]
            have ti0 : (0 : Int) ≤ (j : Int) := by omega
            have ti1 : (j : Int) < (ps.length : Int) := by omega
            have hcl : ((ps.map sp).take j).countP (fun x => x.has n) ≤ j := Nat.le_trans List.countP_le_length (List.length_take_le _ _)
            clear hc
            obtain ⟨A2, hA2⟩ : ∃ A2, ((ps.map sp).take (j + 1)).countP (fun x => x.has n) = A2 := ⟨_, rfl⟩
            rw [hA2] at HTK
            have HA2 := Lib.hid hA2
            clear hA2
            generalize ((ps.map sp).take j).countP (fun x => x.has n) = A1 at *
            generalize (ps.map sp)[j].has n = H at *
            generalize (ps.map sp)[j] = q' at *
            have hBx := bt hBr (below_new wr (.cells #[.int .i64 q'.ls, .int .i64 q'.la, .int .i64 q'.hs, .int .i64 q'.ha] 25))
            go_wp2_with fail
            refine (HHX.out _).mono ?_
            rintro e y6 ⟨rfl, hB6⟩
            have hB7 := bt hBx hB6
            clear c1 c2 c3 c4
            cases H with
            | true =>
              go_wp2_with fail
              go_roundw
              case rel => exact ⟨j + 1, by go_num, by rw [HA2.out, HTK.out]; first | (simp [one]; done) | (simp only [one]; go_num), by omega, hB7⟩
              case measure => simp [intOf]; omega
            | false =>
              go_wp2_with fail
              go_roundw
              case rel => exact ⟨j + 1, by go_num, by rw [HA2.out, HTK.out]; first | rfl | simp [one], by omega, hB7⟩
              case measure => simp [intOf]; omega
          · obtain rfl : j = ps.length := by omega
            have HTE : Hid (0 + ((ps.map sp).take ps.length).countP (fun x => x.has n) = 1) := by
              show _ = _
              rw [show ps.length = (ps.map sp).length from (List.length_map ..).symm, List.take_length]
              exact HT.out
            rw [HTE.out]
            have HY8 := Lib.hid (bt HY5.out hBr)
            have HO8 := Lib.hid (own_on HO5.out hBr)
            clear hBr HO5 HY5
            have HB8 := Lib.hid (HB4.out.on HY8.out)
            have HZ8 := Lib.hid (HZ4.out.on HY8.out)
            have HL8 := Lib.hid (bt hL4 HY8.out)
            obtain ⟨c1, c2, c3, c4, c5, c6, c7, c8⟩ := HB8.out.cells
            go_wp2_with fail
            refine (HRH.out _).mono ?_
            rintro e y9 ⟨rfl, hB9⟩
            have HY9 := Lib.hid (bt HY8.out hB9)
            have HO9 := Lib.hid (own_on HO8.out hB9)
            have HB9 := Lib.hid (HB8.out.on hB9)
            have HZ9 := Lib.hid (HZ8.out.on hB9)
            clear hB9 HY8 HO8 HB8 HZ8 HL8 c1 c2 c3 c4 c5 c6 c7 c8
            obtain ⟨z1, z2, z3, z4⟩ := HZ9.out.cells
            have HO10 := Lib.hid (own_on HO9.out (below_new y9 (.cells #[.int .i64 (sp (k, l)).ls, .int .i64 (sp (k, l)).la, .int .i64 (sp (k, l)).hs, .int .i64 (sp (k, l)).ha] 25)))
            have HY10 := Lib.hid (bt HY9.out (below_new y9 (.cells #[.int .i64 (sp (k, l)).ls, .int .i64 (sp (k, l)).la, .int .i64 (sp (k, l)).hs, .int .i64 (sp (k, l)).ha] 25)))
            have hsz := HY10.out.size
            go_wp2_with (at_builtin; refine wpList_append_lies _ rfl _ _ 26 rfl y4.heap.size 25 i0 (.agg #[.int .i64 0, .int .i64 0, .int .i64 0, .int .i64 0]) 4 32 Try.underlying26 hi hz0 hz1 hz2 rfl (by decide) _ ps.length (flatL (keysOf ps)) (by rfl) HO10.out ⟨y9.heap.size, 0, none⟩ 1 1 [.int .i64 (sd k), .int .i64 (pa k), .int .i64 (sd l), .int .i64 (pa l)] (by rfl) rfl (World.news_of_block (heap_alloc_new y9 _)) (one_four _ _ _ _) (by decide) (by unfold maxLen; omega) (by omega) hsz _ rfl ?_; intro g2 cap2 w1 hown1 hgrow1 hat1 hlt1; have HO11 := Lib.hid hown1; have HY11 := Lib.hid (HY10.out.grown hgrow1 HY10.out.size (fun k hk => (HO10.out.lt k hk).1)); clear hown1 hgrow1 z1 z2 z3 z4)
            have HS11 : Hid (SRow w1 (some ⟨g2, 0, none⟩) ((ps ++ [(k, l)]).map sp)) := by
              have h := HO11.out
              rw [show flatL (keysOf ps) ++ [.int .i64 (sd k), .int .i64 (pa k), .int .i64 (sd l), .int .i64 (pa l)] = flatL (keysOf (ps ++ [(k, l)])) from by rw [keysOf_snoc, flatL_two]] at h
              exact own_srow h (by simp)
            have HLI := Lib.hid (fun a cap W h => HLT.out (by trivial) a cap W h)
            have HB11 := Lib.hid (HB4.out.on HY11.out)
            have HL11 := Lib.hid (bt hL4 HY11.out)
            clear HO9 HO10 HY9 HY10 HO11 HB9 HZ9 HZ4 hL4 HB4 HY11 hsz hat1 hlt1
            have HQ11 : Hid (Box4 w1 w.heap.size q) := HB11.out.1
            obtain ⟨c1, c2, c3, c4⟩ := HQ11.out.cells
            go_region_held3 (fun w' => w'.cell? ⟨w.heap.size, 0, none⟩ = some (.int .i64 q.ls) ∧ w'.cell? ⟨w.heap.size, 1, none⟩ = some (.int .i64 q.la) ∧ w'.cell? ⟨w.heap.size, 2, none⟩ = some (.int .i64 q.hs) ∧ w'.cell? ⟨w.heap.size, 3, none⟩ = some (.int .i64 q.ha))
              (with_reducible (focus (refine (HQ11.out.on ?_).cells; (repeat (first | assumption | exact Go.RowKit.Below.refl _ _ | refine bl_drew ?_)); done)))
              (first
                | (go_at_call 18; (refine (HAL.out _).mono ?_); rintro e Y1 ⟨rfl, hB1⟩; have hT1 : Go.RowKit.Below w1.heap.size w1 Y1 := bt (by with_reducible repeat (first | exact Go.RowKit.Below.refl _ _ | refine bl_drew ?_)) hB1; clear hB1)
                | (go_at_call 39; (refine (HLI.out _ _ _ (HS11.out.below (by with_reducible repeat (first | exact hT1 | refine bl_drew ?_)))).mono ?_); rintro e Y2 ⟨a2, cap2, ⟨rfl, hs2⟩, hB2⟩; have hT2 : Go.RowKit.Below w1.heap.size w1 Y2 := bt (by with_reducible repeat (first | exact hT1 | refine bl_drew ?_)) hB2; have HQ2 := Lib.hid hs2; clear hB2 hs2)
                | (go_at_call 10; (refine (HON.out _).mono ?_); rintro e Y3 ⟨⟨a3, rfl, hs3⟩, hB3⟩; have hB3' : Go.RowKit.Below Y2.heap.size Y2 Y3 := bt (by with_reducible repeat (first | exact Go.RowKit.Below.refl _ _ | refine bl_drew ?_)) hB3; have hT3 := bt hT2 hB3'; have HQ3 := Lib.hid (HQ2.out.below hB3'); have HR3 := Lib.hid hs3; clear hB3 hB3' hs3)
                | (go_at_call 22; (refine (HSA.out _ _ _ _ _ (HQ3.out.below (by with_reducible repeat (first | exact Go.RowKit.Below.refl _ _ | refine bl_drew ?_))) (HR3.out.below (by with_reducible repeat (first | exact Go.RowKit.Below.refl _ _ | refine bl_drew ?_)))).mono ?_); rintro e Y4 ⟨rfl, hB4⟩; have hT4 : Go.RowKit.Below w1.heap.size w1 Y4 := bt (by with_reducible repeat (first | exact hT3 | refine bl_drew ?_)) hB4; clear hB4))
            all_goals
              go_wp2_with fail
              go_ret
              exact ⟨rfl, bt HL11.out hT4⟩
    | true =>
      cases Hq with
      | false => exact absurd HT.out (by simp [one])
      | true =>
        go_wp2_with fail
        generalize y3.alloc (.cells #[.int .i64 (sp (k, l)).ls, .int .i64 (sp (k, l)).la, .int .i64 (sp (k, l)).hs, .int .i64 (sp (k, l)).ha] 25) = X3 at *
        generalize y3.heap.size = N3 at *
        refine (HH.out _).mono ?_
        rintro e y4 ⟨rfl, hB4⟩
        have HB4 := Lib.hid (HB3.out.on hB4)
        have HZ4 := Lib.hid (HZ3.out.on hB4)
        have hL4 := bt hL3 hB4
        clear z1 z2 z3 z4 HB3 HZ3 hL3 hB4
        obtain ⟨c1, c2, c3, c4, c5, c6, c7, c8⟩ := HB4.out.cells
        go_wp2_with fail
        clear c1 c2 c3 c4 c5 c6 c7 c8
        refine (HMI.out _).mono ?_
        rintro e y5 ⟨a5, cap5, ⟨rfl, ho5⟩, hB5⟩
        have HO5 := Lib.hid ho5
        have HY5 := Lib.hid hB5
        clear ho5 hB5
        go_wp2_with fail
        go_loopw [9, 42] (fun t i wr => ∃ j : Nat, i = .int .i64 (j : Int) ∧ t = .int .i64 ((1 + ((ps.map sp).take j).countP (fun x => x.has n) : Nat) : Int) ∧ j ≤ ps.length ∧ Go.RowKit.Below y5.heap.size y5 wr) (fun _ i _ => ps.length - (intOf i).toNat)
        case atStart => exact ⟨0, rfl, rfl, Nat.zero_le _, Go.RowKit.Below.refl _ _⟩
        case round =>
          obtain ⟨j, rfl, rfl, hj, hBr⟩ := hrel
          by_cases hlt : j < ps.length
          · have hlt' : j < (ps.map sp).length := by rw [List.length_map]; exact hlt
            obtain ⟨b, off, rfl, hc⟩ := ((own_srow HO5.out rfl).below hBr) (by omega)
            obtain ⟨c1, c2, c3, c4⟩ := hc j hlt'
            have HHX := Lib.hid (fun W => HX.out j hlt' W)
            have HTK : Hid (((ps.map sp).take (j + 1)).countP (fun x => x.has n) = ((ps.map sp).take j).countP (fun x => x.has n) + one ((ps.map sp)[j].has n)) := by
              show _ = _
              rw [List.take_succ_eq_append_getElem hlt', List.countP_append]
              congr 1
              unfold one
              rw [List.countP_singleton]
            have ti0 : (0 : Int) ≤ (j : Int) := by omega
            have ti1 : (j : Int) < (ps.length : Int) := by omega
            have hcl : ((ps.map sp).take j).countP (fun x => x.has n) ≤ j := Nat.le_trans List.countP_le_length (List.length_take_le _ _)
            clear hc
            obtain ⟨A2, hA2⟩ : ∃ A2, ((ps.map sp).take (j + 1)).countP (fun x => x.has n) = A2 := ⟨_, rfl⟩
            rw [hA2] at HTK
            have HA2 := Lib.hid hA2
            clear hA2
            generalize ((ps.map sp).take j).countP (fun x => x.has n) = A1 at *
            generalize (ps.map sp)[j].has n = H at *
            generalize (ps.map sp)[j] = q' at *
            have hBx := bt hBr (below_new wr (.cells #[.int .i64 q'.ls, .int .i64 q'.la, .int .i64 q'.hs, .int .i64 q'.ha] 25))
            go_wp2_with fail
            refine (HHX.out _).mono ?_
            rintro e y6 ⟨rfl, hB6⟩
            have hB7 := bt hBx hB6
            clear c1 c2 c3 c4
            cases H with
            | true =>
              go_wp2_with fail
              go_roundw
              case rel => exact ⟨j + 1, by go_num, by rw [HA2.out, HTK.out]; first | (simp [one]; done) | (simp only [one]; go_num), by omega, hB7⟩
              case measure => simp [intOf]; omega
            | false =>
              go_wp2_with fail
              go_roundw
              case rel => exact ⟨j + 1, by go_num, by rw [HA2.out, HTK.out]; first | rfl | simp [one], by omega, hB7⟩
              case measure => simp [intOf]; omega
          · obtain rfl : j = ps.length := by omega
            have HTE : Hid (1 + ((ps.map sp).take ps.length).countP (fun x => x.has n) = 1) := by
              show _ = _
              rw [show ps.length = (ps.map sp).length from (List.length_map ..).symm, List.take_length]
              exact HT.out
            rw [HTE.out]
            have HY8 := Lib.hid (bt HY5.out hBr)
            have HO8 := Lib.hid (own_on HO5.out hBr)
            clear hBr HO5 HY5
            have HB8 := Lib.hid (HB4.out.on HY8.out)
            have HZ8 := Lib.hid (HZ4.out.on HY8.out)
            have HL8 := Lib.hid (bt hL4 HY8.out)
            obtain ⟨c1, c2, c3, c4, c5, c6, c7, c8⟩ := HB8.out.cells
            go_wp2_with fail
            refine (HRH.out _).mono ?_
            rintro e y9 ⟨rfl, hB9⟩
            have HY9 := Lib.hid (bt HY8.out hB9)
            have HO9 := Lib.hid (own_on HO8.out hB9)
            have HB9 := Lib.hid (HB8.out.on hB9)
            have HZ9 := Lib.hid (HZ8.out.on hB9)
            clear hB9 HY8 HO8 HB8 HZ8 HL8 c1 c2 c3 c4 c5 c6 c7 c8
            obtain ⟨z1, z2, z3, z4⟩ := HZ9.out.cells
            have HO10 := Lib.hid (own_on HO9.out (below_new y9 (.cells #[.int .i64 (sp (k, l)).ls, .int .i64 (sp (k, l)).la, .int .i64 (sp (k, l)).hs, .int .i64 (sp (k, l)).ha] 25)))
            have HY10 := Lib.hid (bt HY9.out (below_new y9 (.cells #[.int .i64 (sp (k, l)).ls, .int .i64 (sp (k, l)).la, .int .i64 (sp (k, l)).hs, .int .i64 (sp (k, l)).ha] 25)))
            have hsz := HY10.out.size
            go_wp2_with (at_builtin; refine wpList_append_lies _ rfl _ _ 26 rfl y4.heap.size 25 i0 (.agg #[.int .i64 0, .int .i64 0, .int .i64 0, .int .i64 0]) 4 32 Try.underlying26 hi hz0 hz1 hz2 rfl (by decide) _ ps.length (flatL (keysOf ps)) (by rfl) HO10.out ⟨y9.heap.size, 0, none⟩ 1 1 [.int .i64 (sd k), .int .i64 (pa k), .int .i64 (sd l), .int .i64 (pa l)] (by rfl) rfl (World.news_of_block (heap_alloc_new y9 _)) (one_four _ _ _ _) (by decide) (by unfold maxLen; omega) (by omega) hsz _ rfl ?_; intro g2 cap2 w1 hown1 hgrow1 hat1 hlt1; have HO11 := Lib.hid hown1; have HY11 := Lib.hid (HY10.out.grown hgrow1 HY10.out.size (fun k hk => (HO10.out.lt k hk).1)); clear hown1 hgrow1 z1 z2 z3 z4)
            have HS11 : Hid (SRow w1 (some ⟨g2, 0, none⟩) ((ps ++ [(k, l)]).map sp)) := by
              have h := HO11.out
              rw [show flatL (keysOf ps) ++ [.int .i64 (sd k), .int .i64 (pa k), .int .i64 (sd l), .int .i64 (pa l)] = flatL (keysOf (ps ++ [(k, l)])) from by rw [keysOf_snoc, flatL_two]] at h
              exact own_srow h (by simp)
            have HLI := Lib.hid (fun a cap W h => HLT.out (by trivial) a cap W h)
            have HB11 := Lib.hid (HB4.out.on HY11.out)
            have HL11 := Lib.hid (bt hL4 HY11.out)
            clear HO9 HO10 HY9 HY10 HO11 HB9 HZ9 HZ4 hL4 HB4 HY11 hsz hat1 hlt1
            have HQ11 : Hid (Box4 w1 w.heap.size q) := HB11.out.1
            obtain ⟨c1, c2, c3, c4⟩ := HQ11.out.cells
            go_region_held3 (fun w' => w'.cell? ⟨w.heap.size, 0, none⟩ = some (.int .i64 q.ls) ∧ w'.cell? ⟨w.heap.size, 1, none⟩ = some (.int .i64 q.la) ∧ w'.cell? ⟨w.heap.size, 2, none⟩ = some (.int .i64 q.hs) ∧ w'.cell? ⟨w.heap.size, 3, none⟩ = some (.int .i64 q.ha))
              (with_reducible (focus (refine (HQ11.out.on ?_).cells; (repeat (first | assumption | exact Go.RowKit.Below.refl _ _ | refine bl_drew ?_)); done)))
              (first
                | (go_at_call 18; (refine (HAL.out _).mono ?_); rintro e Y1 ⟨rfl, hB1⟩; have hT1 : Go.RowKit.Below w1.heap.size w1 Y1 := bt (by with_reducible repeat (first | exact Go.RowKit.Below.refl _ _ | refine bl_drew ?_)) hB1; clear hB1)
                | (go_at_call 39; (refine (HLI.out _ _ _ (HS11.out.below (by with_reducible repeat (first | exact hT1 | refine bl_drew ?_)))).mono ?_); rintro e Y2 ⟨a2, cap2, ⟨rfl, hs2⟩, hB2⟩; have hT2 : Go.RowKit.Below w1.heap.size w1 Y2 := bt (by with_reducible repeat (first | exact hT1 | refine bl_drew ?_)) hB2; have HQ2 := Lib.hid hs2; clear hB2 hs2)
                | (go_at_call 10; (refine (HON.out _).mono ?_); rintro e Y3 ⟨⟨a3, rfl, hs3⟩, hB3⟩; have hB3' : Go.RowKit.Below Y2.heap.size Y2 Y3 := bt (by with_reducible repeat (first | exact Go.RowKit.Below.refl _ _ | refine bl_drew ?_)) hB3; have hT3 := bt hT2 hB3'; have HQ3 := Lib.hid (HQ2.out.below hB3'); have HR3 := Lib.hid hs3; clear hB3 hB3' hs3)
                | (go_at_call 22; (refine (HSA.out _ _ _ _ _ (HQ3.out.below (by with_reducible repeat (first | exact Go.RowKit.Below.refl _ _ | refine bl_drew ?_))) (HR3.out.below (by with_reducible repeat (first | exact Go.RowKit.Below.refl _ _ | refine bl_drew ?_)))).mono ?_); rintro e Y4 ⟨rfl, hB4⟩; have hT4 : Go.RowKit.Below w1.heap.size w1 Y4 := bt (by with_reducible repeat (first | exact hT3 | refine bl_drew ?_)) hB4; clear hB4))
            all_goals
              go_wp2_with fail
              go_ret
              exact ⟨rfl, bt HL11.out hT4⟩
set_option maxRecDepth 100000 in
set_option maxHeartbeats 4000000 in
theorem spanParts_else (q r : S4) (n : Int) (w : World) (A B : Bool) (hAB : (A && B) = false)
    (HR1 : Hid (∀ W, Calls Try.prog 28 #[.agg #[.int .i64 q.ls, .int .i64 q.la, .int .i64 q.hs, .int .i64 q.ha]] W fun e w' => e = .returned (.bool A) ∧ Go.RowKit.Below W.heap.size W w'))
    (HR2 : Hid (∀ W, Calls Try.prog 28 #[.agg #[.int .i64 r.ls, .int .i64 r.la, .int .i64 r.hs, .int .i64 r.ha]] W fun e w' => e = .returned (.bool B) ∧ Go.RowKit.Below W.heap.size W w')) : Calls Try.prog 7 #[vS q, vS r, .int .i64 n] w fun e w' => e = .returned (.bool true) ∧ Go.RowKit.Below w.heap.size w w' := by
  have HAL := Lib.hid salive_any
  have HB := Lib.hid (Pair4.new w q r)
  have hL0 := bt (below_new w (.cells #[.int .i64 q.ls, .int .i64 q.la, .int .i64 q.hs, .int .i64 q.ha] 25)) (below_new _ (.cells #[.int .i64 r.ls, .int .i64 r.la, .int .i64 r.hs, .int .i64 r.ha] 25))
  go_enter Try.func7, Try.ntmps7
  obtain ⟨c1, c2, c3, c4, c5, c6, c7, c8⟩ := HB.out.cells
  go_wp2_with fail
  generalize ((w.alloc (.cells #[.int .i64 q.ls, .int .i64 q.la, .int .i64 q.hs, .int .i64 q.ha] 25)).alloc (.cells #[.int .i64 r.ls, .int .i64 r.la, .int .i64 r.hs, .int .i64 r.ha] 25)) = X0 at *
  refine (HR1.out _).mono ?_
  rintro e y1 ⟨rfl, hB1⟩
  have HB1 := Lib.hid (HB.out.on hB1)
  have hL1 := bt hL0 hB1
  clear c1 c2 c3 c4 c5 c6 c7 c8 HB hB1 hL0
  obtain ⟨c1, c2, c3, c4, c5, c6, c7, c8⟩ := HB1.out.cells
  cases A with
  | false =>
    go_wp2_with fail
    refine (HAL.out _).mono ?_
    rintro e y2 ⟨rfl, hB2⟩
    go_wp2_with fail
    go_ret
    exact ⟨rfl, bt hL1 hB2⟩
  | true =>
    obtain rfl : B = false := hAB
    go_wp2_with fail
    refine (HR2.out _).mono ?_
    rintro e y2 ⟨rfl, hB2⟩
    have hL2 := bt hL1 hB2
    go_wp2_with fail
    refine (HAL.out _).mono ?_
    rintro e y3 ⟨rfl, hB3⟩
    go_wp2_with fail
    go_ret
    exact ⟨rfl, bt hL2 hB3⟩
theorem spanParts_walk (q r : S4) (n : Int) (hq : q.ok) (hr : r.ok) (wn : (Lit.int .i64 n).wf = true) (w : World) : Calls Try.prog 7 #[vS q, vS r, .int .i64 n] w fun e w' => e = .returned (.bool true) ∧ Go.RowKit.Below w.heap.size w w' := by
  have hn := i64_of_wf2 wn
  by_cases h1 : q.right = true
  · by_cases h2 : r.right = true
    · have hm : minusF q r = minusL q r := by unfold minusF; rw [h1, h2]; rfl
      have hk := minusL_ky q r hq hr
      have hpc := parts_cov q r h1 h2
      refine spanParts_core q r (meetS q r) n (khigh q.lo r.lo) (klow q.hi r.hi) (lapB q r) ((meetS q r).has n) (q.has n) (minusL q r) w (fun W => by have := sright_any q W hq; rw [h1] at this; exact this) (fun W => by have := sright_any r W hr; rw [h2] at this; exact this)
        (fun W => smeet_any q r W hq hr) (fun W => shas_any _ n W ?_ hn) (fun j h W => shas_any _ n W (map_ok _ (fun p hp => (hk p hp).2) _ (List.getElem_mem h)) hn) (fun W => by have := sminus_own q r W hq hr; rw [hm] at this; exact this) (fun W => rhas_any q n W hq hn) (minusL_len q r) (times_eq q r hq hr h1 h2 n)
        (fun h => by unfold meetS; rw [if_pos h]) (fun h a cap W hs => slist_one a cap q _ W h1 hk (fun n => (hpc n).1 h) hs (by have := minusL_len q r; omega)) (fun h a cap W hs => ?_)
      · unfold meetS
        split
        · exact sp_ok _ (khigh_ky _ _ (q.ky_lo hq) (r.ky_lo hr)) (klow_ky _ _ (q.ky_hi hq) (r.ky_hi hr))
        · exact ⟨⟨by decide, by decide⟩, ⟨by decide, by decide⟩⟩
      · have := slist_one a cap q (minusL q r ++ [(khigh q.lo r.lo, klow q.hi r.hi)]) W h1 (by
          intro p hp
          rcases List.mem_append.1 hp with h' | h'
          · exact hk p h'
          · simp at h'
            subst h'
            have l1 := (sp_of_right q h1).2
            have l2 := (sp_of_right r h2).2
            have l3 := lap_lt q r h1 h2 h
            refine ⟨?_, khigh_ky _ _ (q.ky_lo hq) (r.ky_lo hr), klow_ky _ _ (q.ky_hi hq) (r.ky_hi hr)⟩
            unfold khigh klow
            split <;> split <;> omega) (fun n => (hpc n).2 h) hs (by rw [List.length_append]; have := minusL_len q r; simp; omega)
        rw [List.length_append] at this
        exact this
    · exact spanParts_else q r n w q.right r.right (by rw [h1]; simpa using h2) (fun W => sright_any q W hq) (fun W => sright_any r W hr)
  · exact spanParts_else q r n w q.right r.right (by simp at h1; rw [h1]; rfl) (fun W => sright_any q W hq) (fun W => sright_any r W hr)
end Go.Proofs.Ytkokilbnhhmicaa
