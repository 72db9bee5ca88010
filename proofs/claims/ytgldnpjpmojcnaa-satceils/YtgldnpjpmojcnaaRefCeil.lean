/- Contract of the reference's Ceil. -/
import Derived.Test.YtgldnpjpmojcnaaBigF
namespace Go.Proofs.Ytgldnpjpmojcnaa
open Go.RowKit Go.Proofs.Ytgldnpjpmojcnaa.Bo
set_option linter.unusedVariables false

theorem rceil_no (n s : Int) (w : World) (h : s < 1) :
    Calls Try.prog 25 #[.int .i64 n, .int .i64 s] w fun e w' => e = .returned (.tuple #[.int .i64 0, .bool false]) ∧ w = w' := by
  have t1 : decide (s < 1) = true := by simp; omega
  go_enter Try.func25, Try.ntmps25
  go_wp2
  go_ret2
  exact ⟨rfl, rfl⟩

def RceilPost (n s : Int) (w : World) (e : Ending) (w' : World) : Prop :=
  e = .returned (if cl n s ≤ 9223372036854775807 then .tuple #[.int .i64 (cl n s), .bool true] else .tuple #[.int .i64 0, .bool false]) ∧ Below w.heap.size w w'

set_option maxRecDepth 100000 in
set_option maxHeartbeats 4000000 in
theorem rceil_yes (n s r : Int) (w : World) (hn : I64 n) (hs : I64 s) (h : ¬ s < 1) (hr : n.tmod s = r) (hri : I64 r) (hpos : 0 < r) (hcl : cl n s = n + -r + s) :
    Calls Try.prog 25 #[.int .i64 n, .int .i64 s] w (RceilPost n s w) := by
  have HN := Lib.hid hn
  have HS := Lib.hid hs
  have HR := Lib.hid hri
  have HCL := Lib.hid hcl
  have t1 : decide (s < 1) = false := decide_eq_false h
  have t2 : decide (0 < r) = true := decide_eq_true hpos
  have hs1 : 1 ≤ s := by omega
  have HLO : Hid (-9223372036854775808 ≤ cl n s) := by
    have := (cl_ge n s (by omega)).1
    obtain ⟨h1, h2⟩ := hn
    show _ ≤ _
    omega
  clear hn hs hri hcl
  go_enter Try.func25, Try.ntmps25
  go_wp2_with fail
  refine (of_big _ _ HN.out).mono ?_
  rintro e x1 ⟨V1, rfl, hV1, hB1⟩
  have HV1 := Lib.hid hV1
  clear hV1
  go_wp2_with fail
  refine (of_big _ _ HR.out).mono ?_
  rintro e x2 ⟨V2, rfl, hV2, hB2⟩
  have HV2 := Lib.hid hV2
  clear hV2
  go_wp2_with fail
  refine (minus_any _ _ _ _ HV2.out).mono ?_
  rintro e x3 ⟨V3, rfl, hV3, hB3⟩
  have HV3 := Lib.hid hV3
  clear hV3
  go_wp2_with fail
  refine (plus_any _ _ _ _ _ _ _ (HV1.out.below (bt hB2 hB3)) HV3.out (by omega) (by omega)).mono ?_
  rintro e x4 ⟨V4, rfl, hV4, hB4⟩
  have HV4 := Lib.hid hV4
  obtain ⟨s4, v4, xs4, rfl, hs4, hd4, ok4, hl4, hz4, h04⟩ := hV4
  obtain ⟨a4, n4, c4, rfl⟩ := slice_of_dg hd4
  clear hs4 hd4 ok4 hl4 hz4 h04
  have hm5 := heap_alloc_new x4 (.cells #[.int .i64 s4, .slice a4 n4 c4] 24)
  have hB5 : Below x4.heap.size x4 (x4.alloc (.cells #[.int .i64 s4, .slice a4 n4 c4] 24)) := (Below.refl _ _).alloc (Nat.le_refl _) _
  have hsz5 : x4.heap.size < (x4.alloc (.cells #[.int .i64 s4, .slice a4 n4 c4] 24)).heap.size := by simp
  have HV5 := Lib.hid (HV4.out.below hB5)
  have hBw5 := bt (bt (bt (bt (bt hB1 hB2) hB3) hB4) hB5) (Below.refl _ _)
  have hU : w.heap.size ≤ x4.heap.size := (bt (bt (bt hB1 hB2) hB3) hB4).size
  go_wp2_with fail
  generalize x4.alloc (.cells #[.int .i64 s4, .slice a4 n4 c4] 24) = x5 at *
  have u0 := cell_of_row _ _ 0 _ _ _ hm5
  have u1 := cell_of_row _ _ 1 _ _ _ hm5
  have g0 := frozen_of_row _ _ 0 _ _ hm5
  have g1 := frozen_of_row _ _ 1 _ _ hm5
  simp at u0 u1
  have HM5 := Lib.hid hm5
  clear hm5
  go_region_with (first
    | (go_at_call 10; refine (of_big _ _ HS.out).mono ?_; rintro e x6 ⟨V6, rfl, hV6, hB6⟩; have hB6' : Below x5.heap.size x5 x6 := ((Below.refl _ _).drew).trans hB6; have u0' := (hB6'.cell (p := ⟨x4.heap.size, 0, none⟩) hsz5).trans u0; have u1' := (hB6'.cell (p := ⟨x4.heap.size, 1, none⟩) hsz5).trans u1; have HV6 := Lib.hid hV6; clear hV6)
    | (go_at_call 14; refine (plus_any _ _ _ _ _ _ _ (HV5.out.below hB6') HV6.out (by omega) (by omega)).mono ?_; rintro e x7 ⟨V7, rfl, hV7, hB7⟩; obtain ⟨s7, v7, xs7, rfl, hs7, hd7, ok7, hl7, hz7, h07⟩ := hV7; obtain ⟨a7, n7, c7, rfl⟩ := slice_of_dg hd7; have k0 := (hB7.cell (p := ⟨x4.heap.size, 0, none⟩) (Nat.lt_of_lt_of_le hsz5 hB6'.size)).trans u0'; have k1 := (hB7.cell (p := ⟨x4.heap.size, 1, none⟩) (Nat.lt_of_lt_of_le hsz5 hB6'.size)).trans u1'; have l0 := ((hB7.frozen (p := ⟨x4.heap.size, 0, none⟩) (Nat.lt_of_lt_of_le hsz5 hB6'.size)).trans (hB6'.frozen (p := ⟨x4.heap.size, 0, none⟩) hsz5)).trans g0; have l1 := ((hB7.frozen (p := ⟨x4.heap.size, 1, none⟩) (Nat.lt_of_lt_of_le hsz5 hB6'.size)).trans (hB6'.frozen (p := ⟨x4.heap.size, 1, none⟩) hsz5)).trans g1))
  all_goals
    have hm7 : Hid (x7.heap[x4.heap.size]? = some (.cells #[.int .i64 s4, .slice a4 n4 c4] 24 (0, 0))) := ((hB7.block x4.heap.size (Nat.lt_of_lt_of_le hsz5 hB6'.size)).trans (hB6'.block x4.heap.size hsz5)).trans HM5.out
    have hfar1 := hd7.far hm7.out (by decide) 0 (.int .i64 s7)
    have hfar2 := hfar1.far (heap_setCell_same _ _ 0 _ _ (.int .i64 s7) hm7.out) (by decide) 1 (.slice a7 n7 c7)
    have hm8 := two_set (p := .int .i64 s7) (q := .slice a7 n7 c7) hm7.out
    have hB8 : Below w.heap.size w ((x7.setCell ⟨x4.heap.size, 0, none⟩ (.int .i64 s7)).setCell ⟨x4.heap.size, 1, none⟩ (.slice a7 n7 c7)) := ((bt (bt hBw5 hB6') hB7).setCell hU _).setCell hU _
    have hbig8 : BigAt ((x7.setCell ⟨x4.heap.size, 0, none⟩ (.int .i64 s7)).setCell ⟨x4.heap.size, 1, none⟩ (.slice a7 n7 c7)) (.agg #[.int .i64 s7, .slice a7 n7 c7]) (n + -r + s) 62 := ⟨s7, _, xs7, rfl, hs7, hfar2, ok7, hl7, hz7, h07⟩
    have HB8 := Lib.hid hbig8
    have p0 := cell_of_row _ _ 0 _ _ _ hm8
    have p1 := cell_of_row _ _ 1 _ _ _ hm8
    simp at p0 p1
    clear hs7 hd7 ok7 hl7 hz7 h07 hfar1 hfar2 hm8 hbig8 u0 u1 u0' u1' k0 k1 l0 l1 g0 g1 hB6 hr
    generalize (x7.setCell ⟨x4.heap.size, 0, none⟩ (.int .i64 s7)).setCell ⟨x4.heap.size, 1, none⟩ (.slice a7 n7 c7) = x8 at *
    go_wp2_with fail
    refine (is_big _ _ _ _ HB8.out (by omega)).mono ?_
    rintro e x9 ⟨rfl, hB9⟩
    have p0' := (hB9.cell (p := ⟨x4.heap.size, 0, none⟩) (World.block_lt_of_cell? x8 _ p0)).trans p0
    have p1' := (hB9.cell (p := ⟨x4.heap.size, 1, none⟩) (World.block_lt_of_cell? x8 _ p1)).trans p1
    by_cases hin : cl n s ≤ 9223372036854775807
    · have hdec : decide (clamp (n + -r + s) = n + -r + s) = true := decide_eq_true (by rw [← HCL.out]; exact clamp_in _ ⟨HLO.out, hin⟩)
      rw [hdec]
      clear hdec p0 p1
      go_wp2_with fail
      refine (end_big _ _ _ _ (HB8.out.below hB9) (by omega)).mono ?_
      rintro e x10 ⟨rfl, hB10⟩
      go_wp2_with fail
      go_ret2
      refine ⟨?_, bt (bt hB8 hB9) hB10⟩
      rw [if_pos hin, ← HCL.out, clamp_in _ ⟨HLO.out, hin⟩]
      rfl
    · have hdec : decide (clamp (n + -r + s) = n + -r + s) = false := decide_eq_false (by rw [← HCL.out, clamp_up _ (by omega)]; omega)
      rw [hdec]
      clear hdec p0 p1
      go_wp2_with fail
      go_ret2
      refine ⟨?_, bt hB8 hB9⟩
      rw [if_neg (by omega)]
      rfl
set_option maxRecDepth 100000 in
set_option maxHeartbeats 4000000 in
theorem rceil_le (n s r : Int) (w : World) (hn : I64 n) (hs : I64 s) (h : ¬ s < 1) (hr : n.tmod s = r) (hri : I64 r) (hpos : r ≤ 0) (hcl : cl n s = n + -r) :
    Calls Try.prog 25 #[.int .i64 n, .int .i64 s] w (RceilPost n s w) := by
  have HN := Lib.hid hn
  have HS := Lib.hid hs
  have HR := Lib.hid hri
  have HCL := Lib.hid hcl
  have t1 : decide (s < 1) = false := decide_eq_false h
  have t2 : decide (0 < r) = false := decide_eq_false (by omega)
  have hs1 : 1 ≤ s := by omega
  have HLO : Hid (-9223372036854775808 ≤ cl n s) := by
    have := (cl_ge n s (by omega)).1
    obtain ⟨h1, h2⟩ := hn
    show _ ≤ _
    omega
  clear hn hs hri hcl
  go_enter Try.func25, Try.ntmps25
  go_wp2_with fail
  refine (of_big _ _ HN.out).mono ?_
  rintro e x1 ⟨V1, rfl, hV1, hB1⟩
  have HV1 := Lib.hid hV1
  clear hV1
  go_wp2_with fail
  refine (of_big _ _ HR.out).mono ?_
  rintro e x2 ⟨V2, rfl, hV2, hB2⟩
  have HV2 := Lib.hid hV2
  clear hV2
  go_wp2_with fail
  refine (minus_any _ _ _ _ HV2.out).mono ?_
  rintro e x3 ⟨V3, rfl, hV3, hB3⟩
  have HV3 := Lib.hid hV3
  clear hV3
  go_wp2_with fail
  refine (plus_any _ _ _ _ _ _ _ (HV1.out.below (bt hB2 hB3)) HV3.out (by omega) (by omega)).mono ?_
  rintro e x4 ⟨V4, rfl, hV4, hB4⟩
  have HV4 := Lib.hid hV4
  obtain ⟨s4, v4, xs4, rfl, hs4, hd4, ok4, hl4, hz4, h04⟩ := hV4
  obtain ⟨a4, n4, c4, rfl⟩ := slice_of_dg hd4
  clear hs4 hd4 ok4 hl4 hz4 h04
  have hm5 := heap_alloc_new x4 (.cells #[.int .i64 s4, .slice a4 n4 c4] 24)
  have hB5 : Below x4.heap.size x4 (x4.alloc (.cells #[.int .i64 s4, .slice a4 n4 c4] 24)) := (Below.refl _ _).alloc (Nat.le_refl _) _
  have hsz5 : x4.heap.size < (x4.alloc (.cells #[.int .i64 s4, .slice a4 n4 c4] 24)).heap.size := by simp
  have HV5 := Lib.hid (HV4.out.below hB5)
  have hBw5 := bt (bt (bt (bt (bt hB1 hB2) hB3) hB4) hB5) (Below.refl _ _)
  have hU : w.heap.size ≤ x4.heap.size := (bt (bt (bt hB1 hB2) hB3) hB4).size
  go_wp2_with fail
  generalize x4.alloc (.cells #[.int .i64 s4, .slice a4 n4 c4] 24) = x5 at *
  have p0 := cell_of_row _ _ 0 _ _ _ hm5
  have p1 := cell_of_row _ _ 1 _ _ _ hm5
  simp at p0 p1
  clear hm5
  refine (is_big _ _ _ _ HV5.out (by omega)).mono ?_
  rintro e x9 ⟨rfl, hB9⟩
  have p0' := (hB9.cell (p := ⟨x4.heap.size, 0, none⟩) (World.block_lt_of_cell? x5 _ p0)).trans p0
  have p1' := (hB9.cell (p := ⟨x4.heap.size, 1, none⟩) (World.block_lt_of_cell? x5 _ p1)).trans p1
  by_cases hin : cl n s ≤ 9223372036854775807
  · have hdec : decide (clamp (n + -r) = n + -r) = true := decide_eq_true (by rw [← HCL.out]; exact clamp_in _ ⟨HLO.out, hin⟩)
    rw [hdec]
    clear hdec p0 p1
    go_wp2_with fail
    refine (end_big _ _ _ _ (HV5.out.below hB9) (by omega)).mono ?_
    rintro e x10 ⟨rfl, hB10⟩
    go_wp2_with fail
    go_ret2
    refine ⟨?_, bt (bt hBw5 hB9) hB10⟩
    rw [if_pos hin, ← HCL.out, clamp_in _ ⟨HLO.out, hin⟩]
    rfl
  · have hdec : decide (clamp (n + -r) = n + -r) = false := decide_eq_false (by rw [← HCL.out, clamp_up _ (by omega)]; omega)
    rw [hdec]
    clear hdec p0 p1
    go_wp2_with fail
    go_ret2
    refine ⟨?_, bt hBw5 hB9⟩
    rw [if_neg (by omega)]
    rfl

theorem rceil_any (n s : Int) (w : World) (hn : I64 n) (hs : I64 s) (h : ¬ s < 1) : Calls Try.prog 25 #[.int .i64 n, .int .i64 s] w (RceilPost n s w) := by
  have hs1 : 1 ≤ s := by omega
  by_cases hpos : 0 ≤ n
  · obtain ⟨r1, r2, r3, r4⟩ := cl_pos n s hs1 hpos
    have e : n.tmod s = n % s := Int.tmod_eq_emod_of_nonneg hpos
    have hi : I64 (n % s) := by obtain ⟨h1, h2⟩ := hn; exact ⟨by omega, by omega⟩
    by_cases hz : 0 < n % s
    · exact rceil_yes n s (n % s) w hn hs h e hi hz (by rw [r4 hz]; omega)
    · exact rceil_le n s (n % s) w hn hs h e hi (by omega) (by rw [cl_pos0 n s hs1 hpos (by omega)]; omega)
  · obtain ⟨r1, r2, r3⟩ := cl_neg n s hs1 (by omega)
    have hi : I64 (n.tmod s) := by obtain ⟨h1, h2⟩ := hn; exact ⟨by omega, by omega⟩
    exact rceil_le n s (n.tmod s) w hn hs h rfl hi r1 (by rw [r3]; omega)
end Go.Proofs.Ytgldnpjpmojcnaa
