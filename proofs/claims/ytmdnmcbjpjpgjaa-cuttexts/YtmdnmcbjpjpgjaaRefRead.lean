/- Contracts of the reference's Parse and Read. -/
import Derived.Test.YtmdnmcbjpjpgjaaRefWhole
namespace Go.Proofs.Ytmdnmcbjpjpgjaa
open Go.RowKit Go.Proofs.Ytmdnmcbjpjpgjaa.Bo
set_option linter.unusedVariables false

/-- What the reference's Parse answers: the number whose text it is, or none. -/
def ParsePost (l : List UInt8) (w : World) (e : Ending) (w' : World) : Prop :=
  ((∃ z, I64 z ∧ l = textOf z ∧ e = .returned (.tuple #[.int .i64 z, .int .i64 0])) ∨ ((∀ z, I64 z → l ≠ textOf z) ∧ e = .returned (.tuple #[.int .i64 0, .int .i64 10]))) ∧ Below w.heap.size w w'
theorem dg_inj (m n : Nat) (h : dg m = dg n) : m = n := by
  have h1 : rd (m + n) (dg m ++ []) 0 0 = rd (m + n) [] (dg m).length m := rd_dg (m + n) m [] (by omega)
  have h2 : rd (m + n) (dg n ++ []) 0 0 = rd (m + n) [] (dg n).length n := rd_dg (m + n) n [] (by omega)
  rw [h] at h1
  rw [h1] at h2
  rw [rd_nil, rd_nil] at h2
  exact (Prod.mk.inj h2).1
theorem val_text_inj (a b : Int) (h : textOf a = textOf b) : a = b := by
  by_cases ha : a < 0
  · by_cases hb : b < 0
    · rw [textOf_neg a ha, textOf_neg b hb] at h
      have := dg_inj _ _ (List.cons.inj h).2
      omega
    · rw [textOf_neg a ha, textOf_pos b hb] at h
      exact absurd (show (dg b.natAbs)[0]? = some 45 by rw [← h]; rfl) (dg_ne _)
  · by_cases hb : b < 0
    · rw [textOf_pos a ha, textOf_neg b hb] at h
      exact absurd (show (dg a.natAbs)[0]? = some 45 by rw [h]; rfl) (dg_ne _)
    · rw [textOf_pos a ha, textOf_pos b hb] at h
      have := dg_inj _ _ h
      omega

set_option maxRecDepth 100000 in
set_option maxHeartbeats 2000000 in
theorem rparse_any (s : ByteArray) (w : World) (hs : s.size ≤ 10000) : Calls Try.prog 64 #[.string s] w (ParsePost s.data.toList w) := by
  have HW := Lib.hid (whole_any s w hs)
  have hlen : s.data.toList.length ≤ 10000 := by simpa using hs
  go_enter Try.func64, Try.ntmps64
  go_wp2_with fail
  refine HW.out.mono ?_
  intro e x1 hpost
  rcases hpost with ⟨hno, rfl, hB1⟩ | ⟨z, V, hz, rfl, hV, hB1⟩
  · have HNO := Lib.hid hno
    have hB2 : Below x1.heap.size x1 (x1.alloc (.cells #[.int .i64 0, .slice none 0 0] 52)) := (Below.refl _ _).alloc (Nat.le_refl _) _
    clear hno HW
    go_wp2_with fail
    go_ret2
    exact ⟨Or.inr ⟨fun z _ => HNO.out z, rfl⟩, bt hB1 hB2⟩
  · have HZ := Lib.hid hz
    have HV := Lib.hid hV
    obtain ⟨s1, v1, xs1, rfl, hs1, hd1, ok1, hl1, hz1, h01⟩ := hV
    obtain ⟨a1, n1, c1, rfl⟩ := slice_of_dg hd1
    have hB2 : Below x1.heap.size x1 (x1.alloc (.cells #[.int .i64 s1, .slice a1 n1 c1] 52)) := (Below.refl _ _).alloc (Nat.le_refl _) _
    have hm := heap_alloc_new x1 (.cells #[.int .i64 s1, .slice a1 n1 c1] 52)
    have HV2 := Lib.hid (HV.out.below hB2)
    clear hz hs1 hd1 ok1 hl1 hz1 h01 HW
    go_wp2_with fail
    generalize x1.alloc (.cells #[.int .i64 s1, .slice a1 n1 c1] 52) = x2 at *
    have p0 := cell_of_row _ _ 0 _ _ _ hm
    have p1 := cell_of_row _ _ 1 _ _ _ hm
    simp at p0 p1
    clear hm
    refine (is_big _ _ _ _ HV2.out (by omega)).mono ?_
    rintro e x3 ⟨rfl, hB3⟩
    have p0' := (hB3.cell (p := ⟨x1.heap.size, 0, none⟩) (World.block_lt_of_cell? x2 _ p0)).trans p0
    have p1' := (hB3.cell (p := ⟨x1.heap.size, 1, none⟩) (World.block_lt_of_cell? x2 _ p1)).trans p1
    clear p0 p1
    by_cases hin : clamp z = z
    · rw [decide_eq_true hin]
      have HI := Lib.hid hin
      clear hin
      go_wp2_with fail
      refine (end_big _ _ _ _ (HV2.out.below hB3) (by omega)).mono ?_
      rintro e x4 ⟨rfl, hB4⟩
      go_wp2_with fail
      go_ret2
      refine ⟨Or.inl ⟨z, by rw [← HI.out]; exact clamp_i64 z, HZ.out, ?_⟩, bt (bt (bt hB1 hB2) hB3) hB4⟩
      show Ending.returned (.tuple #[.int .i64 (clamp z), .int .i64 0]) = _
      rw [HI.out]
    · rw [decide_eq_false hin]
      have HI := Lib.hid hin
      clear hin
      go_wp2_with fail
      go_ret2
      refine ⟨Or.inr ⟨fun y hy h => ?_, rfl⟩, bt (bt hB1 hB2) hB3⟩
      have := val_text_inj z y (by rw [← HZ.out]; exact h)
      subst this
      exact HI.out (clamp_in _ hy)

/-- Which beginnings are no number's text. -/
def NoneFrom (l : List UInt8) (j n : Nat) : Prop := ∀ i, j < i → i ≤ n → ∀ z, I64 z → l.take i ≠ textOf z
def ReadPost (l : List UInt8) (w : World) (e : Ending) (w' : World) : Prop := e = .returned (.tuple #[.int .i64 (rdAll l).1, .int .i64 ((rdAll l).2 : Int)]) ∧ Below w.heap.size w w'

theorem rdAll_hit (l : List UInt8) (j n : Nat) (z : Int) (hj : 0 < j) (hjn : j ≤ n) (hn : n ≤ l.length) (hn20 : n = l.length ∨ 20 ≤ n) (hz : I64 z) (h : l.take j = textOf z) (hno : NoneFrom l j n) : rdAll l = (z, j) := by
  have hf := rdAll_far l z j hz h (by omega)
  have hb := rdAll_bounds l
  rcases rdAll_is l with ⟨h0, _⟩ | ⟨h0, ht⟩
  · omega
  · have hk : (rdAll l).2 = j := by
      rcases Nat.lt_or_ge j (rdAll l).2 with hlt | hge
      · exfalso
        have hle : (rdAll l).2 ≤ n := by
          rcases hn20 with e | e
          · rw [e]; exact hb.2
          · have hl := textOf_len _ hb.1
            rw [← ht, List.length_take] at hl
            omega
        exact hno _ hlt hle _ hb.1 ht
      · omega
    rw [hk, h] at ht
    have := textOf_inj _ _ hz hb.1 ht
    exact Prod.ext this.symm hk
theorem rdAll_miss (l : List UInt8) (n : Nat) (hn20 : n = l.length ∨ 20 ≤ n) (hno : NoneFrom l 0 n) : rdAll l = (0, 0) := by
  have hb := rdAll_bounds l
  rcases rdAll_is l with ⟨h0, h1⟩ | ⟨h0, ht⟩
  · exact Prod.ext h1 h0
  · exfalso
    have hle : (rdAll l).2 ≤ n := by
      rcases hn20 with e | e
      · rw [e]; exact hb.2
      · have hl := textOf_len _ hb.1
        rw [← ht, List.length_take] at hl
        omega
    exact hno _ (by omega) hle _ hb.1 ht

end Go.Proofs.Ytmdnmcbjpjpgjaa
