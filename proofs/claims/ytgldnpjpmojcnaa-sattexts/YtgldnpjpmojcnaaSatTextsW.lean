/- The walk of the law SatTexts. -/
import Derived.Test.YtgldnpjpmojcnaaSatOrderW
import Derived.Test.YtgldnpjpmojcnaaRefRead
import Derived.Test.YtgldnpjpmojcnaaRefText
namespace Go.Proofs.Ytgldnpjpmojcnaa
open Go.RowKit Go.Proofs.Ytgldnpjpmojcnaa.Bo
set_option linter.unusedVariables false

/-- Both ways to parse a text answer alike. -/
theorem both_parse (s : ByteArray) (hs : s.size ≤ 10000) :
    ∃ a e : Int, (∀ w, Calls Try.prog 18 #[.string s] w fun x w' => x = .returned (.tuple #[.int .i64 a, .int .i64 e]) ∧ Below w.heap.size w w') ∧
      (∀ w, Calls Try.prog 19 #[.string s] w fun x w' => x = .returned (.tuple #[.int .i64 a, .int .i64 e]) ∧ Below w.heap.size w w') := by
  have hm : s.size ≤ maxLen := by unfold maxLen; omega
  have hsz : s.data.toList.length = s.size := by simp
  by_cases h : ∃ z, I64 z ∧ s.data.toList = textOf z
  · obtain ⟨z, hz, ht⟩ := h
    have hr : rdAll s.data.toList = (z, s.size) := by
      have h1 := rdAll_text z [] hz (by intro c hc; simp at hc)
      rw [List.append_nil, ← ht, hsz] at h1
      exact h1
    have hl := textOf_len z hz
    rw [← ht, hsz] at hl
    refine ⟨z, 0, fun w => ?_, fun w => ?_⟩
    · have h2 := parse_yes s w hm (by omega) (by rw [hr])
      rw [hr] at h2
      exact h2
    · refine (rparse_any s w hs).mono ?_
      rintro e w' ⟨hc, hB⟩
      refine ⟨?_, hB⟩
      rcases hc with ⟨y, hy, hty, rfl⟩ | ⟨hno, _⟩
      · rw [textOf_inj z y hz hy (by rw [← ht, hty])]
      · exact absurd ht (hno z hz)
  · have hno : ∀ z, I64 z → s.data.toList ≠ textOf z := fun z hz ht => h ⟨z, hz, ht⟩
    refine ⟨0, 10, fun w => ?_, fun w => ?_⟩
    · refine parse_no s w hm ?_
      have hb := rdAll_bounds s.data.toList
      rcases rdAll_is s.data.toList with ⟨h0, _⟩ | ⟨h0, ht⟩
      · exact Or.inl h0
      · right
        rcases Nat.lt_or_ge (rdAll s.data.toList).2 s.size with h1 | h1
        · exact h1
        · rw [List.take_of_length_le (by rw [hsz]; exact h1)] at ht
          exact absurd ht (hno _ hb.1)
    · refine (rparse_any s w hs).mono ?_
      rintro e w' ⟨hc, hB⟩
      refine ⟨?_, hB⟩
      rcases hc with ⟨y, hy, hty, _⟩ | ⟨_, rfl⟩
      · exact absurd hty (hno y hy)
      · rfl

set_option maxRecDepth 100000 in
set_option maxHeartbeats 2000000 in
theorem satTexts_walk (n : Int) (s : ByteArray) (w0 : (Lit.int .i64 n).wf = true) (w1 : s.size ≤ maxLen) (w : World) :
    Calls Try.prog 4 #[.int .i64 n, .string s] w fun e w' => e = .returned (.bool true) ∧ Below w.heap.size w w' := by
  have HN := Lib.hid (i64_of_wf w0)
  clear w0
  by_cases hbig : 10000 < s.size
  · have t1 : decide ((10000 : Int) < (s.size : Int)) = true := decide_eq_true (by omega)
    go_enter Try.func4, Try.ntmps4
    go_wp2_with fail
    refine (alive_any _).mono ?_
    rintro e w' ⟨rfl, hB⟩
    go_wp2_with fail
    go_ret
    exact ⟨rfl, hB⟩
  · have t1 : decide ((10000 : Int) < (s.size : Int)) = false := decide_eq_false (by omega)
    obtain ⟨a, e, hp1, hp2⟩ := both_parse s (by omega)
    have HP1 := Lib.hid hp1
    have HP2 := Lib.hid hp2
    have HR1 := Lib.hid (fun W => read_any s W w1)
    have HR2 := Lib.hid (fun W => rread_any s W (by omega))
    unfold ReadPost at HR2
    generalize rdAll s.data.toList = R at *
    obtain ⟨x, k⟩ := R
    simp only at HR1 HR2
    clear hp1 hp2
    have HT1 := Lib.hid (fun W => text_any n W HN.out)
    have HT2 := Lib.hid (fun W => rtext_any n W HN.out)
    generalize (⟨(textOf n).toArray⟩ : ByteArray) = T at *
    go_enter Try.func4, Try.ntmps4
    go_wp2_with fail
    refine (HP1.out _).mono ?_
    rintro e1 x1 ⟨rfl, hB1⟩
    go_wp2_with fail
    refine (HP2.out _).mono ?_
    rintro e1 x2 ⟨rfl, hB2⟩
    go_wp2_with fail
    refine (HR1.out _).mono ?_
    rintro e1 x3 ⟨rfl, hB3⟩
    go_wp2_with fail
    refine (HR2.out _).mono ?_
    rintro e1 x4 ⟨rfl, hB4⟩
    go_wp2_with fail
    refine (alive_any _).mono ?_
    rintro e1 x5 ⟨rfl, hB5⟩
    go_wp2_with fail
    refine (HT1.out _).mono ?_
    rintro e1 x6 ⟨rfl, hB6⟩
    go_wp2_with fail
    refine (HT2.out _).mono ?_
    rintro e1 x7 ⟨rfl, hB7⟩
    go_wp2_with fail
    go_ret
    exact ⟨rfl, bt (bt (bt (bt (bt (bt hB1 hB2) hB3) hB4) hB5) hB6) hB7⟩
end Go.Proofs.Ytgldnpjpmojcnaa
