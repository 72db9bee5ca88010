/- The walk of the law SatBack. -/
import Derived.Test.YtgldnpjpmojcnaaSatOrderW
import Derived.Test.YtgldnpjpmojcnaaSatDig
namespace Go.Proofs.Ytgldnpjpmojcnaa
open Go.RowKit Go.Proofs.Ytgldnpjpmojcnaa.Bo
set_option linter.unusedVariables false

/-- What the law's steps answer, at a text s that is n's. -/
theorem back_parts (n : Int) (b : ByteArray) (hn : I64 n) (hb : b.size ≤ 1000) (hd : NoDigit b.data.toList) :
    ∃ s : ByteArray, (1 ≤ s.size ∧ s.size ≤ 20) ∧ (∀ w, Calls Try.prog 22 #[.int .i64 n] w fun e w' => e = .returned (.string s) ∧ Below w.heap.size w w') ∧
      (∀ w, Calls Try.prog 18 #[.string s] w fun e w' => e = .returned (.tuple #[.int .i64 n, .int .i64 0]) ∧ Below w.heap.size w w') ∧
      (∀ w, Calls Try.prog 20 #[.string (s ++ b)] w fun e w' => e = .returned (.tuple #[.int .i64 n, .int .i64 (s.size : Int)]) ∧ Below w.heap.size w w') := by
  have hl := textOf_len n hn
  have hsz : (⟨(textOf n).toArray⟩ : ByteArray).size = (textOf n).length := by simp [ByteArray.size]
  have hr0 : rdAll (textOf n) = (n, (textOf n).length) := by
    have := rdAll_text n [] hn (by intro c hc; simp at hc)
    simpa using this
  refine ⟨⟨(textOf n).toArray⟩, by rw [hsz]; exact hl, fun w => text_any n w hn, fun w => ?_, fun w => ?_⟩
  · have h := parse_yes ⟨(textOf n).toArray⟩ w (by rw [hsz]; unfold maxLen; omega) (by rw [hsz]; omega) (by rw [hsz]; show (rdAll (textOf n)).2 = _; rw [hr0])
    have e : (rdAll (⟨(textOf n).toArray⟩ : ByteArray).data.toList).1 = n := by show (rdAll (textOf n)).1 = n; rw [hr0]
    rw [e] at h
    exact h
  · have h := read_any (⟨(textOf n).toArray⟩ ++ b) w (by rw [ByteArray.size_append, hsz]; unfold maxLen; omega)
    have e : rdAll ((⟨(textOf n).toArray⟩ : ByteArray) ++ b).data.toList = (n, (textOf n).length) := by
      rw [show ((⟨(textOf n).toArray⟩ : ByteArray) ++ b).data.toList = textOf n ++ b.data.toList from by simp]
      exact rdAll_text n _ hn hd
    rw [e] at h
    rw [hsz]
    exact h

set_option maxRecDepth 100000 in
set_option maxHeartbeats 1000000 in
theorem satBack_walk (n : Int) (b : ByteArray) (w0 : (Lit.int .i64 n).wf = true) (w1 : b.size ≤ maxLen) (w : World) :
    Calls Try.prog 5 #[.int .i64 n, .string b] w fun e w' => e = .returned (.bool true) ∧ Below w.heap.size w w' := by
  have hn := i64_of_wf w0
  clear w0
  by_cases hbig : 1000 < b.size
  · have t1 : decide ((1000 : Int) < (b.size : Int)) = true := by simp; omega
    clear hn
    go_enter Try.func5, Try.ntmps5
    go_wp2_with fail
    refine (alive_any _).mono ?_
    rintro e w' ⟨rfl, hB⟩
    go_wp2_with fail
    go_ret
    exact ⟨rfl, hB⟩
  · have t1 : decide ((1000 : Int) < (b.size : Int)) = false := by simp; omega
    by_cases hz : 0 < b.size
    · have t2 : decide ((0 : Int) < (b.size : Int)) = true := by simp; omega
      by_cases h48 : 48 ≤ b[0].toNat
      · have t3 : decide (48 ≤ (b[0].toNat : Int)) = true := by simp; omega
        by_cases h57 : b[0].toNat ≤ 57
        · have t4 : decide ((b[0].toNat : Int) ≤ 57) = true := by simp; omega
          clear hn
          go_enter Try.func5, Try.ntmps5
          go_wp2_with fail
          refine (alive_any _).mono ?_
          rintro e w' ⟨rfl, hB⟩
          go_wp2_with fail
          go_ret
          exact ⟨rfl, hB⟩
        · have t4 : decide ((b[0].toNat : Int) ≤ 57) = false := by simp; omega
          obtain ⟨s, hs, ht, hp, hr⟩ := back_parts n b hn (by omega) (by intro c hc; rw [List.getElem?_eq_getElem (by simpa using hz), bytes_at b 0 hz] at hc; cases hc; omega)
          have HT := Lib.hid ht
          have HP := Lib.hid hp
          have HR := Lib.hid hr
          obtain ⟨hs1, hs2⟩ := hs
          clear ht hp hr hn
          go_enter Try.func5, Try.ntmps5
          go_wp2_with fail
          refine (HT.out _).mono ?_
          rintro e x1 ⟨rfl, hB1⟩
          go_wp2_with fail
          refine (HP.out _).mono ?_
          rintro e x2 ⟨rfl, hB2⟩
          go_wp2_with fail
          refine (HR.out _).mono ?_
          rintro e x3 ⟨rfl, hB3⟩
          go_wp2_with fail
          refine (alive_any _).mono ?_
          rintro e x4 ⟨rfl, hB4⟩
          go_wp2_with fail
          go_ret
          exact ⟨rfl, bt (bt (bt hB1 hB2) hB3) hB4⟩
      · have t3 : decide (48 ≤ (b[0].toNat : Int)) = false := by simp; omega
        obtain ⟨s, hs, ht, hp, hr⟩ := back_parts n b hn (by omega) (by intro c hc; rw [List.getElem?_eq_getElem (by simpa using hz), bytes_at b 0 hz] at hc; cases hc; omega)
        have HT := Lib.hid ht
        have HP := Lib.hid hp
        have HR := Lib.hid hr
        obtain ⟨hs1, hs2⟩ := hs
        clear ht hp hr hn
        go_enter Try.func5, Try.ntmps5
        go_wp2_with fail
        refine (HT.out _).mono ?_
        rintro e x1 ⟨rfl, hB1⟩
        go_wp2_with fail
        refine (HP.out _).mono ?_
        rintro e x2 ⟨rfl, hB2⟩
        go_wp2_with fail
        refine (HR.out _).mono ?_
        rintro e x3 ⟨rfl, hB3⟩
        go_wp2_with fail
        refine (alive_any _).mono ?_
        rintro e x4 ⟨rfl, hB4⟩
        go_wp2_with fail
        go_ret
        exact ⟨rfl, bt (bt (bt hB1 hB2) hB3) hB4⟩
    · have t2 : decide ((0 : Int) < (b.size : Int)) = false := decide_eq_false (by omega)
      have hd0 : NoDigit b.data.toList := by
        intro c hc
        have h0 : b.data.toList = [] := List.eq_nil_of_length_eq_zero (by rw [Array.length_toList]; show b.size = 0; omega)
        rw [h0] at hc; simp at hc
      obtain ⟨s, hs, ht, hp, hr⟩ := back_parts n b hn (by omega) (by intro c hc; exact hd0 c hc)
      have HT := Lib.hid ht
      have HP := Lib.hid hp
      have HR := Lib.hid hr
      obtain ⟨hs1, hs2⟩ := hs
      clear ht hp hr hn
      go_enter Try.func5, Try.ntmps5
      go_wp2_with fail
      refine (HT.out _).mono ?_
      rintro e x1 ⟨rfl, hB1⟩
      go_wp2_with fail
      refine (HP.out _).mono ?_
      rintro e x2 ⟨rfl, hB2⟩
      go_wp2_with fail
      refine (HR.out _).mono ?_
      rintro e x3 ⟨rfl, hB3⟩
      go_wp2_with fail
      refine (alive_any _).mono ?_
      rintro e x4 ⟨rfl, hB4⟩
      go_wp2_with fail
      go_ret
      exact ⟨rfl, bt (bt (bt hB1 hB2) hB3) hB4⟩
end Go.Proofs.Ytgldnpjpmojcnaa
