/- Contracts of strings.CutPrefix at "-", Read and Parse. -/
import Derived.Test.YtbpplhlkpfdegaaSatRead
namespace Go.Proofs.Ytbpplhlkpfdegaa
open Go.RowKit Go.Proofs.Ytbpplhlkpfdegaa.Bo
set_option linter.unusedVariables false

theorem hasp_yes (s : ByteArray) (w : World) (hs : s.size ≤ maxLen) (h : s.data.toList[0]? = some 45) :
    Calls Try.prog 31 #[.string s, .string ⟨#[45]⟩] w fun e w' => e = .returned (.bool true) ∧ w = w' := by
  unfold maxLen at hs
  have hlt : 0 < s.size := by have := (List.getElem?_eq_some_iff.1 h).1; simpa using this
  have t1 : ((s.extract 0 1).toList == [45]) = true := by
    rw [ByteArray.toList_eq, beq_iff_eq]
    have : s.data.toList.take 1 = [45] := by
      cases hl : s.data.toList with
      | nil => rw [hl] at h; simp at h
      | cons a t => rw [hl] at h; simpa using h
    simpa using this
  clear h
  go_enter Try.func31, Try.ntmps31
  go_wp2
  go_ret
  exact ⟨rfl, rfl⟩
theorem hasp_no (s : ByteArray) (w : World) (hs : s.size ≤ maxLen) (h : ¬ s.data.toList[0]? = some 45) :
    Calls Try.prog 31 #[.string s, .string ⟨#[45]⟩] w fun e w' => e = .returned (.bool false) ∧ w = w' := by
  unfold maxLen at hs
  by_cases hlt : 0 < s.size
  · have t1 : ((s.extract 0 1).toList == [45]) = false := by
      rw [ByteArray.toList_eq, beq_eq_false_iff_ne]
      intro he
      have : s.data.toList.take 1 = [45] := by simpa using he
      cases hl : s.data.toList with
      | nil => rw [hl] at this; simp at this
      | cons a t => rw [hl] at this h; simp at this h; exact h this
    clear h
    go_enter Try.func31, Try.ntmps31
    go_wp2
    go_ret
    exact ⟨rfl, rfl⟩
  · clear h
    go_enter Try.func31, Try.ntmps31
    go_wp2
    go_ret
    exact ⟨rfl, rfl⟩

theorem cutl_yes (s : ByteArray) (w : World) (hs : s.size ≤ maxLen) (h : s.data.toList[0]? = some 45) :
    Calls Try.prog 46 #[.string s, .string ⟨#[45]⟩] w fun e w' => e = .returned (.tuple #[.string (s.extract 1 s.size), .bool true]) ∧ w = w' := by
  have hlt : 0 < s.size := by have := (List.getElem?_eq_some_iff.1 h).1; simpa using this
  have H := Lib.hid h
  have HS := Lib.hid hs
  unfold maxLen at hs
  clear h
  go_enter Try.func46, Try.ntmps46
  go_wp2_with fail
  refine (hasp_yes _ _ HS.out H.out).mono ?_
  rintro e w' ⟨rfl, rfl⟩
  go_wp2_with fail
  go_ret2
  exact ⟨rfl, rfl⟩
theorem cutl_no (s : ByteArray) (w : World) (hs : s.size ≤ maxLen) (h : ¬ s.data.toList[0]? = some 45) :
    Calls Try.prog 46 #[.string s, .string ⟨#[45]⟩] w fun e w' => e = .returned (.tuple #[.string s, .bool false]) ∧ w = w' := by
  have H := Lib.hid h
  have HS := Lib.hid hs
  clear h hs
  go_enter Try.func46, Try.ntmps46
  go_wp2_with fail
  refine (hasp_no _ _ HS.out H.out).mono ?_
  rintro e w' ⟨rfl, rfl⟩
  go_wp2_with fail
  go_ret2
  exact ⟨rfl, rfl⟩
theorem cutp_yes (s : ByteArray) (w : World) (hs : s.size ≤ maxLen) (h : s.data.toList[0]? = some 45) :
    Calls Try.prog 32 #[.string s, .string ⟨#[45]⟩] w fun e w' => e = .returned (.tuple #[.string (s.extract 1 s.size), .bool true]) ∧ w = w' := by
  have H := Lib.hid h
  have HS := Lib.hid hs
  clear h hs
  go_enter Try.func32, Try.ntmps32
  go_wp2_with fail
  refine (cutl_yes _ _ HS.out H.out).mono ?_
  rintro e w' ⟨rfl, rfl⟩
  go_wp2_with fail
  go_ret2
  exact ⟨rfl, rfl⟩
theorem cutp_no (s : ByteArray) (w : World) (hs : s.size ≤ maxLen) (h : ¬ s.data.toList[0]? = some 45) :
    Calls Try.prog 32 #[.string s, .string ⟨#[45]⟩] w fun e w' => e = .returned (.tuple #[.string s, .bool false]) ∧ w = w' := by
  have H := Lib.hid h
  have HS := Lib.hid hs
  clear h hs
  go_enter Try.func32, Try.ntmps32
  go_wp2_with fail
  refine (cutl_no _ _ HS.out H.out).mono ?_
  rintro e w' ⟨rfl, rfl⟩
  go_wp2_with fail
  go_ret2
  exact ⟨rfl, rfl⟩

theorem i64_neg_u64 (n : Nat) (h0 : n ≠ 0) (h : n ≤ 9223372036854775808) : wrap64 (IntKind.u64.wrap (-(n : Int))) = -(n : Int) := by
  simp [IntKind.wrap, IntKind.bits, IntKind.signed]; unfold wrap64; omega

theorem read_any (s : ByteArray) (w : World) (hs : s.size ≤ maxLen) :
    Calls Try.prog 26 #[.string s] w fun e w' =>
      e = .returned (.tuple #[.int .i64 (rdAll s.data.toList).1, .int .i64 ((rdAll s.data.toList).2 : Int)]) ∧ Below w.heap.size w w' := by
  have HS := Lib.hid hs
  by_cases h : s.data.toList[0]? = some 45
  · have H := Lib.hid h
    have hlt : 0 < s.size := by have := (List.getElem?_eq_some_iff.1 h).1; simpa using this
    have hx : (s.extract 1 s.size).data.toList = s.data.toList.drop 1 := by simp; exact List.take_of_length_le (by simp)
    have hxs : Hid ((s.extract 1 s.size).size ≤ maxLen) := by
      show (s.extract 1 s.size).size ≤ maxLen
      simp; omega
    have hb := rd_bounds 9223372036854775808 (by omega) (s.data.toList.drop 1) 0 0 (by omega)
    have HD := fun (W : World) => digits_any (s.extract 1 s.size) 9223372036854775808 W (by omega) (by omega) hxs.out
    rw [hx] at HD
    have hlen : (s.data.toList.drop 1).length ≤ 9223372036854775806 := by unfold maxLen at hs; simp; omega
    have hdef : rdAll s.data.toList = if (rd 9223372036854775808 (s.data.toList.drop 1) 0 0).1 = 0 then (0, 0) else (-((rd 9223372036854775808 (s.data.toList.drop 1) 0 0).1 : Int), (rd 9223372036854775808 (s.data.toList.drop 1) 0 0).2 + 1) := by
      unfold rdAll; rw [if_pos h]
    generalize rd 9223372036854775808 (s.data.toList.drop 1) 0 0 = R at *
    obtain ⟨v, k⟩ := R
    simp only at hb HD hdef
    obtain ⟨hb1, hb2, hb3⟩ := hb
    by_cases hv : v = 0
    · rw [if_pos hv] at hdef
      rw [hdef]
      subst hv
      have HDD := Lib.hid HD
      clear h hs hx hdef HD
      go_enter Try.func26, Try.ntmps26
      go_wp2_with fail
      refine (cutp_yes _ _ HS.out H.out).mono ?_
      rintro e w' ⟨rfl, rfl⟩
      go_wp2_with fail
      refine (size_neg _ _ (by omega) (by omega)).mono ?_
      rintro e w' ⟨rfl, rfl⟩
      go_wp2_with fail
      refine (HDD.out _).mono ?_
      rintro e w' ⟨rfl, hB⟩
      go_wp2_with fail
      go_ret2
      exact ⟨rfl, hB⟩
    · rw [if_neg hv] at hdef
      rw [hdef]
      have HDD := Lib.hid HD
      have HV := Lib.hid (i64_neg_u64 v hv hb1)
      have tv : ((v : Int) == 0) = false := by simp; omega
      have hk : (k : Int) + 1 ≤ 9223372036854775807 := by omega
      clear h hs hx hdef HD hv
      go_enter Try.func26, Try.ntmps26
      go_wp2_with fail
      refine (cutp_yes _ _ HS.out H.out).mono ?_
      rintro e w' ⟨rfl, rfl⟩
      go_wp2_with fail
      refine (size_neg _ _ (by omega) (by omega)).mono ?_
      rintro e w' ⟨rfl, rfl⟩
      go_wp2_with fail
      refine (HDD.out _).mono ?_
      rintro e w' ⟨rfl, hB⟩
      go_wp2_with fail
      go_ret2
      exact ⟨ret_pair HV.out (by omega), hB⟩
  · have H := Lib.hid h
    have hb := rd_bounds 9223372036854775807 (by omega) s.data.toList 0 0 (by omega)
    have HD := fun (W : World) => digits_any s 9223372036854775807 W (by omega) (by omega) hs
    have hdef : rdAll s.data.toList = (((rd 9223372036854775807 s.data.toList 0 0).1 : Int), (rd 9223372036854775807 s.data.toList 0 0).2) := by
      unfold rdAll; rw [if_neg h]
    generalize rd 9223372036854775807 s.data.toList 0 0 = R at *
    obtain ⟨v, k⟩ := R
    simp only at hb HD hdef
    obtain ⟨hb1, hb2, hb3⟩ := hb
    rw [hdef]
    have HDD := Lib.hid HD
    clear h hs hdef HD
    go_enter Try.func26, Try.ntmps26
    go_wp2_with fail
    refine (cutp_no _ _ HS.out H.out).mono ?_
    rintro e w' ⟨rfl, rfl⟩
    go_wp2_with fail
    refine (HDD.out _).mono ?_
    rintro e w' ⟨rfl, hB⟩
    go_wp2_with fail
    go_ret2
    exact ⟨rfl, hB⟩

end Go.Proofs.Ytbpplhlkpfdegaa
