/- Contracts of readDigits and Read. -/
import Derived.Test.YtbpplhlkpfdegaaSatText
namespace Go.Proofs.Ytbpplhlkpfdegaa
open Go.RowKit Go.Proofs.Ytbpplhlkpfdegaa.Bo
set_option linter.unusedVariables false

/-- The sign is no digit. -/
theorem take_no (B v M : Nat) (c : UInt8) (w : World) (h : c.toNat < 48 ∨ 57 < c.toNat) :
    Calls Try.prog 47 #[.int .u8 (c.toNat : Int), .pointer (some ⟨B + 1, 0, none⟩), .pointer (some ⟨B, 0, none⟩)] w fun e w' =>
      e = .returned (.bool false) ∧ w = w' := by
  by_cases h1 : c.toNat < 48
  · have t1 : decide ((c.toNat : Int) < 48) = true := by simp; omega
    go_enter Try.func47, Try.ntmps47
    go_wp2
    go_ret
    exact ⟨rfl, rfl⟩
  · have t1 : decide ((c.toNat : Int) < 48) = false := by simp; omega
    have t2 : decide (57 < (c.toNat : Int)) = true := by simp; omega
    go_enter Try.func47, Try.ntmps47
    go_wp2
    go_ret
    exact ⟨rfl, rfl⟩

theorem take_big (B v M : Nat) (c : UInt8) (w : World) (h1 : 48 ≤ c.toNat) (h2 : c.toNat ≤ 57) (hM : 9 ≤ M) (hM2 : M ≤ 9223372036854775808) (hv : v ≤ M) (h : (M - (c.toNat - 48)) / 10 < v)
    (b1 : w.heap[B]? = some (.cells #[.int .u64 (M : Int)] 53 (0, 0))) (b2 : w.heap[B + 1]? = some (.cells #[.int .u64 (v : Int)] 53 (0, 0))) :
    Calls Try.prog 47 #[.int .u8 (c.toNat : Int), .pointer (some ⟨B + 1, 0, none⟩), .pointer (some ⟨B, 0, none⟩)] w fun e w' =>
      e = .returned (.bool false) ∧ w = w' := by
  have c1 := cell_of_one b1
  have c2 := cell_of_one b2
  clear b1 b2
  have t1 : decide ((c.toNat : Int) < 48) = false := by simp; omega
  have t2 : decide (57 < (c.toNat : Int)) = false := by simp; omega
  have t3 : ((M : Int) - ((c.toNat : Int) - 48)) / 10 < (v : Int) := by omega
  go_enter Try.func47, Try.ntmps47
  go_wp2
  go_ret
  exact ⟨rfl, rfl⟩

theorem take_yes (B v M : Nat) (c : UInt8) (w : World) (h1 : 48 ≤ c.toNat) (h2 : c.toNat ≤ 57) (hM : 9 ≤ M) (hM2 : M ≤ 9223372036854775808) (hv : v ≤ M) (h : ¬ (M - (c.toNat - 48)) / 10 < v)
    (b1 : w.heap[B]? = some (.cells #[.int .u64 (M : Int)] 53 (0, 0))) (b2 : w.heap[B + 1]? = some (.cells #[.int .u64 (v : Int)] 53 (0, 0))) :
    Calls Try.prog 47 #[.int .u8 (c.toNat : Int), .pointer (some ⟨B + 1, 0, none⟩), .pointer (some ⟨B, 0, none⟩)] w fun e w' =>
      e = .returned (.bool true) ∧ w.setCell ⟨B + 1, 0, none⟩ (.int .u64 ((10 * v + (c.toNat - 48) : Nat) : Int)) = w' := by
  have c1 := cell_of_one b1
  have c2 := cell_of_one b2
  have f2 := free_of_one b2
  clear b1 b2
  have t1 : decide ((c.toNat : Int) < 48) = false := by simp; omega
  have t2 : decide (57 < (c.toNat : Int)) = false := by simp; omega
  have t3 : (v : Int) ≤ ((M : Int) - ((c.toNat : Int) - 48)) / 10 := by omega
  have e : ((10 * v + (c.toNat - 48) : Nat) : Int) = 10 * (v : Int) + ((c.toNat : Int) - 48) := by omega
  rw [e]
  clear e
  go_enter Try.func47, Try.ntmps47
  go_wp2
  go_ret
  exact ⟨rfl, rfl⟩

/-- What stands in memory while digits are read: B the most, B + 1 what was read. -/
structure DigAt (w : World) (M : Nat) (l : List UInt8) (R : Nat × Nat) (k v : Nat) (wr : World) : Prop where
  most : wr.heap[w.heap.size]? = some (.cells #[.int .u64 (M : Int)] 53 (0, 0))
  val : wr.heap[w.heap.size + 1]? = some (.cells #[.int .u64 (v : Int)] 53 (0, 0))
  le : v ≤ M
  run : rd M (l.drop k) k v = R
  below : Below w.heap.size w wr

theorem dig_step (w wr : World) (M : Nat) (l : List UInt8) (R : Nat × Nat) (k v : Nat) (hM : 9 ≤ M) (h : DigAt w M l R k v wr) (hk : k < l.length) (hs : ¬ stops M l[k] k v) :
    DigAt w M l R (k + 1) (10 * v + (l[k].toNat - 48)) (wr.setCell ⟨w.heap.size + 1, 0, none⟩ (.int .u64 ((10 * v + (l[k].toNat - 48) : Nat) : Int))) := by
  refine ⟨(heap_setCell_other wr _ _ _ (by simp)).trans h.most, one_setCell h.val, ?_, ?_, h.below.setCell (by simp) _⟩
  · unfold stops at hs
    have := h.le; omega
  · have hr := h.run
    rw [List.drop_eq_getElem_cons hk, rd_go _ _ _ _ _ hs] at hr
    exact hr

theorem bytes_at (s : ByteArray) (k : Nat) (h : k < s.size) : s.data.toList[k]'(by simpa using h) = s[k]'h := by simp [ByteArray.getElem_eq_getElem_data]

theorem ret_pair {k1 k2 : IntKind} {a b c d : Int} (h : a = b) (h2 : c = d) : Ending.returned (.tuple #[.int k1 a, .int k2 c]) = .returned (.tuple #[.int k1 b, .int k2 d]) := by rw [h, h2]

set_option maxRecDepth 100000 in
set_option maxHeartbeats 1000000 in
theorem digits_any (s : ByteArray) (M : Nat) (w : World) (hM : 9 ≤ M) (hM2 : M ≤ 9223372036854775808) (hs : s.size ≤ maxLen) :
    Calls Try.prog 33 #[.string s, .int .u64 (M : Int)] w fun e w' =>
      e = .returned (.tuple #[.int .u64 ((rd M s.data.toList 0 0).1 : Int), .int .i64 ((rd M s.data.toList 0 0).2 : Int)]) ∧ Below w.heap.size w w' := by
  have hmf : ∀ (fn : Fn) (first cap : Array Value) (w : World), (Instr.makeFunc fn first cap).run Try.prog w = .ok (.func fn first cap) w := fun _ _ _ _ => rfl
  unfold maxLen at hs
  generalize hR : rd M s.data.toList 0 0 = R
  have HR := Lib.hid hR
  clear hR
  go_enter Try.func33, Try.ntmps33
  go_wp2_with fail
  go_loopw [13] (fun i wr => ∃ k v : Nat, k ≤ s.size ∧ i = .int .i64 k ∧ DigAt w M s.data.toList R k v wr) (fun i _ => s.size - (intOf i).toNat)
  case atStart =>
    refine ⟨0, 0, Nat.zero_le _, rfl, heap_alloc2_old _ _ _, heap_alloc2_new _ _ _, Nat.zero_le _, HR.out, ((Below.refl _ _).alloc (Nat.le_refl _) _).alloc (by simp) _⟩
  case round =>
    obtain ⟨k, v, hk, rfl, hd⟩ := hrel
    have c1 := cell_of_one hd.most
    have c2 := cell_of_one hd.val
    have hv := hd.le
    have HD := Lib.hid hd
    clear hd
    by_cases hlt : k < s.size
    · have hrun : rd M (s[k] :: s.data.toList.drop (k + 1)) k v = R := by
        have hl : k < s.data.toList.length := by simpa using hlt
        rw [← HD.out.run, List.drop_eq_getElem_cons hl, bytes_at s k hlt]
      by_cases hst : stops M s[k] k v
      · -- it ends here
        rw [rd_stop _ _ _ _ _ hst] at hrun
        have H1 : Hid ((v : Int) = (R.1 : Int)) := by rw [← hrun]; exact rfl
        have H2 : Hid ((k : Int) = (R.2 : Int)) := by rw [← hrun]; exact rfl
        clear hrun
        by_cases hlead : k = 1 ∧ v = 0
        · have tk : ((k : Int) == 1) = true := by simp; omega
          have tv : ((v : Int) == 0) = true := by simp; omega
          clear hst
          have HLE := Lib.hid hlead
          clear hlead
          go_wp2_with fail
          go_ret2
          exact ⟨ret_pair (by have h1 := H1.out; have h2 := HLE.out; omega) (by have h1 := H2.out; have h2 := HLE.out; omega), HD.out.below⟩
        · have hcase : ((k : Int) == 1) = false ∨ (((k : Int) == 1) = true ∧ ((v : Int) == 0) = false) := by
            by_cases h1 : k = 1
            · right; refine ⟨by simp; omega, by simp; omega⟩
            · left; simp; omega
          by_cases hdig : s[k].toNat < 48 ∨ 57 < s[k].toNat
          · have HDIG := Lib.hid hdig
            clear hst hlead hdig
            rcases hcase with tk | ⟨tk, tv⟩
            all_goals
              go_wp2_with fail
              refine (take_no w.heap.size v M s[k] _ HDIG.out).mono ?_
              rintro e w' ⟨rfl, rfl⟩
              go_wp2_with fail
              go_ret2
              exact ⟨ret_pair H1.out H2.out, HD.out.below⟩
          · have hbig : Hid ((M - (s[k].toNat - 48)) / 10 < v) := by
              show (M - (s[k].toNat - 48)) / 10 < v
              unfold stops at hst; omega
            have HDIG : Hid (48 ≤ s[k].toNat ∧ s[k].toNat ≤ 57) := ⟨by omega, by omega⟩
            clear hst hlead hdig
            rcases hcase with tk | ⟨tk, tv⟩
            all_goals
              go_wp2_with fail
              refine (take_big w.heap.size v M s[k] _ HDIG.out.1 HDIG.out.2 hM hM2 hv hbig.out HD.out.most HD.out.val).mono ?_
              rintro e w' ⟨rfl, rfl⟩
              go_wp2_with fail
              go_ret2
              exact ⟨ret_pair H1.out H2.out, HD.out.below⟩
      · -- it goes on
        have hstep := dig_step w wr M s.data.toList R k v hM HD.out (by simpa using hlt) (by rw [bytes_at s k hlt]; exact hst)
        rw [bytes_at s k hlt] at hstep
        have HST := Lib.hid hstep
        have hcase : ((k : Int) == 1) = false ∨ (((k : Int) == 1) = true ∧ ((v : Int) == 0) = false) := by
          unfold stops at hst
          by_cases h1 : k = 1
          · right; refine ⟨by simp; omega, by simp; omega⟩
          · left; simp; omega
        have hbig : Hid (¬ (M - (s[k].toNat - 48)) / 10 < v) := by
          show ¬ (M - (s[k].toNat - 48)) / 10 < v
          unfold stops at hst; omega
        have HDIG : Hid (48 ≤ s[k].toNat ∧ s[k].toNat ≤ 57) := by
          show 48 ≤ s[k].toNat ∧ s[k].toNat ≤ 57
          unfold stops at hst; omega
        clear hst hrun hstep
        rcases hcase with tk | ⟨tk, tv⟩
        all_goals
          go_wp2_with fail
          refine (take_yes w.heap.size v M s[k] _ HDIG.out.1 HDIG.out.2 hM hM2 hv hbig.out HD.out.most HD.out.val).mono ?_
          rintro e w' ⟨rfl, rfl⟩
          go_wp2_with fail
          go_roundw
          case rel => exact ⟨k + 1, _, by omega, by go_num, HST.out⟩
          case measure => simp [intOf]; omega
    · have hke : k = s.size := by omega
      have hrun := HD.out.run
      rw [List.drop_of_length_le (by simp; omega), rd_nil] at hrun
      have H1 : Hid ((v : Int) = (R.1 : Int)) := by rw [← hrun]; exact rfl
      have H2 : Hid ((s.size : Int) = (R.2 : Int)) := by rw [← hrun, hke]; exact rfl
      clear hrun hke
      go_wp2_with fail
      go_ret2
      exact ⟨ret_pair H1.out H2.out, HD.out.below⟩
end Go.Proofs.Ytbpplhlkpfdegaa
