/- The walk of the law SatDigits. -/
import Derived.Test.YtgldnpjpmojcnaaSatOrderW
import Derived.Test.YtgldnpjpmojcnaaSatDig
import Derived.Lib.OthersKept
namespace Go.Proofs.Ytgldnpjpmojcnaa
open Go.RowKit Go.Proofs.Ytgldnpjpmojcnaa.Bo
set_option linter.unusedVariables false

/-- The bytes of t are the digits of m. -/
structure Digs (t : ByteArray) (m : Nat) : Prop where
  len1 : 1 ≤ t.size
  len2 : t.size ≤ 19
  digit : ∀ (k : Nat) (h : k < t.size), 48 ≤ t[k].toNat ∧ t[k].toNat ≤ 57
  zero : m = 0 → t.size = 1
  zero48 : ∀ (h : 0 < t.size), m = 0 → t[0].toNat = 48
  first : ∀ (h : 0 < t.size), m ≠ 0 → t[0].toNat ≠ 48

theorem digs_of (t : ByteArray) (m : Nat) (hm : m ≤ 9223372036854775808) (h : t.data.toList = dg m) : Digs t m := by
  have hsz : t.size = (dg m).length := by rw [← h]; simp
  have hl := dg_len m hm
  have hmem : ∀ (k : Nat) (hk : k < t.size), t[k] ∈ dg m := by
    intro k hk
    rw [← bytes_at t k hk, ← h]
    exact List.getElem_mem _
  have hat : ∀ (h0 : 0 < t.size) (c : UInt8) (u : List UInt8), dg m = c :: u → t[0] = c := by
    intro h0 c u e
    have h1 : t.data.toList[0]? = some c := by rw [h, e]; rfl
    rw [List.getElem?_eq_getElem (by simpa using h0), bytes_at t 0 h0] at h1
    exact Option.some.inj h1
  refine ⟨by omega, by omega, fun k hk => dg_digits m _ (hmem k hk), fun e => by rw [hsz, e, dg_zero]; rfl, fun h0 e => ?_, fun h0 hne => ?_⟩
  · rw [hat h0 48 [] (by rw [e, dg_zero])]; rfl
  · obtain ⟨c, u, e, hc⟩ := dg_first m hne
    rw [hat h0 c u e]; omega

theorem iter_below (x : World) (s : ByteArray) (k : Nat) : Below x.heap.size x (x.iter s k) := (Below.refl _ _).alloc (Nat.le_refl _) _

set_option maxRecDepth 100000 in
set_option maxHeartbeats 1000000 in
theorem satDigits_walk (n : Int) (w0 : (Lit.int .i64 n).wf = true) (w : World) :
    Calls Try.prog 9 #[.int .i64 n] w fun e w' => e = .returned (.bool true) ∧ Below w.heap.size w w' := by
  have hn := i64_of_wf w0
  clear w0
  have hm : n.natAbs ≤ 9223372036854775808 := by obtain ⟨h1, h2⟩ := hn; omega
  by_cases hneg : n < 0
  · have ht : textOf n = 45 :: dg n.natAbs := by unfold textOf; rw [if_pos hneg]
    have hx : ((⟨(textOf n).toArray⟩ : ByteArray).extract 1 (⟨(textOf n).toArray⟩ : ByteArray).size).data.toList = dg n.natAbs := by simp [ht, ByteArray.size]
    have hd : Digs ((⟨(textOf n).toArray⟩ : ByteArray).extract 1 (⟨(textOf n).toArray⟩ : ByteArray).size) n.natAbs := digs_of _ _ hm hx
    have hls := textOf_len n hn
    have hls1 : 1 ≤ (⟨(textOf n).toArray⟩ : ByteArray).size := by simp [ByteArray.size]; omega
    have hls2 : (⟨(textOf n).toArray⟩ : ByteArray).size ≤ 20 := by simp [ByteArray.size]; omega
    have h45 : (⟨(textOf n).toArray⟩ : ByteArray)[0].toNat = 45 := by
      rw [← bytes_at _ 0 hls1]; simp [ht]
    have HT := Lib.hid (fun (W : World) => text_any n W hn)
    generalize (⟨(textOf n).toArray⟩ : ByteArray) = s at *
    have tn : decide (n < 0) = true := by simp; omega
    have t0 : ((s.size : Int) == 0) = false := beq_eq_false_iff_ne.2 (by omega)
    have t1 : decide ((20 : Int) < (s.size : Int)) = false := decide_eq_false (by omega)
    have t2 : ((s[0].toNat : Int) == 45) = true := beq_iff_eq.2 (by omega)
    have HD := Lib.hid hd
    clear hd hn hm hx ht h45 hls
    go_enter Try.func9, Try.ntmps9
    go_wp2_with fail
    refine (HT.out _).mono ?_
    rintro e x1 ⟨rfl, hB1⟩
    go_wp2_with fail
    generalize s.extract 1 s.size = t at *
    have hl1 := HD.out.len1
    have hl2 := HD.out.len2
    have t3 : decide ((0 : Int) < (t.size : Int)) = true := decide_eq_true (by omega)
    go_loopw [] (fun wr => ∃ pos : Nat, pos ≤ t.size ∧ wr = x1.iter t pos) (fun wr => t.size - wr.iterPos x1.heap.size)
    case atStart => exact ⟨0, Nat.zero_le _, rfl⟩
    case round =>
      obtain ⟨k, hk, rfl⟩ := hrel
      by_cases hlt : k < t.size
      · have hdk := HD.out.digit k hlt
        have hnx := fun ty => run_next_ascii (P := Try.prog) x1 t k ty hlt (by omega)
        have u1 : decide ((t[k].toNat : Int) < 48) = false := decide_eq_false (by omega)
        have u2 : decide (57 < (t[k].toNat : Int)) = false := decide_eq_false (by omega)
        go_wp2_with fail
        exact ⟨⟨k + 1, by omega, rfl⟩, by rw [World.iterPos_iter, World.iterPos_iter]; omega⟩
      · have hnx := fun ty => run_next_end (P := Try.prog) x1 t k ty hlt
        have hB2 := iter_below x1 t k
        have HZ := HD.out.zero
        have HZ2 := HD.out.zero48 (by omega)
        have HF := HD.out.first (by omega)
        by_cases hz : n = 0
        · have v1 : ((t[0].toNat : Int) != 48) = false := by simp; exact_mod_cast HZ2 (by omega)
          have v2 : (n == 0) = true := beq_iff_eq.2 hz
          have v3 : ((t.size : Int) == 1) = true := beq_iff_eq.2 (by have := HZ (by omega); omega)
          have HZZ := Lib.hid hz
          clear HZ HZ2 HF hz
          go_wp2_with fail
          refine (alive_any _).mono ?_
          rintro e x2 ⟨rfl, hB3⟩
          go_wp2_with fail
          go_ret
          exact ⟨rfl, bt (bt hB1 hB2) hB3⟩
        · have v1 : ((t[0].toNat : Int) != 48) = true := by simp; exact_mod_cast HF (by omega)
          clear HZ HZ2 HF hz
          go_wp2_with fail
          refine (alive_any _).mono ?_
          rintro e x2 ⟨rfl, hB3⟩
          go_wp2_with fail
          go_ret
          exact ⟨rfl, bt (bt hB1 hB2) hB3⟩
  · have hd : Digs ⟨(textOf n).toArray⟩ n.natAbs := digs_of _ _ hm (by show textOf n = _; unfold textOf; rw [if_neg hneg])
    have HT := Lib.hid (fun (W : World) => text_any n W hn)
    generalize (⟨(textOf n).toArray⟩ : ByteArray) = t at *
    have tn : decide (n < 0) = false := by simp; omega
    have hl1 := hd.len1
    have hl2 := hd.len2
    have hd0 := hd.digit 0 (by omega)
    have t0 : ((t.size : Int) == 0) = false := beq_eq_false_iff_ne.2 (by omega)
    have t1 : decide ((20 : Int) < (t.size : Int)) = false := decide_eq_false (by omega)
    have t2 : ((t[0].toNat : Int) == 45) = false := beq_eq_false_iff_ne.2 (by omega)
    have t3 : decide ((0 : Int) < (t.size : Int)) = true := decide_eq_true (by omega)
    have HD := Lib.hid hd
    clear hd hn hm
    go_enter Try.func9, Try.ntmps9
    go_wp2_with fail
    refine (HT.out _).mono ?_
    rintro e x1 ⟨rfl, hB1⟩
    go_wp2_with fail
    go_loopw [] (fun wr => ∃ pos : Nat, pos ≤ t.size ∧ wr = x1.iter t pos) (fun wr => t.size - wr.iterPos x1.heap.size)
    case atStart => exact ⟨0, Nat.zero_le _, rfl⟩
    case round =>
      obtain ⟨k, hk, rfl⟩ := hrel
      by_cases hlt : k < t.size
      · have hdk := HD.out.digit k hlt
        have hnx := fun ty => run_next_ascii (P := Try.prog) x1 t k ty hlt (by omega)
        have u1 : decide ((t[k].toNat : Int) < 48) = false := decide_eq_false (by omega)
        have u2 : decide (57 < (t[k].toNat : Int)) = false := decide_eq_false (by omega)
        go_wp2_with fail
        exact ⟨⟨k + 1, by omega, rfl⟩, by rw [World.iterPos_iter, World.iterPos_iter]; omega⟩
      · have hnx := fun ty => run_next_end (P := Try.prog) x1 t k ty hlt
        have hB2 := iter_below x1 t k
        have HZ := HD.out.zero
        have HZ2 := HD.out.zero48 (by omega)
        have HF := HD.out.first (by omega)
        by_cases hz : n = 0
        · have v1 : ((t[0].toNat : Int) != 48) = false := by simp; exact_mod_cast HZ2 (by omega)
          have v2 : (n == 0) = true := beq_iff_eq.2 hz
          have v3 : ((t.size : Int) == 1) = true := beq_iff_eq.2 (by have := HZ (by omega); omega)
          have HZZ := Lib.hid hz
          clear HZ HZ2 HF hz
          go_wp2_with fail
          refine (alive_any _).mono ?_
          rintro e x2 ⟨rfl, hB3⟩
          go_wp2_with fail
          go_ret
          exact ⟨rfl, bt (bt hB1 hB2) hB3⟩
        · have v1 : ((t[0].toNat : Int) != 48) = true := by simp; exact_mod_cast HF (by omega)
          clear HZ HZ2 HF hz
          go_wp2_with fail
          refine (alive_any _).mono ?_
          rintro e x2 ⟨rfl, hB3⟩
          go_wp2_with fail
          go_ret
          exact ⟨rfl, bt (bt hB1 hB2) hB3⟩
end Go.Proofs.Ytgldnpjpmojcnaa
