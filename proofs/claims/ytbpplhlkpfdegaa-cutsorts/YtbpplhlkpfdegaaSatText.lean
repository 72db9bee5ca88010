/- Contract of sat.Text. -/
import Derived.Test.YtbpplhlkpfdegaaSatA
import Derived.Laws.EntriesVeiled
namespace Go.Proofs.Ytbpplhlkpfdegaa
open Go.RowKit Go.Proofs.Ytbpplhlkpfdegaa.Bo

theorem ret_int' {k : IntKind} {a b : Int} (h : a = b) : Value.int k a = .int k b := by rw [h]

/-- The closure that takes a digit off. -/
theorem takeoff_any (B r : Nat) (w : World) (hr : r ≤ 9223372036854775808) (hb : w.heap[B]? = some (.cells #[.int .u64 (r : Int)] 53 (0, 0))) :
    Calls Try.prog 35 #[.pointer (some ⟨B, 0, none⟩)] w fun e w' =>
      e = .returned (.int .u8 ((48 + r % 10 : Nat) : Int)) ∧ w.setCell ⟨B, 0, none⟩ (.int .u64 ((r / 10 : Nat) : Int)) = w' := by
  have hc := cell_of_one hb
  have hf := free_of_one hb
  clear hb
  go_enter Try.func35, Try.ntmps35
  go_wp2
  go_ret
  exact ⟨rfl, rfl⟩

theorem size_nat (n : Int) (w : World) (hn : I64 n) :
    Calls Try.prog 34 #[.int .i64 n] w fun e w' => e = .returned (.int .u64 (n.natAbs : Int)) ∧ w = w' := by
  obtain ⟨h1, h2⟩ := hn
  by_cases h : n < 0
  · rw [show (n.natAbs : Int) = -n from by omega]; exact size_neg n w h1 h
  · rw [show (n.natAbs : Int) = n from by omega]; exact size_pos n w (by omega) h2

def bv (c : UInt8) : Value := .int .u8 (c.toNat : Int)

/-- What stands in memory while the digits are taken off: B holds what is left, B + 1 the signs. -/
structure TextAt (w : World) (m : Nat) (j : Nat) (wr : World) : Prop where
  mem : ∃ (r : Nat) (cs : Array Value) (out : List UInt8), r ≤ 9223372036854775808 ∧ wr.heap[w.heap.size]? = some (.cells #[.int .u64 (r : Int)] 53 (0, 0)) ∧
    wr.heap[w.heap.size + 1]? = some (.cells cs 58 (0, 0)) ∧ cs.size = 20 ∧ cs.toList.drop j = out.map bv ∧ pre r ++ out = dg m ∧ j + out.length = 20
  below : Below w.heap.size w wr

theorem drop_set_pred (l : List Value) (j : Nat) (v : Value) (h : j < l.length) : (l.set j v).drop j = v :: l.drop (j + 1) := by
  rw [List.drop_eq_getElem_cons (by simpa using h), List.drop_set_of_lt (by omega)]; simp

theorem text_step (w : World) (m j r : Nat) (cs : Array Value) (out : List UInt8) (wr : World) (hB : Below w.heap.size w wr)
    (h1 : wr.heap[w.heap.size]? = some (.cells #[.int .u64 (r : Int)] 53 (0, 0))) (h2 : wr.heap[w.heap.size + 1]? = some (.cells cs 58 (0, 0)))
    (hs : cs.size = 20) (hd : cs.toList.drop (j + 1) = out.map bv) (hp : (pre (r / 10) ++ [ch (r % 10)]) ++ out = dg m) (hl : j + 1 + out.length = 20) (hr : r ≤ 9223372036854775808) :
    TextAt w m j ((wr.setCell ⟨w.heap.size, 0, none⟩ (.int .u64 ((r / 10 : Nat) : Int))).setCell ⟨w.heap.size + 1, j, none⟩ (.int .u8 ((48 + r % 10 : Nat) : Int))) := by
  have hlt := lt_of_block h2
  have h1' := one_setCell (u := .int .u64 ((r / 10 : Nat) : Int)) h1
  have h2' := (heap_setCell_other wr ⟨w.heap.size, 0, none⟩ (w.heap.size + 1) (.int .u64 ((r / 10 : Nat) : Int)) (by simp)).trans h2
  refine ⟨⟨r / 10, cs.setIfInBounds j (.int .u8 ((48 + r % 10 : Nat) : Int)), ch (r % 10) :: out, by omega, ?_, ?_, by simpa using hs, ?_, by simpa using hp, by simp; omega⟩, ?_⟩
  · rw [heap_setCell_other _ _ _ _ (by simp)]; exact h1'
  · exact heap_setCell_same _ _ _ _ _ _ h2'
  · rw [Array.toList_setIfInBounds, drop_set_pred _ _ _ (by simp; omega), hd]
    simp [bv, ch_toNat (r % 10) (by omega)]
  · exact (hB.setCell (Nat.le_refl _) _).setCell (by simp) _

theorem take_text (w : World) (j : Nat) (cs : Array Value) (out : List UInt8) (h2 : w.heap[j]? = some (.cells cs 58 (0, 0))) (a : Nat)
    (hd : cs.toList.drop a = out.map bv) (k : Nat) (hk : k < out.length) : w.cell? ((⟨j, a, none⟩ : Addr).add k) = some (.int .u8 (out[k].toNat : Int)) := by
  rw [Addr.add_lit, cell_of_row w j (a + k) cs _ _ h2]
  have : (cs.toList.drop a)[k]? = some (bv out[k]) := by rw [hd]; simp [hk]
  rw [List.getElem?_drop] at this
  simpa [bv] using this

theorem text_start (w : World) (m : Nat) (hm : m ≤ 9223372036854775808) (cs : Array Value) (hs : cs.size = 20) (hd : cs.toList.drop 19 = [bv (ch (m % 10))]) :
    TextAt w m 19 ((w.alloc (.cells #[.int .u64 ((m / 10 : Nat) : Int)] 53)).alloc (.cells cs 58)) := by
  refine ⟨⟨m / 10, cs, [ch (m % 10)], by omega, heap_alloc2_old _ _ _, heap_alloc2_new _ _ _, hs, by simpa using hd, (dg_step m).symm, by simp⟩, ?_⟩
  exact ((Below.refl _ _).alloc (Nat.le_refl _) _).alloc (by simp) _

theorem signs_len : Try.prog.arrayLen 58 = 20 := by kernel_rfl
theorem signs_under : Try.prog.underlying 58 = some (.array (Try.prog.arrayLen 58) (Try.prog.elem 58)) := by kernel_rfl
theorem signs_elem (w : World) : (sizeOf (Try.prog.elem 58)).run Try.prog w = .ok 1 w := by kernel_rfl
theorem slice_signs (j B : Nat) (w : World) (hj : j < 20) :
    (Instr.sliceAt 58 (.pointer (some ⟨B, 0, none⟩)) (some (.int .i64 (j : Int))) none none).run Try.prog w = .ok (.slice (some ⟨B, j, none⟩) (20 - j) (20 - j)) w := by
  rw [run_sliceAt_array_l (P := Try.prog) w 58 _ signs_under .i64 (j : Int) (by omega) (by rw [signs_len]; omega), signs_len, signs_elem]
  have : ¬ (20 = j) := by omega
  simp [Result.andThen, slicedAt, this]
  rw [Addr.add_lit]; simp

theorem ret_str {a b : List UInt8} (h : a = b) : Ending.returned (.string ⟨a.toArray⟩) = .returned (.string ⟨b.toArray⟩) := by rw [h]

set_option maxRecDepth 100000 in
theorem text_any (n : Int) (w : World) (hn : I64 n) :
    Calls Try.prog 27 #[.int .i64 n] w fun e w' => e = .returned (.string ⟨(textOf n).toArray⟩) ∧ Below w.heap.size w w' := by
  have hmf : ∀ (fn : Fn) (first cap : Array Value) (w : World), (Instr.makeFunc fn first cap).run Try.prog w = .ok (.func fn first cap) w := fun _ _ _ _ => rfl
  have HN := Lib.hid hn
  obtain ⟨hn1, hn2⟩ := hn
  have hm : n.natAbs ≤ 9223372036854775808 := by omega
  have HT : Hid (textOf n = if n < 0 then 45 :: dg n.natAbs else dg n.natAbs) := rfl
  go_enter Try.func27, Try.ntmps27
  go_wp2_with fail
  refine (size_nat _ _ HN.out).mono ?_
  rintro e w' ⟨rfl, rfl⟩
  generalize n.natAbs = m at *
  have hdl := dg_len m hm
  obtain ⟨hdl1, hdl2⟩ := hdl
  go_wp2_with fail
  refine (takeoff_any w.heap.size m _ hm ?_).mono ?_
  · exact heap_alloc2_old _ _ _
  rintro e w' ⟨rfl, rfl⟩
  go_wp2_with fail
  go_loopw [6] (fun at_ wr => ∃ j : Nat, at_ = .int .i64 j ∧ j < 20 ∧ TextAt w m j wr) (fun at_ _ => (intOf at_).toNat)
  case atStart =>
    exact ⟨19, rfl, by omega, text_start w m hm _ rfl (by simp [bv, ch_toNat (m % 10) (by omega)])⟩
  case round =>
    obtain ⟨j, rfl, hj, ⟨⟨r, cs, out, hr, h1, h2, hs, hd, hp, hl⟩, hB⟩⟩ := hrel
    have c1 := cell_of_one h1
    have f1 := free_of_one h1
    have f2 : ∀ i, wr.frozen? ⟨w.heap.size + 1, i, none⟩ = false := fun i => frozen_of_row _ _ _ _ _ h2
    have hsz := lt_of_block h2
    have hpl : (pre r).length + out.length ≤ 19 := by rw [← List.length_append, hp]; exact hdl2
    by_cases hz : 0 < r
    · have hpp := pre_pos r (by omega)
      have hpl1 : 1 ≤ (pre r).length := by rw [hpp]; simp
      obtain ⟨i, rfl⟩ : ∃ i, j = i + 1 := ⟨j - 1, by omega⟩
      have tz : decide (0 < (r : Int)) = true := by simp; omega
      have HP : Hid ((pre (r / 10) ++ [ch (r % 10)]) ++ out = dg m) := by rw [← hpp]; exact hp
      have H1 := Lib.hid h1
      have H2 := Lib.hid h2
      have HS := Lib.hid hs
      have HD := Lib.hid hd
      have HL := Lib.hid hl
      have hst := text_step w m i r cs out wr hB h1 h2 hs hd HP.out hl hr
      obtain ⟨v0, hc2⟩ : ∃ v, wr.cell? ⟨w.heap.size + 1, i, none⟩ = some v := by
        rw [cell_of_row wr _ i cs _ _ h2]; exact ⟨cs[i], by simp⟩
      clear h1 h2 hs hd hp hpp hl
      go_wp2_with fail
      refine (takeoff_any w.heap.size r _ hr H1.out).mono ?_
      rintro e w' ⟨rfl, rfl⟩
      go_wp2_with fail
      go_roundw
      case rel => exact ⟨i, rfl, by omega, hst⟩
      case measure => simp [intOf]
    · have tz : decide (0 < (r : Int)) = false := by simp; omega
      obtain rfl : r = 0 := by omega
      have ho : out = dg m := by simpa [pre_zero] using hp
      subst ho
      have HR := Lib.hid hl
      by_cases hneg : n < 0
      · have tn : decide (n < 0) = true := by simpa using hneg
        obtain ⟨i, rfl⟩ : ∃ i, j = i + 1 := ⟨j - 1, by omega⟩
        obtain ⟨v0, hc2⟩ : ∃ v, wr.cell? ⟨w.heap.size + 1, i, none⟩ = some v := by
          rw [cell_of_row wr _ i cs _ _ h2]; exact ⟨cs[i], by simp⟩
        have h2' := heap_setCell_same wr (w.heap.size + 1) i cs _ (.int .u8 45) h2
        have hd' : (cs.setIfInBounds i (.int .u8 45)).toList.drop i = (45 :: dg m).map bv := by
          rw [Array.toList_setIfInBounds, drop_set_pred _ _ _ (by simp; omega), hd]; rfl
        have HC := run_convert_bytes_back (P := Try.prog) _ 59 9 5 ⟨w.heap.size + 1, i, none⟩ (20 - i) (45 :: dg m) Try.underlying59 Try.underlying5 Try.underlying9 (take_text _ _ _ _ h2' i hd')
        rw [show (45 :: dg m).length = 20 - i from by simp; omega] at HC
        have hsl := fun (W : World) => slice_signs i (w.heap.size + 1) W (by omega)
        have HF : Hid (45 :: dg m = textOf n) := by rw [HT.out, if_pos hneg]; exact rfl
        have hB' : Below w.heap.size w (wr.setCell ⟨w.heap.size + 1, i, none⟩ (.int .u8 45)) := hB.setCell (by simp) _
        clear h1 h2 hs hd hp hl h2' hd'
        go_wp2_with fail
        go_ret
        exact ⟨ret_str HF.out, hB'⟩
      · have tn : decide (n < 0) = false := by simpa using hneg
        have HC := run_convert_bytes_back (P := Try.prog) wr 59 9 5 ⟨w.heap.size + 1, j, none⟩ (20 - j) (dg m) Try.underlying59 Try.underlying5 Try.underlying9 (take_text wr _ cs _ h2 j hd)
        rw [show (dg m).length = 20 - j from by omega] at HC
        have hsl := fun (W : World) => slice_signs j (w.heap.size + 1) W (by omega)
        have HF : Hid (dg m = textOf n) := by rw [HT.out, if_neg hneg]; exact rfl
        clear h1 h2 hs hd hp hl
        go_wp2_with fail
        go_ret
        exact ⟨ret_str HF.out, hB⟩
end Go.Proofs.Ytbpplhlkpfdegaa
