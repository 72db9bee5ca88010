/- Contracts of the reference's texts of cuts. -/
import Derived.Test.YtmdnmcbjpjpgjaaCutTM2
import Derived.Test.YtmdnmcbjpjpgjaaCutR2
import Derived.Test.YtmdnmcbjpjpgjaaRefText
import Derived.Test.YtmdnmcbjpjpgjaaRefRead
namespace Go.Proofs.Ytmdnmcbjpjpgjaa
open Go.RowKit Go.Sort Go.Proofs.Ytmdnmcbjpjpgjaa.Bo
set_option linter.unusedVariables false

theorem box_new0 {w w' : World} (o : Obj) (hb : Below (w.alloc o).heap.size (w.alloc o) w') : w'.heap[w.heap.size]? = some o := (hb.block _ (by simp)).trans (heap_alloc_new w o)
theorem below_new0 (w : World) (o : Obj) : Below w.heap.size w (w.alloc o) := (Below.refl _ _).alloc (Nat.le_refl _) _
theorem ret_str2 {a b : List UInt8} (h : a = b) : Ending.returned (.string ⟨a.toArray⟩) = .returned (.string ⟨b.toArray⟩) := by rw [h]
theorem rctext_any (s a : Int) (w : World) (ha : I64 a) :
    Calls Try.prog 36 #[.agg #[.int .i64 s, .int .i64 a]] w fun e w' => e = .returned (.string ⟨(ktext (key s a)).toArray⟩) ∧ Below w.heap.size w w' := by
  have HC := Lib.hid (fun W => rcanon_any s a W ha)
  have hk := key_ky s a ha
  generalize key s a = k at *
  rcases ky_cases k hk with ⟨rfl, h1, h2⟩ | ⟨rfl, h1, h2⟩ | ⟨g1, g2, h1, h2⟩
  · rw [h1, h2] at HC
    clear h1 h2 hk
    go_enter Try.func36, Try.ntmps36
    go_wp2_with fail
    refine (HC.out _).mono ?_
    rintro e w1 ⟨rfl, hL⟩
    have hb : w1.heap[w.heap.size]? = some (.cells #[.int .i64 s, .int .i64 a] 23 (0, 0)) := by rw [hL.block _ (by simp)]; exact heap_alloc_new _ _
    have hL1 := ((bt ((Below.refl _ _).alloc (Nat.le_refl _) _) hL).setCell (p := ⟨w.heap.size, 0, none⟩) (by simp) (.int .i64 (-1))).setCell (p := ⟨w.heap.size, 1, none⟩) (by simp) (.int .i64 0)
    obtain ⟨p1, p2, _, _⟩ := two_cells (two_put (p := .int .i64 (-1)) (q := .int .i64 0) hb)
    obtain ⟨q1, q2, q3, q4⟩ := two_cells hb
    clear hb
    go_wp2_with fail
    go_ret
    exact ⟨ret_str2 ktext_lo.symm, hL1⟩
  · rw [h1, h2] at HC
    clear h1 h2 hk
    go_enter Try.func36, Try.ntmps36
    go_wp2_with fail
    refine (HC.out _).mono ?_
    rintro e w1 ⟨rfl, hL⟩
    have hb : w1.heap[w.heap.size]? = some (.cells #[.int .i64 s, .int .i64 a] 23 (0, 0)) := by rw [hL.block _ (by simp)]; exact heap_alloc_new _ _
    have hL1 := ((bt ((Below.refl _ _).alloc (Nat.le_refl _) _) hL).setCell (p := ⟨w.heap.size, 0, none⟩) (by simp) (.int .i64 1)).setCell (p := ⟨w.heap.size, 1, none⟩) (by simp) (.int .i64 0)
    obtain ⟨p1, p2, _, _⟩ := two_cells (two_put (p := .int .i64 1) (q := .int .i64 0) hb)
    obtain ⟨q1, q2, q3, q4⟩ := two_cells hb
    clear hb
    go_wp2_with fail
    go_ret
    exact ⟨ret_str2 ktext_hi.symm, hL1⟩
  · have HK := Lib.hid (ktext_mid k g1 g2)
    have HI := Lib.hid (mid_i64 k g1 g2)
    rw [h1, h2] at HC
    clear h1 h2 hk
    go_enter Try.func36, Try.ntmps36
    go_wp2_with fail
    refine (HC.out _).mono ?_
    rintro e w1 ⟨rfl, hL⟩
    have hb : w1.heap[w.heap.size]? = some (.cells #[.int .i64 s, .int .i64 a] 23 (0, 0)) := by rw [hL.block _ (by simp)]; exact heap_alloc_new _ _
    have hL1 := ((bt ((Below.refl _ _).alloc (Nat.le_refl _) _) hL).setCell (p := ⟨w.heap.size, 0, none⟩) (by simp) (.int .i64 0)).setCell (p := ⟨w.heap.size, 1, none⟩) (by simp) (.int .i64 k)
    obtain ⟨p1, p2, _, _⟩ := two_cells (two_put (p := .int .i64 0) (q := .int .i64 k) hb)
    obtain ⟨q1, q2, q3, q4⟩ := two_cells hb
    clear hb
    go_wp2_with fail
    refine (rtext_any k _ HI.out).mono ?_
    rintro e w2 ⟨rfl, hB2⟩
    go_wp2_with fail
    go_ret
    exact ⟨ret_str2 HK.out.symm, bt hL1 hB2⟩

/-- What the reference's parse answers: the cut whose text it is, or none. -/
def CutParsePost (l : List UInt8) (w : World) (e : Ending) (w' : World) : Prop :=
  ((∃ k, Ky k ∧ l = ktext k ∧ e = .returned (.tuple #[.agg #[.int .i64 (sd k), .int .i64 (pa k)], .bool true])) ∨ ((∀ k, Ky k → l ≠ ktext k) ∧ ∃ x y : Int, e = .returned (.tuple #[.agg #[.int .i64 x, .int .i64 y], .bool false]))) ∧ Below w.heap.size w w'

theorem bytes_beq (s : ByteArray) (p : Array UInt8) (D : Bool) (h : decide (s.data.toList = p.toList) = D) : (s.toList == (⟨p⟩ : ByteArray).toList) = D := by
  subst h
  rw [ByteArray.toList_eq, ByteArray.toList_eq]
  by_cases h : s.data.toList = p.toList
  · rw [decide_eq_true h, h]; exact beq_self_eq_true _
  · rw [decide_eq_false h]; exact beq_eq_false_iff_ne.2 h

set_option maxRecDepth 100000 in
set_option maxHeartbeats 2000000 in
theorem rcparse_any (s : ByteArray) (w : World) (hs : s.size ≤ 10000) : Calls Try.prog 50 #[.string s] w (CutParsePost s.data.toList w) := by
  have HP := Lib.hid (fun W => rparse_any s W hs)
  by_cases h1 : s.data.toList = [45, 105, 110, 102]
  · have HL := Lib.hid h1
    obtain rfl : s = ⟨#[45, 105, 110, 102]⟩ := by obtain ⟨⟨l⟩⟩ := s; simp at h1; subst h1; rfl
    clear h1 HP
    go_enter Try.func50, Try.ntmps50
    go_wp2_with fail
    refine bodyPost_ret (v := .tuple #[.agg #[.int .i64 (-1), .int .i64 0], .bool true]) (by simp [results, Try.results50, go_sem]) rfl ?_
    exact ⟨.inl ⟨-9223372036854775808, ⟨by decide, by decide⟩, by rw [ktext_lo], by rw [sd_lo, pa_lo]⟩, below_new0 _ _⟩
  · by_cases h2 : s.data.toList = [43, 105, 110, 102]
    · obtain rfl : s = ⟨#[43, 105, 110, 102]⟩ := by obtain ⟨⟨l⟩⟩ := s; simp at h2; subst h2; rfl
      clear h1 h2 HP
      go_enter Try.func50, Try.ntmps50
      go_wp2_with fail
      refine bodyPost_ret (v := .tuple #[.agg #[.int .i64 1, .int .i64 0], .bool true]) (by simp [results, Try.results50, go_sem]) rfl ?_
      exact ⟨.inl ⟨9223372036854775808, ⟨by decide, by decide⟩, by rw [ktext_hi], by rw [sd_hi, pa_hi]⟩, below_new0 _ _⟩
    · have t1 : (s.toList == [45, 105, 110, 102]) = false := by rw [ByteArray.toList_eq]; exact beq_eq_false_iff_ne.2 h1
      have t2 : (s.toList == [43, 105, 110, 102]) = false := by rw [ByteArray.toList_eq]; exact beq_eq_false_iff_ne.2 h2
      have H1 := Lib.hid h1
      have H2 := Lib.hid h2
      clear h1 h2
      have hnk : Hid (∀ k, Ky k → s.data.toList = ktext k → s.data.toList = textOf k ∧ -9223372036854775808 < k ∧ k < 9223372036854775808) := by
        intro k hk h
        rcases ky_cases k hk with ⟨rfl, _, _⟩ | ⟨rfl, _, _⟩ | ⟨g1, g2, _, _⟩
        · rw [ktext_lo] at h; exact absurd h H1.out
        · rw [ktext_hi] at h; exact absurd h H2.out
        · rw [ktext_mid k g1 g2] at h; exact ⟨h, g1, g2⟩
      go_enter Try.func50, Try.ntmps50
      go_wp2_with fail
      refine (HP.out _).mono ?_
      intro e w1 hpost
      obtain ⟨hc, hB1⟩ := hpost
      have hb := box_new0 _ hB1
      have hL := bt (below_new0 _ _) hB1
      rcases hc with ⟨z, hz, ht, rfl⟩ | ⟨hno, rfl⟩
      · have HZ := Lib.hid hz
        have HT := Lib.hid ht
        clear hz ht hB1
        by_cases hq : z = -9223372036854775808
        · subst hq
          have HB := Lib.hid hb
          clear hb
          go_wp2_with fail
          refine (rleast_any _).mono ?_
          rintro e w2 ⟨rfl, hB2⟩
          have hb2 := (hB2.block _ (lt_of_block HB.out)).trans HB.out
          obtain ⟨q1, q2, q3, q4⟩ := two_cells hb2
          obtain ⟨p1, p2, _, _⟩ := two_cells (two_put (p := .int .i64 0) (q := .int .i64 (-9223372036854775808)) hb2)
          have hL2 := ((bt hL hB2).setCell (p := ⟨w.heap.size, 0, none⟩) (by simp) (.int .i64 0)).setCell (p := ⟨w.heap.size, 1, none⟩) (by simp) (.int .i64 (-9223372036854775808))
          clear hb2 hB2
          go_wp2_with fail
          refine bodyPost_ret (v := .tuple #[.agg #[.int .i64 0, .int .i64 (-9223372036854775808)], .bool false]) (by simp [results, Try.results50, go_sem, p1, p2]) rfl ?_
          refine ⟨.inr ⟨fun k hk h => ?_, _, _, rfl⟩, hL2⟩
          rw [HT.out] at h
          exact text_least_no k hk h
        · have tq : (z != -9223372036854775808) = true := bne_iff_ne.2 hq
          have HQ := Lib.hid hq
          have HB := Lib.hid hb
          clear hb hq
          go_wp2_with fail
          refine (rleast_any _).mono ?_
          rintro e w2 ⟨rfl, hB2⟩
          have hb2 := (hB2.block _ (lt_of_block HB.out)).trans HB.out
          obtain ⟨q1, q2, q3, q4⟩ := two_cells hb2
          obtain ⟨p1, p2, _, _⟩ := two_cells (two_put (p := .int .i64 0) (q := .int .i64 z) hb2)
          have hL2 := ((bt hL hB2).setCell (p := ⟨w.heap.size, 0, none⟩) (by simp) (.int .i64 0)).setCell (p := ⟨w.heap.size, 1, none⟩) (by simp) (.int .i64 z)
          clear hb2 hB2
          go_wp2_with fail
          refine bodyPost_ret (v := .tuple #[.agg #[.int .i64 0, .int .i64 z], .bool true]) (by simp [results, Try.results50, go_sem, p1, p2]) rfl ?_
          have hz := HZ.out
          have hq := HQ.out
          unfold I64 at hz
          have h9 : z ≠ 9223372036854775808 := by omega
          exact ⟨.inl ⟨z, ⟨by omega, by omega⟩, by rw [ktext_mid z (by omega) (by omega)]; exact HT.out, by rw [sd_mid z hq h9, pa_mid z hq h9]⟩, hL2⟩
      · have HNO := Lib.hid hno
        have HB := Lib.hid hb
        obtain ⟨q1, q2, q3, q4⟩ := two_cells hb
        obtain ⟨p1, p2, _, _⟩ := two_cells (two_put (p := .int .i64 0) (q := .int .i64 0) hb)
        have hL2 := (hL.setCell (p := ⟨w.heap.size, 0, none⟩) (by simp) (.int .i64 0)).setCell (p := ⟨w.heap.size, 1, none⟩) (by simp) (.int .i64 0)
        clear hno hb hB1
        go_wp2_with fail
        refine bodyPost_ret (v := .tuple #[.agg #[.int .i64 0, .int .i64 0], .bool false]) (by simp [results, Try.results50, go_sem, p1, p2]) rfl ?_
        refine ⟨.inr ⟨fun k hk h => ?_, _, _, rfl⟩, hL2⟩
        obtain ⟨h3, h4, h5⟩ := hnk.out k hk h
        exact HNO.out k (mid_i64 k h4 h5) h3

def CutReadPost (l : List UInt8) (w : World) (e : Ending) (w' : World) : Prop := e = .returned (.tuple #[.agg #[.int .i64 (sd (rdCut l).1), .int .i64 (pa (rdCut l).1)], .int .i64 ((rdCut l).2 : Int)]) ∧ Below w.heap.size w w'

set_option maxRecDepth 100000 in
set_option maxHeartbeats 2000000 in
theorem rcread_any (s : ByteArray) (w : World) (hs : s.size ≤ 10000) : Calls Try.prog 34 #[.string s] w (CutReadPost s.data.toList w) := by
  by_cases hsm : s.size ≤ 20
  · have HN20 : Hid (s.size = s.data.toList.length ∨ 20 ≤ s.size) := Or.inl (by simp)
    have hn : s.size ≤ s.size := by omega
    have t1 : decide ((20 : Int) < (s.size : Int)) = false := decide_eq_false (by omega)
    go_enter Try.func34, Try.ntmps34
    go_wp2_with fail
    go_loopw [5] (fun i wr => ∃ j : Nat, i = .int .i64 (j : Int) ∧ j ≤ s.size ∧ NoCut s.data.toList j s.size ∧ Below (w.alloc (.cells #[.int .i64 0, .int .i64 0] 23)).heap.size (w.alloc (.cells #[.int .i64 0, .int .i64 0] 23)) wr) (fun i _ => (intOf i).toNat)
    case atStart => exact ⟨s.size, rfl, Nat.le_refl _, fun i h1 h2 => by omega, Below.refl _ _⟩
    case round =>
      obtain ⟨j, rfl, hj, hno, hBr⟩ := hrel
      have HNO := Lib.hid hno
      clear hno
      by_cases hpos : 0 < j
      · have tp : decide ((0 : Int) < (j : Int)) = true := decide_eq_true (by omega)
        have hx : (s.extract 0 j).data.toList = s.data.toList.take j := by simp
        have HP := Lib.hid (rcparse_any (s.extract 0 j) wr (by simp; omega))
        rw [hx] at HP
        clear hx
        go_wp2_with fail
        refine HP.out.mono ?_
        intro e x1 hpost
        obtain ⟨hc, hB1⟩ := hpost
        rcases hc with ⟨k, hk, ht, rfl⟩ | ⟨hmiss, cx, cy, rfl⟩
        · have HR := Lib.hid (rdCut_hit s.data.toList j s.size k hpos hj (by rw [Array.length_toList]; exact hn) HN20.out hk ht HNO.out)
          obtain ⟨kx, ekx⟩ : ∃ x, x = sd k := ⟨_, rfl⟩
          obtain ⟨ky, eky⟩ : ∃ x, x = pa k := ⟨_, rfl⟩
          rw [← ekx, ← eky]
          have HK := Lib.hid (And.intro ekx eky)
          clear ekx eky
          have hB2 := bt (bt hBr hB1) (below_new0 x1 (.cells #[.int .i64 kx, .int .i64 ky] 23))
          have hb := box_new0 _ hB2
          obtain ⟨q1, q2, q3, q4⟩ := two_cells hb
          obtain ⟨p1, p2, _, _⟩ := two_cells (two_put (p := .int .i64 kx) (q := .int .i64 ky) hb)
          have hL2 := ((bt (below_new0 _ _) hB2).setCell (p := ⟨w.heap.size, 0, none⟩) (by simp) (.int .i64 kx)).setCell (p := ⟨w.heap.size, 1, none⟩) (by simp) (.int .i64 ky)
          clear ht hk HP hb hB2 hB1
          go_wp2_with fail
          refine bodyPost_ret (v := .tuple #[.agg #[.int .i64 kx, .int .i64 ky], .int .i64 (j : Int)]) (by simp [results, Try.results34, go_sem, p1, p2]) rfl ?_
          refine ⟨?_, hL2⟩
          rw [HR.out, HK.out.1, HK.out.2]
        · have HM := Lib.hid hmiss
          have hB2 := bt (bt hBr hB1) (below_new0 x1 (.cells #[.int .i64 cx, .int .i64 cy] 23))
          clear hmiss HP hB1
          obtain ⟨i, rfl⟩ : ∃ i, j = i + 1 := ⟨j - 1, by omega⟩
          go_wp2_with fail
          go_roundw
          case rel =>
            refine ⟨i, by go_num, by omega, fun q h1 h2 k hk => ?_, hB2⟩
            rcases Nat.lt_or_ge (i + 1) q with h3 | h3
            · exact HNO.out q h3 h2 k hk
            · obtain rfl : q = i + 1 := by omega
              exact HM.out k hk
          case measure => simp [intOf]
      · obtain rfl : j = 0 := by omega
        have HR := Lib.hid (rdCut_miss s.data.toList s.size HN20.out HNO.out)
        have hb := box_new0 _ hBr
        obtain ⟨q1, q2, q3, q4⟩ := two_cells hb
        obtain ⟨p1, p2, _, _⟩ := two_cells (two_put (p := .int .i64 0) (q := .int .i64 0) hb)
        have hL2 := ((bt (below_new0 _ _) hBr).setCell (p := ⟨w.heap.size, 0, none⟩) (by simp) (.int .i64 0)).setCell (p := ⟨w.heap.size, 1, none⟩) (by simp) (.int .i64 0)
        clear hb
        go_wp2_with fail
        refine bodyPost_ret (v := .tuple #[.agg #[.int .i64 0, .int .i64 0], .int .i64 0]) (by simp [results, Try.results34, go_sem, p1, p2]) rfl ?_
        refine ⟨?_, hL2⟩
        show _ = Ending.returned (.tuple #[.agg #[.int .i64 (sd (rdCut s.data.toList).1), .int .i64 (pa (rdCut s.data.toList).1)], .int .i64 ((rdCut s.data.toList).2 : Int)])
        rw [HR.out, sd_mid 0 (by decide) (by decide), pa_mid 0 (by decide) (by decide)]
        rfl

  · have HN20 : Hid (20 = s.data.toList.length ∨ 20 ≤ 20) := Or.inr (Nat.le_refl _)
    have hn : 20 ≤ s.size := by omega
    have t1 : decide ((20 : Int) < (s.size : Int)) = true := decide_eq_true (by omega)
    go_enter Try.func34, Try.ntmps34
    go_wp2_with fail
    go_loopw [5] (fun i wr => ∃ j : Nat, i = .int .i64 (j : Int) ∧ j ≤ 20 ∧ NoCut s.data.toList j 20 ∧ Below (w.alloc (.cells #[.int .i64 0, .int .i64 0] 23)).heap.size (w.alloc (.cells #[.int .i64 0, .int .i64 0] 23)) wr) (fun i _ => (intOf i).toNat)
    case atStart => exact ⟨20, rfl, Nat.le_refl _, fun i h1 h2 => by omega, Below.refl _ _⟩
    case round =>
      obtain ⟨j, rfl, hj, hno, hBr⟩ := hrel
      have HNO := Lib.hid hno
      clear hno
      by_cases hpos : 0 < j
      · have tp : decide ((0 : Int) < (j : Int)) = true := decide_eq_true (by omega)
        have hx : (s.extract 0 j).data.toList = s.data.toList.take j := by simp
        have HP := Lib.hid (rcparse_any (s.extract 0 j) wr (by simp; omega))
        rw [hx] at HP
        clear hx
        go_wp2_with fail
        refine HP.out.mono ?_
        intro e x1 hpost
        obtain ⟨hc, hB1⟩ := hpost
        rcases hc with ⟨k, hk, ht, rfl⟩ | ⟨hmiss, cx, cy, rfl⟩
        · have HR := Lib.hid (rdCut_hit s.data.toList j 20 k hpos hj (by rw [Array.length_toList]; exact hn) HN20.out hk ht HNO.out)
          obtain ⟨kx, ekx⟩ : ∃ x, x = sd k := ⟨_, rfl⟩
          obtain ⟨ky, eky⟩ : ∃ x, x = pa k := ⟨_, rfl⟩
          rw [← ekx, ← eky]
          have HK := Lib.hid (And.intro ekx eky)
          clear ekx eky
          have hB2 := bt (bt hBr hB1) (below_new0 x1 (.cells #[.int .i64 kx, .int .i64 ky] 23))
          have hb := box_new0 _ hB2
          obtain ⟨q1, q2, q3, q4⟩ := two_cells hb
          obtain ⟨p1, p2, _, _⟩ := two_cells (two_put (p := .int .i64 kx) (q := .int .i64 ky) hb)
          have hL2 := ((bt (below_new0 _ _) hB2).setCell (p := ⟨w.heap.size, 0, none⟩) (by simp) (.int .i64 kx)).setCell (p := ⟨w.heap.size, 1, none⟩) (by simp) (.int .i64 ky)
          clear ht hk HP hb hB2 hB1
          go_wp2_with fail
          refine bodyPost_ret (v := .tuple #[.agg #[.int .i64 kx, .int .i64 ky], .int .i64 (j : Int)]) (by simp [results, Try.results34, go_sem, p1, p2]) rfl ?_
          refine ⟨?_, hL2⟩
          rw [HR.out, HK.out.1, HK.out.2]
        · have HM := Lib.hid hmiss
          have hB2 := bt (bt hBr hB1) (below_new0 x1 (.cells #[.int .i64 cx, .int .i64 cy] 23))
          clear hmiss HP hB1
          obtain ⟨i, rfl⟩ : ∃ i, j = i + 1 := ⟨j - 1, by omega⟩
          go_wp2_with fail
          go_roundw
          case rel =>
            refine ⟨i, by go_num, by omega, fun q h1 h2 k hk => ?_, hB2⟩
            rcases Nat.lt_or_ge (i + 1) q with h3 | h3
            · exact HNO.out q h3 h2 k hk
            · obtain rfl : q = i + 1 := by omega
              exact HM.out k hk
          case measure => simp [intOf]
      · obtain rfl : j = 0 := by omega
        have HR := Lib.hid (rdCut_miss s.data.toList 20 HN20.out HNO.out)
        have hb := box_new0 _ hBr
        obtain ⟨q1, q2, q3, q4⟩ := two_cells hb
        obtain ⟨p1, p2, _, _⟩ := two_cells (two_put (p := .int .i64 0) (q := .int .i64 0) hb)
        have hL2 := ((bt (below_new0 _ _) hBr).setCell (p := ⟨w.heap.size, 0, none⟩) (by simp) (.int .i64 0)).setCell (p := ⟨w.heap.size, 1, none⟩) (by simp) (.int .i64 0)
        clear hb
        go_wp2_with fail
        refine bodyPost_ret (v := .tuple #[.agg #[.int .i64 0, .int .i64 0], .int .i64 0]) (by simp [results, Try.results34, go_sem, p1, p2]) rfl ?_
        refine ⟨?_, hL2⟩
        show _ = Ending.returned (.tuple #[.agg #[.int .i64 (sd (rdCut s.data.toList).1), .int .i64 (pa (rdCut s.data.toList).1)], .int .i64 ((rdCut s.data.toList).2 : Int)])
        rw [HR.out, sd_mid 0 (by decide) (by decide), pa_mid 0 (by decide) (by decide)]
        rfl

end Go.Proofs.Ytmdnmcbjpjpgjaa
