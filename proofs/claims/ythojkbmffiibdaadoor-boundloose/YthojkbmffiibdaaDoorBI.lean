/- A part of the proof: contracts of the functions that the statements reach. -/
import Derived.Test.YthojkbmffiibdaaDoorRows
import Derived.Test.YthojkbmffiibdaaDoorBA
import Derived.Test.YthojkbmffiibdaaDoorBB
import Derived.Test.YthojkbmffiibdaaDoorBC
import Derived.Test.YthojkbmffiibdaaDoorBD
import Derived.Test.YthojkbmffiibdaaDoorBE
import Derived.Test.YthojkbmffiibdaaDoorBF
import Derived.Test.YthojkbmffiibdaaDoorBG
import Derived.Test.YthojkbmffiibdaaDoorBH

/- Contract of the reference's read, told strictly. -/
namespace Go.Proofs.YthojkbmffiibdaaDoor
open Go.RowKit Go.Sort Go.Proofs.YthojkbmffiibdaaDoor.Bo
set_option linter.unusedVariables false

set_option maxRecDepth 100000 in
set_option maxHeartbeats 8000000 in
theorem rrd_false (s : ByteArray) (w : World) (hs : s.size ≤ 10000) : Calls Tryd.prog 48 #[.string s, .bool false] w fun e w' => e = .returned (rdV (rdB s.data.toList false)) ∧ Go.RowKit.Below w.heap.size w w' := by
  have hsl := size_list s
  have HI0 : Hid (∀ W, Calls Tryd.prog 63 #[.string s, .int .i64 0, .string ⟨#[40]⟩] W fun e w' => e = .returned (.bool (hd s.data.toList [40])) ∧ Go.RowKit.Below W.heap.size W w') := fun W => ris_any s 0 ⟨#[40]⟩ W (by omega) (by omega) (by decide)
  have HI1 : Hid (∀ W, Calls Tryd.prog 63 #[.string s, .int .i64 0, .string ⟨#[91]⟩] W fun e w' => e = .returned (.bool (hd s.data.toList [91])) ∧ Go.RowKit.Below W.heap.size W w') := fun W => ris_any s 0 ⟨#[91]⟩ W (by omega) (by omega) (by decide)
  have HIS : Hid (∀ (j : Nat) (c : UInt8) (W : World), j ≤ s.size → Calls Tryd.prog 63 #[.string s, .int .i64 (j : Int), .string ⟨#[c]⟩] W fun e w' => e = .returned (.bool (hd (s.data.toList.drop j) [c])) ∧ Go.RowKit.Below W.heap.size W w') := fun j c W hj => ris_any s j ⟨#[c]⟩ W hj (by omega) (by show (1 : Nat) ≤ 100; decide)
  have HIN : Hid (∀ (j : Nat) (W : World), j ≤ s.size → Calls Tryd.prog 63 #[.string s, .int .i64 (j : Int), .string ⟨#[45, 105, 110, 102]⟩] W fun e w' => e = .returned (.bool (hd (s.data.toList.drop j) ninf)) ∧ Go.RowKit.Below W.heap.size W w') := fun j W hj => ris_any s j ⟨#[45, 105, 110, 102]⟩ W hj (by omega) (by decide)
  have HBK : Hid (∀ (j : Nat) (W : World), j ≤ s.size → Calls Tryd.prog 64 #[.string s, .int .i64 (j : Int), .bool false] W fun e w' => e = .returned (.int .i64 ((j + bk false (s.data.toList.drop j) : Nat) : Int)) ∧ Go.RowKit.Below W.heap.size W w') := fun j W hj => rblanks_any s j false W hj (by omega)
  have HEN : Hid (∀ (j : Nat) (W : World), j ≤ s.size → Calls Tryd.prog 65 #[.string s, .int .i64 (j : Int), .string ⟨#[45, 105, 110, 102]⟩, .bool false] W fun e w' => e = .returned (enV j (en false ninf (s.data.toList.drop j))) ∧ Go.RowKit.Below W.heap.size W w') := fun j W hj => rend_any s j ⟨#[45, 105, 110, 102]⟩ false W hj hs rfl
  have HEP : Hid (∀ (j : Nat) (W : World), j ≤ s.size → Calls Tryd.prog 65 #[.string s, .int .i64 (j : Int), .string ⟨#[43, 105, 110, 102]⟩, .bool false] W fun e w' => e = .returned (enV j (en false pinf (s.data.toList.drop j))) ∧ Go.RowKit.Below W.heap.size W w') := fun j W hj => rend_any s j ⟨#[43, 105, 110, 102]⟩ false W hj hs rfl
  have HSP := Lib.hid rspan_any
  have HX0 := Lib.hid (Rd2.new w)
  obtain ⟨EV, hEV⟩ : ∃ EV, EV = rdV (rdB s.data.toList false) := ⟨_, rfl⟩
  rw [← hEV]
  have HEV0 := Lib.hid hEV
  have HDL : Hid (∀ j : Nat, (s.data.toList.drop j).length = s.size - j) := fun j => by rw [List.length_drop, hsl]
  clear hEV
  generalize s.data.toList = l at *
  clear hsl
  go_enter Tryd.func48, Tryd.ntmps48
  go_wp2_with fail
  generalize ((w.alloc (.cells #[.int .i64 0, .int .i64 0, .int .i64 0, .int .i64 0] 27)).alloc (.cells #[.int .i64 0, .int .i64 0, .int .i64 0, .int .i64 0] 27)) = X0 at *
  refine (HI0.out _).mono ?_
  rintro e y1 ⟨rfl, hB1⟩
  have HX1 := Lib.hid (HX0.out.on hB1)
  have HH1 : Hid (∀ c, hd l [c] = true → 1 ≤ s.size) := fun c h => by have := hd_len _ _ h; have h2 := HDL.out 0; simp at h2 this; omega
  obtain ⟨O, hO⟩ : ∃ O, hd l [40] = O := ⟨_, rfl⟩
  obtain ⟨Q, hQ⟩ : ∃ Q, hd l [91] = Q := ⟨_, rfl⟩
  rw [hO]
  rw [hQ] at HI1
  have HO := Lib.hid hO
  have HQ := Lib.hid hQ
  clear hO hQ HX0 hB1 HI0
  go_upto_region 3 with fail
  go_cut [27] from 21 to 27 (fun c wx => c = .bool (!O && !Q) ∧ Rd2 w wx)
  case first =>
    cases O with
    | true =>
      go_wp2_with fail
      go_meet
      exact ⟨rfl, HX1.out⟩
    | false =>
      go_wp2_with fail
      refine (HI1.out _).mono ?_
      rintro e y2 ⟨rfl, hB2⟩
      have HX2 := Lib.hid (HX1.out.on hB2)
      go_wp2_with fail
      go_meet
      exact ⟨by cases Q <;> rfl, HX2.out⟩
  case rest =>
  obtain ⟨rfl, hX2⟩ := hcut
  have HX2 := Lib.hid hX2
  clear hX2 HX1 HI1
  generalize wc = y2 at *
  obtain ⟨C0, hC0⟩ : ∃ C0, (!O && !Q) = C0 := ⟨_, rfl⟩
  rw [hC0]
  have HC0 := Lib.hid hC0
  clear hC0
  cases C0 with
  | true =>
    have HEV : Hid (EV = rdV ((⟨0, 0, 0, 0⟩ : S4), 0, 40)) := by
      show _ = _
      rw [HEV0.out, rdB_no]
      have := HC0.out
      rw [HO.out, HQ.out]
      revert this; cases O <;> cases Q <;> decide
    obtain ⟨⟨d1, d2, d3, d4⟩, e1, e2, e3, e4⟩ := Box4.zero HX2.out.re
    obtain ⟨⟨g1, g2, g3, g4⟩, _, _, _, _⟩ := Box4.zero HX2.out.no
    obtain ⟨f1, f2, f3, f4⟩ := (box_put4 HX2.out.re ⟨0, 0, 0, 0⟩).cells
    dsimp only at f1 f2 f3 f4
    have hL4 := (((HX2.out.be.setCell (p := ⟨w.heap.size, 0, none⟩) (Nat.le_refl _) (.int .i64 0)).setCell (p := ⟨w.heap.size, 1, none⟩) (Nat.le_refl _) (.int .i64 0)).setCell (p := ⟨w.heap.size, 2, none⟩) (Nat.le_refl _) (.int .i64 0)).setCell (p := ⟨w.heap.size, 3, none⟩) (Nat.le_refl _) (.int .i64 0)
    go_wp2_with fail
    refine bodyPost_ret (v := .tuple #[.agg #[.int .i64 0, .int .i64 0, .int .i64 0, .int .i64 0], .int .i64 0, .int .i64 40]) (by simp [results, Tryd.results48, go_sem, f1, f2, f3, f4]) rfl ?_
    refine ⟨?_, hL4⟩
    rw [HEV.out]
    rfl
  | false =>
    have HOQ : Hid ((hd l [40] || hd l [91]) = true) := by
      show _ = _
      have := HC0.out
      rw [HO.out, HQ.out]
      revert this; cases O <;> cases Q <;> decide
    have h1s : 1 ≤ s.size := by
      have := HOQ.out
      by_cases c : hd l [40] = true
      · exact HH1.out _ c
      · have c' : hd l [40] = false := by simpa using c
        rw [c', Bool.false_or] at this
        exact HH1.out _ this
    clear HC0 HH1
    have HB1' : Hid (∀ W, Calls Tryd.prog 64 #[.string s, .int .i64 1, .bool false] W fun e w' => e = .returned (.int .i64 ((1 + bk false (l.drop 1) : Nat) : Int)) ∧ Go.RowKit.Below W.heap.size W w') := fun W => HBK.out 1 W h1s
    have hle1 : 1 + bk false (l.drop 1) ≤ s.size := by have := bk_le false (l.drop 1); rw [HDL.out] at this; omega
    obtain ⟨a1, ha1⟩ : ∃ a1, 1 + bk false (l.drop 1) = a1 := ⟨_, rfl⟩
    rw [ha1] at HB1' hle1
    have HEV1 : Hid (EV = rdV (rdC l false a1)) := by
      show _ = _
      rw [HEV0.out, rdB_yes l false a1 HOQ.out ha1]
    clear HEV0 HOQ ha1
    go_wp2_with fail
    refine (HB1'.out _).mono ?_
    rintro e y3 ⟨rfl, hB3⟩
    have HX3 := Lib.hid (HX2.out.on hB3)
    clear hB3 HX2 HB1'
    have HE1 := Lib.hid (fun W => HEN.out a1 W hle1)
    obtain ⟨E1, hE1⟩ : ∃ E1, en false ninf (l.drop a1) = E1 := ⟨_, rfl⟩
    rw [hE1] at HE1
    have HE1' := Lib.hid hE1
    clear hE1
    have HN1 := Lib.hid (fun W => HIN.out a1 W hle1)
    obtain ⟨N1, hN1⟩ : ∃ N1, hd (l.drop a1) ninf = N1 := ⟨_, rfl⟩
    rw [hN1] at HN1
    have HN1' := Lib.hid hN1
    clear hN1
    cases E1 with
    | none =>
      have HV1 : Hid (∀ W, Calls Tryd.prog 65 #[.string s, .int .i64 (a1 : Int), .string ⟨#[45, 105, 110, 102]⟩, .bool false] W fun e w' => e = .returned (.tuple #[.agg #[.int .i64 0, .int .i64 0], .int .i64 (-1)]) ∧ Go.RowKit.Below W.heap.size W w') := HE1.out
      go_wp2_with fail
      refine (HV1.out _).mono ?_
      rintro e y4 ⟨rfl, hB4⟩
      have hA4 := bt hB4 (below_new y4 (bB 0 0))
      have HX4 := Lib.hid (HX3.out.on hA4)
      have HL4 : Hid ((y4.alloc (bB 0 0)).heap[y4.heap.size]? = some (bB 0 0)) := heap_alloc_new _ _
      have hN4 : w.heap.size + 2 ≤ y4.heap.size := (HX3.out.on hB4).lt
      clear hB4 hA4 HX3 HV1 HE1
      go_wp2_with fail
      generalize y4.alloc (bB 0 0) = X4 at *
      generalize y4.heap.size = P4 at *
      refine (HN1.out _).mono ?_
      rintro e y5 ⟨rfl, hB5⟩
      have HX5 := Lib.hid (HX4.out.on hB5)
      have HL5 := Lib.hid (box_on HL4.out hB5)
      clear hB5 HX4 HL4 HN1
      obtain rfl : N1 = false := HN1'.out.symm.trans (en_no_hd _ HE1'.out)
      cases O with
      | true =>
        have HEV : Hid (EV = rdV ((⟨0, 0, 0, 0⟩ : S4), a1, 40)) := by
          show _ = _
          rw [HEV1.out, rdC_no]
          unfold en1
          rw [HO.out, HN1'.out, if_pos (by rfl)]
        obtain ⟨⟨d1, d2, d3, d4⟩, e1, e2, e3, e4⟩ := Box4.zero HX5.out.re
        obtain ⟨⟨g1, g2, g3, g4⟩, _, _, _, _⟩ := Box4.zero HX5.out.no
        obtain ⟨f1, f2, f3, f4⟩ := (box_put4 HX5.out.re ⟨0, 0, 0, 0⟩).cells
        dsimp only at f1 f2 f3 f4
        have hL4 := (((HX5.out.be.setCell (p := ⟨w.heap.size, 0, none⟩) (Nat.le_refl _) (.int .i64 0)).setCell (p := ⟨w.heap.size, 1, none⟩) (Nat.le_refl _) (.int .i64 0)).setCell (p := ⟨w.heap.size, 2, none⟩) (Nat.le_refl _) (.int .i64 0)).setCell (p := ⟨w.heap.size, 3, none⟩) (Nat.le_refl _) (.int .i64 0)
        go_wp2_with fail
        refine bodyPost_ret (v := .tuple #[.agg #[.int .i64 0, .int .i64 0, .int .i64 0, .int .i64 0], .int .i64 (a1 : Int), .int .i64 40]) (by simp [results, Tryd.results48, go_sem, f1, f2, f3, f4]) rfl ?_
        refine ⟨?_, hL4⟩
        rw [HEV.out]
        rfl
      | false =>
        have HEV : Hid (EV = rdV ((⟨0, 0, 0, 0⟩ : S4), a1, 40)) := by
          show _ = _
          rw [HEV1.out, rdC_no]
          unfold en1
          rw [HO.out, HN1'.out, if_neg (by decide)]
          exact HE1'.out
        obtain ⟨⟨d1, d2, d3, d4⟩, e1, e2, e3, e4⟩ := Box4.zero HX5.out.re
        obtain ⟨⟨g1, g2, g3, g4⟩, _, _, _, _⟩ := Box4.zero HX5.out.no
        obtain ⟨f1, f2, f3, f4⟩ := (box_put4 HX5.out.re ⟨0, 0, 0, 0⟩).cells
        dsimp only at f1 f2 f3 f4
        have hL4 := (((HX5.out.be.setCell (p := ⟨w.heap.size, 0, none⟩) (Nat.le_refl _) (.int .i64 0)).setCell (p := ⟨w.heap.size, 1, none⟩) (Nat.le_refl _) (.int .i64 0)).setCell (p := ⟨w.heap.size, 2, none⟩) (Nat.le_refl _) (.int .i64 0)).setCell (p := ⟨w.heap.size, 3, none⟩) (Nat.le_refl _) (.int .i64 0)
        go_wp2_with fail
        refine bodyPost_ret (v := .tuple #[.agg #[.int .i64 0, .int .i64 0, .int .i64 0, .int .i64 0], .int .i64 (a1 : Int), .int .i64 40]) (by simp [results, Tryd.results48, go_sem, f1, f2, f3, f4]) rfl ?_
        refine ⟨?_, hL4⟩
        rw [HEV.out]
        rfl
    | some p =>
      obtain ⟨b, n⟩ := p
      cases b with
      | none =>
        have hle2 : a1 + n ≤ s.size := by have := (en_le false ninf _ rfl _ _ HE1'.out).1; rw [HDL.out] at this; omega
        obtain ⟨nx, hnx⟩ : ∃ nx, a1 + n = nx := ⟨_, rfl⟩
        have HV1 : Hid (∀ W, Calls Tryd.prog 65 #[.string s, .int .i64 (a1 : Int), .string ⟨#[45, 105, 110, 102]⟩, .bool false] W fun e w' => e = .returned (.tuple #[.agg #[.int .i64 0, .int .i64 0], .int .i64 (nx : Int)]) ∧ Go.RowKit.Below W.heap.size W w') := by rw [← hnx]; exact HE1.out
        rw [hnx] at hle2
        go_wp2_with fail
        refine (HV1.out _).mono ?_
        rintro e y4 ⟨rfl, hB4⟩
        have hA4 := bt hB4 (below_new y4 (bB 0 0))
        have HX4 := Lib.hid (HX3.out.on hA4)
        have HL4 : Hid ((y4.alloc (bB 0 0)).heap[y4.heap.size]? = some (bB 0 0)) := heap_alloc_new _ _
        have hN4 : w.heap.size + 2 ≤ y4.heap.size := (HX3.out.on hB4).lt
        clear hB4 hA4 HX3 HV1 HE1
        go_wp2_with fail
        generalize y4.alloc (bB 0 0) = X4 at *
        generalize y4.heap.size = P4 at *
        refine (HN1.out _).mono ?_
        rintro e y5 ⟨rfl, hB5⟩
        have HX5 := Lib.hid (HX4.out.on hB5)
        have HL5 := Lib.hid (box_on HL4.out hB5)
        clear hB5 HX4 HL4 HN1
        obtain rfl : N1 = true := HN1'.out.symm.trans (en_none_hd _ _ HE1'.out)
        cases O with
        | true =>
          have HEN1 : Hid (en1 false (hd l [40]) (l.drop a1) = some (none, n)) := by
            show _ = _
            unfold en1
            rw [HO.out, HN1'.out, if_neg (by decide)]
            exact HE1'.out
          have HBN := Lib.hid (bnum_i64 false ninf _ none n HE1'.out)
          obtain ⟨a2, ha2⟩ : ∃ a2, nx + bk false (l.drop nx) = a2 := ⟨_, rfl⟩
          have hle3 : a2 ≤ s.size := by have := bk_le false (l.drop nx); rw [HDL.out] at this; omega
          have HEV2 : Hid (EV = rdV (rdD l false a2 none)) := by
            show _ = _
            rw [HEV1.out, rdC_yes l false a1 a2 n _ HEN1.out (by rw [hnx]; exact ha2)]
          have HB2' := Lib.hid (fun W => HBK.out nx W hle2)
          rw [ha2] at HB2'
          clear HEV1 HEN1 HE1' HN1' ha2 hnx
          obtain ⟨l1, l2, l3, l4⟩ := two_cells HL5.out
          go_wp2_with fail
          have HX6 := HX5
          have HL6 := HL5
          clear HX5 HL5 l1 l2 l3 l4
          generalize y5 = y6 at *
          refine (HB2'.out _).mono ?_
          rintro e y7 ⟨rfl, hB7⟩
          have HX7 := Lib.hid (HX6.out.on hB7)
          have HL7 := Lib.hid (box_on HL6.out hB7)
          clear hB7 HX6 HL6 HB2'
          have HI3 := Lib.hid (fun W => HIS.out a2 44 W hle3)
          obtain ⟨M, hM⟩ : ∃ M, hd (l.drop a2) [44] = M := ⟨_, rfl⟩
          rw [hM] at HI3
          have HM := Lib.hid hM
          clear hM
          go_wp2_with fail
          refine (HI3.out _).mono ?_
          rintro e y8 ⟨rfl, hB8⟩
          have HX8 := Lib.hid (HX7.out.on hB8)
          have HL8 := Lib.hid (box_on HL7.out hB8)
          clear hB8 HX7 HL7 HI3
          cases M with
          | false =>
            have HEV : Hid (EV = rdV ((⟨0, 0, 0, 0⟩ : S4), a2, 40)) := by
              show _ = _
              rw [HEV2.out, rdD_no l _ _ _ HM.out]
            obtain ⟨⟨d1, d2, d3, d4⟩, e1, e2, e3, e4⟩ := Box4.zero HX8.out.re
            obtain ⟨⟨g1, g2, g3, g4⟩, _, _, _, _⟩ := Box4.zero HX8.out.no
            obtain ⟨f1, f2, f3, f4⟩ := (box_put4 HX8.out.re ⟨0, 0, 0, 0⟩).cells
            dsimp only at f1 f2 f3 f4
            have hL4 := (((HX8.out.be.setCell (p := ⟨w.heap.size, 0, none⟩) (Nat.le_refl _) (.int .i64 0)).setCell (p := ⟨w.heap.size, 1, none⟩) (Nat.le_refl _) (.int .i64 0)).setCell (p := ⟨w.heap.size, 2, none⟩) (Nat.le_refl _) (.int .i64 0)).setCell (p := ⟨w.heap.size, 3, none⟩) (Nat.le_refl _) (.int .i64 0)
            go_wp2_with fail
            refine bodyPost_ret (v := .tuple #[.agg #[.int .i64 0, .int .i64 0, .int .i64 0, .int .i64 0], .int .i64 (a2 : Int), .int .i64 40]) (by simp [results, Tryd.results48, go_sem, f1, f2, f3, f4]) rfl ?_
            refine ⟨?_, hL4⟩
            rw [HEV.out]
            rfl
          | true =>
            have hlt2 : a2 + 1 ≤ s.size := by have := hd_len _ _ HM.out; rw [HDL.out] at this; simp at this; omega
            obtain ⟨a3, ha3⟩ : ∃ a3, a2 + 1 + bk false (l.drop (a2 + 1)) = a3 := ⟨_, rfl⟩
            have hle4 : a3 ≤ s.size := by have := bk_le false (l.drop (a2 + 1)); rw [HDL.out] at this; omega
            have HEV3 : Hid (EV = rdV (rdE l false a3 none)) := by
              show _ = _
              rw [HEV2.out, rdD_yes l _ _ a3 _ HM.out ha3]
            have HB3' : Hid (∀ W, Calls Tryd.prog 64 #[.string s, .int .i64 ((a2 : Int) + 1), .bool false] W fun e w' => e = .returned (.int .i64 (a3 : Int)) ∧ Go.RowKit.Below W.heap.size W w') := fun W => by have := HBK.out (a2 + 1) W hlt2; rw [ha3] at this; exact this
            clear HEV2 HM ha3
            go_wp2_with fail
            refine (HB3'.out _).mono ?_
            rintro e y9 ⟨rfl, hB9⟩
            have HX9 := Lib.hid (HX8.out.on hB9)
            have HL9 := Lib.hid (box_on HL8.out hB9)
            clear hB9 HX8 HL8 HB3'
            have HE2 := Lib.hid (fun W => HEP.out a3 W hle4)
            obtain ⟨E2, hE2⟩ : ∃ E2, en false pinf (l.drop a3) = E2 := ⟨_, rfl⟩
            rw [hE2] at HE2
            have HE2' := Lib.hid hE2
            clear hE2
            cases E2 with
            | none =>
              have HEV : Hid (EV = rdV ((⟨0, 0, 0, 0⟩ : S4), a3, 40)) := by
                show _ = _
                rw [HEV3.out, rdE_no l _ _ _ HE2'.out]
              have HV2 : Hid (∀ W, Calls Tryd.prog 65 #[.string s, .int .i64 (a3 : Int), .string ⟨#[43, 105, 110, 102]⟩, .bool false] W fun e w' => e = .returned (.tuple #[.agg #[.int .i64 0, .int .i64 0], .int .i64 (-1)]) ∧ Go.RowKit.Below W.heap.size W w') := HE2.out
              go_wp2_with fail
              refine (HV2.out _).mono ?_
              rintro e y10 ⟨rfl, hB10⟩
              have HX10 := Lib.hid (HX9.out.on (bt hB10 (below_new y10 (bB 0 0))))
              obtain ⟨⟨d1, d2, d3, d4⟩, e1, e2, e3, e4⟩ := Box4.zero HX10.out.re
              obtain ⟨⟨g1, g2, g3, g4⟩, _, _, _, _⟩ := Box4.zero HX10.out.no
              obtain ⟨f1, f2, f3, f4⟩ := (box_put4 HX10.out.re ⟨0, 0, 0, 0⟩).cells
              dsimp only at f1 f2 f3 f4
              have hL4 := (((HX10.out.be.setCell (p := ⟨w.heap.size, 0, none⟩) (Nat.le_refl _) (.int .i64 0)).setCell (p := ⟨w.heap.size, 1, none⟩) (Nat.le_refl _) (.int .i64 0)).setCell (p := ⟨w.heap.size, 2, none⟩) (Nat.le_refl _) (.int .i64 0)).setCell (p := ⟨w.heap.size, 3, none⟩) (Nat.le_refl _) (.int .i64 0)
              go_wp2_with fail
              refine bodyPost_ret (v := .tuple #[.agg #[.int .i64 0, .int .i64 0, .int .i64 0, .int .i64 0], .int .i64 (a3 : Int), .int .i64 40]) (by simp [results, Tryd.results48, go_sem, f1, f2, f3, f4]) rfl ?_
              refine ⟨?_, hL4⟩
              rw [HEV.out]
              rfl
            | some p =>
              obtain ⟨c, m⟩ := p
              have hle5 : a3 + m ≤ s.size := by have := (en_le false pinf _ rfl _ _ HE2'.out).1; rw [HDL.out] at this; omega
              have HCN := Lib.hid (bnum_i64 false pinf _ c m HE2'.out)
              obtain ⟨nx2, hnx2⟩ : ∃ nx2, a3 + m = nx2 := ⟨_, rfl⟩
              obtain ⟨a4, ha4⟩ : ∃ a4, nx2 + bk false (l.drop nx2) = a4 := ⟨_, rfl⟩
              have hle6 : a4 ≤ s.size := by have := bk_le false (l.drop nx2); rw [HDL.out] at this; omega
              have HEV4 : Hid (EV = rdV (rdF false (hd l [40]) (false && hd (l.drop a4) [93]) (hd (l.drop a4) [41]) a3 a4 none c)) := by
                show _ = _
                rw [HEV3.out, rdE_yes l false a3 a4 m _ c HE2'.out (by rw [hnx2]; exact ha4)]
              rw [HO.out] at HEV4
              have HB4' := Lib.hid (fun W => HBK.out nx2 W (by omega))
              rw [ha4] at HB4'
              have HI4 := Lib.hid (fun W => HIS.out a4 93 W hle6)
              have HI5 := Lib.hid (fun W => HIS.out a4 41 W hle6)
              generalize hd (l.drop a4) [93] = C1 at *
              generalize hd (l.drop a4) [41] = C2 at *
              obtain ⟨ck, ca, HV2, HCK⟩ : ∃ ck ca, Hid (∀ W, Calls Tryd.prog 65 #[.string s, .int .i64 (a3 : Int), .string ⟨#[43, 105, 110, 102]⟩, .bool false] W fun e w' => e = .returned (.tuple #[.agg #[.int .i64 ck, .int .i64 ca], .int .i64 (nx2 : Int)]) ∧ Go.RowKit.Below W.heap.size W w') ∧ Hid (((ck = 0 ∧ ∀ x, bkind c x = 0) ∨ (ck = 1 ∧ bkind c true = 1 ∧ bkind c false = 2)) ∧ bnum c = ca) := by
                cases c with
                | none => exact ⟨0, 0, by rw [← hnx2]; exact HE2.out, .inl ⟨rfl, fun _ => rfl⟩, rfl⟩
                | some z2 => exact ⟨1, z2, by rw [← hnx2]; exact HE2.out, .inr ⟨rfl, rfl, rfl⟩, rfl⟩
              clear HE2 HE2' HEV3 ha4
              rw [hnx2] at hle5
              clear hnx2
              go_wp2_with fail
              refine (HV2.out _).mono ?_
              rintro e y10 ⟨rfl, hB10⟩
              have hA10 := bt hB10 (below_new y10 (bB ck ca))
              have HX10 := Lib.hid (HX9.out.on hA10)
              have HL10 := Lib.hid (box_on HL9.out hA10)
              have HH10 : Hid ((y10.alloc (bB ck ca)).heap[y10.heap.size]? = some (bB ck ca)) := heap_alloc_new _ _
              have hN10 : w.heap.size + 2 ≤ y10.heap.size := (HX9.out.on hB10).lt
              have hne : P4 ≠ y10.heap.size := by have := lt_of_block (box_on HL9.out hB10); omega
              clear hB10 hA10 HX9 HL9 HV2
              go_wp2_with fail
              generalize y10.alloc (bB ck ca) = X10 at *
              generalize y10.heap.size = P10 at *
              refine (HB4'.out _).mono ?_
              rintro e y11 ⟨rfl, hB11⟩
              have HX11 := Lib.hid (HX10.out.on hB11)
              have HL11 := Lib.hid (box_on HL10.out hB11)
              have HH11 := Lib.hid (box_on HH10.out hB11)
              clear hB11 HX10 HL10 HH10 HB4'
              go_wp2_with fail
              refine (HI5.out _).mono ?_
              rintro e y13 ⟨rfl, hB13⟩
              have HX13 := Lib.hid (HX11.out.on hB13)
              have HL13 := Lib.hid (box_on HL11.out hB13)
              have HH13 := Lib.hid (box_on HH11.out hB13)
              clear hB13 HX11 HL11 HH11 HI5 HI4
              have HEV5 : Hid (EV = rdV (rdF false true false C2 a3 a4 none c)) := HEV4.out
              clear HEV4
              cases C2 with
              | false =>
                have HEV : Hid (EV = rdV ((⟨0, 0, 0, 0⟩ : S4), a4, 40)) := by
                  show _ = _
                  rw [HEV5.out, rdF_no _ _ _ _ _ _ _ _ rfl]
                obtain ⟨⟨d1, d2, d3, d4⟩, e1, e2, e3, e4⟩ := Box4.zero HX13.out.re
                obtain ⟨⟨g1, g2, g3, g4⟩, _, _, _, _⟩ := Box4.zero HX13.out.no
                obtain ⟨f1, f2, f3, f4⟩ := (box_put4 HX13.out.re ⟨0, 0, 0, 0⟩).cells
                dsimp only at f1 f2 f3 f4
                have hL4 := (((HX13.out.be.setCell (p := ⟨w.heap.size, 0, none⟩) (Nat.le_refl _) (.int .i64 0)).setCell (p := ⟨w.heap.size, 1, none⟩) (Nat.le_refl _) (.int .i64 0)).setCell (p := ⟨w.heap.size, 2, none⟩) (Nat.le_refl _) (.int .i64 0)).setCell (p := ⟨w.heap.size, 3, none⟩) (Nat.le_refl _) (.int .i64 0)
                go_wp2_with fail
                refine bodyPost_ret (v := .tuple #[.agg #[.int .i64 0, .int .i64 0, .int .i64 0, .int .i64 0], .int .i64 (a4 : Int), .int .i64 40]) (by simp [results, Tryd.results48, go_sem, f1, f2, f3, f4]) rfl ?_
                refine ⟨?_, hL4⟩
                rw [HEV.out]
                rfl
              | true =>
                have HEV6 := Lib.hid (HEV5.out.trans (congrArg rdV (rdF_yes false true false _ a3 a4 none c (by rfl))))
                rw [show (!false) = true from rfl] at HEV6
                have HSP' := Lib.hid (fun W => HSP.out 0 0 (bkind c true) (bnum c) W HBN.out HCN.out)
                have HKL : Hid (bkind none true = 0 ∧ bnum none = 0) := ⟨rfl, rfl⟩
                rw [HKL.out.1, HKL.out.2] at HEV6
                rcases HCK.out with ⟨⟨rfl, hk0⟩ | ⟨rfl, hk1, hk2⟩, hca⟩
                · rw [hca, hk0] at HSP' HEV6
                  generalize bdS 0 0 0 ca = Z at *
                  generalize bdE 0 0 0 ca = E at *
                  obtain ⟨l1, l2, _, _⟩ := two_cells HL13.out
                  obtain ⟨m1, m2, m3, m4⟩ := two_cells HH13.out
                  go_wp2_with fail
                  clear l1 l2 m1 m2 m3 m4 HL13 HH13
                  have HX14 := HX13
                  clear HX13
                  generalize y13 = y14 at *
                  refine (HSP'.out _).mono ?_
                  rintro e y15 ⟨rfl, hB15⟩
                  have HX15 := Lib.hid (HX14.out.on (bt hB15 (below_new y15 (.cells #[.int .i64 Z.ls, .int .i64 Z.la, .int .i64 Z.hs, .int .i64 Z.ha] 27))))
                  have HZ15 : Hid (Box4 (y15.alloc (.cells #[.int .i64 Z.ls, .int .i64 Z.la, .int .i64 Z.hs, .int .i64 Z.ha] 27)) y15.heap.size Z) := heap_alloc_new _ _
                  by_cases hE : E = 0
                  · subst hE
                    have HEV : Hid (EV = rdV (Z, a4 + 1, 0)) := by
                      show _ = _
                      rw [HEV6.out, if_pos rfl]
                    obtain ⟨⟨d1, d2, d3, d4⟩, e1, e2, e3, e4⟩ := Box4.zero HX15.out.re
                    obtain ⟨⟨g1, g2, g3, g4⟩, _, _, _, _⟩ := Box4.zero HX15.out.no
                    obtain ⟨z1, z2', z3, z4'⟩ := HZ15.out.cells
                    obtain ⟨f1, f2, f3, f4⟩ := (box_put4 HX15.out.re Z).cells
                    have hL4 := (((HX15.out.be.setCell (p := ⟨w.heap.size, 0, none⟩) (Nat.le_refl _) (.int .i64 Z.ls)).setCell (p := ⟨w.heap.size, 1, none⟩) (Nat.le_refl _) (.int .i64 Z.la)).setCell (p := ⟨w.heap.size, 2, none⟩) (Nat.le_refl _) (.int .i64 Z.hs)).setCell (p := ⟨w.heap.size, 3, none⟩) (Nat.le_refl _) (.int .i64 Z.ha)
                    clear HEV6
                    go_wp2_with fail
                    refine bodyPost_ret (v := .tuple #[.agg #[.int .i64 Z.ls, .int .i64 Z.la, .int .i64 Z.hs, .int .i64 Z.ha], .int .i64 ((a4 : Int) + 1), .int .i64 0]) (by simp [results, Tryd.results48, go_sem, f1, f2, f3, f4]) rfl ?_
                    refine ⟨?_, hL4⟩
                    rw [HEV.out]
                    rfl
                  · have HEV : Hid (EV = rdV ((⟨0, 0, 0, 0⟩ : S4), a3, E)) := by
                      show _ = _
                      rw [HEV6.out, if_neg hE]
                    have tE : (E != 0) = true := bne_iff_ne.2 hE
                    clear HEV6 hE
                    obtain ⟨⟨d1, d2, d3, d4⟩, e1, e2, e3, e4⟩ := Box4.zero HX15.out.re
                    obtain ⟨⟨g1, g2, g3, g4⟩, _, _, _, _⟩ := Box4.zero HX15.out.no
                    obtain ⟨f1, f2, f3, f4⟩ := (box_put4 HX15.out.re ⟨0, 0, 0, 0⟩).cells
                    dsimp only at f1 f2 f3 f4
                    have hL4 := (((HX15.out.be.setCell (p := ⟨w.heap.size, 0, none⟩) (Nat.le_refl _) (.int .i64 0)).setCell (p := ⟨w.heap.size, 1, none⟩) (Nat.le_refl _) (.int .i64 0)).setCell (p := ⟨w.heap.size, 2, none⟩) (Nat.le_refl _) (.int .i64 0)).setCell (p := ⟨w.heap.size, 3, none⟩) (Nat.le_refl _) (.int .i64 0)
                    go_wp2_with fail
                    refine bodyPost_ret (v := .tuple #[.agg #[.int .i64 0, .int .i64 0, .int .i64 0, .int .i64 0], .int .i64 (a3 : Int), .int .i64 E]) (by simp [results, Tryd.results48, go_sem, f1, f2, f3, f4]) rfl ?_
                    refine ⟨?_, hL4⟩
                    rw [HEV.out]
                    rfl
                · rw [hca, hk1] at HSP' HEV6
                  generalize bdS 0 0 1 ca = Z at *
                  generalize bdE 0 0 1 ca = E at *
                  obtain ⟨l1, l2, _, _⟩ := two_cells HL13.out
                  obtain ⟨m1, m2, m3, m4⟩ := two_cells HH13.out
                  go_wp2_with fail
                  clear l1 l2 m1 m2 m3 m4 HL13 HH13
                  have HX14 := HX13
                  clear HX13
                  generalize y13 = y14 at *
                  refine (HSP'.out _).mono ?_
                  rintro e y15 ⟨rfl, hB15⟩
                  have HX15 := Lib.hid (HX14.out.on (bt hB15 (below_new y15 (.cells #[.int .i64 Z.ls, .int .i64 Z.la, .int .i64 Z.hs, .int .i64 Z.ha] 27))))
                  have HZ15 : Hid (Box4 (y15.alloc (.cells #[.int .i64 Z.ls, .int .i64 Z.la, .int .i64 Z.hs, .int .i64 Z.ha] 27)) y15.heap.size Z) := heap_alloc_new _ _
                  by_cases hE : E = 0
                  · subst hE
                    have HEV : Hid (EV = rdV (Z, a4 + 1, 0)) := by
                      show _ = _
                      rw [HEV6.out, if_pos rfl]
                    obtain ⟨⟨d1, d2, d3, d4⟩, e1, e2, e3, e4⟩ := Box4.zero HX15.out.re
                    obtain ⟨⟨g1, g2, g3, g4⟩, _, _, _, _⟩ := Box4.zero HX15.out.no
                    obtain ⟨z1, z2', z3, z4'⟩ := HZ15.out.cells
                    obtain ⟨f1, f2, f3, f4⟩ := (box_put4 HX15.out.re Z).cells
                    have hL4 := (((HX15.out.be.setCell (p := ⟨w.heap.size, 0, none⟩) (Nat.le_refl _) (.int .i64 Z.ls)).setCell (p := ⟨w.heap.size, 1, none⟩) (Nat.le_refl _) (.int .i64 Z.la)).setCell (p := ⟨w.heap.size, 2, none⟩) (Nat.le_refl _) (.int .i64 Z.hs)).setCell (p := ⟨w.heap.size, 3, none⟩) (Nat.le_refl _) (.int .i64 Z.ha)
                    clear HEV6
                    go_wp2_with fail
                    refine bodyPost_ret (v := .tuple #[.agg #[.int .i64 Z.ls, .int .i64 Z.la, .int .i64 Z.hs, .int .i64 Z.ha], .int .i64 ((a4 : Int) + 1), .int .i64 0]) (by simp [results, Tryd.results48, go_sem, f1, f2, f3, f4]) rfl ?_
                    refine ⟨?_, hL4⟩
                    rw [HEV.out]
                    rfl
                  · have HEV : Hid (EV = rdV ((⟨0, 0, 0, 0⟩ : S4), a3, E)) := by
                      show _ = _
                      rw [HEV6.out, if_neg hE]
                    have tE : (E != 0) = true := bne_iff_ne.2 hE
                    clear HEV6 hE
                    obtain ⟨⟨d1, d2, d3, d4⟩, e1, e2, e3, e4⟩ := Box4.zero HX15.out.re
                    obtain ⟨⟨g1, g2, g3, g4⟩, _, _, _, _⟩ := Box4.zero HX15.out.no
                    obtain ⟨f1, f2, f3, f4⟩ := (box_put4 HX15.out.re ⟨0, 0, 0, 0⟩).cells
                    dsimp only at f1 f2 f3 f4
                    have hL4 := (((HX15.out.be.setCell (p := ⟨w.heap.size, 0, none⟩) (Nat.le_refl _) (.int .i64 0)).setCell (p := ⟨w.heap.size, 1, none⟩) (Nat.le_refl _) (.int .i64 0)).setCell (p := ⟨w.heap.size, 2, none⟩) (Nat.le_refl _) (.int .i64 0)).setCell (p := ⟨w.heap.size, 3, none⟩) (Nat.le_refl _) (.int .i64 0)
                    go_wp2_with fail
                    refine bodyPost_ret (v := .tuple #[.agg #[.int .i64 0, .int .i64 0, .int .i64 0, .int .i64 0], .int .i64 (a3 : Int), .int .i64 E]) (by simp [results, Tryd.results48, go_sem, f1, f2, f3, f4]) rfl ?_
                    refine ⟨?_, hL4⟩
                    rw [HEV.out]
                    rfl
        | false =>
          have HEV : Hid (EV = rdV ((⟨0, 0, 0, 0⟩ : S4), a1, 40)) := by
            show _ = _
            rw [HEV1.out, rdC_no]
            unfold en1
            rw [HO.out, HN1'.out, if_pos (by rfl)]
          obtain ⟨⟨d1, d2, d3, d4⟩, e1, e2, e3, e4⟩ := Box4.zero HX5.out.re
          obtain ⟨⟨g1, g2, g3, g4⟩, _, _, _, _⟩ := Box4.zero HX5.out.no
          obtain ⟨f1, f2, f3, f4⟩ := (box_put4 HX5.out.re ⟨0, 0, 0, 0⟩).cells
          dsimp only at f1 f2 f3 f4
          have hL4 := (((HX5.out.be.setCell (p := ⟨w.heap.size, 0, none⟩) (Nat.le_refl _) (.int .i64 0)).setCell (p := ⟨w.heap.size, 1, none⟩) (Nat.le_refl _) (.int .i64 0)).setCell (p := ⟨w.heap.size, 2, none⟩) (Nat.le_refl _) (.int .i64 0)).setCell (p := ⟨w.heap.size, 3, none⟩) (Nat.le_refl _) (.int .i64 0)
          go_wp2_with fail
          refine bodyPost_ret (v := .tuple #[.agg #[.int .i64 0, .int .i64 0, .int .i64 0, .int .i64 0], .int .i64 (a1 : Int), .int .i64 40]) (by simp [results, Tryd.results48, go_sem, f1, f2, f3, f4]) rfl ?_
          refine ⟨?_, hL4⟩
          rw [HEV.out]
          rfl
      | some z =>
        have hle2 : a1 + n ≤ s.size := by have := (en_le false ninf _ rfl _ _ HE1'.out).1; rw [HDL.out] at this; omega
        obtain ⟨nx, hnx⟩ : ∃ nx, a1 + n = nx := ⟨_, rfl⟩
        have HV1 : Hid (∀ W, Calls Tryd.prog 65 #[.string s, .int .i64 (a1 : Int), .string ⟨#[45, 105, 110, 102]⟩, .bool false] W fun e w' => e = .returned (.tuple #[.agg #[.int .i64 1, .int .i64 z], .int .i64 (nx : Int)]) ∧ Go.RowKit.Below W.heap.size W w') := by rw [← hnx]; exact HE1.out
        rw [hnx] at hle2
        go_wp2_with fail
        refine (HV1.out _).mono ?_
        rintro e y4 ⟨rfl, hB4⟩
        have hA4 := bt hB4 (below_new y4 (bB 1 z))
        have HX4 := Lib.hid (HX3.out.on hA4)
        have HL4 : Hid ((y4.alloc (bB 1 z)).heap[y4.heap.size]? = some (bB 1 z)) := heap_alloc_new _ _
        have hN4 : w.heap.size + 2 ≤ y4.heap.size := (HX3.out.on hB4).lt
        clear hB4 hA4 HX3 HV1 HE1
        go_wp2_with fail
        generalize y4.alloc (bB 1 z) = X4 at *
        generalize y4.heap.size = P4 at *
        refine (HN1.out _).mono ?_
        rintro e y5 ⟨rfl, hB5⟩
        have HX5 := Lib.hid (HX4.out.on hB5)
        have HL5 := Lib.hid (box_on HL4.out hB5)
        clear hB5 HX4 HL4 HN1
        obtain rfl : N1 = false := HN1'.out.symm.trans (en_some_hd _ _ _ HE1'.out)
        cases O with
        | true =>
          have HEV : Hid (EV = rdV ((⟨0, 0, 0, 0⟩ : S4), a1, 40)) := by
            show _ = _
            rw [HEV1.out, rdC_no]
            unfold en1
            rw [HO.out, HN1'.out, if_pos (by rfl)]
          obtain ⟨⟨d1, d2, d3, d4⟩, e1, e2, e3, e4⟩ := Box4.zero HX5.out.re
          obtain ⟨⟨g1, g2, g3, g4⟩, _, _, _, _⟩ := Box4.zero HX5.out.no
          obtain ⟨f1, f2, f3, f4⟩ := (box_put4 HX5.out.re ⟨0, 0, 0, 0⟩).cells
          dsimp only at f1 f2 f3 f4
          have hL4 := (((HX5.out.be.setCell (p := ⟨w.heap.size, 0, none⟩) (Nat.le_refl _) (.int .i64 0)).setCell (p := ⟨w.heap.size, 1, none⟩) (Nat.le_refl _) (.int .i64 0)).setCell (p := ⟨w.heap.size, 2, none⟩) (Nat.le_refl _) (.int .i64 0)).setCell (p := ⟨w.heap.size, 3, none⟩) (Nat.le_refl _) (.int .i64 0)
          go_wp2_with fail
          refine bodyPost_ret (v := .tuple #[.agg #[.int .i64 0, .int .i64 0, .int .i64 0, .int .i64 0], .int .i64 (a1 : Int), .int .i64 40]) (by simp [results, Tryd.results48, go_sem, f1, f2, f3, f4]) rfl ?_
          refine ⟨?_, hL4⟩
          rw [HEV.out]
          rfl
        | false =>
          have HEN1 : Hid (en1 false (hd l [40]) (l.drop a1) = some (some z, n)) := by
            show _ = _
            unfold en1
            rw [HO.out, HN1'.out, if_neg (by decide)]
            exact HE1'.out
          have HBN := Lib.hid (bnum_i64 false ninf _ (some z) n HE1'.out)
          obtain ⟨a2, ha2⟩ : ∃ a2, nx + bk false (l.drop nx) = a2 := ⟨_, rfl⟩
          have hle3 : a2 ≤ s.size := by have := bk_le false (l.drop nx); rw [HDL.out] at this; omega
          have HEV2 : Hid (EV = rdV (rdD l false a2 (some z))) := by
            show _ = _
            rw [HEV1.out, rdC_yes l false a1 a2 n _ HEN1.out (by rw [hnx]; exact ha2)]
          have HB2' := Lib.hid (fun W => HBK.out nx W hle2)
          rw [ha2] at HB2'
          clear HEV1 HEN1 HE1' HN1' ha2 hnx
          obtain ⟨l1, l2, l3, l4⟩ := two_cells HL5.out
          have HL6 := Lib.hid (kind_put HL5.out 2)
          have HX6 := Lib.hid (HX5.out.put P4 hN4 (.int .i64 2))
          obtain ⟨l5, l6, _, _⟩ := two_cells HL6.out
          go_wp2_with fail
          generalize y5.setCell ⟨P4, 0, none⟩ (.int .i64 2) = y6 at *
          clear HL5 HX5 l1 l2 l3 l4 l5 l6
          refine (HB2'.out _).mono ?_
          rintro e y7 ⟨rfl, hB7⟩
          have HX7 := Lib.hid (HX6.out.on hB7)
          have HL7 := Lib.hid (box_on HL6.out hB7)
          clear hB7 HX6 HL6 HB2'
          have HI3 := Lib.hid (fun W => HIS.out a2 44 W hle3)
          obtain ⟨M, hM⟩ : ∃ M, hd (l.drop a2) [44] = M := ⟨_, rfl⟩
          rw [hM] at HI3
          have HM := Lib.hid hM
          clear hM
          go_wp2_with fail
          refine (HI3.out _).mono ?_
          rintro e y8 ⟨rfl, hB8⟩
          have HX8 := Lib.hid (HX7.out.on hB8)
          have HL8 := Lib.hid (box_on HL7.out hB8)
          clear hB8 HX7 HL7 HI3
          cases M with
          | false =>
            have HEV : Hid (EV = rdV ((⟨0, 0, 0, 0⟩ : S4), a2, 40)) := by
              show _ = _
              rw [HEV2.out, rdD_no l _ _ _ HM.out]
            obtain ⟨⟨d1, d2, d3, d4⟩, e1, e2, e3, e4⟩ := Box4.zero HX8.out.re
            obtain ⟨⟨g1, g2, g3, g4⟩, _, _, _, _⟩ := Box4.zero HX8.out.no
            obtain ⟨f1, f2, f3, f4⟩ := (box_put4 HX8.out.re ⟨0, 0, 0, 0⟩).cells
            dsimp only at f1 f2 f3 f4
            have hL4 := (((HX8.out.be.setCell (p := ⟨w.heap.size, 0, none⟩) (Nat.le_refl _) (.int .i64 0)).setCell (p := ⟨w.heap.size, 1, none⟩) (Nat.le_refl _) (.int .i64 0)).setCell (p := ⟨w.heap.size, 2, none⟩) (Nat.le_refl _) (.int .i64 0)).setCell (p := ⟨w.heap.size, 3, none⟩) (Nat.le_refl _) (.int .i64 0)
            go_wp2_with fail
            refine bodyPost_ret (v := .tuple #[.agg #[.int .i64 0, .int .i64 0, .int .i64 0, .int .i64 0], .int .i64 (a2 : Int), .int .i64 40]) (by simp [results, Tryd.results48, go_sem, f1, f2, f3, f4]) rfl ?_
            refine ⟨?_, hL4⟩
            rw [HEV.out]
            rfl
          | true =>
            have hlt2 : a2 + 1 ≤ s.size := by have := hd_len _ _ HM.out; rw [HDL.out] at this; simp at this; omega
            obtain ⟨a3, ha3⟩ : ∃ a3, a2 + 1 + bk false (l.drop (a2 + 1)) = a3 := ⟨_, rfl⟩
            have hle4 : a3 ≤ s.size := by have := bk_le false (l.drop (a2 + 1)); rw [HDL.out] at this; omega
            have HEV3 : Hid (EV = rdV (rdE l false a3 (some z))) := by
              show _ = _
              rw [HEV2.out, rdD_yes l _ _ a3 _ HM.out ha3]
            have HB3' : Hid (∀ W, Calls Tryd.prog 64 #[.string s, .int .i64 ((a2 : Int) + 1), .bool false] W fun e w' => e = .returned (.int .i64 (a3 : Int)) ∧ Go.RowKit.Below W.heap.size W w') := fun W => by have := HBK.out (a2 + 1) W hlt2; rw [ha3] at this; exact this
            clear HEV2 HM ha3
            go_wp2_with fail
            refine (HB3'.out _).mono ?_
            rintro e y9 ⟨rfl, hB9⟩
            have HX9 := Lib.hid (HX8.out.on hB9)
            have HL9 := Lib.hid (box_on HL8.out hB9)
            clear hB9 HX8 HL8 HB3'
            have HE2 := Lib.hid (fun W => HEP.out a3 W hle4)
            obtain ⟨E2, hE2⟩ : ∃ E2, en false pinf (l.drop a3) = E2 := ⟨_, rfl⟩
            rw [hE2] at HE2
            have HE2' := Lib.hid hE2
            clear hE2
            cases E2 with
            | none =>
              have HEV : Hid (EV = rdV ((⟨0, 0, 0, 0⟩ : S4), a3, 40)) := by
                show _ = _
                rw [HEV3.out, rdE_no l _ _ _ HE2'.out]
              have HV2 : Hid (∀ W, Calls Tryd.prog 65 #[.string s, .int .i64 (a3 : Int), .string ⟨#[43, 105, 110, 102]⟩, .bool false] W fun e w' => e = .returned (.tuple #[.agg #[.int .i64 0, .int .i64 0], .int .i64 (-1)]) ∧ Go.RowKit.Below W.heap.size W w') := HE2.out
              go_wp2_with fail
              refine (HV2.out _).mono ?_
              rintro e y10 ⟨rfl, hB10⟩
              have HX10 := Lib.hid (HX9.out.on (bt hB10 (below_new y10 (bB 0 0))))
              obtain ⟨⟨d1, d2, d3, d4⟩, e1, e2, e3, e4⟩ := Box4.zero HX10.out.re
              obtain ⟨⟨g1, g2, g3, g4⟩, _, _, _, _⟩ := Box4.zero HX10.out.no
              obtain ⟨f1, f2, f3, f4⟩ := (box_put4 HX10.out.re ⟨0, 0, 0, 0⟩).cells
              dsimp only at f1 f2 f3 f4
              have hL4 := (((HX10.out.be.setCell (p := ⟨w.heap.size, 0, none⟩) (Nat.le_refl _) (.int .i64 0)).setCell (p := ⟨w.heap.size, 1, none⟩) (Nat.le_refl _) (.int .i64 0)).setCell (p := ⟨w.heap.size, 2, none⟩) (Nat.le_refl _) (.int .i64 0)).setCell (p := ⟨w.heap.size, 3, none⟩) (Nat.le_refl _) (.int .i64 0)
              go_wp2_with fail
              refine bodyPost_ret (v := .tuple #[.agg #[.int .i64 0, .int .i64 0, .int .i64 0, .int .i64 0], .int .i64 (a3 : Int), .int .i64 40]) (by simp [results, Tryd.results48, go_sem, f1, f2, f3, f4]) rfl ?_
              refine ⟨?_, hL4⟩
              rw [HEV.out]
              rfl
            | some p =>
              obtain ⟨c, m⟩ := p
              have hle5 : a3 + m ≤ s.size := by have := (en_le false pinf _ rfl _ _ HE2'.out).1; rw [HDL.out] at this; omega
              have HCN := Lib.hid (bnum_i64 false pinf _ c m HE2'.out)
              obtain ⟨nx2, hnx2⟩ : ∃ nx2, a3 + m = nx2 := ⟨_, rfl⟩
              obtain ⟨a4, ha4⟩ : ∃ a4, nx2 + bk false (l.drop nx2) = a4 := ⟨_, rfl⟩
              have hle6 : a4 ≤ s.size := by have := bk_le false (l.drop nx2); rw [HDL.out] at this; omega
              have HEV4 : Hid (EV = rdV (rdF false (hd l [40]) (false && hd (l.drop a4) [93]) (hd (l.drop a4) [41]) a3 a4 (some z) c)) := by
                show _ = _
                rw [HEV3.out, rdE_yes l false a3 a4 m _ c HE2'.out (by rw [hnx2]; exact ha4)]
              rw [HO.out] at HEV4
              have HB4' := Lib.hid (fun W => HBK.out nx2 W (by omega))
              rw [ha4] at HB4'
              have HI4 := Lib.hid (fun W => HIS.out a4 93 W hle6)
              have HI5 := Lib.hid (fun W => HIS.out a4 41 W hle6)
              generalize hd (l.drop a4) [93] = C1 at *
              generalize hd (l.drop a4) [41] = C2 at *
              obtain ⟨ck, ca, HV2, HCK⟩ : ∃ ck ca, Hid (∀ W, Calls Tryd.prog 65 #[.string s, .int .i64 (a3 : Int), .string ⟨#[43, 105, 110, 102]⟩, .bool false] W fun e w' => e = .returned (.tuple #[.agg #[.int .i64 ck, .int .i64 ca], .int .i64 (nx2 : Int)]) ∧ Go.RowKit.Below W.heap.size W w') ∧ Hid (((ck = 0 ∧ ∀ x, bkind c x = 0) ∨ (ck = 1 ∧ bkind c true = 1 ∧ bkind c false = 2)) ∧ bnum c = ca) := by
                cases c with
                | none => exact ⟨0, 0, by rw [← hnx2]; exact HE2.out, .inl ⟨rfl, fun _ => rfl⟩, rfl⟩
                | some z2 => exact ⟨1, z2, by rw [← hnx2]; exact HE2.out, .inr ⟨rfl, rfl, rfl⟩, rfl⟩
              clear HE2 HE2' HEV3 ha4
              rw [hnx2] at hle5
              clear hnx2
              go_wp2_with fail
              refine (HV2.out _).mono ?_
              rintro e y10 ⟨rfl, hB10⟩
              have hA10 := bt hB10 (below_new y10 (bB ck ca))
              have HX10 := Lib.hid (HX9.out.on hA10)
              have HL10 := Lib.hid (box_on HL9.out hA10)
              have HH10 : Hid ((y10.alloc (bB ck ca)).heap[y10.heap.size]? = some (bB ck ca)) := heap_alloc_new _ _
              have hN10 : w.heap.size + 2 ≤ y10.heap.size := (HX9.out.on hB10).lt
              have hne : P4 ≠ y10.heap.size := by have := lt_of_block (box_on HL9.out hB10); omega
              clear hB10 hA10 HX9 HL9 HV2
              go_wp2_with fail
              generalize y10.alloc (bB ck ca) = X10 at *
              generalize y10.heap.size = P10 at *
              refine (HB4'.out _).mono ?_
              rintro e y11 ⟨rfl, hB11⟩
              have HX11 := Lib.hid (HX10.out.on hB11)
              have HL11 := Lib.hid (box_on HL10.out hB11)
              have HH11 := Lib.hid (box_on HH10.out hB11)
              clear hB11 HX10 HL10 HH10 HB4'
              go_wp2_with fail
              refine (HI5.out _).mono ?_
              rintro e y13 ⟨rfl, hB13⟩
              have HX13 := Lib.hid (HX11.out.on hB13)
              have HL13 := Lib.hid (box_on HL11.out hB13)
              have HH13 := Lib.hid (box_on HH11.out hB13)
              clear hB13 HX11 HL11 HH11 HI5 HI4
              have HEV5 : Hid (EV = rdV (rdF false false false C2 a3 a4 (some z) c)) := HEV4.out
              clear HEV4
              cases C2 with
              | false =>
                have HEV : Hid (EV = rdV ((⟨0, 0, 0, 0⟩ : S4), a4, 40)) := by
                  show _ = _
                  rw [HEV5.out, rdF_no _ _ _ _ _ _ _ _ rfl]
                obtain ⟨⟨d1, d2, d3, d4⟩, e1, e2, e3, e4⟩ := Box4.zero HX13.out.re
                obtain ⟨⟨g1, g2, g3, g4⟩, _, _, _, _⟩ := Box4.zero HX13.out.no
                obtain ⟨f1, f2, f3, f4⟩ := (box_put4 HX13.out.re ⟨0, 0, 0, 0⟩).cells
                dsimp only at f1 f2 f3 f4
                have hL4 := (((HX13.out.be.setCell (p := ⟨w.heap.size, 0, none⟩) (Nat.le_refl _) (.int .i64 0)).setCell (p := ⟨w.heap.size, 1, none⟩) (Nat.le_refl _) (.int .i64 0)).setCell (p := ⟨w.heap.size, 2, none⟩) (Nat.le_refl _) (.int .i64 0)).setCell (p := ⟨w.heap.size, 3, none⟩) (Nat.le_refl _) (.int .i64 0)
                go_wp2_with fail
                refine bodyPost_ret (v := .tuple #[.agg #[.int .i64 0, .int .i64 0, .int .i64 0, .int .i64 0], .int .i64 (a4 : Int), .int .i64 40]) (by simp [results, Tryd.results48, go_sem, f1, f2, f3, f4]) rfl ?_
                refine ⟨?_, hL4⟩
                rw [HEV.out]
                rfl
              | true =>
                have HEV6 := Lib.hid (HEV5.out.trans (congrArg rdV (rdF_yes false false false _ a3 a4 (some z) c (by rfl))))
                rw [show (!false) = true from rfl] at HEV6
                have HSP' := Lib.hid (fun W => HSP.out 2 z (bkind c true) (bnum c) W HBN.out HCN.out)
                have HKL : Hid (bkind (some z) false = 2 ∧ bnum (some z) = z) := ⟨rfl, rfl⟩
                rw [HKL.out.1, HKL.out.2] at HEV6
                rcases HCK.out with ⟨⟨rfl, hk0⟩ | ⟨rfl, hk1, hk2⟩, hca⟩
                · rw [hca, hk0] at HSP' HEV6
                  generalize bdS 2 z 0 ca = Z at *
                  generalize bdE 2 z 0 ca = E at *
                  obtain ⟨l1, l2, _, _⟩ := two_cells HL13.out
                  obtain ⟨m1, m2, m3, m4⟩ := two_cells HH13.out
                  go_wp2_with fail
                  clear l1 l2 m1 m2 m3 m4 HL13 HH13
                  have HX14 := HX13
                  clear HX13
                  generalize y13 = y14 at *
                  refine (HSP'.out _).mono ?_
                  rintro e y15 ⟨rfl, hB15⟩
                  have HX15 := Lib.hid (HX14.out.on (bt hB15 (below_new y15 (.cells #[.int .i64 Z.ls, .int .i64 Z.la, .int .i64 Z.hs, .int .i64 Z.ha] 27))))
                  have HZ15 : Hid (Box4 (y15.alloc (.cells #[.int .i64 Z.ls, .int .i64 Z.la, .int .i64 Z.hs, .int .i64 Z.ha] 27)) y15.heap.size Z) := heap_alloc_new _ _
                  by_cases hE : E = 0
                  · subst hE
                    have HEV : Hid (EV = rdV (Z, a4 + 1, 0)) := by
                      show _ = _
                      rw [HEV6.out, if_pos rfl]
                    obtain ⟨⟨d1, d2, d3, d4⟩, e1, e2, e3, e4⟩ := Box4.zero HX15.out.re
                    obtain ⟨⟨g1, g2, g3, g4⟩, _, _, _, _⟩ := Box4.zero HX15.out.no
                    obtain ⟨z1, z2', z3, z4'⟩ := HZ15.out.cells
                    obtain ⟨f1, f2, f3, f4⟩ := (box_put4 HX15.out.re Z).cells
                    have hL4 := (((HX15.out.be.setCell (p := ⟨w.heap.size, 0, none⟩) (Nat.le_refl _) (.int .i64 Z.ls)).setCell (p := ⟨w.heap.size, 1, none⟩) (Nat.le_refl _) (.int .i64 Z.la)).setCell (p := ⟨w.heap.size, 2, none⟩) (Nat.le_refl _) (.int .i64 Z.hs)).setCell (p := ⟨w.heap.size, 3, none⟩) (Nat.le_refl _) (.int .i64 Z.ha)
                    clear HEV6
                    go_wp2_with fail
                    refine bodyPost_ret (v := .tuple #[.agg #[.int .i64 Z.ls, .int .i64 Z.la, .int .i64 Z.hs, .int .i64 Z.ha], .int .i64 ((a4 : Int) + 1), .int .i64 0]) (by simp [results, Tryd.results48, go_sem, f1, f2, f3, f4]) rfl ?_
                    refine ⟨?_, hL4⟩
                    rw [HEV.out]
                    rfl
                  · have HEV : Hid (EV = rdV ((⟨0, 0, 0, 0⟩ : S4), a3, E)) := by
                      show _ = _
                      rw [HEV6.out, if_neg hE]
                    have tE : (E != 0) = true := bne_iff_ne.2 hE
                    clear HEV6 hE
                    obtain ⟨⟨d1, d2, d3, d4⟩, e1, e2, e3, e4⟩ := Box4.zero HX15.out.re
                    obtain ⟨⟨g1, g2, g3, g4⟩, _, _, _, _⟩ := Box4.zero HX15.out.no
                    obtain ⟨f1, f2, f3, f4⟩ := (box_put4 HX15.out.re ⟨0, 0, 0, 0⟩).cells
                    dsimp only at f1 f2 f3 f4
                    have hL4 := (((HX15.out.be.setCell (p := ⟨w.heap.size, 0, none⟩) (Nat.le_refl _) (.int .i64 0)).setCell (p := ⟨w.heap.size, 1, none⟩) (Nat.le_refl _) (.int .i64 0)).setCell (p := ⟨w.heap.size, 2, none⟩) (Nat.le_refl _) (.int .i64 0)).setCell (p := ⟨w.heap.size, 3, none⟩) (Nat.le_refl _) (.int .i64 0)
                    go_wp2_with fail
                    refine bodyPost_ret (v := .tuple #[.agg #[.int .i64 0, .int .i64 0, .int .i64 0, .int .i64 0], .int .i64 (a3 : Int), .int .i64 E]) (by simp [results, Tryd.results48, go_sem, f1, f2, f3, f4]) rfl ?_
                    refine ⟨?_, hL4⟩
                    rw [HEV.out]
                    rfl
                · rw [hca, hk1] at HSP' HEV6
                  generalize bdS 2 z 1 ca = Z at *
                  generalize bdE 2 z 1 ca = E at *
                  obtain ⟨l1, l2, _, _⟩ := two_cells HL13.out
                  obtain ⟨m1, m2, m3, m4⟩ := two_cells HH13.out
                  go_wp2_with fail
                  clear l1 l2 m1 m2 m3 m4 HL13 HH13
                  have HX14 := HX13
                  clear HX13
                  generalize y13 = y14 at *
                  refine (HSP'.out _).mono ?_
                  rintro e y15 ⟨rfl, hB15⟩
                  have HX15 := Lib.hid (HX14.out.on (bt hB15 (below_new y15 (.cells #[.int .i64 Z.ls, .int .i64 Z.la, .int .i64 Z.hs, .int .i64 Z.ha] 27))))
                  have HZ15 : Hid (Box4 (y15.alloc (.cells #[.int .i64 Z.ls, .int .i64 Z.la, .int .i64 Z.hs, .int .i64 Z.ha] 27)) y15.heap.size Z) := heap_alloc_new _ _
                  by_cases hE : E = 0
                  · subst hE
                    have HEV : Hid (EV = rdV (Z, a4 + 1, 0)) := by
                      show _ = _
                      rw [HEV6.out, if_pos rfl]
                    obtain ⟨⟨d1, d2, d3, d4⟩, e1, e2, e3, e4⟩ := Box4.zero HX15.out.re
                    obtain ⟨⟨g1, g2, g3, g4⟩, _, _, _, _⟩ := Box4.zero HX15.out.no
                    obtain ⟨z1, z2', z3, z4'⟩ := HZ15.out.cells
                    obtain ⟨f1, f2, f3, f4⟩ := (box_put4 HX15.out.re Z).cells
                    have hL4 := (((HX15.out.be.setCell (p := ⟨w.heap.size, 0, none⟩) (Nat.le_refl _) (.int .i64 Z.ls)).setCell (p := ⟨w.heap.size, 1, none⟩) (Nat.le_refl _) (.int .i64 Z.la)).setCell (p := ⟨w.heap.size, 2, none⟩) (Nat.le_refl _) (.int .i64 Z.hs)).setCell (p := ⟨w.heap.size, 3, none⟩) (Nat.le_refl _) (.int .i64 Z.ha)
                    clear HEV6
                    go_wp2_with fail
                    refine bodyPost_ret (v := .tuple #[.agg #[.int .i64 Z.ls, .int .i64 Z.la, .int .i64 Z.hs, .int .i64 Z.ha], .int .i64 ((a4 : Int) + 1), .int .i64 0]) (by simp [results, Tryd.results48, go_sem, f1, f2, f3, f4]) rfl ?_
                    refine ⟨?_, hL4⟩
                    rw [HEV.out]
                    rfl
                  · have HEV : Hid (EV = rdV ((⟨0, 0, 0, 0⟩ : S4), a3, E)) := by
                      show _ = _
                      rw [HEV6.out, if_neg hE]
                    have tE : (E != 0) = true := bne_iff_ne.2 hE
                    clear HEV6 hE
                    obtain ⟨⟨d1, d2, d3, d4⟩, e1, e2, e3, e4⟩ := Box4.zero HX15.out.re
                    obtain ⟨⟨g1, g2, g3, g4⟩, _, _, _, _⟩ := Box4.zero HX15.out.no
                    obtain ⟨f1, f2, f3, f4⟩ := (box_put4 HX15.out.re ⟨0, 0, 0, 0⟩).cells
                    dsimp only at f1 f2 f3 f4
                    have hL4 := (((HX15.out.be.setCell (p := ⟨w.heap.size, 0, none⟩) (Nat.le_refl _) (.int .i64 0)).setCell (p := ⟨w.heap.size, 1, none⟩) (Nat.le_refl _) (.int .i64 0)).setCell (p := ⟨w.heap.size, 2, none⟩) (Nat.le_refl _) (.int .i64 0)).setCell (p := ⟨w.heap.size, 3, none⟩) (Nat.le_refl _) (.int .i64 0)
                    go_wp2_with fail
                    refine bodyPost_ret (v := .tuple #[.agg #[.int .i64 0, .int .i64 0, .int .i64 0, .int .i64 0], .int .i64 (a3 : Int), .int .i64 E]) (by simp [results, Tryd.results48, go_sem, f1, f2, f3, f4]) rfl ?_
                    refine ⟨?_, hL4⟩
                    rw [HEV.out]
                    rfl
end Go.Proofs.YthojkbmffiibdaaDoor

/- Contracts of the reference's Read, Loose, Parse. -/
namespace Go.Proofs.YthojkbmffiibdaaDoor
open Go.RowKit Go.Sort Go.Proofs.YthojkbmffiibdaaDoor.Bo
set_option linter.unusedVariables false

set_option maxRecDepth 100000 in
set_option maxHeartbeats 1000000 in
theorem rrdS_any (s : ByteArray) (w : World) (hs : s.size ≤ 10000) : Calls Tryd.prog 18 #[.string s] w fun e w' => e = .returned (rdV (rdB s.data.toList false)) ∧ Go.RowKit.Below w.heap.size w w' := by
  have HR := Lib.hid (fun W => rrd_false s W hs)
  generalize rdB s.data.toList false = R at *
  obtain ⟨Z, n, E⟩ := R
  have HR' : Hid (∀ W, Calls Tryd.prog 48 #[.string s, .bool false] W fun e w' => e = .returned (.tuple #[.agg #[.int .i64 Z.ls, .int .i64 Z.la, .int .i64 Z.hs, .int .i64 Z.ha], .int .i64 (n : Int), .int .i64 E]) ∧ Go.RowKit.Below W.heap.size W w') := HR.out
  have HB : Hid (Box4 (w.alloc (.cells #[.int .i64 0, .int .i64 0, .int .i64 0, .int .i64 0] 27)) w.heap.size z4) := heap_alloc_new _ _
  have hL := below_new w (.cells #[.int .i64 0, .int .i64 0, .int .i64 0, .int .i64 0] 27)
  go_enter Tryd.func18, Tryd.ntmps18
  go_wp2_with fail
  generalize w.alloc (.cells #[.int .i64 0, .int .i64 0, .int .i64 0, .int .i64 0] 27) = X at *
  refine (HR'.out _).mono ?_
  rintro e y ⟨rfl, hB1⟩
  have hL1 := bt hL hB1
  have HB1 := Lib.hid (HB.out.on hB1)
  obtain ⟨⟨d1, d2, d3, d4⟩, e1, e2, e3, e4⟩ := Box4.zero HB1.out
  obtain ⟨f1, f2, f3, f4⟩ := (box_put4 HB1.out Z).cells
  have hL4 := (((hL1.setCell (p := ⟨w.heap.size, 0, none⟩) (Nat.le_refl _) (.int .i64 Z.ls)).setCell (p := ⟨w.heap.size, 1, none⟩) (Nat.le_refl _) (.int .i64 Z.la)).setCell (p := ⟨w.heap.size, 2, none⟩) (Nat.le_refl _) (.int .i64 Z.hs)).setCell (p := ⟨w.heap.size, 3, none⟩) (Nat.le_refl _) (.int .i64 Z.ha)
  go_wp2_with fail
  refine bodyPost_ret (v := .tuple #[.agg #[.int .i64 Z.ls, .int .i64 Z.la, .int .i64 Z.hs, .int .i64 Z.ha], .int .i64 (n : Int), .int .i64 E]) (by simp [results, Tryd.results18, go_sem, f1, f2, f3, f4]) rfl ?_
  exact ⟨rfl, hL4⟩
set_option maxRecDepth 100000 in
set_option maxHeartbeats 1000000 in
theorem rrdL_any (s : ByteArray) (w : World) (hs : s.size ≤ 10000) : Calls Tryd.prog 20 #[.string s] w fun e w' => e = .returned (rdV (rdB s.data.toList true)) ∧ Go.RowKit.Below w.heap.size w w' := by
  have HR := Lib.hid (fun W => rrd_true s W hs)
  generalize rdB s.data.toList true = R at *
  obtain ⟨Z, n, E⟩ := R
  have HR' : Hid (∀ W, Calls Tryd.prog 48 #[.string s, .bool true] W fun e w' => e = .returned (.tuple #[.agg #[.int .i64 Z.ls, .int .i64 Z.la, .int .i64 Z.hs, .int .i64 Z.ha], .int .i64 (n : Int), .int .i64 E]) ∧ Go.RowKit.Below W.heap.size W w') := HR.out
  have HB : Hid (Box4 (w.alloc (.cells #[.int .i64 0, .int .i64 0, .int .i64 0, .int .i64 0] 27)) w.heap.size z4) := heap_alloc_new _ _
  have hL := below_new w (.cells #[.int .i64 0, .int .i64 0, .int .i64 0, .int .i64 0] 27)
  go_enter Tryd.func20, Tryd.ntmps20
  go_wp2_with fail
  generalize w.alloc (.cells #[.int .i64 0, .int .i64 0, .int .i64 0, .int .i64 0] 27) = X at *
  refine (HR'.out _).mono ?_
  rintro e y ⟨rfl, hB1⟩
  have hL1 := bt hL hB1
  have HB1 := Lib.hid (HB.out.on hB1)
  obtain ⟨⟨d1, d2, d3, d4⟩, e1, e2, e3, e4⟩ := Box4.zero HB1.out
  obtain ⟨f1, f2, f3, f4⟩ := (box_put4 HB1.out Z).cells
  have hL4 := (((hL1.setCell (p := ⟨w.heap.size, 0, none⟩) (Nat.le_refl _) (.int .i64 Z.ls)).setCell (p := ⟨w.heap.size, 1, none⟩) (Nat.le_refl _) (.int .i64 Z.la)).setCell (p := ⟨w.heap.size, 2, none⟩) (Nat.le_refl _) (.int .i64 Z.hs)).setCell (p := ⟨w.heap.size, 3, none⟩) (Nat.le_refl _) (.int .i64 Z.ha)
  go_wp2_with fail
  refine bodyPost_ret (v := .tuple #[.agg #[.int .i64 Z.ls, .int .i64 Z.la, .int .i64 Z.hs, .int .i64 Z.ha], .int .i64 (n : Int), .int .i64 E]) (by simp [results, Tryd.results20, go_sem, f1, f2, f3, f4]) rfl ?_
  exact ⟨rfl, hL4⟩
/-- What is read strictly, and written again. -/
theorem rdP_same (l : List UInt8) (Z : S4) (n : Nat) (h : rdB l false = (Z, n, 0)) : (btext Z = l ↔ n = l.length) ∧ Z.ok := by
  obtain ⟨h1, h2, _, h3⟩ := rdB_is l Z n h
  refine ⟨⟨fun e => ?_, fun e => ?_⟩, h3⟩
  · rw [e] at h2
    have := congrArg List.length h2
    rw [List.length_take] at this
    omega
  · rw [← h2, e, List.take_length]
set_option maxRecDepth 100000 in
set_option maxHeartbeats 2000000 in
theorem rrdP_any (s : ByteArray) (w : World) (hs : s.size ≤ 10000) : Calls Tryd.prog 22 #[.string s] w fun e w' => e = .returned (.tuple #[vS (rdP s.data.toList).1, .int .i64 (rdP s.data.toList).2]) ∧ Go.RowKit.Below w.heap.size w w' := by
  have HR := Lib.hid (fun W => rrd_false s W hs)
  obtain ⟨V, hV⟩ : ∃ V, V = rdP s.data.toList := ⟨_, rfl⟩
  rw [← hV]
  unfold rdP at hV
  have HSM := Lib.hid (rdP_same s.data.toList)
  generalize rdB s.data.toList false = R at *
  obtain ⟨Z, n, E⟩ := R
  have HV : Hid (V = if E = 0 ∧ n ≠ s.data.toList.length then ((⟨0, 0, 0, 0⟩ : S4), 40) else (Z, E)) := hV
  clear hV
  have HR' : Hid (∀ W, Calls Tryd.prog 48 #[.string s, .bool false] W fun e w' => e = .returned (.tuple #[.agg #[.int .i64 Z.ls, .int .i64 Z.la, .int .i64 Z.hs, .int .i64 Z.ha], .int .i64 (n : Int), .int .i64 E]) ∧ Go.RowKit.Below W.heap.size W w') := HR.out
  have HB : Hid (Box4 (w.alloc (.cells #[.int .i64 0, .int .i64 0, .int .i64 0, .int .i64 0] 27)) w.heap.size z4) := heap_alloc_new _ _
  have hL := below_new w (.cells #[.int .i64 0, .int .i64 0, .int .i64 0, .int .i64 0] 27)
  go_enter Tryd.func22, Tryd.ntmps22
  go_wp2_with fail
  generalize w.alloc (.cells #[.int .i64 0, .int .i64 0, .int .i64 0, .int .i64 0] 27) = X at *
  refine (HR'.out _).mono ?_
  rintro e y ⟨rfl, hB1⟩
  have hA1 := bt hB1 (below_new y (.cells #[.int .i64 Z.ls, .int .i64 Z.la, .int .i64 Z.hs, .int .i64 Z.ha] 27))
  have hL1 := bt hL hA1
  have HB1 := Lib.hid (HB.out.on hA1)
  have HZ1 : Hid (Box4 (y.alloc (.cells #[.int .i64 Z.ls, .int .i64 Z.la, .int .i64 Z.hs, .int .i64 Z.ha] 27)) y.heap.size Z) := heap_alloc_new _ _
  clear hB1 hA1 hL HB HR HR'
  by_cases hE : E = 0
  · subst hE
    obtain ⟨hsm, hok⟩ := HSM.out Z n rfl
    have HTX := Lib.hid (fun W => rbtext_any Z W hok)
    have HSM' := Lib.hid hsm
    clear HSM hsm hok
    obtain ⟨c1, c2, c3, c4⟩ := HZ1.out.cells
    go_wp2_with fail
    generalize y.alloc (.cells #[.int .i64 Z.ls, .int .i64 Z.la, .int .i64 Z.hs, .int .i64 Z.ha] 27) = X1 at *
    generalize y.heap.size = N1 at *
    clear c1 c2 c3 c4
    refine (HTX.out _).mono ?_
    rintro e y2 ⟨rfl, hB2⟩
    have hL2 := bt hL1 hB2
    have HB2 := Lib.hid (HB1.out.on hB2)
    have HZ2 := Lib.hid (HZ1.out.on hB2)
    clear hB2 hL1 HB1 HZ1
    obtain ⟨c1, c2, c3, c4⟩ := HZ2.out.cells
    obtain ⟨⟨d1, d2, d3, d4⟩, e1, e2, e3, e4⟩ := Box4.zero HB2.out
    by_cases hn : n = s.data.toList.length
    · have HVE : Hid (V = (Z, 0)) := by
        show _ = _
        rw [HV.out, if_neg (fun h => h.2 hn)]
      have e0 : (⟨(btext Z).toArray⟩ : ByteArray) = s := by
        apply ByteArray.ext
        rw [HSM'.out.2 hn]
      rw [e0]
      obtain ⟨f1, f2, f3, f4⟩ := (box_put4 HB2.out Z).cells
      have hL4 := (((hL2.setCell (p := ⟨w.heap.size, 0, none⟩) (Nat.le_refl _) (.int .i64 Z.ls)).setCell (p := ⟨w.heap.size, 1, none⟩) (Nat.le_refl _) (.int .i64 Z.la)).setCell (p := ⟨w.heap.size, 2, none⟩) (Nat.le_refl _) (.int .i64 Z.hs)).setCell (p := ⟨w.heap.size, 3, none⟩) (Nat.le_refl _) (.int .i64 Z.ha)
      have t1 : (s.toList == s.toList) = true := beq_self_eq_true _
      have t2 : (s.toList != s.toList) = false := by simp
      clear hn HV HSM' e0 HTX
      go_wp2_with fail
      refine bodyPost_ret (v := .tuple #[.agg #[.int .i64 Z.ls, .int .i64 Z.la, .int .i64 Z.hs, .int .i64 Z.ha], .int .i64 0]) (by simp [results, Tryd.results22, go_sem, f1, f2, f3, f4]) rfl ?_
      refine ⟨?_, hL4⟩
      rw [HVE.out]
    · have HVE : Hid (V = ((⟨0, 0, 0, 0⟩ : S4), 40)) := by
        show _ = _
        rw [HV.out, if_pos ⟨by trivial, hn⟩]
      have t0 : ¬ (⟨(btext Z).toArray⟩ : ByteArray).toList = s.toList := by
        rw [ByteArray.toList_eq, ByteArray.toList_eq]
        exact fun h => hn (HSM'.out.1 (by simpa using h))
      generalize (⟨(btext Z).toArray⟩ : ByteArray) = T at *
      have t1 : (T.toList == s.toList) = false := beq_eq_false_iff_ne.2 t0
      have t2 : (T.toList != s.toList) = true := bne_iff_ne.2 t0
      obtain ⟨f1, f2, f3, f4⟩ := (box_put4 HB2.out ⟨0, 0, 0, 0⟩).cells
      dsimp only at f1 f2 f3 f4
      have hL4 := (((hL2.setCell (p := ⟨w.heap.size, 0, none⟩) (Nat.le_refl _) (.int .i64 0)).setCell (p := ⟨w.heap.size, 1, none⟩) (Nat.le_refl _) (.int .i64 0)).setCell (p := ⟨w.heap.size, 2, none⟩) (Nat.le_refl _) (.int .i64 0)).setCell (p := ⟨w.heap.size, 3, none⟩) (Nat.le_refl _) (.int .i64 0)
      clear hn HV HSM' t0 HTX
      go_wp2_with fail
      refine bodyPost_ret (v := .tuple #[.agg #[.int .i64 0, .int .i64 0, .int .i64 0, .int .i64 0], .int .i64 40]) (by simp [results, Tryd.results22, go_sem, f1, f2, f3, f4]) rfl ?_
      refine ⟨?_, hL4⟩
      rw [HVE.out]
  · have HVE : Hid (V = (Z, E)) := by
      show _ = _
      rw [HV.out, if_neg (fun h => hE h.1)]
    have tE : (E == 0) = false := beq_eq_false_iff_ne.2 hE
    obtain ⟨c1, c2, c3, c4⟩ := HZ1.out.cells
    obtain ⟨⟨d1, d2, d3, d4⟩, e1, e2, e3, e4⟩ := Box4.zero HB1.out
    obtain ⟨f1, f2, f3, f4⟩ := (box_put4 HB1.out Z).cells
    have hL4 := (((hL1.setCell (p := ⟨w.heap.size, 0, none⟩) (Nat.le_refl _) (.int .i64 Z.ls)).setCell (p := ⟨w.heap.size, 1, none⟩) (Nat.le_refl _) (.int .i64 Z.la)).setCell (p := ⟨w.heap.size, 2, none⟩) (Nat.le_refl _) (.int .i64 Z.hs)).setCell (p := ⟨w.heap.size, 3, none⟩) (Nat.le_refl _) (.int .i64 Z.ha)
    clear hE HV HSM
    go_wp2_with fail
    refine bodyPost_ret (v := .tuple #[.agg #[.int .i64 Z.ls, .int .i64 Z.la, .int .i64 Z.hs, .int .i64 Z.ha], .int .i64 E]) (by simp [results, Tryd.results22, go_sem, f1, f2, f3, f4]) rfl ?_
    refine ⟨?_, hL4⟩
    rw [HVE.out]
end Go.Proofs.YthojkbmffiibdaaDoor

/- The code's reader of bounds: its block; HasPrefix, TrimLeft, rest, take, number. -/
namespace Go.Proofs.YthojkbmffiibdaaDoor
open Go.RowKit Go.Sort Go.Proofs.YthojkbmffiibdaaDoor.Bo
set_option linter.unusedVariables false

/-- A reader's block. -/
abbrev rdO (t : ByteArray) (i : Int) (bl ro : Bool) (lk la hk ha sc : Int) : Obj := .cells #[.string t, .int .i64 i, .bool bl, .bool ro, .int .i64 lk, .int .i64 la, .int .i64 hk, .int .i64 ha, .int .i64 sc] 56
def RdAt (W : World) (b : Nat) (t : ByteArray) (i : Int) (bl ro : Bool) (lk la hk ha sc : Int) : Prop := W.heap[b]? = some (rdO t i bl ro lk la hk ha sc)
/-- All blocks but one stay as they were. -/
structure Keep (b : Nat) (W W' : World) : Prop where
  lo : Go.RowKit.Below b W W'
  hi : ∀ k, k < W.heap.size → k ≠ b → W'.heap[k]? = W.heap[k]?
theorem Keep.refl (b : Nat) (W : World) : Keep b W W := ⟨Go.RowKit.Below.refl _ _, fun _ _ _ => rfl⟩
theorem Keep.trans {b : Nat} {X Y Z : World} (h : Keep b X Y) (k : Keep b Y Z) : Keep b X Z := ⟨h.lo.trans k.lo, fun i hi hb => (k.hi i (Nat.lt_of_lt_of_le hi h.lo.size) hb).trans (h.hi i hi hb)⟩
theorem Keep.call {b : Nat} {X Y Z : World} (h : Keep b X Y) (hb : b < Y.heap.size) (k : Go.RowKit.Below Y.heap.size Y Z) : Keep b X Z := h.trans ⟨k.mono (Nat.le_of_lt hb), fun i hi _ => k.block i hi⟩
theorem Keep.put {b : Nat} {X Y : World} (h : Keep b X Y) (o : Nat) (v : Value) : Keep b X (Y.setCell ⟨b, o, none⟩ v) :=
  h.trans ⟨(Go.RowKit.Below.refl b Y).setCell (Nat.le_refl _) v, fun i _ hb => Go.RowKit.Below.heap_setCell _ _ _ _ hb⟩
theorem Keep.box {b c : Nat} {X Y : World} {o : Obj} (h : Keep b X Y) (hc : c ≠ b) (hx : X.heap[c]? = some o) : Y.heap[c]? = some o := (h.hi c (lt_of_block hx) hc).trans hx
/-- What is there, and what may be written. -/
theorem RdAt.cells {W : World} {b : Nat} {t : ByteArray} {i : Int} {bl ro : Bool} {lk la hk ha sc : Int} (h : RdAt W b t i bl ro lk la hk ha sc) :
    (W.cell? ⟨b, 0, none⟩ = some (.string t) ∧ W.cell? ⟨b, 1, none⟩ = some (.int .i64 i) ∧ W.cell? ⟨b, 2, none⟩ = some (.bool bl) ∧ W.cell? ⟨b, 3, none⟩ = some (.bool ro) ∧ W.cell? ⟨b, 4, none⟩ = some (.int .i64 lk) ∧ W.cell? ⟨b, 5, none⟩ = some (.int .i64 la) ∧ W.cell? ⟨b, 6, none⟩ = some (.int .i64 hk) ∧ W.cell? ⟨b, 7, none⟩ = some (.int .i64 ha) ∧ W.cell? ⟨b, 8, none⟩ = some (.int .i64 sc)) ∧ ∀ j, W.frozen? ⟨b, j, none⟩ = false :=
  ⟨⟨(cell_of_row _ _ 0 _ _ _ h).trans rfl, (cell_of_row _ _ 1 _ _ _ h).trans rfl, (cell_of_row _ _ 2 _ _ _ h).trans rfl, (cell_of_row _ _ 3 _ _ _ h).trans rfl, (cell_of_row _ _ 4 _ _ _ h).trans rfl, (cell_of_row _ _ 5 _ _ _ h).trans rfl, (cell_of_row _ _ 6 _ _ _ h).trans rfl, (cell_of_row _ _ 7 _ _ _ h).trans rfl, (cell_of_row _ _ 8 _ _ _ h).trans rfl⟩, fun j => frozen_of_row _ _ j _ _ h⟩
theorem RdAt.on {W W' : World} {b : Nat} {t : ByteArray} {i : Int} {bl ro : Bool} {lk la hk ha sc : Int} (h : RdAt W b t i bl ro lk la hk ha sc) (hb : Go.RowKit.Below W.heap.size W W') : RdAt W' b t i bl ro lk la hk ha sc := box_on h hb
theorem RdAt.lt {W : World} {b : Nat} {t : ByteArray} {i : Int} {bl ro : Bool} {lk la hk ha sc : Int} (h : RdAt W b t i bl ro lk la hk ha sc) : b < W.heap.size := lt_of_block h
theorem RdAt.putAt {W : World} {b : Nat} {t : ByteArray} {i : Int} {bl ro : Bool} {lk la hk ha sc : Int} (h : RdAt W b t i bl ro lk la hk ha sc) (j : Int) : RdAt (W.setCell ⟨b, 1, none⟩ (.int .i64 j)) b t j bl ro lk la hk ha sc := heap_setCell_same _ _ _ _ _ _ h
theorem RdAt.putRo {W : World} {b : Nat} {t : ByteArray} {i : Int} {bl ro : Bool} {lk la hk ha sc : Int} (h : RdAt W b t i bl ro lk la hk ha sc) (j : Bool) : RdAt (W.setCell ⟨b, 3, none⟩ (.bool j)) b t i bl j lk la hk ha sc := heap_setCell_same _ _ _ _ _ _ h
theorem RdAt.putSc {W : World} {b : Nat} {t : ByteArray} {i : Int} {bl ro : Bool} {lk la hk ha sc : Int} (h : RdAt W b t i bl ro lk la hk ha sc) (j : Int) : RdAt (W.setCell ⟨b, 8, none⟩ (.int .i64 j)) b t i bl ro lk la hk ha j := heap_setCell_same _ _ _ _ _ _ h
theorem RdAt.putHk {W : World} {b : Nat} {t : ByteArray} {i : Int} {bl ro : Bool} {lk la hk ha sc : Int} (h : RdAt W b t i bl ro lk la hk ha sc) (j : Int) : RdAt (W.setCell ⟨b, 6, none⟩ (.int .i64 j)) b t i bl ro lk la j ha sc := heap_setCell_same _ _ _ _ _ _ h
theorem RdAt.putLow {W : World} {b : Nat} {t : ByteArray} {i : Int} {bl ro : Bool} {lk la hk ha sc : Int} (h : RdAt W b t i bl ro lk la hk ha sc) (x y : Int) : RdAt ((W.setCell ⟨b, 4, none⟩ (.int .i64 x)).setCell ⟨b, 5, none⟩ (.int .i64 y)) b t i bl ro x y hk ha sc :=
  heap_setCell_same _ _ _ _ _ _ (heap_setCell_same _ _ _ _ _ _ h)
theorem RdAt.putHigh {W : World} {b : Nat} {t : ByteArray} {i : Int} {bl ro : Bool} {lk la hk ha sc : Int} (h : RdAt W b t i bl ro lk la hk ha sc) (x y : Int) : RdAt ((W.setCell ⟨b, 6, none⟩ (.int .i64 x)).setCell ⟨b, 7, none⟩ (.int .i64 y)) b t i bl ro lk la x y sc :=
  heap_setCell_same _ _ _ _ _ _ (heap_setCell_same _ _ _ _ _ _ h)

/-- strings.HasPrefix. -/
theorem hasp_any (s p : ByteArray) (w : World) (hp : p.size ≤ 100) (hs : s.size ≤ 100000) :
    Calls Tryd.prog 74 #[.string s, .string p] w fun e w' => e = .returned (.bool (hd s.data.toList p.data.toList)) ∧ Go.RowKit.Below w.heap.size w w' := by
  by_cases hlt : p.size ≤ s.size
  · have t0 : decide ((p.size : Int) ≤ (s.size : Int)) = true := decide_eq_true (by omega)
    have t1 : (p.size : Int).toNat = p.size := by omega
    have hD : ((s.extract 0 p.size).toList == p.toList) = hd s.data.toList p.data.toList := by
      rw [ByteArray.toList_eq, ByteArray.toList_eq]
      have : (s.extract 0 p.size).data.toList = s.data.toList.take p.data.toList.length := by rw [ext_list, size_list]; simp
      rw [this]
      unfold hd
      by_cases h : s.data.toList.take p.data.toList.length = p.data.toList
      · rw [decide_eq_true h, h]; exact beq_self_eq_true _
      · rw [decide_eq_false h]; exact beq_eq_false_iff_ne.2 h
    generalize hd s.data.toList p.data.toList = D at *
    go_enter Tryd.func74, Tryd.ntmps74
    go_wp2
    go_ret
    exact ⟨rfl, Go.RowKit.Below.refl _ _⟩
  · have t0 : decide ((p.size : Int) ≤ (s.size : Int)) = false := decide_eq_false (by omega)
    have hD : hd s.data.toList p.data.toList = false := by
      refine decide_eq_false fun h => ?_
      have := congrArg List.length h
      rw [List.length_take, size_list, size_list] at this
      omega
    rw [hD]
    clear hD
    go_enter Tryd.func74, Tryd.ntmps74
    go_wp2
    go_ret
    exact ⟨rfl, Go.RowKit.Below.refl _ _⟩
end Go.Proofs.YthojkbmffiibdaaDoor

/- The code's reader of bounds: TrimLeft at a blank, rest, take, number, skipBlanks. -/
namespace Go.Proofs.YthojkbmffiibdaaDoor
open Go.RowKit Go.Sort Go.Proofs.YthojkbmffiibdaaDoor.Bo
set_option linter.unusedVariables false

def strSz : Value → Nat | .string b => b.size | _ => 0
theorem bk_step (r : ByteArray) (h : 0 < r.size) (h2 : r[0] = 32) : bk true r.data.toList = 1 + bk true (r.extract 1 r.size).data.toList := by
  have e : r.data.toList = 32 :: (r.extract 1 r.size).data.toList := by
    rw [ext_list]
    have hl : 0 < r.data.toList.length := by rw [size_list]; exact h
    have := List.drop_eq_getElem_cons hl
    rw [List.drop_zero, bytes_at r 0 h, h2] at this
    rw [this]
    congr 1
    rw [List.take_of_length_le]
    · rw [← this]
    · rw [List.length_drop, ← this, size_list]; omega
  rw [e]
  unfold bk
  simp
  omega
theorem bk_stop (r : ByteArray) (h : r.size = 0 ∨ ∃ h : 0 < r.size, r[0] ≠ 32) : bk true r.data.toList = 0 := by
  rcases h with h | ⟨h, h2⟩
  · have : r.data.toList = [] := by rw [← List.length_eq_zero_iff, size_list]; exact h
    rw [this]; rfl
  · have hl : 0 < r.data.toList.length := by rw [size_list]; exact h
    have := List.drop_eq_getElem_cons hl
    rw [List.drop_zero, bytes_at r 0 h] at this
    rw [this]
    exact bk_none true _ _ h2
set_option maxRecDepth 100000 in
set_option maxHeartbeats 1000000 in
theorem triml_any (s : ByteArray) (w : World) (hs : s.size ≤ 100000) :
    Calls Tryd.prog 81 #[.string s, .int .u8 32] w fun e w' => (∃ r : ByteArray, e = .returned (.string r) ∧ r.size = s.size - bk true s.data.toList) ∧ Go.RowKit.Below w.heap.size w w' := by
  have HS := Lib.hid hs
  go_enter Tryd.func81, Tryd.ntmps81
  go_wp2_with fail
  go_loopw [0] (fun s' wr => ∃ r : ByteArray, s' = .string r ∧ (r.size ≤ s.size ∧ s.size - bk true s.data.toList = r.size - bk true r.data.toList) ∧ Go.RowKit.Below w.heap.size w wr) (fun s' _ => strSz s')
  case atStart => exact ⟨s, rfl, ⟨Nat.le_refl _, rfl⟩, Go.RowKit.Below.refl _ _⟩
  case round =>
    obtain ⟨r, rfl, ⟨h1, h2⟩, hBr⟩ := hrel
    have H2 := Lib.hid h2
    have hs' := HS.out
    clear h2
    by_cases h0 : 0 < r.size
    · by_cases hc : r[0] = 32
      · have t1 : ((r[0].toNat : Int) == 32) = true := by rw [hc]; rfl
        have HK := Lib.hid (bk_step r h0 hc)
        have HC := Lib.hid hc
        have hle := bk_le true r.data.toList
        rw [size_list] at hle
        clear hc
        go_wp2_with fail
        go_roundw
        case rel =>
          refine ⟨_, rfl, ⟨?_, ?_⟩, hBr⟩
          · simp; omega
          · rw [H2.out, HK.out]; simp; omega
        case measure => simp [strSz]; omega
      · have t1 : ((r[0].toNat : Int) == 32) = false := by
          refine beq_eq_false_iff_ne.2 fun h => hc ?_
          have h3 : r[0].toNat = 32 := by omega
          exact UInt8.toNat_inj.1 h3
        have HK := Lib.hid (bk_stop r (.inr ⟨h0, hc⟩))
        clear hc
        go_wp2_with fail
        go_ret
        exact ⟨⟨r, rfl, by rw [H2.out, HK.out]; rfl⟩, hBr⟩
    · have HK := Lib.hid (bk_stop r (.inl (by omega)))
      have t0 : r.size = 0 := by omega
      go_wp2_with fail
      go_ret
      exact ⟨⟨r, rfl, by rw [H2.out, HK.out]; omega⟩, hBr⟩
end Go.Proofs.YthojkbmffiibdaaDoor

/- The code's reader of bounds: TrimLeft at a blank, rest, take, number, skipBlanks. -/
namespace Go.Proofs.YthojkbmffiibdaaDoor
open Go.RowKit Go.Sort Go.Proofs.YthojkbmffiibdaaDoor.Bo
set_option linter.unusedVariables false

def TrPost (n : Nat) (w : World) (e : Ending) (w' : World) : Prop := (∃ r : ByteArray, e = .returned (.string r) ∧ r.size = n) ∧ Go.RowKit.Below w.heap.size w w'
set_option maxRecDepth 100000 in
set_option maxHeartbeats 1000000 in
theorem trim_any (s : ByteArray) (w : World) (hs : s.size ≤ 100000) :
    Calls Tryd.prog 72 #[.string s, .string ⟨#[32]⟩] w (TrPost (s.size - bk true s.data.toList) w) := by
  have HT := Lib.hid (fun W => triml_any s W hs)
  have t2 : ((⟨#[32]⟩ : ByteArray).toList == (⟨#[]⟩ : ByteArray).toList) = false := by rw [ByteArray.toList_eq, ByteArray.toList_eq]; rfl
  by_cases h : s.size = 0
  · obtain rfl : s = ⟨#[]⟩ := by
      apply ByteArray.ext
      exact Array.eq_empty_of_size_eq_zero h
    have t0 : ((⟨#[]⟩ : ByteArray).toList == (⟨#[]⟩ : ByteArray).toList) = true := beq_self_eq_true _
    clear h
    go_enter Tryd.func72, Tryd.ntmps72
    go_wp2_with fail
    go_ret
    exact ⟨⟨_, rfl, rfl⟩, Go.RowKit.Below.refl _ _⟩
  · have t0 : (s.toList == (⟨#[]⟩ : ByteArray).toList) = false := by
      refine beq_eq_false_iff_ne.2 fun h2 => h ?_
      rw [ByteArray.toList_eq] at h2
      have := congrArg List.length h2
      rw [size_list] at this
      simpa using this
    have t3 : ¬ s.toList = [] := fun h2 => h (by rw [ByteArray.toList_eq] at h2; have := congrArg List.length h2; rw [size_list] at this; simpa using this)
    have t4 : s.toList.isEmpty = false := by simpa using t3
    go_enter Tryd.func72, Tryd.ntmps72
    go_wp2_with fail
    refine (HT.out _).mono ?_
    rintro e y ⟨⟨r, rfl, hr⟩, hB⟩
    have HR := Lib.hid hr
    clear hr
    go_wp2_with fail
    go_ret
    exact ⟨⟨r, rfl, HR.out⟩, hB⟩
theorem RdAt.re {W : World} {b : Nat} {t : ByteArray} {i : Int} {bl ro : Bool} {lk la hk ha sc : Int} (h : RdAt W b t i bl ro lk la hk ha sc) :
    (∀ d os, (grow (redrawn W d) os).cell? ⟨b, 0, none⟩ = some (.string t)) ∧ (∀ d os, (grow (redrawn W d) os).cell? ⟨b, 1, none⟩ = some (.int .i64 i)) ∧ (∀ d os, (grow (redrawn W d) os).cell? ⟨b, 3, none⟩ = some (.bool ro)) :=
  ⟨cell_regrown h.cells.1.1, cell_regrown h.cells.1.2.1, cell_regrown h.cells.1.2.2.2.1⟩
set_option maxRecDepth 100000 in
set_option maxHeartbeats 1000000 in
theorem rest_any (W : World) (b : Nat) (t : ByteArray) (i : Nat) (bl ro : Bool) (lk la hk ha sc : Int) (hR : RdAt W b t (i : Int) bl ro lk la hk ha sc) (hi : i ≤ t.size) (ht : t.size ≤ 100000) :
    Calls Tryd.prog 62 #[.pointer (some ⟨b, 0, none⟩)] W fun e w' => e = .returned (.string (t.extract i t.size)) ∧ Go.RowKit.Below W.heap.size W w' := by
  have mx := mixed
  obtain ⟨p1, p2, _⟩ := hR.re
  clear hR
  go_enter Tryd.func62, Tryd.ntmps62
  go_wp2_with fail
  refine wp_region_quiet_below (by assumption) (by kernel_rfl) ?_
  repeat (go_big_quiet_step (fail))
  refine wpQuiet_nil ?_
  intro _ hw'
  obtain ⟨⟨nq, osq⟩, hw''⟩ := hw'
  subst hw''
  have hL := below_regrown W nq osq
  go_wp2_with fail
  go_ret
  exact ⟨rfl, hL⟩
def tkN (B : Bool) (n : Nat) : Nat := if B = true then n else 0
/-- What a step answers, and leaves. -/
def RdPost (b : Nat) (B : Bool) (t : ByteArray) (i : Nat) (bl ro : Bool) (lk la hk ha sc : Int) (W : World) (e : Ending) (W' : World) : Prop :=
  e = .returned (.bool B) ∧ RdAt W' b t (i : Int) bl ro lk la hk ha sc ∧ Keep b W W'
theorem rest_list (t : ByteArray) (i : Nat) (hi : i ≤ t.size) : (t.extract i t.size).data.toList = t.data.toList.drop i ∧ (t.extract i t.size).size = t.size - i := by
  refine ⟨?_, by simp⟩
  rw [ext_list, List.take_of_length_le]
  rw [List.length_drop, size_list]
  omega
set_option maxRecDepth 100000 in
set_option maxHeartbeats 1000000 in
theorem take_any (W : World) (b : Nat) (t p : ByteArray) (i : Nat) (bl ro : Bool) (lk la hk ha sc : Int) (B : Bool) (hB : hd (t.data.toList.drop i) p.data.toList = B) (hR : RdAt W b t (i : Int) bl ro lk la hk ha sc) (hi : i ≤ t.size) (ht : t.size ≤ 100000) (hp : p.size ≤ 100) :
    Calls Tryd.prog 60 #[.pointer (some ⟨b, 0, none⟩), .string p] W (RdPost b B t (i + tkN B p.size) bl ro lk la hk ha sc W) := by
  have HRS := Lib.hid (rest_any W b t i bl ro lk la hk ha sc hR hi ht)
  obtain ⟨e1, e2⟩ := rest_list t i hi
  have HHP := Lib.hid (fun W => hasp_any (t.extract i t.size) p W hp (by omega))
  rw [e1, hB] at HHP
  clear e1 e2
  have HR := Lib.hid hR
  clear hR hB
  go_enter Tryd.func60, Tryd.ntmps60
  go_wp2_with fail
  refine HRS.out.mono ?_
  rintro e Y1 ⟨rfl, hB1⟩
  have HR1 := Lib.hid (HR.out.on hB1)
  have HK1 := Lib.hid ((Keep.refl b W).call HR.out.lt hB1)
  clear hB1
  generalize t.extract i t.size = tr at *
  go_wp2_with fail
  refine (HHP.out _).mono ?_
  rintro e Y2 ⟨rfl, hB2⟩
  have HR2 := Lib.hid (HR1.out.on hB2)
  have HK2 := Lib.hid (HK1.out.call HR1.out.lt hB2)
  clear hB2 HR1 HK1 HR HRS HHP
  cases B with
  | false =>
    go_wp2_with fail
    go_ret
    exact ⟨rfl, HR2.out, HK2.out⟩
  | true =>
    obtain ⟨⟨c0, c1, _, _, _, _, _, _, _⟩, hfz⟩ := HR2.out.cells
    have f1 := hfz 1
    clear hfz
    have hj : ((i + tkN true p.size : Nat) : Int) = (i : Int) + (p.size : Int) := by unfold tkN; simp
    have HRP := Lib.hid (HR2.out.putAt ((i : Int) + (p.size : Int)))
    have HKP := Lib.hid (HK2.out.put 1 (.int .i64 ((i : Int) + (p.size : Int))))
    have HJ := Lib.hid hj
    clear hj
    go_wp2_with fail
    go_ret
    refine ⟨rfl, ?_, HKP.out⟩
    rw [HJ.out]
    exact HRP.out
set_option maxRecDepth 100000 in
set_option maxHeartbeats 1000000 in
theorem num_any (W : World) (b : Nat) (t : ByteArray) (i : Nat) (bl ro : Bool) (lk la hk ha sc : Int) (z : Int) (n : Nat) (hz : rdAll (t.data.toList.drop i) = (z, n)) (hR : RdAt W b t (i : Int) bl ro lk la hk ha sc) (hi : i ≤ t.size) (ht : t.size ≤ 100000) :
    Calls Tryd.prog 66 #[.pointer (some ⟨b, 0, none⟩)] W fun e W' => e = .returned (.tuple #[.int .i64 z, .bool (decide (0 < n))]) ∧ RdAt W' b t ((i + n : Nat) : Int) bl ro lk la hk ha sc ∧ Keep b W W' := by
  have HRS := Lib.hid (rest_any W b t i bl ro lk la hk ha sc hR hi ht)
  obtain ⟨e1, e2⟩ := rest_list t i hi
  have HSR := Lib.hid (fun W => read_any (t.extract i t.size) W (by unfold maxLen; omega))
  rw [e1, hz] at HSR
  have hn := (rdAll_bounds (t.data.toList.drop i)).2
  rw [hz, List.length_drop, size_list] at hn
  dsimp only at hn
  clear e1 e2
  have HR := Lib.hid hR
  clear hR hz
  have HSR' : Hid (∀ W, Calls Tryd.prog 75 #[.string (t.extract i t.size)] W fun e w' => e = .returned (.tuple #[.int .i64 z, .int .i64 (n : Int)]) ∧ Go.RowKit.Below W.heap.size W w') := HSR.out
  clear HSR
  go_enter Tryd.func66, Tryd.ntmps66
  go_wp2_with fail
  refine HRS.out.mono ?_
  rintro e Y1 ⟨rfl, hB1⟩
  have HR1 := Lib.hid (HR.out.on hB1)
  have HK1 := Lib.hid ((Keep.refl b W).call HR.out.lt hB1)
  clear hB1
  generalize t.extract i t.size = tr at *
  go_wp2_with fail
  refine (HSR'.out _).mono ?_
  rintro e Y2 ⟨rfl, hB2⟩
  have HR2 := Lib.hid (HR1.out.on hB2)
  have HK2 := Lib.hid (HK1.out.call HR1.out.lt hB2)
  clear hB2 HR1 HK1 HR HRS HSR'
  obtain ⟨⟨c0, c1, _, _, _, _, _, _, _⟩, hfz⟩ := HR2.out.cells
  have f1 := hfz 1
  clear hfz
  have hj : ((i + n : Nat) : Int) = (i : Int) + (n : Int) := by omega
  have HRP := Lib.hid (HR2.out.putAt ((i : Int) + (n : Int)))
  have HKP := Lib.hid (HK2.out.put 1 (.int .i64 ((i : Int) + (n : Int))))
  have HJ := Lib.hid hj
  have HN : Hid (decide (0 < (n : Int)) = decide (0 < n)) := by
    show _ = _
    by_cases h : 0 < n
    · rw [decide_eq_true h, decide_eq_true (by omega)]
    · rw [decide_eq_false h, decide_eq_false (by omega)]
  clear hj
  go_wp2_with fail
  go_ret2
  refine ⟨?_, ?_, HKP.out⟩
  · rw [← HN.out]; rfl
  · rw [HJ.out]
    exact HRP.out
end Go.Proofs.YthojkbmffiibdaaDoor
