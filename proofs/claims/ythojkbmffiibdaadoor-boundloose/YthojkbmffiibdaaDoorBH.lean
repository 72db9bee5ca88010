/- A part of the proof: contracts of the functions that the statements reach. -/
import Derived.Test.YthojkbmffiibdaaDoorRows
import Derived.Test.YthojkbmffiibdaaDoorBA
import Derived.Test.YthojkbmffiibdaaDoorBB
import Derived.Test.YthojkbmffiibdaaDoorBC
import Derived.Test.YthojkbmffiibdaaDoorBD
import Derived.Test.YthojkbmffiibdaaDoorBE
import Derived.Test.YthojkbmffiibdaaDoorBF
import Derived.Test.YthojkbmffiibdaaDoorBG

/- Contract of the reference's read, told loosely. -/
namespace Go.Proofs.YthojkbmffiibdaaDoor
open Go.RowKit Go.Sort Go.Proofs.YthojkbmffiibdaaDoor.Bo
set_option linter.unusedVariables false

set_option maxRecDepth 100000 in
set_option maxHeartbeats 8000000 in
theorem rrd_true (s : ByteArray) (w : World) (hs : s.size ≤ 10000) : Calls Tryd.prog 48 #[.string s, .bool true] w fun e w' => e = .returned (rdV (rdB s.data.toList true)) ∧ Go.RowKit.Below w.heap.size w w' := by
  have hsl := size_list s
  have HI0 : Hid (∀ W, Calls Tryd.prog 63 #[.string s, .int .i64 0, .string ⟨#[40]⟩] W fun e w' => e = .returned (.bool (hd s.data.toList [40])) ∧ Go.RowKit.Below W.heap.size W w') := fun W => ris_any s 0 ⟨#[40]⟩ W (by omega) (by omega) (by decide)
  have HI1 : Hid (∀ W, Calls Tryd.prog 63 #[.string s, .int .i64 0, .string ⟨#[91]⟩] W fun e w' => e = .returned (.bool (hd s.data.toList [91])) ∧ Go.RowKit.Below W.heap.size W w') := fun W => ris_any s 0 ⟨#[91]⟩ W (by omega) (by omega) (by decide)
  have HIS : Hid (∀ (j : Nat) (c : UInt8) (W : World), j ≤ s.size → Calls Tryd.prog 63 #[.string s, .int .i64 (j : Int), .string ⟨#[c]⟩] W fun e w' => e = .returned (.bool (hd (s.data.toList.drop j) [c])) ∧ Go.RowKit.Below W.heap.size W w') := fun j c W hj => ris_any s j ⟨#[c]⟩ W hj (by omega) (by show (1 : Nat) ≤ 100; decide)
  have HIN : Hid (∀ (j : Nat) (W : World), j ≤ s.size → Calls Tryd.prog 63 #[.string s, .int .i64 (j : Int), .string ⟨#[45, 105, 110, 102]⟩] W fun e w' => e = .returned (.bool (hd (s.data.toList.drop j) ninf)) ∧ Go.RowKit.Below W.heap.size W w') := fun j W hj => ris_any s j ⟨#[45, 105, 110, 102]⟩ W hj (by omega) (by decide)
  have HBK : Hid (∀ (j : Nat) (W : World), j ≤ s.size → Calls Tryd.prog 64 #[.string s, .int .i64 (j : Int), .bool true] W fun e w' => e = .returned (.int .i64 ((j + bk true (s.data.toList.drop j) : Nat) : Int)) ∧ Go.RowKit.Below W.heap.size W w') := fun j W hj => rblanks_any s j true W hj (by omega)
  have HEN : Hid (∀ (j : Nat) (W : World), j ≤ s.size → Calls Tryd.prog 65 #[.string s, .int .i64 (j : Int), .string ⟨#[45, 105, 110, 102]⟩, .bool true] W fun e w' => e = .returned (enV j (en true ninf (s.data.toList.drop j))) ∧ Go.RowKit.Below W.heap.size W w') := fun j W hj => rend_any s j ⟨#[45, 105, 110, 102]⟩ true W hj hs rfl
  have HEP : Hid (∀ (j : Nat) (W : World), j ≤ s.size → Calls Tryd.prog 65 #[.string s, .int .i64 (j : Int), .string ⟨#[43, 105, 110, 102]⟩, .bool true] W fun e w' => e = .returned (enV j (en true pinf (s.data.toList.drop j))) ∧ Go.RowKit.Below W.heap.size W w') := fun j W hj => rend_any s j ⟨#[43, 105, 110, 102]⟩ true W hj hs rfl
  have HSP := Lib.hid rspan_any
  have HX0 := Lib.hid (Rd2.new w)
  obtain ⟨EV, hEV⟩ : ∃ EV, EV = rdV (rdB s.data.toList true) := ⟨_, rfl⟩
  rw [← hEV]
  have HEV0 := Lib.hid hEV
  have HDL : Hid (∀ j : Nat, (s.data.toList.drop j).length = s.size - j) := fun j => by rw [List.length_drop, hsl]
  clear hEV
  generalize s.data.toList = l at *
  clear hsl
  go_enter Tryd.func48, Tryd.ntmps48
  go_wp2_with fail
  generalize ((w.alloc (.cells #[.int .i64 0, .int .i64 0, .int .i64 0, .int .i64 0] 27)).alloc (.cells #[.int .i64 0, .int .i64 0, .int .i64 0, .int .i64 0] 27)) = X0 at *
  refine (HI0.out _).mono ?_
  rintro e y1 ⟨rfl, hB1⟩
  have HX1 := Lib.hid (HX0.out.on hB1)
  have HH1 : Hid (∀ c, hd l [c] = true → 1 ≤ s.size) := fun c h => by have := hd_len _ _ h; have h2 := HDL.out 0; simp at h2 this; omega
  obtain ⟨O, hO⟩ : ∃ O, hd l [40] = O := ⟨_, rfl⟩
  obtain ⟨Q, hQ⟩ : ∃ Q, hd l [91] = Q := ⟨_, rfl⟩
  rw [hO]
  rw [hQ] at HI1
  have HO := Lib.hid hO
  have HQ := Lib.hid hQ
  clear hO hQ HX0 hB1 HI0
  go_upto_region 3 with fail
  go_cut [27] from 21 to 27 (fun c wx => c = .bool (!O && !Q) ∧ Rd2 w wx)
  case first =>
    cases O with
    | true =>
      go_wp2_with fail
      go_meet
      exact ⟨rfl, HX1.out⟩
    | false =>
      go_wp2_with fail
      refine (HI1.out _).mono ?_
      rintro e y2 ⟨rfl, hB2⟩
      have HX2 := Lib.hid (HX1.out.on hB2)
      go_wp2_with fail
      go_meet
      exact ⟨by cases Q <;> rfl, HX2.out⟩
  case rest =>
  obtain ⟨rfl, hX2⟩ := hcut
  have HX2 := Lib.hid hX2
  clear hX2 HX1 HI1
  generalize wc = y2 at *
  obtain ⟨C0, hC0⟩ : ∃ C0, (!O && !Q) = C0 := ⟨_, rfl⟩
  rw [hC0]
  have HC0 := Lib.hid hC0
  clear hC0
  cases C0 with
  | true =>
    have HEV : Hid (EV = rdV ((⟨0, 0, 0, 0⟩ : S4), 0, 40)) := by
      show _ = _
      rw [HEV0.out, rdB_no]
      have := HC0.out
      rw [HO.out, HQ.out]
      revert this; cases O <;> cases Q <;> decide
    obtain ⟨⟨d1, d2, d3, d4⟩, e1, e2, e3, e4⟩ := Box4.zero HX2.out.re
    obtain ⟨⟨g1, g2, g3, g4⟩, _, _, _, _⟩ := Box4.zero HX2.out.no
    obtain ⟨f1, f2, f3, f4⟩ := (box_put4 HX2.out.re ⟨0, 0, 0, 0⟩).cells
    dsimp only at f1 f2 f3 f4
    have hL4 := (((HX2.out.be.setCell (p := ⟨w.heap.size, 0, none⟩) (Nat.le_refl _) (.int .i64 0)).setCell (p := ⟨w.heap.size, 1, none⟩) (Nat.le_refl _) (.int .i64 0)).setCell (p := ⟨w.heap.size, 2, none⟩) (Nat.le_refl _) (.int .i64 0)).setCell (p := ⟨w.heap.size, 3, none⟩) (Nat.le_refl _) (.int .i64 0)
    go_wp2_with fail
    refine bodyPost_ret (v := .tuple #[.agg #[.int .i64 0, .int .i64 0, .int .i64 0, .int .i64 0], .int .i64 0, .int .i64 40]) (by simp [results, Tryd.results48, go_sem, f1, f2, f3, f4]) rfl ?_
    refine ⟨?_, hL4⟩
    rw [HEV.out]
    rfl
  | false =>
    have HOQ : Hid ((hd l [40] || hd l [91]) = true) := by
      show _ = _
      have := HC0.out
      rw [HO.out, HQ.out]
      revert this; cases O <;> cases Q <;> decide
    have h1s : 1 ≤ s.size := by
      have := HOQ.out
      by_cases c : hd l [40] = true
      · exact HH1.out _ c
      · have c' : hd l [40] = false := by simpa using c
        rw [c', Bool.false_or] at this
        exact HH1.out _ this
    clear HC0 HH1
    have HB1' : Hid (∀ W, Calls Tryd.prog 64 #[.string s, .int .i64 1, .bool true] W fun e w' => e = .returned (.int .i64 ((1 + bk true (l.drop 1) : Nat) : Int)) ∧ Go.RowKit.Below W.heap.size W w') := fun W => HBK.out 1 W h1s
    have hle1 : 1 + bk true (l.drop 1) ≤ s.size := by have := bk_le true (l.drop 1); rw [HDL.out] at this; omega
    obtain ⟨a1, ha1⟩ : ∃ a1, 1 + bk true (l.drop 1) = a1 := ⟨_, rfl⟩
    rw [ha1] at HB1' hle1
    have HEV1 : Hid (EV = rdV (rdC l true a1)) := by
      show _ = _
      rw [HEV0.out, rdB_yes l true a1 HOQ.out ha1]
    clear HEV0 HOQ ha1
    go_wp2_with fail
    refine (HB1'.out _).mono ?_
    rintro e y3 ⟨rfl, hB3⟩
    have HX3 := Lib.hid (HX2.out.on hB3)
    clear hB3 HX2 HB1'
    have HE1 := Lib.hid (fun W => HEN.out a1 W hle1)
    obtain ⟨E1, hE1⟩ : ∃ E1, en true ninf (l.drop a1) = E1 := ⟨_, rfl⟩
    rw [hE1] at HE1
    have HE1' := Lib.hid hE1
    clear hE1
    have HN1 := Lib.hid (fun W => HIN.out a1 W hle1)
    obtain ⟨N1, hN1⟩ : ∃ N1, hd (l.drop a1) ninf = N1 := ⟨_, rfl⟩
    rw [hN1] at HN1
    have HN1' := Lib.hid hN1
    clear hN1
    cases E1 with
    | none =>
      have HV1 : Hid (∀ W, Calls Tryd.prog 65 #[.string s, .int .i64 (a1 : Int), .string ⟨#[45, 105, 110, 102]⟩, .bool true] W fun e w' => e = .returned (.tuple #[.agg #[.int .i64 0, .int .i64 0], .int .i64 (-1)]) ∧ Go.RowKit.Below W.heap.size W w') := HE1.out
      go_wp2_with fail
      refine (HV1.out _).mono ?_
      rintro e y4 ⟨rfl, hB4⟩
      have hA4 := bt hB4 (below_new y4 (bB 0 0))
      have HX4 := Lib.hid (HX3.out.on hA4)
      have HL4 : Hid ((y4.alloc (bB 0 0)).heap[y4.heap.size]? = some (bB 0 0)) := heap_alloc_new _ _
      have hN4 : w.heap.size + 2 ≤ y4.heap.size := (HX3.out.on hB4).lt
      clear hB4 hA4 HX3 HV1 HE1
      clear HN1
      have HEV : Hid (EV = rdV ((⟨0, 0, 0, 0⟩ : S4), a1, 40)) := by
        show _ = _
        rw [HEV1.out, rdC_no]
        unfold en1
        rw [if_neg (by simp)]
        exact HE1'.out
      obtain ⟨⟨d1, d2, d3, d4⟩, e1, e2, e3, e4⟩ := Box4.zero HX4.out.re
      obtain ⟨⟨g1, g2, g3, g4⟩, _, _, _, _⟩ := Box4.zero HX4.out.no
      obtain ⟨f1, f2, f3, f4⟩ := (box_put4 HX4.out.re ⟨0, 0, 0, 0⟩).cells
      dsimp only at f1 f2 f3 f4
      have hL4 := (((HX4.out.be.setCell (p := ⟨w.heap.size, 0, none⟩) (Nat.le_refl _) (.int .i64 0)).setCell (p := ⟨w.heap.size, 1, none⟩) (Nat.le_refl _) (.int .i64 0)).setCell (p := ⟨w.heap.size, 2, none⟩) (Nat.le_refl _) (.int .i64 0)).setCell (p := ⟨w.heap.size, 3, none⟩) (Nat.le_refl _) (.int .i64 0)
      go_wp2_with fail
      refine bodyPost_ret (v := .tuple #[.agg #[.int .i64 0, .int .i64 0, .int .i64 0, .int .i64 0], .int .i64 (a1 : Int), .int .i64 40]) (by simp [results, Tryd.results48, go_sem, f1, f2, f3, f4]) rfl ?_
      refine ⟨?_, hL4⟩
      rw [HEV.out]
      rfl
    | some p =>
      obtain ⟨b, n⟩ := p
      cases b with
      | none =>
        have hle2 : a1 + n ≤ s.size := by have := (en_le true ninf _ rfl _ _ HE1'.out).1; rw [HDL.out] at this; omega
        obtain ⟨nx, hnx⟩ : ∃ nx, a1 + n = nx := ⟨_, rfl⟩
        have HV1 : Hid (∀ W, Calls Tryd.prog 65 #[.string s, .int .i64 (a1 : Int), .string ⟨#[45, 105, 110, 102]⟩, .bool true] W fun e w' => e = .returned (.tuple #[.agg #[.int .i64 0, .int .i64 0], .int .i64 (nx : Int)]) ∧ Go.RowKit.Below W.heap.size W w') := by rw [← hnx]; exact HE1.out
        rw [hnx] at hle2
        go_wp2_with fail
        refine (HV1.out _).mono ?_
        rintro e y4 ⟨rfl, hB4⟩
        have hA4 := bt hB4 (below_new y4 (bB 0 0))
        have HX4 := Lib.hid (HX3.out.on hA4)
        have HL4 : Hid ((y4.alloc (bB 0 0)).heap[y4.heap.size]? = some (bB 0 0)) := heap_alloc_new _ _
        have hN4 : w.heap.size + 2 ≤ y4.heap.size := (HX3.out.on hB4).lt
        clear hB4 hA4 HX3 HV1 HE1
        clear HN1
        have HEN1 : Hid (en1 true (hd l [40]) (l.drop a1) = some (none, n)) := by
          show _ = _
          unfold en1
          rw [if_neg (by simp)]
          exact HE1'.out
        go_upto_region 11 with fail
        generalize y4.alloc (bB 0 0) = y5 at *
        generalize y4.heap.size = P4 at *
        have HX5 := HX4
        have HL5 := HL4
        clear HX4 HL4
        have HBN := Lib.hid (bnum_i64 true ninf _ none n HE1'.out)
        obtain ⟨a2, ha2⟩ : ∃ a2, nx + bk true (l.drop nx) = a2 := ⟨_, rfl⟩
        have hle3 : a2 ≤ s.size := by have := bk_le true (l.drop nx); rw [HDL.out] at this; omega
        have HEV2 : Hid (EV = rdV (rdD l true a2 none)) := by
          show _ = _
          rw [HEV1.out, rdC_yes l true a1 a2 n _ HEN1.out (by rw [hnx]; exact ha2)]
        have HB2' := Lib.hid (fun W => HBK.out nx W hle2)
        rw [ha2] at HB2'
        clear HEV1 HEN1 HE1' HN1' ha2 hnx
        obtain ⟨l1, l2, l3, l4⟩ := two_cells HL5.out
        go_wp2_with fail
        have HX6 := HX5
        have HL6 := HL5
        clear HX5 HL5 l1 l2 l3 l4
        generalize y5 = y6 at *
        refine (HB2'.out _).mono ?_
        rintro e y7 ⟨rfl, hB7⟩
        have HX7 := Lib.hid (HX6.out.on hB7)
        have HL7 := Lib.hid (box_on HL6.out hB7)
        clear hB7 HX6 HL6 HB2'
        have HI3 := Lib.hid (fun W => HIS.out a2 44 W hle3)
        obtain ⟨M, hM⟩ : ∃ M, hd (l.drop a2) [44] = M := ⟨_, rfl⟩
        rw [hM] at HI3
        have HM := Lib.hid hM
        clear hM
        go_wp2_with fail
        refine (HI3.out _).mono ?_
        rintro e y8 ⟨rfl, hB8⟩
        have HX8 := Lib.hid (HX7.out.on hB8)
        have HL8 := Lib.hid (box_on HL7.out hB8)
        clear hB8 HX7 HL7 HI3
        cases M with
        | false =>
          have HEV : Hid (EV = rdV ((⟨0, 0, 0, 0⟩ : S4), a2, 40)) := by
            show _ = _
            rw [HEV2.out, rdD_no l _ _ _ HM.out]
          obtain ⟨⟨d1, d2, d3, d4⟩, e1, e2, e3, e4⟩ := Box4.zero HX8.out.re
          obtain ⟨⟨g1, g2, g3, g4⟩, _, _, _, _⟩ := Box4.zero HX8.out.no
          obtain ⟨f1, f2, f3, f4⟩ := (box_put4 HX8.out.re ⟨0, 0, 0, 0⟩).cells
          dsimp only at f1 f2 f3 f4
          have hL4 := (((HX8.out.be.setCell (p := ⟨w.heap.size, 0, none⟩) (Nat.le_refl _) (.int .i64 0)).setCell (p := ⟨w.heap.size, 1, none⟩) (Nat.le_refl _) (.int .i64 0)).setCell (p := ⟨w.heap.size, 2, none⟩) (Nat.le_refl _) (.int .i64 0)).setCell (p := ⟨w.heap.size, 3, none⟩) (Nat.le_refl _) (.int .i64 0)
          go_wp2_with fail
          refine bodyPost_ret (v := .tuple #[.agg #[.int .i64 0, .int .i64 0, .int .i64 0, .int .i64 0], .int .i64 (a2 : Int), .int .i64 40]) (by simp [results, Tryd.results48, go_sem, f1, f2, f3, f4]) rfl ?_
          refine ⟨?_, hL4⟩
          rw [HEV.out]
          rfl
        | true =>
          have hlt2 : a2 + 1 ≤ s.size := by have := hd_len _ _ HM.out; rw [HDL.out] at this; simp at this; omega
          obtain ⟨a3, ha3⟩ : ∃ a3, a2 + 1 + bk true (l.drop (a2 + 1)) = a3 := ⟨_, rfl⟩
          have hle4 : a3 ≤ s.size := by have := bk_le true (l.drop (a2 + 1)); rw [HDL.out] at this; omega
          have HEV3 : Hid (EV = rdV (rdE l true a3 none)) := by
            show _ = _
            rw [HEV2.out, rdD_yes l _ _ a3 _ HM.out ha3]
          have HB3' : Hid (∀ W, Calls Tryd.prog 64 #[.string s, .int .i64 ((a2 : Int) + 1), .bool true] W fun e w' => e = .returned (.int .i64 (a3 : Int)) ∧ Go.RowKit.Below W.heap.size W w') := fun W => by have := HBK.out (a2 + 1) W hlt2; rw [ha3] at this; exact this
          clear HEV2 HM ha3
          go_wp2_with fail
          refine (HB3'.out _).mono ?_
          rintro e y9 ⟨rfl, hB9⟩
          have HX9 := Lib.hid (HX8.out.on hB9)
          have HL9 := Lib.hid (box_on HL8.out hB9)
          clear hB9 HX8 HL8 HB3'
          have HE2 := Lib.hid (fun W => HEP.out a3 W hle4)
          obtain ⟨E2, hE2⟩ : ∃ E2, en true pinf (l.drop a3) = E2 := ⟨_, rfl⟩
          rw [hE2] at HE2
          have HE2' := Lib.hid hE2
          clear hE2
          cases E2 with
          | none =>
            have HEV : Hid (EV = rdV ((⟨0, 0, 0, 0⟩ : S4), a3, 40)) := by
              show _ = _
              rw [HEV3.out, rdE_no l _ _ _ HE2'.out]
            have HV2 : Hid (∀ W, Calls Tryd.prog 65 #[.string s, .int .i64 (a3 : Int), .string ⟨#[43, 105, 110, 102]⟩, .bool true] W fun e w' => e = .returned (.tuple #[.agg #[.int .i64 0, .int .i64 0], .int .i64 (-1)]) ∧ Go.RowKit.Below W.heap.size W w') := HE2.out
            go_wp2_with fail
            refine (HV2.out _).mono ?_
            rintro e y10 ⟨rfl, hB10⟩
            have HX10 := Lib.hid (HX9.out.on (bt hB10 (below_new y10 (bB 0 0))))
            obtain ⟨⟨d1, d2, d3, d4⟩, e1, e2, e3, e4⟩ := Box4.zero HX10.out.re
            obtain ⟨⟨g1, g2, g3, g4⟩, _, _, _, _⟩ := Box4.zero HX10.out.no
            obtain ⟨f1, f2, f3, f4⟩ := (box_put4 HX10.out.re ⟨0, 0, 0, 0⟩).cells
            dsimp only at f1 f2 f3 f4
            have hL4 := (((HX10.out.be.setCell (p := ⟨w.heap.size, 0, none⟩) (Nat.le_refl _) (.int .i64 0)).setCell (p := ⟨w.heap.size, 1, none⟩) (Nat.le_refl _) (.int .i64 0)).setCell (p := ⟨w.heap.size, 2, none⟩) (Nat.le_refl _) (.int .i64 0)).setCell (p := ⟨w.heap.size, 3, none⟩) (Nat.le_refl _) (.int .i64 0)
            go_wp2_with fail
            refine bodyPost_ret (v := .tuple #[.agg #[.int .i64 0, .int .i64 0, .int .i64 0, .int .i64 0], .int .i64 (a3 : Int), .int .i64 40]) (by simp [results, Tryd.results48, go_sem, f1, f2, f3, f4]) rfl ?_
            refine ⟨?_, hL4⟩
            rw [HEV.out]
            rfl
          | some p =>
            obtain ⟨c, m⟩ := p
            have hle5 : a3 + m ≤ s.size := by have := (en_le true pinf _ rfl _ _ HE2'.out).1; rw [HDL.out] at this; omega
            have HCN := Lib.hid (bnum_i64 true pinf _ c m HE2'.out)
            obtain ⟨nx2, hnx2⟩ : ∃ nx2, a3 + m = nx2 := ⟨_, rfl⟩
            obtain ⟨a4, ha4⟩ : ∃ a4, nx2 + bk true (l.drop nx2) = a4 := ⟨_, rfl⟩
            have hle6 : a4 ≤ s.size := by have := bk_le true (l.drop nx2); rw [HDL.out] at this; omega
            have HEV4 : Hid (EV = rdV (rdF true (hd l [40]) (true && hd (l.drop a4) [93]) (hd (l.drop a4) [41]) a3 a4 none c)) := by
              show _ = _
              rw [HEV3.out, rdE_yes l true a3 a4 m _ c HE2'.out (by rw [hnx2]; exact ha4)]
            rw [HO.out] at HEV4
            have HB4' := Lib.hid (fun W => HBK.out nx2 W (by omega))
            rw [ha4] at HB4'
            have HI4 := Lib.hid (fun W => HIS.out a4 93 W hle6)
            have HI5 := Lib.hid (fun W => HIS.out a4 41 W hle6)
            generalize hd (l.drop a4) [93] = C1 at *
            generalize hd (l.drop a4) [41] = C2 at *
            obtain ⟨ck, ca, HV2, HCK⟩ : ∃ ck ca, Hid (∀ W, Calls Tryd.prog 65 #[.string s, .int .i64 (a3 : Int), .string ⟨#[43, 105, 110, 102]⟩, .bool true] W fun e w' => e = .returned (.tuple #[.agg #[.int .i64 ck, .int .i64 ca], .int .i64 (nx2 : Int)]) ∧ Go.RowKit.Below W.heap.size W w') ∧ Hid (((ck = 0 ∧ ∀ x, bkind c x = 0) ∨ (ck = 1 ∧ bkind c true = 1 ∧ bkind c false = 2)) ∧ bnum c = ca) := by
              cases c with
              | none => exact ⟨0, 0, by rw [← hnx2]; exact HE2.out, .inl ⟨rfl, fun _ => rfl⟩, rfl⟩
              | some z2 => exact ⟨1, z2, by rw [← hnx2]; exact HE2.out, .inr ⟨rfl, rfl, rfl⟩, rfl⟩
            clear HE2 HE2' HEV3 ha4
            rw [hnx2] at hle5
            clear hnx2
            go_wp2_with fail
            refine (HV2.out _).mono ?_
            rintro e y10 ⟨rfl, hB10⟩
            have hA10 := bt hB10 (below_new y10 (bB ck ca))
            have HX10 := Lib.hid (HX9.out.on hA10)
            have HL10 := Lib.hid (box_on HL9.out hA10)
            have HH10 : Hid ((y10.alloc (bB ck ca)).heap[y10.heap.size]? = some (bB ck ca)) := heap_alloc_new _ _
            have hN10 : w.heap.size + 2 ≤ y10.heap.size := (HX9.out.on hB10).lt
            have hne : P4 ≠ y10.heap.size := by have := lt_of_block (box_on HL9.out hB10); omega
            clear hB10 hA10 HX9 HL9 HV2
            go_wp2_with fail
            generalize y10.alloc (bB ck ca) = X10 at *
            generalize y10.heap.size = P10 at *
            refine (HB4'.out _).mono ?_
            rintro e y11 ⟨rfl, hB11⟩
            have HX11 := Lib.hid (HX10.out.on hB11)
            have HL11 := Lib.hid (box_on HL10.out hB11)
            have HH11 := Lib.hid (box_on HH10.out hB11)
            clear hB11 HX10 HL10 HH10 HB4'
            go_wp2_with fail
            refine (HI4.out _).mono ?_
            rintro e y12 ⟨rfl, hB12⟩
            have HX12 := Lib.hid (HX11.out.on hB12)
            have HL12 := Lib.hid (box_on HL11.out hB12)
            have HH12 := Lib.hid (box_on HH11.out hB12)
            clear hB12 HX11 HL11 HH11 HI4
            cases C1 with
            | true =>
              have HEV5 : Hid (EV = rdV (rdF true O true C2 a3 a4 none c)) := HEV4.out
              have HX13 := HX12
              have HL13 := HL12
              have HH13 := HH12
              clear HX12 HL12 HH12 HEV4
              generalize y12 = y13 at *
              have HEV6 := Lib.hid (HEV5.out.trans (congrArg rdV (rdF_yes true O true _ a3 a4 none c (by rfl))))
              rw [show (!true) = false from rfl] at HEV6
              have HSP' := Lib.hid (fun W => HSP.out 0 0 (bkind c false) (bnum c) W HBN.out HCN.out)
              have HKL : Hid (bkind none O = 0 ∧ bnum none = 0) := ⟨rfl, rfl⟩
              rw [HKL.out.1, HKL.out.2] at HEV6
              rcases HCK.out with ⟨⟨rfl, hk0⟩ | ⟨rfl, hk1, hk2⟩, hca⟩
              · rw [hca, hk0] at HSP' HEV6
                generalize bdS 0 0 0 ca = Z at *
                generalize bdE 0 0 0 ca = E at *
                obtain ⟨l1, l2, _, _⟩ := two_cells HL13.out
                obtain ⟨m1, m2, m3, m4⟩ := two_cells HH13.out
                go_wp2_with fail
                clear l1 l2 m1 m2 m3 m4 HL13 HH13
                have HX14 := HX13
                clear HX13
                generalize y13 = y14 at *
                refine (HSP'.out _).mono ?_
                rintro e y15 ⟨rfl, hB15⟩
                have HX15 := Lib.hid (HX14.out.on (bt hB15 (below_new y15 (.cells #[.int .i64 Z.ls, .int .i64 Z.la, .int .i64 Z.hs, .int .i64 Z.ha] 27))))
                have HZ15 : Hid (Box4 (y15.alloc (.cells #[.int .i64 Z.ls, .int .i64 Z.la, .int .i64 Z.hs, .int .i64 Z.ha] 27)) y15.heap.size Z) := heap_alloc_new _ _
                by_cases hE : E = 0
                · subst hE
                  have HEV : Hid (EV = rdV (Z, a4 + 1, 0)) := by
                    show _ = _
                    rw [HEV6.out, if_pos rfl]
                  obtain ⟨⟨d1, d2, d3, d4⟩, e1, e2, e3, e4⟩ := Box4.zero HX15.out.re
                  obtain ⟨⟨g1, g2, g3, g4⟩, _, _, _, _⟩ := Box4.zero HX15.out.no
                  obtain ⟨z1, z2', z3, z4'⟩ := HZ15.out.cells
                  obtain ⟨f1, f2, f3, f4⟩ := (box_put4 HX15.out.re Z).cells
                  have hL4 := (((HX15.out.be.setCell (p := ⟨w.heap.size, 0, none⟩) (Nat.le_refl _) (.int .i64 Z.ls)).setCell (p := ⟨w.heap.size, 1, none⟩) (Nat.le_refl _) (.int .i64 Z.la)).setCell (p := ⟨w.heap.size, 2, none⟩) (Nat.le_refl _) (.int .i64 Z.hs)).setCell (p := ⟨w.heap.size, 3, none⟩) (Nat.le_refl _) (.int .i64 Z.ha)
                  clear HEV6
                  go_wp2_with fail
                  refine bodyPost_ret (v := .tuple #[.agg #[.int .i64 Z.ls, .int .i64 Z.la, .int .i64 Z.hs, .int .i64 Z.ha], .int .i64 ((a4 : Int) + 1), .int .i64 0]) (by simp [results, Tryd.results48, go_sem, f1, f2, f3, f4]) rfl ?_
                  refine ⟨?_, hL4⟩
                  rw [HEV.out]
                  rfl
                · have HEV : Hid (EV = rdV ((⟨0, 0, 0, 0⟩ : S4), a3, E)) := by
                    show _ = _
                    rw [HEV6.out, if_neg hE]
                  have tE : (E != 0) = true := bne_iff_ne.2 hE
                  clear HEV6 hE
                  obtain ⟨⟨d1, d2, d3, d4⟩, e1, e2, e3, e4⟩ := Box4.zero HX15.out.re
                  obtain ⟨⟨g1, g2, g3, g4⟩, _, _, _, _⟩ := Box4.zero HX15.out.no
                  obtain ⟨f1, f2, f3, f4⟩ := (box_put4 HX15.out.re ⟨0, 0, 0, 0⟩).cells
                  dsimp only at f1 f2 f3 f4
                  have hL4 := (((HX15.out.be.setCell (p := ⟨w.heap.size, 0, none⟩) (Nat.le_refl _) (.int .i64 0)).setCell (p := ⟨w.heap.size, 1, none⟩) (Nat.le_refl _) (.int .i64 0)).setCell (p := ⟨w.heap.size, 2, none⟩) (Nat.le_refl _) (.int .i64 0)).setCell (p := ⟨w.heap.size, 3, none⟩) (Nat.le_refl _) (.int .i64 0)
                  go_wp2_with fail
                  refine bodyPost_ret (v := .tuple #[.agg #[.int .i64 0, .int .i64 0, .int .i64 0, .int .i64 0], .int .i64 (a3 : Int), .int .i64 E]) (by simp [results, Tryd.results48, go_sem, f1, f2, f3, f4]) rfl ?_
                  refine ⟨?_, hL4⟩
                  rw [HEV.out]
                  rfl
              · rw [hca, hk2] at HSP' HEV6
                generalize bdS 0 0 2 ca = Z at *
                generalize bdE 0 0 2 ca = E at *
                obtain ⟨l1, l2, _, _⟩ := two_cells HL13.out
                obtain ⟨m1, m2, m3, m4⟩ := two_cells HH13.out
                have HX14 := Lib.hid (HX13.out.put P10 hN10 (.int .i64 2))
                have HL14 := Lib.hid (kind_far (N := P10) HL13.out hne (.int .i64 2))
                have HH14 := Lib.hid (kind_put HH13.out 2)
                obtain ⟨n1, n2, _, _⟩ := two_cells HL14.out
                obtain ⟨n3, n4, _, _⟩ := two_cells HH14.out
                go_wp2_with fail
                generalize y13.setCell ⟨P10, 0, none⟩ (.int .i64 2) = y14 at *
                clear l1 l2 m1 m2 m3 m4 n1 n2 n3 n4 HX13 HL13 HH13
                refine (HSP'.out _).mono ?_
                rintro e y15 ⟨rfl, hB15⟩
                have HX15 := Lib.hid (HX14.out.on (bt hB15 (below_new y15 (.cells #[.int .i64 Z.ls, .int .i64 Z.la, .int .i64 Z.hs, .int .i64 Z.ha] 27))))
                have HZ15 : Hid (Box4 (y15.alloc (.cells #[.int .i64 Z.ls, .int .i64 Z.la, .int .i64 Z.hs, .int .i64 Z.ha] 27)) y15.heap.size Z) := heap_alloc_new _ _
                by_cases hE : E = 0
                · subst hE
                  have HEV : Hid (EV = rdV (Z, a4 + 1, 0)) := by
                    show _ = _
                    rw [HEV6.out, if_pos rfl]
                  obtain ⟨⟨d1, d2, d3, d4⟩, e1, e2, e3, e4⟩ := Box4.zero HX15.out.re
                  obtain ⟨⟨g1, g2, g3, g4⟩, _, _, _, _⟩ := Box4.zero HX15.out.no
                  obtain ⟨z1, z2', z3, z4'⟩ := HZ15.out.cells
                  obtain ⟨f1, f2, f3, f4⟩ := (box_put4 HX15.out.re Z).cells
                  have hL4 := (((HX15.out.be.setCell (p := ⟨w.heap.size, 0, none⟩) (Nat.le_refl _) (.int .i64 Z.ls)).setCell (p := ⟨w.heap.size, 1, none⟩) (Nat.le_refl _) (.int .i64 Z.la)).setCell (p := ⟨w.heap.size, 2, none⟩) (Nat.le_refl _) (.int .i64 Z.hs)).setCell (p := ⟨w.heap.size, 3, none⟩) (Nat.le_refl _) (.int .i64 Z.ha)
                  clear HEV6
                  go_wp2_with fail
                  refine bodyPost_ret (v := .tuple #[.agg #[.int .i64 Z.ls, .int .i64 Z.la, .int .i64 Z.hs, .int .i64 Z.ha], .int .i64 ((a4 : Int) + 1), .int .i64 0]) (by simp [results, Tryd.results48, go_sem, f1, f2, f3, f4]) rfl ?_
                  refine ⟨?_, hL4⟩
                  rw [HEV.out]
                  rfl
                · have HEV : Hid (EV = rdV ((⟨0, 0, 0, 0⟩ : S4), a3, E)) := by
                    show _ = _
                    rw [HEV6.out, if_neg hE]
                  have tE : (E != 0) = true := bne_iff_ne.2 hE
                  clear HEV6 hE
                  obtain ⟨⟨d1, d2, d3, d4⟩, e1, e2, e3, e4⟩ := Box4.zero HX15.out.re
                  obtain ⟨⟨g1, g2, g3, g4⟩, _, _, _, _⟩ := Box4.zero HX15.out.no
                  obtain ⟨f1, f2, f3, f4⟩ := (box_put4 HX15.out.re ⟨0, 0, 0, 0⟩).cells
                  dsimp only at f1 f2 f3 f4
                  have hL4 := (((HX15.out.be.setCell (p := ⟨w.heap.size, 0, none⟩) (Nat.le_refl _) (.int .i64 0)).setCell (p := ⟨w.heap.size, 1, none⟩) (Nat.le_refl _) (.int .i64 0)).setCell (p := ⟨w.heap.size, 2, none⟩) (Nat.le_refl _) (.int .i64 0)).setCell (p := ⟨w.heap.size, 3, none⟩) (Nat.le_refl _) (.int .i64 0)
                  go_wp2_with fail
                  refine bodyPost_ret (v := .tuple #[.agg #[.int .i64 0, .int .i64 0, .int .i64 0, .int .i64 0], .int .i64 (a3 : Int), .int .i64 E]) (by simp [results, Tryd.results48, go_sem, f1, f2, f3, f4]) rfl ?_
                  refine ⟨?_, hL4⟩
                  rw [HEV.out]
                  rfl
            | false =>
              go_wp2_with fail
              refine (HI5.out _).mono ?_
              rintro e y13 ⟨rfl, hB13⟩
              have HX13 := Lib.hid (HX12.out.on hB13)
              have HL13 := Lib.hid (box_on HL12.out hB13)
              have HH13 := Lib.hid (box_on HH12.out hB13)
              clear hB13 HX12 HL12 HH12 HI5
              have HEV5 : Hid (EV = rdV (rdF true O false C2 a3 a4 none c)) := HEV4.out
              clear HEV4
              cases C2 with
              | false =>
                have HEV : Hid (EV = rdV ((⟨0, 0, 0, 0⟩ : S4), a4, 40)) := by
                  show _ = _
                  rw [HEV5.out, rdF_no _ _ _ _ _ _ _ _ rfl]
                obtain ⟨⟨d1, d2, d3, d4⟩, e1, e2, e3, e4⟩ := Box4.zero HX13.out.re
                obtain ⟨⟨g1, g2, g3, g4⟩, _, _, _, _⟩ := Box4.zero HX13.out.no
                obtain ⟨f1, f2, f3, f4⟩ := (box_put4 HX13.out.re ⟨0, 0, 0, 0⟩).cells
                dsimp only at f1 f2 f3 f4
                have hL4 := (((HX13.out.be.setCell (p := ⟨w.heap.size, 0, none⟩) (Nat.le_refl _) (.int .i64 0)).setCell (p := ⟨w.heap.size, 1, none⟩) (Nat.le_refl _) (.int .i64 0)).setCell (p := ⟨w.heap.size, 2, none⟩) (Nat.le_refl _) (.int .i64 0)).setCell (p := ⟨w.heap.size, 3, none⟩) (Nat.le_refl _) (.int .i64 0)
                go_wp2_with fail
                refine bodyPost_ret (v := .tuple #[.agg #[.int .i64 0, .int .i64 0, .int .i64 0, .int .i64 0], .int .i64 (a4 : Int), .int .i64 40]) (by simp [results, Tryd.results48, go_sem, f1, f2, f3, f4]) rfl ?_
                refine ⟨?_, hL4⟩
                rw [HEV.out]
                rfl
              | true =>
                have HEV6 := Lib.hid (HEV5.out.trans (congrArg rdV (rdF_yes true O false _ a3 a4 none c (by rfl))))
                rw [show (!false) = true from rfl] at HEV6
                have HSP' := Lib.hid (fun W => HSP.out 0 0 (bkind c true) (bnum c) W HBN.out HCN.out)
                have HKL : Hid (bkind none O = 0 ∧ bnum none = 0) := ⟨rfl, rfl⟩
                rw [HKL.out.1, HKL.out.2] at HEV6
                rcases HCK.out with ⟨⟨rfl, hk0⟩ | ⟨rfl, hk1, hk2⟩, hca⟩
                · rw [hca, hk0] at HSP' HEV6
                  generalize bdS 0 0 0 ca = Z at *
                  generalize bdE 0 0 0 ca = E at *
                  obtain ⟨l1, l2, _, _⟩ := two_cells HL13.out
                  obtain ⟨m1, m2, m3, m4⟩ := two_cells HH13.out
                  go_wp2_with fail
                  clear l1 l2 m1 m2 m3 m4 HL13 HH13
                  have HX14 := HX13
                  clear HX13
                  generalize y13 = y14 at *
                  refine (HSP'.out _).mono ?_
                  rintro e y15 ⟨rfl, hB15⟩
                  have HX15 := Lib.hid (HX14.out.on (bt hB15 (below_new y15 (.cells #[.int .i64 Z.ls, .int .i64 Z.la, .int .i64 Z.hs, .int .i64 Z.ha] 27))))
                  have HZ15 : Hid (Box4 (y15.alloc (.cells #[.int .i64 Z.ls, .int .i64 Z.la, .int .i64 Z.hs, .int .i64 Z.ha] 27)) y15.heap.size Z) := heap_alloc_new _ _
                  by_cases hE : E = 0
                  · subst hE
                    have HEV : Hid (EV = rdV (Z, a4 + 1, 0)) := by
                      show _ = _
                      rw [HEV6.out, if_pos rfl]
                    obtain ⟨⟨d1, d2, d3, d4⟩, e1, e2, e3, e4⟩ := Box4.zero HX15.out.re
                    obtain ⟨⟨g1, g2, g3, g4⟩, _, _, _, _⟩ := Box4.zero HX15.out.no
                    obtain ⟨z1, z2', z3, z4'⟩ := HZ15.out.cells
                    obtain ⟨f1, f2, f3, f4⟩ := (box_put4 HX15.out.re Z).cells
                    have hL4 := (((HX15.out.be.setCell (p := ⟨w.heap.size, 0, none⟩) (Nat.le_refl _) (.int .i64 Z.ls)).setCell (p := ⟨w.heap.size, 1, none⟩) (Nat.le_refl _) (.int .i64 Z.la)).setCell (p := ⟨w.heap.size, 2, none⟩) (Nat.le_refl _) (.int .i64 Z.hs)).setCell (p := ⟨w.heap.size, 3, none⟩) (Nat.le_refl _) (.int .i64 Z.ha)
                    clear HEV6
                    go_wp2_with fail
                    refine bodyPost_ret (v := .tuple #[.agg #[.int .i64 Z.ls, .int .i64 Z.la, .int .i64 Z.hs, .int .i64 Z.ha], .int .i64 ((a4 : Int) + 1), .int .i64 0]) (by simp [results, Tryd.results48, go_sem, f1, f2, f3, f4]) rfl ?_
                    refine ⟨?_, hL4⟩
                    rw [HEV.out]
                    rfl
                  · have HEV : Hid (EV = rdV ((⟨0, 0, 0, 0⟩ : S4), a3, E)) := by
                      show _ = _
                      rw [HEV6.out, if_neg hE]
                    have tE : (E != 0) = true := bne_iff_ne.2 hE
                    clear HEV6 hE
                    obtain ⟨⟨d1, d2, d3, d4⟩, e1, e2, e3, e4⟩ := Box4.zero HX15.out.re
                    obtain ⟨⟨g1, g2, g3, g4⟩, _, _, _, _⟩ := Box4.zero HX15.out.no
                    obtain ⟨f1, f2, f3, f4⟩ := (box_put4 HX15.out.re ⟨0, 0, 0, 0⟩).cells
                    dsimp only at f1 f2 f3 f4
                    have hL4 := (((HX15.out.be.setCell (p := ⟨w.heap.size, 0, none⟩) (Nat.le_refl _) (.int .i64 0)).setCell (p := ⟨w.heap.size, 1, none⟩) (Nat.le_refl _) (.int .i64 0)).setCell (p := ⟨w.heap.size, 2, none⟩) (Nat.le_refl _) (.int .i64 0)).setCell (p := ⟨w.heap.size, 3, none⟩) (Nat.le_refl _) (.int .i64 0)
                    go_wp2_with fail
                    refine bodyPost_ret (v := .tuple #[.agg #[.int .i64 0, .int .i64 0, .int .i64 0, .int .i64 0], .int .i64 (a3 : Int), .int .i64 E]) (by simp [results, Tryd.results48, go_sem, f1, f2, f3, f4]) rfl ?_
                    refine ⟨?_, hL4⟩
                    rw [HEV.out]
                    rfl
                · rw [hca, hk1] at HSP' HEV6
                  generalize bdS 0 0 1 ca = Z at *
                  generalize bdE 0 0 1 ca = E at *
                  obtain ⟨l1, l2, _, _⟩ := two_cells HL13.out
                  obtain ⟨m1, m2, m3, m4⟩ := two_cells HH13.out
                  go_wp2_with fail
                  clear l1 l2 m1 m2 m3 m4 HL13 HH13
                  have HX14 := HX13
                  clear HX13
                  generalize y13 = y14 at *
                  refine (HSP'.out _).mono ?_
                  rintro e y15 ⟨rfl, hB15⟩
                  have HX15 := Lib.hid (HX14.out.on (bt hB15 (below_new y15 (.cells #[.int .i64 Z.ls, .int .i64 Z.la, .int .i64 Z.hs, .int .i64 Z.ha] 27))))
                  have HZ15 : Hid (Box4 (y15.alloc (.cells #[.int .i64 Z.ls, .int .i64 Z.la, .int .i64 Z.hs, .int .i64 Z.ha] 27)) y15.heap.size Z) := heap_alloc_new _ _
                  by_cases hE : E = 0
                  · subst hE
                    have HEV : Hid (EV = rdV (Z, a4 + 1, 0)) := by
                      show _ = _
                      rw [HEV6.out, if_pos rfl]
                    obtain ⟨⟨d1, d2, d3, d4⟩, e1, e2, e3, e4⟩ := Box4.zero HX15.out.re
                    obtain ⟨⟨g1, g2, g3, g4⟩, _, _, _, _⟩ := Box4.zero HX15.out.no
                    obtain ⟨z1, z2', z3, z4'⟩ := HZ15.out.cells
                    obtain ⟨f1, f2, f3, f4⟩ := (box_put4 HX15.out.re Z).cells
                    have hL4 := (((HX15.out.be.setCell (p := ⟨w.heap.size, 0, none⟩) (Nat.le_refl _) (.int .i64 Z.ls)).setCell (p := ⟨w.heap.size, 1, none⟩) (Nat.le_refl _) (.int .i64 Z.la)).setCell (p := ⟨w.heap.size, 2, none⟩) (Nat.le_refl _) (.int .i64 Z.hs)).setCell (p := ⟨w.heap.size, 3, none⟩) (Nat.le_refl _) (.int .i64 Z.ha)
                    clear HEV6
                    go_wp2_with fail
                    refine bodyPost_ret (v := .tuple #[.agg #[.int .i64 Z.ls, .int .i64 Z.la, .int .i64 Z.hs, .int .i64 Z.ha], .int .i64 ((a4 : Int) + 1), .int .i64 0]) (by simp [results, Tryd.results48, go_sem, f1, f2, f3, f4]) rfl ?_
                    refine ⟨?_, hL4⟩
                    rw [HEV.out]
                    rfl
                  · have HEV : Hid (EV = rdV ((⟨0, 0, 0, 0⟩ : S4), a3, E)) := by
                      show _ = _
                      rw [HEV6.out, if_neg hE]
                    have tE : (E != 0) = true := bne_iff_ne.2 hE
                    clear HEV6 hE
                    obtain ⟨⟨d1, d2, d3, d4⟩, e1, e2, e3, e4⟩ := Box4.zero HX15.out.re
                    obtain ⟨⟨g1, g2, g3, g4⟩, _, _, _, _⟩ := Box4.zero HX15.out.no
                    obtain ⟨f1, f2, f3, f4⟩ := (box_put4 HX15.out.re ⟨0, 0, 0, 0⟩).cells
                    dsimp only at f1 f2 f3 f4
                    have hL4 := (((HX15.out.be.setCell (p := ⟨w.heap.size, 0, none⟩) (Nat.le_refl _) (.int .i64 0)).setCell (p := ⟨w.heap.size, 1, none⟩) (Nat.le_refl _) (.int .i64 0)).setCell (p := ⟨w.heap.size, 2, none⟩) (Nat.le_refl _) (.int .i64 0)).setCell (p := ⟨w.heap.size, 3, none⟩) (Nat.le_refl _) (.int .i64 0)
                    go_wp2_with fail
                    refine bodyPost_ret (v := .tuple #[.agg #[.int .i64 0, .int .i64 0, .int .i64 0, .int .i64 0], .int .i64 (a3 : Int), .int .i64 E]) (by simp [results, Tryd.results48, go_sem, f1, f2, f3, f4]) rfl ?_
                    refine ⟨?_, hL4⟩
                    rw [HEV.out]
                    rfl
      | some z =>
        have hle2 : a1 + n ≤ s.size := by have := (en_le true ninf _ rfl _ _ HE1'.out).1; rw [HDL.out] at this; omega
        obtain ⟨nx, hnx⟩ : ∃ nx, a1 + n = nx := ⟨_, rfl⟩
        have HV1 : Hid (∀ W, Calls Tryd.prog 65 #[.string s, .int .i64 (a1 : Int), .string ⟨#[45, 105, 110, 102]⟩, .bool true] W fun e w' => e = .returned (.tuple #[.agg #[.int .i64 1, .int .i64 z], .int .i64 (nx : Int)]) ∧ Go.RowKit.Below W.heap.size W w') := by rw [← hnx]; exact HE1.out
        rw [hnx] at hle2
        go_wp2_with fail
        refine (HV1.out _).mono ?_
        rintro e y4 ⟨rfl, hB4⟩
        have hA4 := bt hB4 (below_new y4 (bB 1 z))
        have HX4 := Lib.hid (HX3.out.on hA4)
        have HL4 : Hid ((y4.alloc (bB 1 z)).heap[y4.heap.size]? = some (bB 1 z)) := heap_alloc_new _ _
        have hN4 : w.heap.size + 2 ≤ y4.heap.size := (HX3.out.on hB4).lt
        clear hB4 hA4 HX3 HV1 HE1
        clear HN1
        have HEN1 : Hid (en1 true (hd l [40]) (l.drop a1) = some (some z, n)) := by
          show _ = _
          unfold en1
          rw [if_neg (by simp)]
          exact HE1'.out
        go_upto_region 11 with fail
        generalize y4.alloc (bB 1 z) = y5 at *
        generalize y4.heap.size = P4 at *
        have HX5 := HX4
        have HL5 := HL4
        clear HX4 HL4
        have HBN := Lib.hid (bnum_i64 true ninf _ (some z) n HE1'.out)
        obtain ⟨a2, ha2⟩ : ∃ a2, nx + bk true (l.drop nx) = a2 := ⟨_, rfl⟩
        have hle3 : a2 ≤ s.size := by have := bk_le true (l.drop nx); rw [HDL.out] at this; omega
        have HEV2 : Hid (EV = rdV (rdD l true a2 (some z))) := by
          show _ = _
          rw [HEV1.out, rdC_yes l true a1 a2 n _ HEN1.out (by rw [hnx]; exact ha2)]
        have HB2' := Lib.hid (fun W => HBK.out nx W hle2)
        rw [ha2] at HB2'
        clear HEV1 HEN1 HE1' HN1' ha2 hnx
        obtain ⟨l1, l2, l3, l4⟩ := two_cells HL5.out
        have HL6 := Lib.hid (kind_put HL5.out 2)
        have HX6 := Lib.hid (HX5.out.put P4 hN4 (.int .i64 2))
        cases O with
        | true =>
          clear HL6 HX6
          go_wp2_with fail
          have HX6 := HX5
          have HL6 := HL5
          clear HX5 HL5 l1 l2 l3 l4
          generalize y5 = y6 at *
          refine (HB2'.out _).mono ?_
          rintro e y7 ⟨rfl, hB7⟩
          have HX7 := Lib.hid (HX6.out.on hB7)
          have HL7 := Lib.hid (box_on HL6.out hB7)
          clear hB7 HX6 HL6 HB2'
          have HI3 := Lib.hid (fun W => HIS.out a2 44 W hle3)
          obtain ⟨M, hM⟩ : ∃ M, hd (l.drop a2) [44] = M := ⟨_, rfl⟩
          rw [hM] at HI3
          have HM := Lib.hid hM
          clear hM
          go_wp2_with fail
          refine (HI3.out _).mono ?_
          rintro e y8 ⟨rfl, hB8⟩
          have HX8 := Lib.hid (HX7.out.on hB8)
          have HL8 := Lib.hid (box_on HL7.out hB8)
          clear hB8 HX7 HL7 HI3
          cases M with
          | false =>
            have HEV : Hid (EV = rdV ((⟨0, 0, 0, 0⟩ : S4), a2, 40)) := by
              show _ = _
              rw [HEV2.out, rdD_no l _ _ _ HM.out]
            obtain ⟨⟨d1, d2, d3, d4⟩, e1, e2, e3, e4⟩ := Box4.zero HX8.out.re
            obtain ⟨⟨g1, g2, g3, g4⟩, _, _, _, _⟩ := Box4.zero HX8.out.no
            obtain ⟨f1, f2, f3, f4⟩ := (box_put4 HX8.out.re ⟨0, 0, 0, 0⟩).cells
            dsimp only at f1 f2 f3 f4
            have hL4 := (((HX8.out.be.setCell (p := ⟨w.heap.size, 0, none⟩) (Nat.le_refl _) (.int .i64 0)).setCell (p := ⟨w.heap.size, 1, none⟩) (Nat.le_refl _) (.int .i64 0)).setCell (p := ⟨w.heap.size, 2, none⟩) (Nat.le_refl _) (.int .i64 0)).setCell (p := ⟨w.heap.size, 3, none⟩) (Nat.le_refl _) (.int .i64 0)
            go_wp2_with fail
            refine bodyPost_ret (v := .tuple #[.agg #[.int .i64 0, .int .i64 0, .int .i64 0, .int .i64 0], .int .i64 (a2 : Int), .int .i64 40]) (by simp [results, Tryd.results48, go_sem, f1, f2, f3, f4]) rfl ?_
            refine ⟨?_, hL4⟩
            rw [HEV.out]
            rfl
          | true =>
            have hlt2 : a2 + 1 ≤ s.size := by have := hd_len _ _ HM.out; rw [HDL.out] at this; simp at this; omega
            obtain ⟨a3, ha3⟩ : ∃ a3, a2 + 1 + bk true (l.drop (a2 + 1)) = a3 := ⟨_, rfl⟩
            have hle4 : a3 ≤ s.size := by have := bk_le true (l.drop (a2 + 1)); rw [HDL.out] at this; omega
            have HEV3 : Hid (EV = rdV (rdE l true a3 (some z))) := by
              show _ = _
              rw [HEV2.out, rdD_yes l _ _ a3 _ HM.out ha3]
            have HB3' : Hid (∀ W, Calls Tryd.prog 64 #[.string s, .int .i64 ((a2 : Int) + 1), .bool true] W fun e w' => e = .returned (.int .i64 (a3 : Int)) ∧ Go.RowKit.Below W.heap.size W w') := fun W => by have := HBK.out (a2 + 1) W hlt2; rw [ha3] at this; exact this
            clear HEV2 HM ha3
            go_wp2_with fail
            refine (HB3'.out _).mono ?_
            rintro e y9 ⟨rfl, hB9⟩
            have HX9 := Lib.hid (HX8.out.on hB9)
            have HL9 := Lib.hid (box_on HL8.out hB9)
            clear hB9 HX8 HL8 HB3'
            have HE2 := Lib.hid (fun W => HEP.out a3 W hle4)
            obtain ⟨E2, hE2⟩ : ∃ E2, en true pinf (l.drop a3) = E2 := ⟨_, rfl⟩
            rw [hE2] at HE2
            have HE2' := Lib.hid hE2
            clear hE2
            cases E2 with
            | none =>
              have HEV : Hid (EV = rdV ((⟨0, 0, 0, 0⟩ : S4), a3, 40)) := by
                show _ = _
                rw [HEV3.out, rdE_no l _ _ _ HE2'.out]
              have HV2 : Hid (∀ W, Calls Tryd.prog 65 #[.string s, .int .i64 (a3 : Int), .string ⟨#[43, 105, 110, 102]⟩, .bool true] W fun e w' => e = .returned (.tuple #[.agg #[.int .i64 0, .int .i64 0], .int .i64 (-1)]) ∧ Go.RowKit.Below W.heap.size W w') := HE2.out
              go_wp2_with fail
              refine (HV2.out _).mono ?_
              rintro e y10 ⟨rfl, hB10⟩
              have HX10 := Lib.hid (HX9.out.on (bt hB10 (below_new y10 (bB 0 0))))
              obtain ⟨⟨d1, d2, d3, d4⟩, e1, e2, e3, e4⟩ := Box4.zero HX10.out.re
              obtain ⟨⟨g1, g2, g3, g4⟩, _, _, _, _⟩ := Box4.zero HX10.out.no
              obtain ⟨f1, f2, f3, f4⟩ := (box_put4 HX10.out.re ⟨0, 0, 0, 0⟩).cells
              dsimp only at f1 f2 f3 f4
              have hL4 := (((HX10.out.be.setCell (p := ⟨w.heap.size, 0, none⟩) (Nat.le_refl _) (.int .i64 0)).setCell (p := ⟨w.heap.size, 1, none⟩) (Nat.le_refl _) (.int .i64 0)).setCell (p := ⟨w.heap.size, 2, none⟩) (Nat.le_refl _) (.int .i64 0)).setCell (p := ⟨w.heap.size, 3, none⟩) (Nat.le_refl _) (.int .i64 0)
              go_wp2_with fail
              refine bodyPost_ret (v := .tuple #[.agg #[.int .i64 0, .int .i64 0, .int .i64 0, .int .i64 0], .int .i64 (a3 : Int), .int .i64 40]) (by simp [results, Tryd.results48, go_sem, f1, f2, f3, f4]) rfl ?_
              refine ⟨?_, hL4⟩
              rw [HEV.out]
              rfl
            | some p =>
              obtain ⟨c, m⟩ := p
              have hle5 : a3 + m ≤ s.size := by have := (en_le true pinf _ rfl _ _ HE2'.out).1; rw [HDL.out] at this; omega
              have HCN := Lib.hid (bnum_i64 true pinf _ c m HE2'.out)
              obtain ⟨nx2, hnx2⟩ : ∃ nx2, a3 + m = nx2 := ⟨_, rfl⟩
              obtain ⟨a4, ha4⟩ : ∃ a4, nx2 + bk true (l.drop nx2) = a4 := ⟨_, rfl⟩
              have hle6 : a4 ≤ s.size := by have := bk_le true (l.drop nx2); rw [HDL.out] at this; omega
              have HEV4 : Hid (EV = rdV (rdF true (hd l [40]) (true && hd (l.drop a4) [93]) (hd (l.drop a4) [41]) a3 a4 (some z) c)) := by
                show _ = _
                rw [HEV3.out, rdE_yes l true a3 a4 m _ c HE2'.out (by rw [hnx2]; exact ha4)]
              rw [HO.out] at HEV4
              have HB4' := Lib.hid (fun W => HBK.out nx2 W (by omega))
              rw [ha4] at HB4'
              have HI4 := Lib.hid (fun W => HIS.out a4 93 W hle6)
              have HI5 := Lib.hid (fun W => HIS.out a4 41 W hle6)
              generalize hd (l.drop a4) [93] = C1 at *
              generalize hd (l.drop a4) [41] = C2 at *
              obtain ⟨ck, ca, HV2, HCK⟩ : ∃ ck ca, Hid (∀ W, Calls Tryd.prog 65 #[.string s, .int .i64 (a3 : Int), .string ⟨#[43, 105, 110, 102]⟩, .bool true] W fun e w' => e = .returned (.tuple #[.agg #[.int .i64 ck, .int .i64 ca], .int .i64 (nx2 : Int)]) ∧ Go.RowKit.Below W.heap.size W w') ∧ Hid (((ck = 0 ∧ ∀ x, bkind c x = 0) ∨ (ck = 1 ∧ bkind c true = 1 ∧ bkind c false = 2)) ∧ bnum c = ca) := by
                cases c with
                | none => exact ⟨0, 0, by rw [← hnx2]; exact HE2.out, .inl ⟨rfl, fun _ => rfl⟩, rfl⟩
                | some z2 => exact ⟨1, z2, by rw [← hnx2]; exact HE2.out, .inr ⟨rfl, rfl, rfl⟩, rfl⟩
              clear HE2 HE2' HEV3 ha4
              rw [hnx2] at hle5
              clear hnx2
              go_wp2_with fail
              refine (HV2.out _).mono ?_
              rintro e y10 ⟨rfl, hB10⟩
              have hA10 := bt hB10 (below_new y10 (bB ck ca))
              have HX10 := Lib.hid (HX9.out.on hA10)
              have HL10 := Lib.hid (box_on HL9.out hA10)
              have HH10 : Hid ((y10.alloc (bB ck ca)).heap[y10.heap.size]? = some (bB ck ca)) := heap_alloc_new _ _
              have hN10 : w.heap.size + 2 ≤ y10.heap.size := (HX9.out.on hB10).lt
              have hne : P4 ≠ y10.heap.size := by have := lt_of_block (box_on HL9.out hB10); omega
              clear hB10 hA10 HX9 HL9 HV2
              go_wp2_with fail
              generalize y10.alloc (bB ck ca) = X10 at *
              generalize y10.heap.size = P10 at *
              refine (HB4'.out _).mono ?_
              rintro e y11 ⟨rfl, hB11⟩
              have HX11 := Lib.hid (HX10.out.on hB11)
              have HL11 := Lib.hid (box_on HL10.out hB11)
              have HH11 := Lib.hid (box_on HH10.out hB11)
              clear hB11 HX10 HL10 HH10 HB4'
              go_wp2_with fail
              refine (HI4.out _).mono ?_
              rintro e y12 ⟨rfl, hB12⟩
              have HX12 := Lib.hid (HX11.out.on hB12)
              have HL12 := Lib.hid (box_on HL11.out hB12)
              have HH12 := Lib.hid (box_on HH11.out hB12)
              clear hB12 HX11 HL11 HH11 HI4
              cases C1 with
              | true =>
                have HEV5 : Hid (EV = rdV (rdF true true true C2 a3 a4 (some z) c)) := HEV4.out
                have HX13 := HX12
                have HL13 := HL12
                have HH13 := HH12
                clear HX12 HL12 HH12 HEV4
                generalize y12 = y13 at *
                have HEV6 := Lib.hid (HEV5.out.trans (congrArg rdV (rdF_yes true true true _ a3 a4 (some z) c (by rfl))))
                rw [show (!true) = false from rfl] at HEV6
                have HSP' := Lib.hid (fun W => HSP.out 1 z (bkind c false) (bnum c) W HBN.out HCN.out)
                have HKL : Hid (bkind (some z) true = 1 ∧ bnum (some z) = z) := ⟨rfl, rfl⟩
                rw [HKL.out.1, HKL.out.2] at HEV6
                rcases HCK.out with ⟨⟨rfl, hk0⟩ | ⟨rfl, hk1, hk2⟩, hca⟩
                · rw [hca, hk0] at HSP' HEV6
                  generalize bdS 1 z 0 ca = Z at *
                  generalize bdE 1 z 0 ca = E at *
                  obtain ⟨l1, l2, _, _⟩ := two_cells HL13.out
                  obtain ⟨m1, m2, m3, m4⟩ := two_cells HH13.out
                  go_wp2_with fail
                  clear l1 l2 m1 m2 m3 m4 HL13 HH13
                  have HX14 := HX13
                  clear HX13
                  generalize y13 = y14 at *
                  refine (HSP'.out _).mono ?_
                  rintro e y15 ⟨rfl, hB15⟩
                  have HX15 := Lib.hid (HX14.out.on (bt hB15 (below_new y15 (.cells #[.int .i64 Z.ls, .int .i64 Z.la, .int .i64 Z.hs, .int .i64 Z.ha] 27))))
                  have HZ15 : Hid (Box4 (y15.alloc (.cells #[.int .i64 Z.ls, .int .i64 Z.la, .int .i64 Z.hs, .int .i64 Z.ha] 27)) y15.heap.size Z) := heap_alloc_new _ _
                  by_cases hE : E = 0
                  · subst hE
                    have HEV : Hid (EV = rdV (Z, a4 + 1, 0)) := by
                      show _ = _
                      rw [HEV6.out, if_pos rfl]
                    obtain ⟨⟨d1, d2, d3, d4⟩, e1, e2, e3, e4⟩ := Box4.zero HX15.out.re
                    obtain ⟨⟨g1, g2, g3, g4⟩, _, _, _, _⟩ := Box4.zero HX15.out.no
                    obtain ⟨z1, z2', z3, z4'⟩ := HZ15.out.cells
                    obtain ⟨f1, f2, f3, f4⟩ := (box_put4 HX15.out.re Z).cells
                    have hL4 := (((HX15.out.be.setCell (p := ⟨w.heap.size, 0, none⟩) (Nat.le_refl _) (.int .i64 Z.ls)).setCell (p := ⟨w.heap.size, 1, none⟩) (Nat.le_refl _) (.int .i64 Z.la)).setCell (p := ⟨w.heap.size, 2, none⟩) (Nat.le_refl _) (.int .i64 Z.hs)).setCell (p := ⟨w.heap.size, 3, none⟩) (Nat.le_refl _) (.int .i64 Z.ha)
                    clear HEV6
                    go_wp2_with fail
                    refine bodyPost_ret (v := .tuple #[.agg #[.int .i64 Z.ls, .int .i64 Z.la, .int .i64 Z.hs, .int .i64 Z.ha], .int .i64 ((a4 : Int) + 1), .int .i64 0]) (by simp [results, Tryd.results48, go_sem, f1, f2, f3, f4]) rfl ?_
                    refine ⟨?_, hL4⟩
                    rw [HEV.out]
                    rfl
                  · have HEV : Hid (EV = rdV ((⟨0, 0, 0, 0⟩ : S4), a3, E)) := by
                      show _ = _
                      rw [HEV6.out, if_neg hE]
                    have tE : (E != 0) = true := bne_iff_ne.2 hE
                    clear HEV6 hE
                    obtain ⟨⟨d1, d2, d3, d4⟩, e1, e2, e3, e4⟩ := Box4.zero HX15.out.re
                    obtain ⟨⟨g1, g2, g3, g4⟩, _, _, _, _⟩ := Box4.zero HX15.out.no
                    obtain ⟨f1, f2, f3, f4⟩ := (box_put4 HX15.out.re ⟨0, 0, 0, 0⟩).cells
                    dsimp only at f1 f2 f3 f4
                    have hL4 := (((HX15.out.be.setCell (p := ⟨w.heap.size, 0, none⟩) (Nat.le_refl _) (.int .i64 0)).setCell (p := ⟨w.heap.size, 1, none⟩) (Nat.le_refl _) (.int .i64 0)).setCell (p := ⟨w.heap.size, 2, none⟩) (Nat.le_refl _) (.int .i64 0)).setCell (p := ⟨w.heap.size, 3, none⟩) (Nat.le_refl _) (.int .i64 0)
                    go_wp2_with fail
                    refine bodyPost_ret (v := .tuple #[.agg #[.int .i64 0, .int .i64 0, .int .i64 0, .int .i64 0], .int .i64 (a3 : Int), .int .i64 E]) (by simp [results, Tryd.results48, go_sem, f1, f2, f3, f4]) rfl ?_
                    refine ⟨?_, hL4⟩
                    rw [HEV.out]
                    rfl
                · rw [hca, hk2] at HSP' HEV6
                  generalize bdS 1 z 2 ca = Z at *
                  generalize bdE 1 z 2 ca = E at *
                  obtain ⟨l1, l2, _, _⟩ := two_cells HL13.out
                  obtain ⟨m1, m2, m3, m4⟩ := two_cells HH13.out
                  have HX14 := Lib.hid (HX13.out.put P10 hN10 (.int .i64 2))
                  have HL14 := Lib.hid (kind_far (N := P10) HL13.out hne (.int .i64 2))
                  have HH14 := Lib.hid (kind_put HH13.out 2)
                  obtain ⟨n1, n2, _, _⟩ := two_cells HL14.out
                  obtain ⟨n3, n4, _, _⟩ := two_cells HH14.out
                  go_wp2_with fail
                  generalize y13.setCell ⟨P10, 0, none⟩ (.int .i64 2) = y14 at *
                  clear l1 l2 m1 m2 m3 m4 n1 n2 n3 n4 HX13 HL13 HH13
                  refine (HSP'.out _).mono ?_
                  rintro e y15 ⟨rfl, hB15⟩
                  have HX15 := Lib.hid (HX14.out.on (bt hB15 (below_new y15 (.cells #[.int .i64 Z.ls, .int .i64 Z.la, .int .i64 Z.hs, .int .i64 Z.ha] 27))))
                  have HZ15 : Hid (Box4 (y15.alloc (.cells #[.int .i64 Z.ls, .int .i64 Z.la, .int .i64 Z.hs, .int .i64 Z.ha] 27)) y15.heap.size Z) := heap_alloc_new _ _
                  by_cases hE : E = 0
                  · subst hE
                    have HEV : Hid (EV = rdV (Z, a4 + 1, 0)) := by
                      show _ = _
                      rw [HEV6.out, if_pos rfl]
                    obtain ⟨⟨d1, d2, d3, d4⟩, e1, e2, e3, e4⟩ := Box4.zero HX15.out.re
                    obtain ⟨⟨g1, g2, g3, g4⟩, _, _, _, _⟩ := Box4.zero HX15.out.no
                    obtain ⟨z1, z2', z3, z4'⟩ := HZ15.out.cells
                    obtain ⟨f1, f2, f3, f4⟩ := (box_put4 HX15.out.re Z).cells
                    have hL4 := (((HX15.out.be.setCell (p := ⟨w.heap.size, 0, none⟩) (Nat.le_refl _) (.int .i64 Z.ls)).setCell (p := ⟨w.heap.size, 1, none⟩) (Nat.le_refl _) (.int .i64 Z.la)).setCell (p := ⟨w.heap.size, 2, none⟩) (Nat.le_refl _) (.int .i64 Z.hs)).setCell (p := ⟨w.heap.size, 3, none⟩) (Nat.le_refl _) (.int .i64 Z.ha)
                    clear HEV6
                    go_wp2_with fail
                    refine bodyPost_ret (v := .tuple #[.agg #[.int .i64 Z.ls, .int .i64 Z.la, .int .i64 Z.hs, .int .i64 Z.ha], .int .i64 ((a4 : Int) + 1), .int .i64 0]) (by simp [results, Tryd.results48, go_sem, f1, f2, f3, f4]) rfl ?_
                    refine ⟨?_, hL4⟩
                    rw [HEV.out]
                    rfl
                  · have HEV : Hid (EV = rdV ((⟨0, 0, 0, 0⟩ : S4), a3, E)) := by
                      show _ = _
                      rw [HEV6.out, if_neg hE]
                    have tE : (E != 0) = true := bne_iff_ne.2 hE
                    clear HEV6 hE
                    obtain ⟨⟨d1, d2, d3, d4⟩, e1, e2, e3, e4⟩ := Box4.zero HX15.out.re
                    obtain ⟨⟨g1, g2, g3, g4⟩, _, _, _, _⟩ := Box4.zero HX15.out.no
                    obtain ⟨f1, f2, f3, f4⟩ := (box_put4 HX15.out.re ⟨0, 0, 0, 0⟩).cells
                    dsimp only at f1 f2 f3 f4
                    have hL4 := (((HX15.out.be.setCell (p := ⟨w.heap.size, 0, none⟩) (Nat.le_refl _) (.int .i64 0)).setCell (p := ⟨w.heap.size, 1, none⟩) (Nat.le_refl _) (.int .i64 0)).setCell (p := ⟨w.heap.size, 2, none⟩) (Nat.le_refl _) (.int .i64 0)).setCell (p := ⟨w.heap.size, 3, none⟩) (Nat.le_refl _) (.int .i64 0)
                    go_wp2_with fail
                    refine bodyPost_ret (v := .tuple #[.agg #[.int .i64 0, .int .i64 0, .int .i64 0, .int .i64 0], .int .i64 (a3 : Int), .int .i64 E]) (by simp [results, Tryd.results48, go_sem, f1, f2, f3, f4]) rfl ?_
                    refine ⟨?_, hL4⟩
                    rw [HEV.out]
                    rfl
              | false =>
                go_wp2_with fail
                refine (HI5.out _).mono ?_
                rintro e y13 ⟨rfl, hB13⟩
                have HX13 := Lib.hid (HX12.out.on hB13)
                have HL13 := Lib.hid (box_on HL12.out hB13)
                have HH13 := Lib.hid (box_on HH12.out hB13)
                clear hB13 HX12 HL12 HH12 HI5
                have HEV5 : Hid (EV = rdV (rdF true true false C2 a3 a4 (some z) c)) := HEV4.out
                clear HEV4
                cases C2 with
                | false =>
                  have HEV : Hid (EV = rdV ((⟨0, 0, 0, 0⟩ : S4), a4, 40)) := by
                    show _ = _
                    rw [HEV5.out, rdF_no _ _ _ _ _ _ _ _ rfl]
                  obtain ⟨⟨d1, d2, d3, d4⟩, e1, e2, e3, e4⟩ := Box4.zero HX13.out.re
                  obtain ⟨⟨g1, g2, g3, g4⟩, _, _, _, _⟩ := Box4.zero HX13.out.no
                  obtain ⟨f1, f2, f3, f4⟩ := (box_put4 HX13.out.re ⟨0, 0, 0, 0⟩).cells
                  dsimp only at f1 f2 f3 f4
                  have hL4 := (((HX13.out.be.setCell (p := ⟨w.heap.size, 0, none⟩) (Nat.le_refl _) (.int .i64 0)).setCell (p := ⟨w.heap.size, 1, none⟩) (Nat.le_refl _) (.int .i64 0)).setCell (p := ⟨w.heap.size, 2, none⟩) (Nat.le_refl _) (.int .i64 0)).setCell (p := ⟨w.heap.size, 3, none⟩) (Nat.le_refl _) (.int .i64 0)
                  go_wp2_with fail
                  refine bodyPost_ret (v := .tuple #[.agg #[.int .i64 0, .int .i64 0, .int .i64 0, .int .i64 0], .int .i64 (a4 : Int), .int .i64 40]) (by simp [results, Tryd.results48, go_sem, f1, f2, f3, f4]) rfl ?_
                  refine ⟨?_, hL4⟩
                  rw [HEV.out]
                  rfl
                | true =>
                  have HEV6 := Lib.hid (HEV5.out.trans (congrArg rdV (rdF_yes true true false _ a3 a4 (some z) c (by rfl))))
                  rw [show (!false) = true from rfl] at HEV6
                  have HSP' := Lib.hid (fun W => HSP.out 1 z (bkind c true) (bnum c) W HBN.out HCN.out)
                  have HKL : Hid (bkind (some z) true = 1 ∧ bnum (some z) = z) := ⟨rfl, rfl⟩
                  rw [HKL.out.1, HKL.out.2] at HEV6
                  rcases HCK.out with ⟨⟨rfl, hk0⟩ | ⟨rfl, hk1, hk2⟩, hca⟩
                  · rw [hca, hk0] at HSP' HEV6
                    generalize bdS 1 z 0 ca = Z at *
                    generalize bdE 1 z 0 ca = E at *
                    obtain ⟨l1, l2, _, _⟩ := two_cells HL13.out
                    obtain ⟨m1, m2, m3, m4⟩ := two_cells HH13.out
                    go_wp2_with fail
                    clear l1 l2 m1 m2 m3 m4 HL13 HH13
                    have HX14 := HX13
                    clear HX13
                    generalize y13 = y14 at *
                    refine (HSP'.out _).mono ?_
                    rintro e y15 ⟨rfl, hB15⟩
                    have HX15 := Lib.hid (HX14.out.on (bt hB15 (below_new y15 (.cells #[.int .i64 Z.ls, .int .i64 Z.la, .int .i64 Z.hs, .int .i64 Z.ha] 27))))
                    have HZ15 : Hid (Box4 (y15.alloc (.cells #[.int .i64 Z.ls, .int .i64 Z.la, .int .i64 Z.hs, .int .i64 Z.ha] 27)) y15.heap.size Z) := heap_alloc_new _ _
                    by_cases hE : E = 0
                    · subst hE
                      have HEV : Hid (EV = rdV (Z, a4 + 1, 0)) := by
                        show _ = _
                        rw [HEV6.out, if_pos rfl]
                      obtain ⟨⟨d1, d2, d3, d4⟩, e1, e2, e3, e4⟩ := Box4.zero HX15.out.re
                      obtain ⟨⟨g1, g2, g3, g4⟩, _, _, _, _⟩ := Box4.zero HX15.out.no
                      obtain ⟨z1, z2', z3, z4'⟩ := HZ15.out.cells
                      obtain ⟨f1, f2, f3, f4⟩ := (box_put4 HX15.out.re Z).cells
                      have hL4 := (((HX15.out.be.setCell (p := ⟨w.heap.size, 0, none⟩) (Nat.le_refl _) (.int .i64 Z.ls)).setCell (p := ⟨w.heap.size, 1, none⟩) (Nat.le_refl _) (.int .i64 Z.la)).setCell (p := ⟨w.heap.size, 2, none⟩) (Nat.le_refl _) (.int .i64 Z.hs)).setCell (p := ⟨w.heap.size, 3, none⟩) (Nat.le_refl _) (.int .i64 Z.ha)
                      clear HEV6
                      go_wp2_with fail
                      refine bodyPost_ret (v := .tuple #[.agg #[.int .i64 Z.ls, .int .i64 Z.la, .int .i64 Z.hs, .int .i64 Z.ha], .int .i64 ((a4 : Int) + 1), .int .i64 0]) (by simp [results, Tryd.results48, go_sem, f1, f2, f3, f4]) rfl ?_
                      refine ⟨?_, hL4⟩
                      rw [HEV.out]
                      rfl
                    · have HEV : Hid (EV = rdV ((⟨0, 0, 0, 0⟩ : S4), a3, E)) := by
                        show _ = _
                        rw [HEV6.out, if_neg hE]
                      have tE : (E != 0) = true := bne_iff_ne.2 hE
                      clear HEV6 hE
                      obtain ⟨⟨d1, d2, d3, d4⟩, e1, e2, e3, e4⟩ := Box4.zero HX15.out.re
                      obtain ⟨⟨g1, g2, g3, g4⟩, _, _, _, _⟩ := Box4.zero HX15.out.no
                      obtain ⟨f1, f2, f3, f4⟩ := (box_put4 HX15.out.re ⟨0, 0, 0, 0⟩).cells
                      dsimp only at f1 f2 f3 f4
                      have hL4 := (((HX15.out.be.setCell (p := ⟨w.heap.size, 0, none⟩) (Nat.le_refl _) (.int .i64 0)).setCell (p := ⟨w.heap.size, 1, none⟩) (Nat.le_refl _) (.int .i64 0)).setCell (p := ⟨w.heap.size, 2, none⟩) (Nat.le_refl _) (.int .i64 0)).setCell (p := ⟨w.heap.size, 3, none⟩) (Nat.le_refl _) (.int .i64 0)
                      go_wp2_with fail
                      refine bodyPost_ret (v := .tuple #[.agg #[.int .i64 0, .int .i64 0, .int .i64 0, .int .i64 0], .int .i64 (a3 : Int), .int .i64 E]) (by simp [results, Tryd.results48, go_sem, f1, f2, f3, f4]) rfl ?_
                      refine ⟨?_, hL4⟩
                      rw [HEV.out]
                      rfl
                  · rw [hca, hk1] at HSP' HEV6
                    generalize bdS 1 z 1 ca = Z at *
                    generalize bdE 1 z 1 ca = E at *
                    obtain ⟨l1, l2, _, _⟩ := two_cells HL13.out
                    obtain ⟨m1, m2, m3, m4⟩ := two_cells HH13.out
                    go_wp2_with fail
                    clear l1 l2 m1 m2 m3 m4 HL13 HH13
                    have HX14 := HX13
                    clear HX13
                    generalize y13 = y14 at *
                    refine (HSP'.out _).mono ?_
                    rintro e y15 ⟨rfl, hB15⟩
                    have HX15 := Lib.hid (HX14.out.on (bt hB15 (below_new y15 (.cells #[.int .i64 Z.ls, .int .i64 Z.la, .int .i64 Z.hs, .int .i64 Z.ha] 27))))
                    have HZ15 : Hid (Box4 (y15.alloc (.cells #[.int .i64 Z.ls, .int .i64 Z.la, .int .i64 Z.hs, .int .i64 Z.ha] 27)) y15.heap.size Z) := heap_alloc_new _ _
                    by_cases hE : E = 0
                    · subst hE
                      have HEV : Hid (EV = rdV (Z, a4 + 1, 0)) := by
                        show _ = _
                        rw [HEV6.out, if_pos rfl]
                      obtain ⟨⟨d1, d2, d3, d4⟩, e1, e2, e3, e4⟩ := Box4.zero HX15.out.re
                      obtain ⟨⟨g1, g2, g3, g4⟩, _, _, _, _⟩ := Box4.zero HX15.out.no
                      obtain ⟨z1, z2', z3, z4'⟩ := HZ15.out.cells
                      obtain ⟨f1, f2, f3, f4⟩ := (box_put4 HX15.out.re Z).cells
                      have hL4 := (((HX15.out.be.setCell (p := ⟨w.heap.size, 0, none⟩) (Nat.le_refl _) (.int .i64 Z.ls)).setCell (p := ⟨w.heap.size, 1, none⟩) (Nat.le_refl _) (.int .i64 Z.la)).setCell (p := ⟨w.heap.size, 2, none⟩) (Nat.le_refl _) (.int .i64 Z.hs)).setCell (p := ⟨w.heap.size, 3, none⟩) (Nat.le_refl _) (.int .i64 Z.ha)
                      clear HEV6
                      go_wp2_with fail
                      refine bodyPost_ret (v := .tuple #[.agg #[.int .i64 Z.ls, .int .i64 Z.la, .int .i64 Z.hs, .int .i64 Z.ha], .int .i64 ((a4 : Int) + 1), .int .i64 0]) (by simp [results, Tryd.results48, go_sem, f1, f2, f3, f4]) rfl ?_
                      refine ⟨?_, hL4⟩
                      rw [HEV.out]
                      rfl
                    · have HEV : Hid (EV = rdV ((⟨0, 0, 0, 0⟩ : S4), a3, E)) := by
                        show _ = _
                        rw [HEV6.out, if_neg hE]
                      have tE : (E != 0) = true := bne_iff_ne.2 hE
                      clear HEV6 hE
                      obtain ⟨⟨d1, d2, d3, d4⟩, e1, e2, e3, e4⟩ := Box4.zero HX15.out.re
                      obtain ⟨⟨g1, g2, g3, g4⟩, _, _, _, _⟩ := Box4.zero HX15.out.no
                      obtain ⟨f1, f2, f3, f4⟩ := (box_put4 HX15.out.re ⟨0, 0, 0, 0⟩).cells
                      dsimp only at f1 f2 f3 f4
                      have hL4 := (((HX15.out.be.setCell (p := ⟨w.heap.size, 0, none⟩) (Nat.le_refl _) (.int .i64 0)).setCell (p := ⟨w.heap.size, 1, none⟩) (Nat.le_refl _) (.int .i64 0)).setCell (p := ⟨w.heap.size, 2, none⟩) (Nat.le_refl _) (.int .i64 0)).setCell (p := ⟨w.heap.size, 3, none⟩) (Nat.le_refl _) (.int .i64 0)
                      go_wp2_with fail
                      refine bodyPost_ret (v := .tuple #[.agg #[.int .i64 0, .int .i64 0, .int .i64 0, .int .i64 0], .int .i64 (a3 : Int), .int .i64 E]) (by simp [results, Tryd.results48, go_sem, f1, f2, f3, f4]) rfl ?_
                      refine ⟨?_, hL4⟩
                      rw [HEV.out]
                      rfl
        | false =>
          obtain ⟨l5, l6, _, _⟩ := two_cells HL6.out
          go_wp2_with fail
          generalize y5.setCell ⟨P4, 0, none⟩ (.int .i64 2) = y6 at *
          clear HL5 HX5 l1 l2 l3 l4 l5 l6
          refine (HB2'.out _).mono ?_
          rintro e y7 ⟨rfl, hB7⟩
          have HX7 := Lib.hid (HX6.out.on hB7)
          have HL7 := Lib.hid (box_on HL6.out hB7)
          clear hB7 HX6 HL6 HB2'
          have HI3 := Lib.hid (fun W => HIS.out a2 44 W hle3)
          obtain ⟨M, hM⟩ : ∃ M, hd (l.drop a2) [44] = M := ⟨_, rfl⟩
          rw [hM] at HI3
          have HM := Lib.hid hM
          clear hM
          go_wp2_with fail
          refine (HI3.out _).mono ?_
          rintro e y8 ⟨rfl, hB8⟩
          have HX8 := Lib.hid (HX7.out.on hB8)
          have HL8 := Lib.hid (box_on HL7.out hB8)
          clear hB8 HX7 HL7 HI3
          cases M with
          | false =>
            have HEV : Hid (EV = rdV ((⟨0, 0, 0, 0⟩ : S4), a2, 40)) := by
              show _ = _
              rw [HEV2.out, rdD_no l _ _ _ HM.out]
            obtain ⟨⟨d1, d2, d3, d4⟩, e1, e2, e3, e4⟩ := Box4.zero HX8.out.re
            obtain ⟨⟨g1, g2, g3, g4⟩, _, _, _, _⟩ := Box4.zero HX8.out.no
            obtain ⟨f1, f2, f3, f4⟩ := (box_put4 HX8.out.re ⟨0, 0, 0, 0⟩).cells
            dsimp only at f1 f2 f3 f4
            have hL4 := (((HX8.out.be.setCell (p := ⟨w.heap.size, 0, none⟩) (Nat.le_refl _) (.int .i64 0)).setCell (p := ⟨w.heap.size, 1, none⟩) (Nat.le_refl _) (.int .i64 0)).setCell (p := ⟨w.heap.size, 2, none⟩) (Nat.le_refl _) (.int .i64 0)).setCell (p := ⟨w.heap.size, 3, none⟩) (Nat.le_refl _) (.int .i64 0)
            go_wp2_with fail
            refine bodyPost_ret (v := .tuple #[.agg #[.int .i64 0, .int .i64 0, .int .i64 0, .int .i64 0], .int .i64 (a2 : Int), .int .i64 40]) (by simp [results, Tryd.results48, go_sem, f1, f2, f3, f4]) rfl ?_
            refine ⟨?_, hL4⟩
            rw [HEV.out]
            rfl
          | true =>
            have hlt2 : a2 + 1 ≤ s.size := by have := hd_len _ _ HM.out; rw [HDL.out] at this; simp at this; omega
            obtain ⟨a3, ha3⟩ : ∃ a3, a2 + 1 + bk true (l.drop (a2 + 1)) = a3 := ⟨_, rfl⟩
            have hle4 : a3 ≤ s.size := by have := bk_le true (l.drop (a2 + 1)); rw [HDL.out] at this; omega
            have HEV3 : Hid (EV = rdV (rdE l true a3 (some z))) := by
              show _ = _
              rw [HEV2.out, rdD_yes l _ _ a3 _ HM.out ha3]
            have HB3' : Hid (∀ W, Calls Tryd.prog 64 #[.string s, .int .i64 ((a2 : Int) + 1), .bool true] W fun e w' => e = .returned (.int .i64 (a3 : Int)) ∧ Go.RowKit.Below W.heap.size W w') := fun W => by have := HBK.out (a2 + 1) W hlt2; rw [ha3] at this; exact this
            clear HEV2 HM ha3
            go_wp2_with fail
            refine (HB3'.out _).mono ?_
            rintro e y9 ⟨rfl, hB9⟩
            have HX9 := Lib.hid (HX8.out.on hB9)
            have HL9 := Lib.hid (box_on HL8.out hB9)
            clear hB9 HX8 HL8 HB3'
            have HE2 := Lib.hid (fun W => HEP.out a3 W hle4)
            obtain ⟨E2, hE2⟩ : ∃ E2, en true pinf (l.drop a3) = E2 := ⟨_, rfl⟩
            rw [hE2] at HE2
            have HE2' := Lib.hid hE2
            clear hE2
            cases E2 with
            | none =>
              have HEV : Hid (EV = rdV ((⟨0, 0, 0, 0⟩ : S4), a3, 40)) := by
                show _ = _
                rw [HEV3.out, rdE_no l _ _ _ HE2'.out]
              have HV2 : Hid (∀ W, Calls Tryd.prog 65 #[.string s, .int .i64 (a3 : Int), .string ⟨#[43, 105, 110, 102]⟩, .bool true] W fun e w' => e = .returned (.tuple #[.agg #[.int .i64 0, .int .i64 0], .int .i64 (-1)]) ∧ Go.RowKit.Below W.heap.size W w') := HE2.out
              go_wp2_with fail
              refine (HV2.out _).mono ?_
              rintro e y10 ⟨rfl, hB10⟩
              have HX10 := Lib.hid (HX9.out.on (bt hB10 (below_new y10 (bB 0 0))))
              obtain ⟨⟨d1, d2, d3, d4⟩, e1, e2, e3, e4⟩ := Box4.zero HX10.out.re
              obtain ⟨⟨g1, g2, g3, g4⟩, _, _, _, _⟩ := Box4.zero HX10.out.no
              obtain ⟨f1, f2, f3, f4⟩ := (box_put4 HX10.out.re ⟨0, 0, 0, 0⟩).cells
              dsimp only at f1 f2 f3 f4
              have hL4 := (((HX10.out.be.setCell (p := ⟨w.heap.size, 0, none⟩) (Nat.le_refl _) (.int .i64 0)).setCell (p := ⟨w.heap.size, 1, none⟩) (Nat.le_refl _) (.int .i64 0)).setCell (p := ⟨w.heap.size, 2, none⟩) (Nat.le_refl _) (.int .i64 0)).setCell (p := ⟨w.heap.size, 3, none⟩) (Nat.le_refl _) (.int .i64 0)
              go_wp2_with fail
              refine bodyPost_ret (v := .tuple #[.agg #[.int .i64 0, .int .i64 0, .int .i64 0, .int .i64 0], .int .i64 (a3 : Int), .int .i64 40]) (by simp [results, Tryd.results48, go_sem, f1, f2, f3, f4]) rfl ?_
              refine ⟨?_, hL4⟩
              rw [HEV.out]
              rfl
            | some p =>
              obtain ⟨c, m⟩ := p
              have hle5 : a3 + m ≤ s.size := by have := (en_le true pinf _ rfl _ _ HE2'.out).1; rw [HDL.out] at this; omega
              have HCN := Lib.hid (bnum_i64 true pinf _ c m HE2'.out)
              obtain ⟨nx2, hnx2⟩ : ∃ nx2, a3 + m = nx2 := ⟨_, rfl⟩
              obtain ⟨a4, ha4⟩ : ∃ a4, nx2 + bk true (l.drop nx2) = a4 := ⟨_, rfl⟩
              have hle6 : a4 ≤ s.size := by have := bk_le true (l.drop nx2); rw [HDL.out] at this; omega
              have HEV4 : Hid (EV = rdV (rdF true (hd l [40]) (true && hd (l.drop a4) [93]) (hd (l.drop a4) [41]) a3 a4 (some z) c)) := by
                show _ = _
                rw [HEV3.out, rdE_yes l true a3 a4 m _ c HE2'.out (by rw [hnx2]; exact ha4)]
              rw [HO.out] at HEV4
              have HB4' := Lib.hid (fun W => HBK.out nx2 W (by omega))
              rw [ha4] at HB4'
              have HI4 := Lib.hid (fun W => HIS.out a4 93 W hle6)
              have HI5 := Lib.hid (fun W => HIS.out a4 41 W hle6)
              generalize hd (l.drop a4) [93] = C1 at *
              generalize hd (l.drop a4) [41] = C2 at *
              obtain ⟨ck, ca, HV2, HCK⟩ : ∃ ck ca, Hid (∀ W, Calls Tryd.prog 65 #[.string s, .int .i64 (a3 : Int), .string ⟨#[43, 105, 110, 102]⟩, .bool true] W fun e w' => e = .returned (.tuple #[.agg #[.int .i64 ck, .int .i64 ca], .int .i64 (nx2 : Int)]) ∧ Go.RowKit.Below W.heap.size W w') ∧ Hid (((ck = 0 ∧ ∀ x, bkind c x = 0) ∨ (ck = 1 ∧ bkind c true = 1 ∧ bkind c false = 2)) ∧ bnum c = ca) := by
                cases c with
                | none => exact ⟨0, 0, by rw [← hnx2]; exact HE2.out, .inl ⟨rfl, fun _ => rfl⟩, rfl⟩
                | some z2 => exact ⟨1, z2, by rw [← hnx2]; exact HE2.out, .inr ⟨rfl, rfl, rfl⟩, rfl⟩
              clear HE2 HE2' HEV3 ha4
              rw [hnx2] at hle5
              clear hnx2
              go_wp2_with fail
              refine (HV2.out _).mono ?_
              rintro e y10 ⟨rfl, hB10⟩
              have hA10 := bt hB10 (below_new y10 (bB ck ca))
              have HX10 := Lib.hid (HX9.out.on hA10)
              have HL10 := Lib.hid (box_on HL9.out hA10)
              have HH10 : Hid ((y10.alloc (bB ck ca)).heap[y10.heap.size]? = some (bB ck ca)) := heap_alloc_new _ _
              have hN10 : w.heap.size + 2 ≤ y10.heap.size := (HX9.out.on hB10).lt
              have hne : P4 ≠ y10.heap.size := by have := lt_of_block (box_on HL9.out hB10); omega
              clear hB10 hA10 HX9 HL9 HV2
              go_wp2_with fail
              generalize y10.alloc (bB ck ca) = X10 at *
              generalize y10.heap.size = P10 at *
              refine (HB4'.out _).mono ?_
              rintro e y11 ⟨rfl, hB11⟩
              have HX11 := Lib.hid (HX10.out.on hB11)
              have HL11 := Lib.hid (box_on HL10.out hB11)
              have HH11 := Lib.hid (box_on HH10.out hB11)
              clear hB11 HX10 HL10 HH10 HB4'
              go_wp2_with fail
              refine (HI4.out _).mono ?_
              rintro e y12 ⟨rfl, hB12⟩
              have HX12 := Lib.hid (HX11.out.on hB12)
              have HL12 := Lib.hid (box_on HL11.out hB12)
              have HH12 := Lib.hid (box_on HH11.out hB12)
              clear hB12 HX11 HL11 HH11 HI4
              cases C1 with
              | true =>
                have HEV5 : Hid (EV = rdV (rdF true false true C2 a3 a4 (some z) c)) := HEV4.out
                have HX13 := HX12
                have HL13 := HL12
                have HH13 := HH12
                clear HX12 HL12 HH12 HEV4
                generalize y12 = y13 at *
                have HEV6 := Lib.hid (HEV5.out.trans (congrArg rdV (rdF_yes true false true _ a3 a4 (some z) c (by rfl))))
                rw [show (!true) = false from rfl] at HEV6
                have HSP' := Lib.hid (fun W => HSP.out 2 z (bkind c false) (bnum c) W HBN.out HCN.out)
                have HKL : Hid (bkind (some z) false = 2 ∧ bnum (some z) = z) := ⟨rfl, rfl⟩
                rw [HKL.out.1, HKL.out.2] at HEV6
                rcases HCK.out with ⟨⟨rfl, hk0⟩ | ⟨rfl, hk1, hk2⟩, hca⟩
                · rw [hca, hk0] at HSP' HEV6
                  generalize bdS 2 z 0 ca = Z at *
                  generalize bdE 2 z 0 ca = E at *
                  obtain ⟨l1, l2, _, _⟩ := two_cells HL13.out
                  obtain ⟨m1, m2, m3, m4⟩ := two_cells HH13.out
                  go_wp2_with fail
                  clear l1 l2 m1 m2 m3 m4 HL13 HH13
                  have HX14 := HX13
                  clear HX13
                  generalize y13 = y14 at *
                  refine (HSP'.out _).mono ?_
                  rintro e y15 ⟨rfl, hB15⟩
                  have HX15 := Lib.hid (HX14.out.on (bt hB15 (below_new y15 (.cells #[.int .i64 Z.ls, .int .i64 Z.la, .int .i64 Z.hs, .int .i64 Z.ha] 27))))
                  have HZ15 : Hid (Box4 (y15.alloc (.cells #[.int .i64 Z.ls, .int .i64 Z.la, .int .i64 Z.hs, .int .i64 Z.ha] 27)) y15.heap.size Z) := heap_alloc_new _ _
                  by_cases hE : E = 0
                  · subst hE
                    have HEV : Hid (EV = rdV (Z, a4 + 1, 0)) := by
                      show _ = _
                      rw [HEV6.out, if_pos rfl]
                    obtain ⟨⟨d1, d2, d3, d4⟩, e1, e2, e3, e4⟩ := Box4.zero HX15.out.re
                    obtain ⟨⟨g1, g2, g3, g4⟩, _, _, _, _⟩ := Box4.zero HX15.out.no
                    obtain ⟨z1, z2', z3, z4'⟩ := HZ15.out.cells
                    obtain ⟨f1, f2, f3, f4⟩ := (box_put4 HX15.out.re Z).cells
                    have hL4 := (((HX15.out.be.setCell (p := ⟨w.heap.size, 0, none⟩) (Nat.le_refl _) (.int .i64 Z.ls)).setCell (p := ⟨w.heap.size, 1, none⟩) (Nat.le_refl _) (.int .i64 Z.la)).setCell (p := ⟨w.heap.size, 2, none⟩) (Nat.le_refl _) (.int .i64 Z.hs)).setCell (p := ⟨w.heap.size, 3, none⟩) (Nat.le_refl _) (.int .i64 Z.ha)
                    clear HEV6
                    go_wp2_with fail
                    refine bodyPost_ret (v := .tuple #[.agg #[.int .i64 Z.ls, .int .i64 Z.la, .int .i64 Z.hs, .int .i64 Z.ha], .int .i64 ((a4 : Int) + 1), .int .i64 0]) (by simp [results, Tryd.results48, go_sem, f1, f2, f3, f4]) rfl ?_
                    refine ⟨?_, hL4⟩
                    rw [HEV.out]
                    rfl
                  · have HEV : Hid (EV = rdV ((⟨0, 0, 0, 0⟩ : S4), a3, E)) := by
                      show _ = _
                      rw [HEV6.out, if_neg hE]
                    have tE : (E != 0) = true := bne_iff_ne.2 hE
                    clear HEV6 hE
                    obtain ⟨⟨d1, d2, d3, d4⟩, e1, e2, e3, e4⟩ := Box4.zero HX15.out.re
                    obtain ⟨⟨g1, g2, g3, g4⟩, _, _, _, _⟩ := Box4.zero HX15.out.no
                    obtain ⟨f1, f2, f3, f4⟩ := (box_put4 HX15.out.re ⟨0, 0, 0, 0⟩).cells
                    dsimp only at f1 f2 f3 f4
                    have hL4 := (((HX15.out.be.setCell (p := ⟨w.heap.size, 0, none⟩) (Nat.le_refl _) (.int .i64 0)).setCell (p := ⟨w.heap.size, 1, none⟩) (Nat.le_refl _) (.int .i64 0)).setCell (p := ⟨w.heap.size, 2, none⟩) (Nat.le_refl _) (.int .i64 0)).setCell (p := ⟨w.heap.size, 3, none⟩) (Nat.le_refl _) (.int .i64 0)
                    go_wp2_with fail
                    refine bodyPost_ret (v := .tuple #[.agg #[.int .i64 0, .int .i64 0, .int .i64 0, .int .i64 0], .int .i64 (a3 : Int), .int .i64 E]) (by simp [results, Tryd.results48, go_sem, f1, f2, f3, f4]) rfl ?_
                    refine ⟨?_, hL4⟩
                    rw [HEV.out]
                    rfl
                · rw [hca, hk2] at HSP' HEV6
                  generalize bdS 2 z 2 ca = Z at *
                  generalize bdE 2 z 2 ca = E at *
                  obtain ⟨l1, l2, _, _⟩ := two_cells HL13.out
                  obtain ⟨m1, m2, m3, m4⟩ := two_cells HH13.out
                  have HX14 := Lib.hid (HX13.out.put P10 hN10 (.int .i64 2))
                  have HL14 := Lib.hid (kind_far (N := P10) HL13.out hne (.int .i64 2))
                  have HH14 := Lib.hid (kind_put HH13.out 2)
                  obtain ⟨n1, n2, _, _⟩ := two_cells HL14.out
                  obtain ⟨n3, n4, _, _⟩ := two_cells HH14.out
                  go_wp2_with fail
                  generalize y13.setCell ⟨P10, 0, none⟩ (.int .i64 2) = y14 at *
                  clear l1 l2 m1 m2 m3 m4 n1 n2 n3 n4 HX13 HL13 HH13
                  refine (HSP'.out _).mono ?_
                  rintro e y15 ⟨rfl, hB15⟩
                  have HX15 := Lib.hid (HX14.out.on (bt hB15 (below_new y15 (.cells #[.int .i64 Z.ls, .int .i64 Z.la, .int .i64 Z.hs, .int .i64 Z.ha] 27))))
                  have HZ15 : Hid (Box4 (y15.alloc (.cells #[.int .i64 Z.ls, .int .i64 Z.la, .int .i64 Z.hs, .int .i64 Z.ha] 27)) y15.heap.size Z) := heap_alloc_new _ _
                  by_cases hE : E = 0
                  · subst hE
                    have HEV : Hid (EV = rdV (Z, a4 + 1, 0)) := by
                      show _ = _
                      rw [HEV6.out, if_pos rfl]
                    obtain ⟨⟨d1, d2, d3, d4⟩, e1, e2, e3, e4⟩ := Box4.zero HX15.out.re
                    obtain ⟨⟨g1, g2, g3, g4⟩, _, _, _, _⟩ := Box4.zero HX15.out.no
                    obtain ⟨z1, z2', z3, z4'⟩ := HZ15.out.cells
                    obtain ⟨f1, f2, f3, f4⟩ := (box_put4 HX15.out.re Z).cells
                    have hL4 := (((HX15.out.be.setCell (p := ⟨w.heap.size, 0, none⟩) (Nat.le_refl _) (.int .i64 Z.ls)).setCell (p := ⟨w.heap.size, 1, none⟩) (Nat.le_refl _) (.int .i64 Z.la)).setCell (p := ⟨w.heap.size, 2, none⟩) (Nat.le_refl _) (.int .i64 Z.hs)).setCell (p := ⟨w.heap.size, 3, none⟩) (Nat.le_refl _) (.int .i64 Z.ha)
                    clear HEV6
                    go_wp2_with fail
                    refine bodyPost_ret (v := .tuple #[.agg #[.int .i64 Z.ls, .int .i64 Z.la, .int .i64 Z.hs, .int .i64 Z.ha], .int .i64 ((a4 : Int) + 1), .int .i64 0]) (by simp [results, Tryd.results48, go_sem, f1, f2, f3, f4]) rfl ?_
                    refine ⟨?_, hL4⟩
                    rw [HEV.out]
                    rfl
                  · have HEV : Hid (EV = rdV ((⟨0, 0, 0, 0⟩ : S4), a3, E)) := by
                      show _ = _
                      rw [HEV6.out, if_neg hE]
                    have tE : (E != 0) = true := bne_iff_ne.2 hE
                    clear HEV6 hE
                    obtain ⟨⟨d1, d2, d3, d4⟩, e1, e2, e3, e4⟩ := Box4.zero HX15.out.re
                    obtain ⟨⟨g1, g2, g3, g4⟩, _, _, _, _⟩ := Box4.zero HX15.out.no
                    obtain ⟨f1, f2, f3, f4⟩ := (box_put4 HX15.out.re ⟨0, 0, 0, 0⟩).cells
                    dsimp only at f1 f2 f3 f4
                    have hL4 := (((HX15.out.be.setCell (p := ⟨w.heap.size, 0, none⟩) (Nat.le_refl _) (.int .i64 0)).setCell (p := ⟨w.heap.size, 1, none⟩) (Nat.le_refl _) (.int .i64 0)).setCell (p := ⟨w.heap.size, 2, none⟩) (Nat.le_refl _) (.int .i64 0)).setCell (p := ⟨w.heap.size, 3, none⟩) (Nat.le_refl _) (.int .i64 0)
                    go_wp2_with fail
                    refine bodyPost_ret (v := .tuple #[.agg #[.int .i64 0, .int .i64 0, .int .i64 0, .int .i64 0], .int .i64 (a3 : Int), .int .i64 E]) (by simp [results, Tryd.results48, go_sem, f1, f2, f3, f4]) rfl ?_
                    refine ⟨?_, hL4⟩
                    rw [HEV.out]
                    rfl
              | false =>
                go_wp2_with fail
                refine (HI5.out _).mono ?_
                rintro e y13 ⟨rfl, hB13⟩
                have HX13 := Lib.hid (HX12.out.on hB13)
                have HL13 := Lib.hid (box_on HL12.out hB13)
                have HH13 := Lib.hid (box_on HH12.out hB13)
                clear hB13 HX12 HL12 HH12 HI5
                have HEV5 : Hid (EV = rdV (rdF true false false C2 a3 a4 (some z) c)) := HEV4.out
                clear HEV4
                cases C2 with
                | false =>
                  have HEV : Hid (EV = rdV ((⟨0, 0, 0, 0⟩ : S4), a4, 40)) := by
                    show _ = _
                    rw [HEV5.out, rdF_no _ _ _ _ _ _ _ _ rfl]
                  obtain ⟨⟨d1, d2, d3, d4⟩, e1, e2, e3, e4⟩ := Box4.zero HX13.out.re
                  obtain ⟨⟨g1, g2, g3, g4⟩, _, _, _, _⟩ := Box4.zero HX13.out.no
                  obtain ⟨f1, f2, f3, f4⟩ := (box_put4 HX13.out.re ⟨0, 0, 0, 0⟩).cells
                  dsimp only at f1 f2 f3 f4
                  have hL4 := (((HX13.out.be.setCell (p := ⟨w.heap.size, 0, none⟩) (Nat.le_refl _) (.int .i64 0)).setCell (p := ⟨w.heap.size, 1, none⟩) (Nat.le_refl _) (.int .i64 0)).setCell (p := ⟨w.heap.size, 2, none⟩) (Nat.le_refl _) (.int .i64 0)).setCell (p := ⟨w.heap.size, 3, none⟩) (Nat.le_refl _) (.int .i64 0)
                  go_wp2_with fail
                  refine bodyPost_ret (v := .tuple #[.agg #[.int .i64 0, .int .i64 0, .int .i64 0, .int .i64 0], .int .i64 (a4 : Int), .int .i64 40]) (by simp [results, Tryd.results48, go_sem, f1, f2, f3, f4]) rfl ?_
                  refine ⟨?_, hL4⟩
                  rw [HEV.out]
                  rfl
                | true =>
                  have HEV6 := Lib.hid (HEV5.out.trans (congrArg rdV (rdF_yes true false false _ a3 a4 (some z) c (by rfl))))
                  rw [show (!false) = true from rfl] at HEV6
                  have HSP' := Lib.hid (fun W => HSP.out 2 z (bkind c true) (bnum c) W HBN.out HCN.out)
                  have HKL : Hid (bkind (some z) false = 2 ∧ bnum (some z) = z) := ⟨rfl, rfl⟩
                  rw [HKL.out.1, HKL.out.2] at HEV6
                  rcases HCK.out with ⟨⟨rfl, hk0⟩ | ⟨rfl, hk1, hk2⟩, hca⟩
                  · rw [hca, hk0] at HSP' HEV6
                    generalize bdS 2 z 0 ca = Z at *
                    generalize bdE 2 z 0 ca = E at *
                    obtain ⟨l1, l2, _, _⟩ := two_cells HL13.out
                    obtain ⟨m1, m2, m3, m4⟩ := two_cells HH13.out
                    go_wp2_with fail
                    clear l1 l2 m1 m2 m3 m4 HL13 HH13
                    have HX14 := HX13
                    clear HX13
                    generalize y13 = y14 at *
                    refine (HSP'.out _).mono ?_
                    rintro e y15 ⟨rfl, hB15⟩
                    have HX15 := Lib.hid (HX14.out.on (bt hB15 (below_new y15 (.cells #[.int .i64 Z.ls, .int .i64 Z.la, .int .i64 Z.hs, .int .i64 Z.ha] 27))))
                    have HZ15 : Hid (Box4 (y15.alloc (.cells #[.int .i64 Z.ls, .int .i64 Z.la, .int .i64 Z.hs, .int .i64 Z.ha] 27)) y15.heap.size Z) := heap_alloc_new _ _
                    by_cases hE : E = 0
                    · subst hE
                      have HEV : Hid (EV = rdV (Z, a4 + 1, 0)) := by
                        show _ = _
                        rw [HEV6.out, if_pos rfl]
                      obtain ⟨⟨d1, d2, d3, d4⟩, e1, e2, e3, e4⟩ := Box4.zero HX15.out.re
                      obtain ⟨⟨g1, g2, g3, g4⟩, _, _, _, _⟩ := Box4.zero HX15.out.no
                      obtain ⟨z1, z2', z3, z4'⟩ := HZ15.out.cells
                      obtain ⟨f1, f2, f3, f4⟩ := (box_put4 HX15.out.re Z).cells
                      have hL4 := (((HX15.out.be.setCell (p := ⟨w.heap.size, 0, none⟩) (Nat.le_refl _) (.int .i64 Z.ls)).setCell (p := ⟨w.heap.size, 1, none⟩) (Nat.le_refl _) (.int .i64 Z.la)).setCell (p := ⟨w.heap.size, 2, none⟩) (Nat.le_refl _) (.int .i64 Z.hs)).setCell (p := ⟨w.heap.size, 3, none⟩) (Nat.le_refl _) (.int .i64 Z.ha)
                      clear HEV6
                      go_wp2_with fail
                      refine bodyPost_ret (v := .tuple #[.agg #[.int .i64 Z.ls, .int .i64 Z.la, .int .i64 Z.hs, .int .i64 Z.ha], .int .i64 ((a4 : Int) + 1), .int .i64 0]) (by simp [results, Tryd.results48, go_sem, f1, f2, f3, f4]) rfl ?_
                      refine ⟨?_, hL4⟩
                      rw [HEV.out]
                      rfl
                    · have HEV : Hid (EV = rdV ((⟨0, 0, 0, 0⟩ : S4), a3, E)) := by
                        show _ = _
                        rw [HEV6.out, if_neg hE]
                      have tE : (E != 0) = true := bne_iff_ne.2 hE
                      clear HEV6 hE
                      obtain ⟨⟨d1, d2, d3, d4⟩, e1, e2, e3, e4⟩ := Box4.zero HX15.out.re
                      obtain ⟨⟨g1, g2, g3, g4⟩, _, _, _, _⟩ := Box4.zero HX15.out.no
                      obtain ⟨f1, f2, f3, f4⟩ := (box_put4 HX15.out.re ⟨0, 0, 0, 0⟩).cells
                      dsimp only at f1 f2 f3 f4
                      have hL4 := (((HX15.out.be.setCell (p := ⟨w.heap.size, 0, none⟩) (Nat.le_refl _) (.int .i64 0)).setCell (p := ⟨w.heap.size, 1, none⟩) (Nat.le_refl _) (.int .i64 0)).setCell (p := ⟨w.heap.size, 2, none⟩) (Nat.le_refl _) (.int .i64 0)).setCell (p := ⟨w.heap.size, 3, none⟩) (Nat.le_refl _) (.int .i64 0)
                      go_wp2_with fail
                      refine bodyPost_ret (v := .tuple #[.agg #[.int .i64 0, .int .i64 0, .int .i64 0, .int .i64 0], .int .i64 (a3 : Int), .int .i64 E]) (by simp [results, Tryd.results48, go_sem, f1, f2, f3, f4]) rfl ?_
                      refine ⟨?_, hL4⟩
                      rw [HEV.out]
                      rfl
                  · rw [hca, hk1] at HSP' HEV6
                    generalize bdS 2 z 1 ca = Z at *
                    generalize bdE 2 z 1 ca = E at *
                    obtain ⟨l1, l2, _, _⟩ := two_cells HL13.out
                    obtain ⟨m1, m2, m3, m4⟩ := two_cells HH13.out
                    go_wp2_with fail
                    clear l1 l2 m1 m2 m3 m4 HL13 HH13
                    have HX14 := HX13
                    clear HX13
                    generalize y13 = y14 at *
                    refine (HSP'.out _).mono ?_
                    rintro e y15 ⟨rfl, hB15⟩
                    have HX15 := Lib.hid (HX14.out.on (bt hB15 (below_new y15 (.cells #[.int .i64 Z.ls, .int .i64 Z.la, .int .i64 Z.hs, .int .i64 Z.ha] 27))))
                    have HZ15 : Hid (Box4 (y15.alloc (.cells #[.int .i64 Z.ls, .int .i64 Z.la, .int .i64 Z.hs, .int .i64 Z.ha] 27)) y15.heap.size Z) := heap_alloc_new _ _
                    by_cases hE : E = 0
                    · subst hE
                      have HEV : Hid (EV = rdV (Z, a4 + 1, 0)) := by
                        show _ = _
                        rw [HEV6.out, if_pos rfl]
                      obtain ⟨⟨d1, d2, d3, d4⟩, e1, e2, e3, e4⟩ := Box4.zero HX15.out.re
                      obtain ⟨⟨g1, g2, g3, g4⟩, _, _, _, _⟩ := Box4.zero HX15.out.no
                      obtain ⟨z1, z2', z3, z4'⟩ := HZ15.out.cells
                      obtain ⟨f1, f2, f3, f4⟩ := (box_put4 HX15.out.re Z).cells
                      have hL4 := (((HX15.out.be.setCell (p := ⟨w.heap.size, 0, none⟩) (Nat.le_refl _) (.int .i64 Z.ls)).setCell (p := ⟨w.heap.size, 1, none⟩) (Nat.le_refl _) (.int .i64 Z.la)).setCell (p := ⟨w.heap.size, 2, none⟩) (Nat.le_refl _) (.int .i64 Z.hs)).setCell (p := ⟨w.heap.size, 3, none⟩) (Nat.le_refl _) (.int .i64 Z.ha)
                      clear HEV6
                      go_wp2_with fail
                      refine bodyPost_ret (v := .tuple #[.agg #[.int .i64 Z.ls, .int .i64 Z.la, .int .i64 Z.hs, .int .i64 Z.ha], .int .i64 ((a4 : Int) + 1), .int .i64 0]) (by simp [results, Tryd.results48, go_sem, f1, f2, f3, f4]) rfl ?_
                      refine ⟨?_, hL4⟩
                      rw [HEV.out]
                      rfl
                    · have HEV : Hid (EV = rdV ((⟨0, 0, 0, 0⟩ : S4), a3, E)) := by
                        show _ = _
                        rw [HEV6.out, if_neg hE]
                      have tE : (E != 0) = true := bne_iff_ne.2 hE
                      clear HEV6 hE
                      obtain ⟨⟨d1, d2, d3, d4⟩, e1, e2, e3, e4⟩ := Box4.zero HX15.out.re
                      obtain ⟨⟨g1, g2, g3, g4⟩, _, _, _, _⟩ := Box4.zero HX15.out.no
                      obtain ⟨f1, f2, f3, f4⟩ := (box_put4 HX15.out.re ⟨0, 0, 0, 0⟩).cells
                      dsimp only at f1 f2 f3 f4
                      have hL4 := (((HX15.out.be.setCell (p := ⟨w.heap.size, 0, none⟩) (Nat.le_refl _) (.int .i64 0)).setCell (p := ⟨w.heap.size, 1, none⟩) (Nat.le_refl _) (.int .i64 0)).setCell (p := ⟨w.heap.size, 2, none⟩) (Nat.le_refl _) (.int .i64 0)).setCell (p := ⟨w.heap.size, 3, none⟩) (Nat.le_refl _) (.int .i64 0)
                      go_wp2_with fail
                      refine bodyPost_ret (v := .tuple #[.agg #[.int .i64 0, .int .i64 0, .int .i64 0, .int .i64 0], .int .i64 (a3 : Int), .int .i64 E]) (by simp [results, Tryd.results48, go_sem, f1, f2, f3, f4]) rfl ?_
                      refine ⟨?_, hL4⟩
                      rw [HEV.out]
                      rfl
end Go.Proofs.YthojkbmffiibdaaDoor
