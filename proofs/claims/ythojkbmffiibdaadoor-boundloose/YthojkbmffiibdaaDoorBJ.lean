/- A part of the proof: contracts of the functions that the statements reach. -/
import Derived.Test.YthojkbmffiibdaaDoorRows
import Derived.Test.YthojkbmffiibdaaDoorBA
import Derived.Test.YthojkbmffiibdaaDoorBB
import Derived.Test.YthojkbmffiibdaaDoorBC
import Derived.Test.YthojkbmffiibdaaDoorBD
import Derived.Test.YthojkbmffiibdaaDoorBE
import Derived.Test.YthojkbmffiibdaaDoorBF
import Derived.Test.YthojkbmffiibdaaDoorBG
import Derived.Test.YthojkbmffiibdaaDoorBH
import Derived.Test.YthojkbmffiibdaaDoorBI

/- The code's reader of bounds: skipBlanks, opening, comma, roundClosing, closing. -/
namespace Go.Proofs.YthojkbmffiibdaaDoor
open Go.RowKit Go.Sort Go.Proofs.YthojkbmffiibdaaDoor.Bo
set_option linter.unusedVariables false

theorem wrap_small (x : Int) (h1 : -9223372036854775808 ≤ x) (h2 : x < 9223372036854775808) : IntKind.i64.wrap x = x := by
  unfold IntKind.wrap
  simp [IntKind.signed, IntKind.bits]
  omega
def skN (L : Bool) (l : List UInt8) (i : Nat) : Nat := if (L && decide (0 < i)) = true then bk true (l.drop i) else 0
def SkPost (b : Nat) (t : ByteArray) (i : Nat) (bl ro : Bool) (lk la hk ha sc : Int) (W : World) (e : Ending) (W' : World) : Prop :=
  e = .returned (.tuple #[]) ∧ RdAt W' b t (i : Int) bl ro lk la hk ha sc ∧ Keep b W W'
theorem text0 {W : World} {b : Nat} {t : ByteArray} {i : Int} {bl ro : Bool} {lk la hk ha sc : Int} (h : RdAt W b t i bl ro lk la hk ha sc) : W.cell? ⟨b, 0, none⟩ = some (.string t) := h.cells.1.1
theorem RdAt.drew {W : World} {b : Nat} {t : ByteArray} {i : Int} {bl ro : Bool} {lk la hk ha sc : Int} (h : RdAt W b t i bl ro lk la hk ha sc) : RdAt W.drew b t i bl ro lk la hk ha sc := h
theorem Keep.drew {b : Nat} {X Y : World} (h : Keep b X Y) : Keep b X Y.drew := ⟨h.lo.drew, h.hi⟩
set_option maxRecDepth 100000 in
set_option maxHeartbeats 1000000 in
theorem skip_no (W : World) (b : Nat) (t : ByteArray) (i : Nat) (bl ro : Bool) (lk la hk ha sc : Int) (hN : (bl && decide (0 < i)) = false) (hR : RdAt W b t (i : Int) bl ro lk la hk ha sc) :
    Calls Tryd.prog 58 #[.pointer (some ⟨b, 0, none⟩)] W (SkPost b t i bl ro lk la hk ha sc W) := by
  obtain ⟨⟨c0, c1, c2, _, _, _, _, _, _⟩, _⟩ := hR.cells
  have HR := Lib.hid hR
  clear hR
  cases bl with
  | false =>
    go_enter Tryd.func58, Tryd.ntmps58
    go_wp2_with fail
    go_end0
    exact ⟨rfl, HR.out, Keep.refl _ _⟩
  | true =>
    obtain rfl : i = 0 := by
      have : decide (0 < i) = false := by simpa using hN
      have := of_decide_eq_false this
      omega
    go_enter Tryd.func58, Tryd.ntmps58
    go_wp2_with fail
    go_end0
    exact ⟨rfl, HR.out, Keep.refl _ _⟩
set_option maxRecDepth 100000 in
set_option maxHeartbeats 2000000 in
theorem skip_yes (W : World) (b : Nat) (t : ByteArray) (i : Nat) (ro : Bool) (lk la hk ha sc : Int) (h0 : 0 < i) (hR : RdAt W b t (i : Int) true ro lk la hk ha sc) (hi : i ≤ t.size) (ht : t.size ≤ 100000) :
    Calls Tryd.prog 58 #[.pointer (some ⟨b, 0, none⟩)] W (SkPost b t (i + bk true (t.data.toList.drop i)) true ro lk la hk ha sc W) := by
  have HRS := Lib.hid (fun W hR => rest_any W b t i true ro lk la hk ha sc hR hi ht)
  obtain ⟨e1, e2⟩ := rest_list t i hi
  have HTR := Lib.hid (fun W => trim_any (t.extract i t.size) W (by omega))
  rw [e1, e2] at HTR
  have hle := bk_le true (t.data.toList.drop i)
  rw [List.length_drop, size_list] at hle
  clear e1 e2
  generalize t.extract i t.size = tr at *
  generalize bk true (t.data.toList.drop i) = n at *
  obtain ⟨⟨c0, c1, c2, _, _, _, _, _, _⟩, _⟩ := hR.cells
  have HR := Lib.hid hR
  clear hR
  go_enter Tryd.func58, Tryd.ntmps58
  go_wp2_with fail
  clear c1 c2
  go_region_held3 (fun w' => w'.cell? ⟨b, 0, none⟩ = some (.string t))
    (with_reducible first | exact text0 HR.out | exact text0 (RdAt.drew HR.out) | exact text0 HR1.out | exact text0 HR2.out | exact text0 (RdAt.putAt HR2.out _))
    (first
      | (go_at_call 62; (with_reducible refine (HRS.out _ (RdAt.drew HR.out)).mono ?_); rintro e Y1 ⟨rfl, hB1⟩; have HR1 := Lib.hid (RdAt.on (RdAt.drew HR.out) hB1); have HK1 := Lib.hid (Keep.call (Keep.drew (Keep.refl b W)) (RdAt.lt (RdAt.drew HR.out)) hB1); clear hB1)
      | (go_at_call 72; (with_reducible refine (HTR.out _).mono ?_); rintro e Y2 ⟨⟨r, rfl, hr⟩, hB2⟩; have HR2 := Lib.hid (HR1.out.on hB2); have HK2 := Lib.hid (HK1.out.call HR1.out.lt hB2); obtain ⟨⟨_, d1, _, _, _, _, _, _, _⟩, hfz⟩ := HR2.out.cells; have f1 := hfz 1; clear hB2 hfz))
  all_goals
    go_wp2_with fail
    go_end0
    have e9 : IntKind.i64.wrap ((t.size : Int) - ((t.size - i - n : Nat) : Int)) = ((i + n : Nat) : Int) := by
      have e8 : (t.size : Int) - ((t.size - i - n : Nat) : Int) = ((i + n : Nat) : Int) := by omega
      rw [e8]
      exact wrap_small _ (by omega) (by omega)
    rw [e9]
    exact ⟨rfl, HR2.out.putAt _, HK2.out.put 1 _⟩
theorem skip_any (W : World) (b : Nat) (t : ByteArray) (i : Nat) (bl ro : Bool) (lk la hk ha sc : Int) (hR : RdAt W b t (i : Int) bl ro lk la hk ha sc) (hi : i ≤ t.size) (ht : t.size ≤ 100000) :
    Calls Tryd.prog 58 #[.pointer (some ⟨b, 0, none⟩)] W (SkPost b t (i + skN bl t.data.toList i) bl ro lk la hk ha sc W) := by
  unfold skN
  by_cases h : (bl && decide (0 < i)) = true
  · rw [if_pos h]
    obtain ⟨rfl, h2⟩ : bl = true ∧ decide (0 < i) = true := by simpa using h
    exact skip_yes W b t i ro lk la hk ha sc (of_decide_eq_true h2) hR hi ht
  · rw [if_neg h]
    exact skip_no W b t i bl ro lk la hk ha sc (eq_false_of_ne_true h) hR
theorem comma_any (W : World) (b : Nat) (t : ByteArray) (i : Nat) (bl ro : Bool) (lk la hk ha sc : Int) (B : Bool) (hB : hd (t.data.toList.drop i) [44] = B) (hR : RdAt W b t (i : Int) bl ro lk la hk ha sc) (hi : i ≤ t.size) (ht : t.size ≤ 100000) :
    Calls Tryd.prog 45 #[.pointer (some ⟨b, 0, none⟩)] W (RdPost b B t (i + tkN B 1) bl ro lk la hk ha sc W) := by
  have HT := Lib.hid (take_any W b t ⟨#[44]⟩ i bl ro lk la hk ha sc B hB hR hi ht (by decide))
  clear hR
  go_enter Tryd.func45, Tryd.ntmps45
  go_wp2_with fail
  refine HT.out.mono ?_
  rintro e Y1 ⟨rfl, hR1, hK1⟩
  have HR1 := Lib.hid hR1
  clear hR1
  go_wp2_with fail
  go_ret
  exact ⟨rfl, HR1.out, hK1⟩
theorem rclose_any (W : World) (b : Nat) (t : ByteArray) (i : Nat) (bl ro : Bool) (lk la hk ha sc : Int) (B : Bool) (hB : hd (t.data.toList.drop i) [41] = B) (hR : RdAt W b t (i : Int) bl ro lk la hk ha sc) (hi : i ≤ t.size) (ht : t.size ≤ 100000) :
    Calls Tryd.prog 47 #[.pointer (some ⟨b, 0, none⟩)] W (RdPost b B t (i + tkN B 1) bl ro lk la hk ha sc W) := by
  have HT := Lib.hid (take_any W b t ⟨#[41]⟩ i bl ro lk la hk ha sc B hB hR hi ht (by decide))
  clear hR
  go_enter Tryd.func47, Tryd.ntmps47
  go_wp2_with fail
  refine HT.out.mono ?_
  rintro e Y1 ⟨rfl, hR1, hK1⟩
  have HR1 := Lib.hid hR1
  clear hR1
  go_wp2_with fail
  go_ret
  exact ⟨rfl, HR1.out, hK1⟩
set_option maxRecDepth 100000 in
set_option maxHeartbeats 1000000 in
theorem opening_any (W : World) (b : Nat) (t : ByteArray) (i : Nat) (bl ro : Bool) (lk la hk ha sc : Int) (O C : Bool) (hO : hd (t.data.toList.drop i) [40] = O) (hC : hd (t.data.toList.drop i) [91] = C) (hR : RdAt W b t (i : Int) bl ro lk la hk ha sc) (hi : i ≤ t.size) (ht : t.size ≤ 100000) :
    Calls Tryd.prog 43 #[.pointer (some ⟨b, 0, none⟩)] W (RdPost b (O || C) t (i + tkN (O || C) 1) bl O lk la hk ha sc W) := by
  have HT := Lib.hid (take_any W b t ⟨#[40]⟩ i bl ro lk la hk ha sc O hO hR hi ht (by decide))
  have HU := Lib.hid (fun W hR => take_any W b t ⟨#[91]⟩ i bl false lk la hk ha sc C hC hR hi ht (by decide))
  clear hR
  go_enter Tryd.func43, Tryd.ntmps43
  go_wp2_with fail
  refine HT.out.mono ?_
  rintro e Y1 ⟨rfl, hR1, hK1⟩
  have HR1 := Lib.hid hR1
  obtain ⟨_, hfz⟩ := hR1.cells
  have f3 := hfz 3
  have HR2 := Lib.hid (hR1.putRo O)
  have HK2 := Lib.hid (hK1.put 3 (.bool O))
  obtain ⟨⟨c0, c1, c2, c3, _, _, _, _, _⟩, _⟩ := hR1.cells
  obtain ⟨⟨_, _, _, d3, _, _, _, _, _⟩, _⟩ := HR2.out.cells
  clear hR1 hK1 hfz
  cases O with
  | true =>
    go_wp2_with fail
    go_ret
    exact ⟨rfl, HR2.out, HK2.out⟩
  | false =>
    go_wp2_with fail
    refine (HU.out _ HR2.out).mono ?_
    rintro e Y3 ⟨rfl, hR3, hK3⟩
    have HR3 := Lib.hid hR3
    have HK3 := Lib.hid (HK2.out.trans hK3)
    clear hR3 hK3
    go_wp2_with fail
    go_ret
    exact ⟨rfl, HR3.out, HK3.out⟩
def clK (hk : Int) (O : Bool) : Int := if hk = 0 then 0 else kb O
set_option maxRecDepth 100000 in
set_option maxHeartbeats 1000000 in
theorem closing_any (W : World) (b : Nat) (t : ByteArray) (i : Nat) (bl ro : Bool) (lk la hk ha sc : Int) (O C : Bool) (hO : hd (t.data.toList.drop i) [41] = O) (hC : hd (t.data.toList.drop i) [93] = C) (hR : RdAt W b t (i : Int) bl ro lk la hk ha sc) (hi : i ≤ t.size) (ht : t.size ≤ 100000) :
    Calls Tryd.prog 51 #[.pointer (some ⟨b, 0, none⟩)] W (RdPost b (O || C) t (i + tkN (O || C) 1) bl ro lk la (clK hk O) ha sc W) := by
  have HT := Lib.hid (take_any W b t ⟨#[41]⟩ i bl ro lk la hk ha sc O hO hR hi ht (by decide))
  have HU := Lib.hid (fun W hk hR => take_any W b t ⟨#[93]⟩ i bl ro lk la hk ha sc C hC hR hi ht (by decide))
  have HKB := Lib.hid (fun W => kb_any O W)
  obtain ⟨Q, hQ⟩ : ∃ Q, clK hk O = Q := ⟨_, rfl⟩
  rw [hQ]
  obtain ⟨KB, hKB⟩ : ∃ x, kb O = x := ⟨_, rfl⟩
  rw [hKB] at HKB
  unfold clK at hQ
  rw [hKB] at hQ
  have HQ := Lib.hid hQ
  clear hR hQ hKB
  go_enter Tryd.func51, Tryd.ntmps51
  go_wp2_with fail
  refine HT.out.mono ?_
  rintro e Y1 ⟨rfl, hR1, hK1⟩
  have HR1 := Lib.hid hR1
  have HK1 := Lib.hid hK1
  obtain ⟨⟨c0, c1, c2, c3, c4, c5, c6, _, _⟩, hfz⟩ := hR1.cells
  have f6 := hfz 6
  clear hR1 hK1 hfz
  by_cases h0 : hk = 0
  · subst h0
    have eQ : 0 = Q := by have h := HQ.out; rw [if_pos rfl] at h; exact h
    subst eQ
    cases O with
    | true =>
      go_wp2_with fail
      go_ret
      exact ⟨rfl, HR1.out, HK1.out⟩
    | false =>
      go_wp2_with fail
      refine (HU.out _ _ HR1.out).mono ?_
      rintro e Y3 ⟨rfl, hR3, hK3⟩
      have HR3 := Lib.hid hR3
      have HK3 := Lib.hid (HK1.out.trans hK3)
      clear hR3 hK3
      go_wp2_with fail
      go_ret
      exact ⟨rfl, HR3.out, HK3.out⟩
  · have eQ : KB = Q := by have h := HQ.out; rw [if_neg h0] at h; exact h
    subst eQ
    have t0 : (hk == 0) = false := beq_eq_false_iff_ne.2 h0
    have t1 : (hk != 0) = true := bne_iff_ne.2 h0
    go_wp2_with fail
    refine (HKB.out _).mono ?_
    rintro e Y2 ⟨rfl, hB2⟩
    have HR2 := Lib.hid (HR1.out.on hB2)
    have HK2 := Lib.hid (HK1.out.call HR1.out.lt hB2)
    have HR3 := Lib.hid (HR2.out.putHk KB)
    have HK3 := Lib.hid (HK2.out.put 6 (.int .i64 KB))
    clear c0 c1 c2 c3 c4 c5 c6 f6
    obtain ⟨⟨c0, c1, c2, c3, c4, c5, c6, _, _⟩, hfz⟩ := HR2.out.cells
    have f6 := hfz 6
    clear hfz hB2
    cases O with
    | true =>
      go_wp2_with fail
      go_ret
      exact ⟨rfl, HR3.out, HK3.out⟩
    | false =>
      go_wp2_with fail
      refine (HU.out _ _ HR3.out).mono ?_
      rintro e Y3 ⟨rfl, hR4, hK4⟩
      have HR4 := Lib.hid hR4
      have HK4 := Lib.hid (HK3.out.trans hK4)
      clear hR4 hK4
      go_wp2_with fail
      go_ret
      exact ⟨rfl, HR4.out, HK4.out⟩
end Go.Proofs.YthojkbmffiibdaaDoor

/- The code's reader of bounds: lowNumber, highNumber, lowCut, highCut. -/
namespace Go.Proofs.YthojkbmffiibdaaDoor
open Go.RowKit Go.Sort Go.Proofs.YthojkbmffiibdaaDoor.Bo
set_option linter.unusedVariables false

set_option maxRecDepth 100000 in
set_option maxHeartbeats 1000000 in
theorem lownum_inf (W : World) (b : Nat) (t : ByteArray) (i : Nat) (bl ro : Bool) (lk la hk ha sc : Int) (hN : hd (t.data.toList.drop i) ninf = true) (hR : RdAt W b t (i : Int) bl ro lk la hk ha sc) (hi : i ≤ t.size) (ht : t.size ≤ 100000) :
    Calls Tryd.prog 49 #[.pointer (some ⟨b, 0, none⟩)] W (RdPost b true t (i + 4) bl ro 0 0 hk ha sc W) := by
  have HT := Lib.hid (fun W hR => take_any W b t ⟨#[45, 105, 110, 102]⟩ i bl ro lk la hk ha sc true hN hR hi ht (by decide))
  have HF := Lib.hid (fun W => first_b W)
  have HX := Lib.hid (fun W => ctext_b (-1) 0 W (by unfold I64; omega))
  rw [show key (-1) 0 = lo64 from rfl, ktext_lo] at HX
  have HR := Lib.hid hR
  clear hR hN
  go_enter Tryd.func49, Tryd.ntmps49
  go_wp2_with fail
  refine (HF.out _).mono ?_
  rintro e Y1 ⟨rfl, hB1⟩
  have HR1 := Lib.hid (HR.out.on hB1)
  have HK1 := Lib.hid ((Keep.refl b W).call HR.out.lt hB1)
  clear hB1
  go_wp2_with fail
  refine (HX.out _).mono ?_
  rintro e Y2 ⟨rfl, hB2⟩
  have HR2 := Lib.hid (HR1.out.on hB2)
  have HK2 := Lib.hid (HK1.out.call HR1.out.lt hB2)
  clear hB2 HR1 HK1
  go_wp2_with fail
  refine (HT.out _ HR2.out).mono ?_
  rintro e Y3 ⟨rfl, hR3, hK3⟩
  have HR3 := Lib.hid hR3
  have HK3 := Lib.hid (HK2.out.trans hK3)
  obtain ⟨⟨c0, c1, c2, c3, c4, c5, c6, _, _⟩, hfz⟩ := hR3.cells
  have f4 := hfz 4
  have f5 := hfz 5
  clear hR3 hK3 hfz HK2 HR2
  have HR4 := Lib.hid (HR3.out.putLow 0 0)
  have HK4 := Lib.hid ((HK3.out.put 4 (.int .i64 0)).put 5 (.int .i64 0))
  go_wp2_with fail
  go_ret
  exact ⟨rfl, HR4.out, HK4.out⟩
set_option maxRecDepth 100000 in
set_option maxHeartbeats 1000000 in
theorem lownum_num (W : World) (b : Nat) (t : ByteArray) (i : Nat) (bl ro : Bool) (lk la hk ha sc : Int) (z : Int) (n : Nat) (hN : hd (t.data.toList.drop i) ninf = false) (hz : rdAll (t.data.toList.drop i) = (z, n)) (hR : RdAt W b t (i : Int) bl ro lk la hk ha sc) (hi : i ≤ t.size) (ht : t.size ≤ 100000) :
    Calls Tryd.prog 49 #[.pointer (some ⟨b, 0, none⟩)] W (RdPost b (decide (0 < n)) t (i + n) bl ro (kb ro) z hk ha sc W) := by
  have HT := Lib.hid (fun W hR => take_any W b t ⟨#[45, 105, 110, 102]⟩ i bl ro lk la hk ha sc false hN hR hi ht (by decide))
  have HF := Lib.hid (fun W => first_b W)
  have HX := Lib.hid (fun W => ctext_b (-1) 0 W (by unfold I64; omega))
  rw [show key (-1) 0 = lo64 from rfl, ktext_lo] at HX
  have HNM := Lib.hid (fun W hR => num_any W b t i bl ro lk la hk ha sc z n hz hR hi ht)
  have HKB := Lib.hid (fun W => kb_any ro W)
  generalize kb ro = KB at *
  generalize decide (0 < n) = D at *
  have HR := Lib.hid hR
  clear hR hN hz
  go_enter Tryd.func49, Tryd.ntmps49
  go_wp2_with fail
  refine (HF.out _).mono ?_
  rintro e Y1 ⟨rfl, hB1⟩
  have HR1 := Lib.hid (HR.out.on hB1)
  have HK1 := Lib.hid ((Keep.refl b W).call HR.out.lt hB1)
  clear hB1
  go_wp2_with fail
  refine (HX.out _).mono ?_
  rintro e Y2 ⟨rfl, hB2⟩
  have HR2 := Lib.hid (HR1.out.on hB2)
  have HK2 := Lib.hid (HK1.out.call HR1.out.lt hB2)
  clear hB2 HR1 HK1
  go_wp2_with fail
  refine (HT.out _ HR2.out).mono ?_
  rintro e Y3 ⟨rfl, hR3, hK3⟩
  have HR3 : Hid (RdAt Y3 b t (i : Int) bl ro lk la hk ha sc) := hR3
  have HK3 := Lib.hid (HK2.out.trans hK3)
  clear hR3 hK3 HK2 HR2
  go_wp2_with fail
  refine (HNM.out _ HR3.out).mono ?_
  rintro e Y4 ⟨rfl, hR4, hK4⟩
  have HR4 := Lib.hid hR4
  have HK4 := Lib.hid (HK3.out.trans hK4)
  obtain ⟨⟨c0, c1, c2, c3, c4, c5, c6, _, _⟩, hfz⟩ := hR4.cells
  clear hR4 hK4 HR3 HK3
  go_wp2_with fail
  refine (HKB.out _).mono ?_
  rintro e Y5 ⟨rfl, hB5⟩
  have HR5 := Lib.hid (HR4.out.on hB5)
  have HK5 := Lib.hid (HK4.out.call HR4.out.lt hB5)
  clear c0 c1 c2 c3 c4 c5 c6 hfz hB5 HR4 HK4
  obtain ⟨⟨c0, c1, c2, c3, c4, c5, c6, _, _⟩, hfz⟩ := HR5.out.cells
  have f4 := hfz 4
  have f5 := hfz 5
  have HR6 := Lib.hid (HR5.out.putLow KB z)
  have HK6 := Lib.hid ((HK5.out.put 4 (.int .i64 KB)).put 5 (.int .i64 z))
  clear hfz
  go_wp2_with fail
  go_ret
  exact ⟨rfl, HR6.out, HK6.out⟩
set_option maxRecDepth 100000 in
set_option maxHeartbeats 1000000 in
theorem highnum_inf (W : World) (b : Nat) (t : ByteArray) (i : Nat) (bl ro : Bool) (lk la hk ha sc : Int) (hN : hd (t.data.toList.drop i) pinf = true) (hR : RdAt W b t (i : Int) bl ro lk la hk ha sc) (hi : i ≤ t.size) (ht : t.size ≤ 100000) :
    Calls Tryd.prog 50 #[.pointer (some ⟨b, 0, none⟩)] W (RdPost b true t (i + 4) bl ro lk la 0 0 (i : Int) W) := by
  have HT := Lib.hid (fun W hR => take_any W b t ⟨#[43, 105, 110, 102]⟩ i bl ro lk la hk ha (i : Int) true hN hR hi ht (by decide))
  have HF := Lib.hid (fun W => last_b W)
  have HX := Lib.hid (fun W => ctext_b 1 0 W (by unfold I64; omega))
  rw [show key 1 0 = hi64 from rfl, ktext_hi] at HX
  have HR0 := Lib.hid hR
  obtain ⟨⟨c0, c1, c2, c3, c4, c5, c6, _, _⟩, hfz⟩ := hR.cells
  have f8 := hfz 8
  have HR := Lib.hid (hR.putSc (i : Int))
  have HK := Lib.hid ((Keep.refl b W).put 8 (.int .i64 (i : Int)))
  clear hR hN hfz
  go_enter Tryd.func50, Tryd.ntmps50
  go_wp2_with fail
  generalize W.setCell ⟨b, 8, none⟩ (.int .i64 (i : Int)) = W1 at *
  refine (HF.out _).mono ?_
  rintro e Y1 ⟨rfl, hB1⟩
  have HR1 := Lib.hid (HR.out.on hB1)
  have HK1 := Lib.hid (HK.out.call HR.out.lt hB1)
  clear hB1
  go_wp2_with fail
  refine (HX.out _).mono ?_
  rintro e Y2 ⟨rfl, hB2⟩
  have HR2 := Lib.hid (HR1.out.on hB2)
  have HK2 := Lib.hid (HK1.out.call HR1.out.lt hB2)
  clear hB2 HR1 HK1
  go_wp2_with fail
  refine (HT.out _ HR2.out).mono ?_
  rintro e Y3 ⟨rfl, hR3, hK3⟩
  have HR3 := Lib.hid hR3
  have HK3 := Lib.hid (HK2.out.trans hK3)
  clear c0 c1 c2 c3 c4 c5 c6 f8
  obtain ⟨⟨c0, c1, c2, c3, c4, c5, c6, c7, _⟩, hfz⟩ := hR3.cells
  have f6 := hfz 6
  have f7 := hfz 7
  clear hR3 hK3 hfz HK2 HR2
  have HR4 := Lib.hid (HR3.out.putHigh 0 0)
  have HK4 := Lib.hid ((HK3.out.put 6 (.int .i64 0)).put 7 (.int .i64 0))
  go_wp2_with fail
  go_ret
  exact ⟨rfl, HR4.out, HK4.out⟩
set_option maxRecDepth 100000 in
set_option maxHeartbeats 1000000 in
theorem highnum_num (W : World) (b : Nat) (t : ByteArray) (i : Nat) (bl ro : Bool) (lk la hk ha sc : Int) (z : Int) (n : Nat) (hN : hd (t.data.toList.drop i) pinf = false) (hz : rdAll (t.data.toList.drop i) = (z, n)) (hR : RdAt W b t (i : Int) bl ro lk la hk ha sc) (hi : i ≤ t.size) (ht : t.size ≤ 100000) :
    Calls Tryd.prog 50 #[.pointer (some ⟨b, 0, none⟩)] W (RdPost b (decide (0 < n)) t (i + n) bl ro lk la 2 z (i : Int) W) := by
  have HT := Lib.hid (fun W hR => take_any W b t ⟨#[43, 105, 110, 102]⟩ i bl ro lk la hk ha (i : Int) false hN hR hi ht (by decide))
  have HF := Lib.hid (fun W => last_b W)
  have HX := Lib.hid (fun W => ctext_b 1 0 W (by unfold I64; omega))
  rw [show key 1 0 = hi64 from rfl, ktext_hi] at HX
  have HNM := Lib.hid (fun W hR => num_any W b t i bl ro lk la hk ha (i : Int) z n hz hR hi ht)
  generalize decide (0 < n) = D at *
  obtain ⟨⟨c0, c1, c2, c3, c4, c5, c6, _, _⟩, hfz⟩ := hR.cells
  have f8 := hfz 8
  have HR := Lib.hid (hR.putSc (i : Int))
  have HK := Lib.hid ((Keep.refl b W).put 8 (.int .i64 (i : Int)))
  clear hR hN hz hfz
  go_enter Tryd.func50, Tryd.ntmps50
  go_wp2_with fail
  generalize W.setCell ⟨b, 8, none⟩ (.int .i64 (i : Int)) = W1 at *
  refine (HF.out _).mono ?_
  rintro e Y1 ⟨rfl, hB1⟩
  have HR1 := Lib.hid (HR.out.on hB1)
  have HK1 := Lib.hid (HK.out.call HR.out.lt hB1)
  clear hB1 c0 c1 c2 c3 c4 c5 c6 f8
  go_wp2_with fail
  refine (HX.out _).mono ?_
  rintro e Y2 ⟨rfl, hB2⟩
  have HR2 := Lib.hid (HR1.out.on hB2)
  have HK2 := Lib.hid (HK1.out.call HR1.out.lt hB2)
  clear hB2 HR1 HK1
  go_wp2_with fail
  refine (HT.out _ HR2.out).mono ?_
  rintro e Y3 ⟨rfl, hR3, hK3⟩
  have HR3 : Hid (RdAt Y3 b t (i : Int) bl ro lk la hk ha (i : Int)) := hR3
  have HK3 := Lib.hid (HK2.out.trans hK3)
  clear hR3 hK3 HK2 HR2
  go_wp2_with fail
  refine (HNM.out _ HR3.out).mono ?_
  rintro e Y4 ⟨rfl, hR4, hK4⟩
  have HR4 := Lib.hid hR4
  have HK4 := Lib.hid (HK3.out.trans hK4)
  obtain ⟨⟨c0, c1, c2, c3, c4, c5, c6, c7, _⟩, hfz⟩ := hR4.cells
  have f6 := hfz 6
  have f7 := hfz 7
  clear hR4 hK4 HR3 HK3 hfz
  have HR6 := Lib.hid (HR4.out.putHigh 2 z)
  have HK6 := Lib.hid ((HK4.out.put 6 (.int .i64 2)).put 7 (.int .i64 z))
  go_wp2_with fail
  go_ret
  exact ⟨rfl, HR6.out, HK6.out⟩
end Go.Proofs.YthojkbmffiibdaaDoor

/- The code's reader of bounds: lowCut, highCut. -/
namespace Go.Proofs.YthojkbmffiibdaaDoor
open Go.RowKit Go.Sort Go.Proofs.YthojkbmffiibdaaDoor.Bo
set_option linter.unusedVariables false

def sel (B : Bool) (x y : Int) : Int := if B = true then x else y
/-- A reader, and a cut in a block behind it. -/
structure RdC (W : World) (b N : Nat) (t : ByteArray) (i : Int) (bl ro : Bool) (lk la hk ha sc x y : Int) (Y : World) : Prop where
  r : RdAt Y b t i bl ro lk la hk ha sc
  c : Y.heap[N]? = some (.cells #[.int .i64 x, .int .i64 y] 25)
  ne : N ≠ b
  k : Keep b W Y
theorem RdC.on {W : World} {b N : Nat} {t : ByteArray} {i : Int} {bl ro : Bool} {lk la hk ha sc x y : Int} {Y Y' : World} (h : RdC W b N t i bl ro lk la hk ha sc x y Y) (hb : Go.RowKit.Below Y.heap.size Y Y') : RdC W b N t i bl ro lk la hk ha sc x y Y' :=
  ⟨h.r.on hb, box_on h.c hb, h.ne, h.k.call h.r.lt hb⟩
theorem RdC.new {W : World} {b : Nat} {t : ByteArray} {i : Int} {bl ro : Bool} {lk la hk ha sc : Int} {Y : World} (h : RdAt Y b t i bl ro lk la hk ha sc) (k : Keep b W Y) (x y : Int) : RdC W b Y.heap.size t i bl ro lk la hk ha sc x y (Y.alloc (.cells #[.int .i64 x, .int .i64 y] 25)) :=
  ⟨h.on (below_new _ _), heap_alloc_new _ _, Nat.ne_of_gt h.lt, k.call h.lt (below_new _ _)⟩
set_option maxRecDepth 100000 in
set_option maxHeartbeats 4000000 in
theorem lowcut_core (W : World) (b : Nat) (t tr : ByteArray) (i : Nat) (bl ro : Bool) (lk la hk ha sc x y p q : Int) (n : Nat) (T0 TL TF B : Bool)
    (HRS : Hid (Calls Tryd.prog 62 #[.pointer (some ⟨b, 0, none⟩)] W fun e w' => e = .returned (.string tr) ∧ Go.RowKit.Below W.heap.size W w'))
    (HCR : Hid (∀ W, Calls Tryd.prog 61 #[.string tr] W fun e w' => e = .returned (.tuple #[.agg #[.int .i64 x, .int .i64 y], .int .i64 (n : Int)]) ∧ Go.RowKit.Below W.heap.size W w'))
    (HF : Hid (∀ W, Calls Tryd.prog 29 #[] W fun e w' => e = .returned (.agg #[.int .i64 (-1), .int .i64 0]) ∧ Go.RowKit.Below W.heap.size W w')) (HL : Hid (∀ W, Calls Tryd.prog 32 #[] W fun e w' => e = .returned (.agg #[.int .i64 1, .int .i64 0]) ∧ Go.RowKit.Below W.heap.size W w'))
    (HLO : Hid (∀ W, Calls Tryd.prog 12 #[.agg #[.int .i64 x, .int .i64 y]] W fun e w' => e = .returned (.agg #[.int .i64 p, .int .i64 q]) ∧ Go.RowKit.Below W.heap.size W w'))
    (t0 : ((n : Int) == 0) = T0)
    (eL : ∀ w, Sem.run Tryd.prog (binOp .eql 25 (.agg #[.int .i64 x, .int .i64 y]) (.agg #[.int .i64 1, .int .i64 0])) w = .ok (.bool TL) w)
    (eF : ∀ w, Sem.run Tryd.prog (binOp .eql 25 (.agg #[.int .i64 x, .int .i64 y]) (.agg #[.int .i64 (-1), .int .i64 0])) w = .ok (.bool TF) w)
    (HBB : Hid ((!(T0 || TL || (ro != TF))) = B)) (hR : RdAt W b t (i : Int) bl ro lk la hk ha sc) (hi : i ≤ t.size) (hn : i + n ≤ t.size) (ht : t.size ≤ 100000) :
    Calls Tryd.prog 44 #[.pointer (some ⟨b, 0, none⟩)] W (RdPost b B t (i + tkN B n) bl ro (sel B p lk) (sel B q la) hk ha sc W) := by
  have mx := mixed
  have HR := Lib.hid hR
  clear hR
  go_enter Tryd.func44, Tryd.ntmps44
  go_wp2_with fail
  refine HRS.out.mono ?_
  rintro e Y1 ⟨rfl, hB1⟩
  have HR1 := Lib.hid (HR.out.on hB1)
  have HK1 := Lib.hid ((Keep.refl b W).call HR.out.lt hB1)
  clear hB1 HR HRS
  go_wp2_with fail
  refine (HCR.out _).mono ?_
  rintro e Y2 ⟨rfl, hB2⟩
  have HX := Lib.hid (RdC.new (HR1.out.on hB2) (HK1.out.call HR1.out.lt hB2) x y)
  clear hB2 HR1 HK1 HCR
  go_upto_region 2 with fail
  generalize Y2.alloc (.cells #[.int .i64 x, .int .i64 y] 25) = Y3 at *
  generalize Y2.heap.size = N at *
  obtain ⟨_, _, p3⟩ := HX.out.r.re
  obtain ⟨p1, p2⟩ := cut_regrown HX.out.c
  cases T0 with
  | true =>
    obtain rfl : false = B := by have h := HBB.out; simpa using h
    clear HBB
    refine wp_region_quiet_below (by assumption) (by kernel_rfl) ?_
    repeat (go_big_quiet_step (first | (go_at_call 29; exact Calls.regrown_of (HF.out _)) | (go_at_call 32; exact Calls.regrown_of (HL.out _))))
    refine wpQuiet_nil ?_
    intro _ hw'
    obtain ⟨⟨nq, osq⟩, hw''⟩ := hw'
    subst hw''
    have HX2 := Lib.hid (HX.out.on (below_regrown Y3 nq osq))
    go_wp2_with fail
    go_ret
    exact ⟨rfl, HX2.out.r, HX2.out.k⟩
  | false =>
    cases TL with
    | true =>
      obtain rfl : false = B := by have h := HBB.out; simpa using h
      clear HBB
      refine wp_region_quiet_below (by assumption) (by kernel_rfl) ?_
      repeat (go_big_quiet_step (first | (go_at_call 29; exact Calls.regrown_of (HF.out _)) | (go_at_call 32; exact Calls.regrown_of (HL.out _))))
      refine wpQuiet_nil ?_
      intro _ hw'
      obtain ⟨⟨nq, osq⟩, hw''⟩ := hw'
      subst hw''
      have HX2 := Lib.hid (HX.out.on (below_regrown Y3 nq osq))
      go_wp2_with fail
      go_ret
      exact ⟨rfl, HX2.out.r, HX2.out.k⟩
    | false =>
      by_cases hro : ro = TF
      · subst hro
        obtain rfl : true = B := by have h := HBB.out; simpa using h
        clear HBB
        have HJ : Hid (((i + tkN true n : Nat) : Int) = (i : Int) + (n : Int)) := by unfold tkN; simp [Hid]
        have HJ1 : Hid (sel true p lk = p) := rfl
        have HJ2 : Hid (sel true q la = q) := rfl
        cases ro <;>
        · refine wp_region_quiet_below (by assumption) (by kernel_rfl) ?_
          repeat (go_big_quiet_step (first | (go_at_call 29; exact Calls.regrown_of (HF.out _)) | (go_at_call 32; exact Calls.regrown_of (HL.out _))))
          refine wpQuiet_nil ?_
          intro _ hw'
          obtain ⟨⟨nq, osq⟩, hw''⟩ := hw'
          subst hw''
          have HX2 := Lib.hid (HX.out.on (below_regrown Y3 nq osq))
          clear p1 p2 p3 HX
          generalize grow (redrawn Y3 nq) osq = Y4 at *
          obtain ⟨d1, d2, _, _⟩ := two_cells HX2.out.c
          go_wp2_with fail
          refine (HLO.out _).mono ?_
          rintro e Y5 ⟨rfl, hB5⟩
          have HX5 := Lib.hid (HX2.out.on hB5)
          clear d1 d2 hB5 HX2
          obtain ⟨⟨c0, c1, c2, c3, c4, c5, c6, _, _⟩, hfz⟩ := HX5.out.r.cells
          have f4 := hfz 4
          have f5 := hfz 5
          have HR6 := Lib.hid (HX5.out.r.putLow p q)
          have HK6 := Lib.hid ((HX5.out.k.put 4 (.int .i64 p)).put 5 (.int .i64 q))
          clear hfz
          go_upto_region 5 with fail
          clear c0 c1 c2 c3 c4 c5 c6 f4 f5
          generalize ((Y5.setCell ⟨b, 4, none⟩ (.int .i64 p)).setCell ⟨b, 5, none⟩ (.int .i64 q)) = Y6 at *
          obtain ⟨⟨c0, c1, c2, c3, c4, c5, c6, _, _⟩, hfz⟩ := HR6.out.cells
          have f1 := hfz 1
          have HR7 := Lib.hid (HR6.out.putAt ((i : Int) + (n : Int)))
          have HK7 := Lib.hid (HK6.out.put 1 (.int .i64 ((i : Int) + (n : Int))))
          clear hfz
          go_wp2_with fail
          go_ret
          refine ⟨rfl, ?_, HK7.out⟩
          rw [HJ.out, HJ1.out, HJ2.out]
          exact HR7.out
      · obtain rfl : false = B := by have h := HBB.out; cases ro <;> cases TF <;> simp_all
        clear HBB
        cases ro <;> cases TF <;> first
          | (exact absurd rfl hro)
          | (refine wp_region_quiet_below (by assumption) (by kernel_rfl) ?_
             repeat (go_big_quiet_step (first | (go_at_call 29; exact Calls.regrown_of (HF.out _)) | (go_at_call 32; exact Calls.regrown_of (HL.out _))))
             refine wpQuiet_nil ?_
             intro _ hw'
             obtain ⟨⟨nq, osq⟩, hw''⟩ := hw'
             subst hw''
             have HX2 := Lib.hid (HX.out.on (below_regrown Y3 nq osq))
             go_wp2_with fail
             go_ret
             exact ⟨rfl, HX2.out.r, HX2.out.k⟩)
set_option maxRecDepth 100000 in
set_option maxHeartbeats 4000000 in
theorem highcut_core (W : World) (b : Nat) (t tr : ByteArray) (i : Nat) (bl ro : Bool) (lk la hk ha sc x y p q : Int) (n : Nat) (T0 TF B : Bool)
    (HRS : Hid (∀ W, RdAt W b t (i : Int) bl ro lk la hk ha (i : Int) → Calls Tryd.prog 62 #[.pointer (some ⟨b, 0, none⟩)] W fun e w' => e = .returned (.string tr) ∧ Go.RowKit.Below W.heap.size W w'))
    (HCR : Hid (∀ W, Calls Tryd.prog 61 #[.string tr] W fun e w' => e = .returned (.tuple #[.agg #[.int .i64 x, .int .i64 y], .int .i64 (n : Int)]) ∧ Go.RowKit.Below W.heap.size W w'))
    (HF : Hid (∀ W, Calls Tryd.prog 29 #[] W fun e w' => e = .returned (.agg #[.int .i64 (-1), .int .i64 0]) ∧ Go.RowKit.Below W.heap.size W w'))
    (HHI : Hid (∀ W, Calls Tryd.prog 14 #[.agg #[.int .i64 x, .int .i64 y]] W fun e w' => e = .returned (.agg #[.int .i64 p, .int .i64 q]) ∧ Go.RowKit.Below W.heap.size W w'))
    (t0 : ((n : Int) == 0) = T0)
    (eF : ∀ w, Sem.run Tryd.prog (binOp .eql 25 (.agg #[.int .i64 x, .int .i64 y]) (.agg #[.int .i64 (-1), .int .i64 0])) w = .ok (.bool TF) w)
    (HBB : Hid ((!(T0 || TF)) = B)) (hR : RdAt W b t (i : Int) bl ro lk la hk ha sc) (hi : i ≤ t.size) (hn : i + n ≤ t.size) (ht : t.size ≤ 100000) :
    Calls Tryd.prog 46 #[.pointer (some ⟨b, 0, none⟩)] W (RdPost b B t (i + tkN B n) bl ro lk la (sel B p hk) (sel B q ha) (i : Int) W) := by
  have mx := mixed
  obtain ⟨⟨c0, c1, c2, c3, c4, c5, c6, _, _⟩, hfz⟩ := hR.cells
  have f8 := hfz 8
  have HR := Lib.hid (hR.putSc (i : Int))
  have HK := Lib.hid ((Keep.refl b W).put 8 (.int .i64 (i : Int)))
  clear hR hfz
  go_enter Tryd.func46, Tryd.ntmps46
  go_wp2_with fail
  generalize W.setCell ⟨b, 8, none⟩ (.int .i64 (i : Int)) = W1 at *
  clear c0 c1 c2 c3 c4 c5 c6 f8
  refine (HRS.out _ HR.out).mono ?_
  rintro e Y1 ⟨rfl, hB1⟩
  have HR1 := Lib.hid (HR.out.on hB1)
  have HK1 := Lib.hid (HK.out.call HR.out.lt hB1)
  clear hB1 HR HRS HK
  go_wp2_with fail
  refine (HCR.out _).mono ?_
  rintro e Y2 ⟨rfl, hB2⟩
  have HX := Lib.hid (RdC.new (HR1.out.on hB2) (HK1.out.call HR1.out.lt hB2) x y)
  clear hB2 HR1 HK1 HCR
  go_upto_region 3 with fail
  generalize Y2.alloc (.cells #[.int .i64 x, .int .i64 y] 25) = Y3 at *
  generalize Y2.heap.size = N at *
  obtain ⟨p1, p2⟩ := cut_regrown HX.out.c
  by_cases hT : (T0 || TF) = true
  · obtain rfl : false = B := by have h := HBB.out; rw [hT] at h; exact h
    clear HBB
    have ht2 : T0 = true ∨ (T0 = false ∧ TF = true) := by cases T0 <;> simp_all
    rcases ht2 with rfl | ⟨rfl, rfl⟩ <;>
    · clear hT
      refine wp_region_quiet_below (by assumption) (by kernel_rfl) ?_
      repeat (go_big_quiet_step (first | (go_at_call 29; exact Calls.regrown_of (HF.out _))))
      refine wpQuiet_nil ?_
      intro _ hw'
      obtain ⟨⟨nq, osq⟩, hw''⟩ := hw'
      subst hw''
      have HX2 := Lib.hid (HX.out.on (below_regrown Y3 nq osq))
      go_wp2_with fail
      go_ret
      exact ⟨rfl, HX2.out.r, HX2.out.k⟩
  · obtain ⟨rfl, rfl⟩ : T0 = false ∧ TF = false := by cases T0 <;> cases TF <;> simp_all
    obtain rfl : true = B := by have h := HBB.out; simpa using h
    clear HBB hT
    have HJ : Hid (((i + tkN true n : Nat) : Int) = (i : Int) + (n : Int)) := by unfold tkN; simp [Hid]
    have HJ1 : Hid (sel true p hk = p) := rfl
    have HJ2 : Hid (sel true q ha = q) := rfl
    refine wp_region_quiet_below (by assumption) (by kernel_rfl) ?_
    repeat (go_big_quiet_step (first | (go_at_call 29; exact Calls.regrown_of (HF.out _))))
    refine wpQuiet_nil ?_
    intro _ hw'
    obtain ⟨⟨nq, osq⟩, hw''⟩ := hw'
    subst hw''
    have HX2 := Lib.hid (HX.out.on (below_regrown Y3 nq osq))
    clear p1 p2 HX
    generalize grow (redrawn Y3 nq) osq = Y4 at *
    obtain ⟨d1, d2, _, _⟩ := two_cells HX2.out.c
    go_wp2_with fail
    refine (HHI.out _).mono ?_
    rintro e Y5 ⟨rfl, hB5⟩
    have HX5 := Lib.hid (HX2.out.on hB5)
    clear d1 d2 hB5 HX2
    obtain ⟨⟨c0, c1, c2, c3, c4, c5, c6, c7, _⟩, hfz⟩ := HX5.out.r.cells
    have f6 := hfz 6
    have f7 := hfz 7
    have HR6 := Lib.hid (HX5.out.r.putHigh p q)
    have HK6 := Lib.hid ((HX5.out.k.put 6 (.int .i64 p)).put 7 (.int .i64 q))
    clear hfz
    go_upto_region 6 with fail
    clear c0 c1 c2 c3 c4 c5 c6 c7 f6 f7
    generalize ((Y5.setCell ⟨b, 6, none⟩ (.int .i64 p)).setCell ⟨b, 7, none⟩ (.int .i64 q)) = Y6 at *
    obtain ⟨⟨c0, c1, c2, c3, c4, c5, c6, _, _⟩, hfz⟩ := HR6.out.cells
    have f1 := hfz 1
    have HR7 := Lib.hid (HR6.out.putAt ((i : Int) + (n : Int)))
    have HK7 := Lib.hid (HK6.out.put 1 (.int .i64 ((i : Int) + (n : Int))))
    clear hfz
    go_wp2_with fail
    go_ret
    refine ⟨rfl, ?_, HK7.out⟩
    rw [HJ.out, HJ1.out, HJ2.out]
    exact HR7.out
end Go.Proofs.YthojkbmffiibdaaDoor

/- The code's reader of bounds: its steps, one behind the other: the closure, IndexFunc, ContainsFunc. -/
namespace Go.Proofs.YthojkbmffiibdaaDoor
open Go.RowKit Go.Sort Go.Proofs.YthojkbmffiibdaaDoor.Bo
set_option linter.unusedVariables false

/-- What a step answers, and leaves. -/
def StPost (b : Nat) (B : Bool) (Q : World → Prop) (W : World) (e : Ending) (W' : World) : Prop := e = .returned (.bool B) ∧ Q W' ∧ Keep b W W'
abbrev capO (b : Nat) : Obj := .cells #[.pointer (some ⟨b, 0, none⟩)] 61
set_option maxRecDepth 100000 in
set_option maxHeartbeats 1000000 in
theorem amiss_any (g : Nat) (eg : ∀ args w, (callFunc g args).run Tryd.prog w = .ok (.enter g args) w) (W : World) (b c : Nat) (B : Bool) (P Q : World → Prop)
    (HS : Hid (Calls Tryd.prog 58 #[.pointer (some ⟨b, 0, none⟩)] W fun e W' => e = .returned (.tuple #[]) ∧ P W' ∧ Keep b W W'))
    (HG : Hid (∀ W', P W' → Calls Tryd.prog g #[.pointer (some ⟨b, 0, none⟩)] W' (StPost b B Q W')))
    (hc : W.heap[c]? = some (capO b)) :
    Calls Tryd.prog 57 #[.func (.func g) #[.pointer (some ⟨b, 0, none⟩)] #[], .pointer (some ⟨c, 0, none⟩)] W (StPost b (!B) Q W) := by
  have c1 := cell_of_one hc
  clear hc
  go_enter Tryd.func57, Tryd.ntmps57
  go_wp2_with fail
  refine HS.out.mono ?_
  rintro e Y1 ⟨rfl, hP, hK⟩
  have HP := Lib.hid hP
  have HK := Lib.hid hK
  clear hP hK
  go_wp2_with fail
  refine (HG.out _ HP.out).mono ?_
  rintro e Y2 ⟨rfl, hQ, hK2⟩
  have HQ := Lib.hid hQ
  have HK2 := Lib.hid (HK.out.trans hK2)
  clear hQ hK2
  go_wp2_with fail
  go_ret
  exact ⟨rfl, HQ.out, HK2.out⟩
/-- What IndexFunc answers, and leaves: m steps were right. -/
def IxPost (b : Nat) (B : Nat → Bool) (P : Nat → World → Prop) (W : World) (e : Ending) (W' : World) : Prop :=
  ∃ m : Nat, m ≤ 5 ∧ (∀ k, k < m → B k = true) ∧ Keep b W W' ∧ ((m = 5 ∧ e = .returned (.int .i64 (-1)) ∧ P 5 W') ∨ (m < 5 ∧ B m = false ∧ e = .returned (.int .i64 (m : Int)) ∧ P (m + 1) W'))
def CfPost (b : Nat) (B : Nat → Bool) (P : Nat → World → Prop) (W : World) (e : Ending) (W' : World) : Prop :=
  ∃ m : Nat, m ≤ 5 ∧ (∀ k, k < m → B k = true) ∧ Keep b W W' ∧ ((m = 5 ∧ e = .returned (.bool false) ∧ P 5 W') ∨ (m < 5 ∧ B m = false ∧ e = .returned (.bool true) ∧ P (m + 1) W'))
/-- The steps' row. -/
abbrev stO (v : Nat → Value) : Obj := .cells #[v 0, v 1, v 2, v 3, v 4] 31
theorem stO_cell {W : World} {sb : Nat} {v : Nat → Value} (h : W.heap[sb]? = some (stO v)) (j : Nat) (hj : j < 5) : W.cell? ⟨sb, j, none⟩ = some (v j) := by
  rw [cell_of_row _ _ j _ _ _ h]
  rcases (show j = 0 ∨ j = 1 ∨ j = 2 ∨ j = 3 ∨ j = 4 by omega) with rfl | rfl | rfl | rfl | rfl <;> rfl
set_option maxRecDepth 100000 in
set_option maxHeartbeats 1000000 in
theorem idxf_any (W : World) (b c sb : Nat) (v : Nat → Value) (B : Nat → Bool) (P : Nat → World → Prop)
    (hsb : W.heap[sb]? = some (stO v)) (hc : W.heap[c]? = some (capO b)) (hb1 : sb ≠ b) (hb2 : c ≠ b) (h0 : P 0 W)
    (HA : Hid (∀ j, j < 5 → (∀ k, k < j → B k = true) → ∀ W', P j W' → W'.heap[c]? = some (capO b) → Calls Tryd.prog 57 #[v j, .pointer (some ⟨c, 0, none⟩)] W' (StPost b (!(B j)) (P (j + 1)) W'))) :
    Calls Tryd.prog 73 #[.slice (some ⟨sb, 0, none⟩) 5 5, .func (.func 57) #[] #[.pointer (some ⟨c, 0, none⟩)]] W (IxPost b B P W) := by
  have HSB := Lib.hid hsb
  have HC := Lib.hid hc
  have H0 := Lib.hid h0
  clear hsb hc h0
  go_enter Tryd.func73, Tryd.ntmps73
  go_wp2_with fail
  go_loopw [8] (fun i wr => ∃ j : Nat, i = .int .i64 (j : Int) ∧ j ≤ 5 ∧ (∀ k, k < j → B k = true) ∧ P j wr ∧ Keep b W wr) (fun i _ => 5 - (intOf i).toNat)
  case atStart => exact ⟨0, rfl, by omega, fun k hk => absurd hk (Nat.not_lt_zero _), H0.out, Keep.refl _ _⟩
  case round =>
    obtain ⟨j, rfl, hj, hB, hP, hK⟩ := hrel
    have HB := Lib.hid hB
    have HP := Lib.hid hP
    have HK := Lib.hid hK
    clear hB hP hK
    by_cases hlt : j < 5
    · have c1 := stO_cell (HK.out.box hb1 HSB.out) j hlt
      have HCALL := Lib.hid (HA.out j hlt HB.out _ HP.out (HK.out.box hb2 HC.out))
      obtain ⟨D, hD⟩ : ∃ D, B j = D := ⟨_, rfl⟩
      rw [hD] at HCALL
      have HD := Lib.hid hD
      clear hD
      generalize v j = vj at *
      go_wp2_with fail
      refine HCALL.out.mono ?_
      rintro e Y1 ⟨rfl, hP2, hK2⟩
      have HP2 := Lib.hid hP2
      have HK2 := Lib.hid (HK.out.trans hK2)
      clear hP2 hK2
      cases D with
      | false =>
        go_wp2_with fail
        go_ret
        exact ⟨j, by omega, HB.out, HK2.out, .inr ⟨hlt, HD.out, rfl, HP2.out⟩⟩
      | true =>
        go_wp2_with fail
        go_roundw
        case rel =>
          refine ⟨j + 1, by go_num, by omega, fun k hk => ?_, HP2.out, HK2.out⟩
          rcases Nat.lt_or_ge k j with h | h
          · exact HB.out k h
          · obtain rfl : k = j := by omega
            exact HD.out
        case measure => simp [intOf]; omega
    · obtain rfl : j = 5 := by omega
      go_wp2_with fail
      go_ret
      exact ⟨5, by omega, HB.out, HK.out, .inl ⟨rfl, rfl, HP.out⟩⟩
set_option maxRecDepth 100000 in
set_option maxHeartbeats 1000000 in
theorem contf_any (W : World) (b c sb : Nat) (v : Nat → Value) (B : Nat → Bool) (P : Nat → World → Prop)
    (hsb : W.heap[sb]? = some (stO v)) (hc : W.heap[c]? = some (capO b)) (hb1 : sb ≠ b) (hb2 : c ≠ b) (h0 : P 0 W)
    (HA : Hid (∀ j, j < 5 → (∀ k, k < j → B k = true) → ∀ W', P j W' → W'.heap[c]? = some (capO b) → Calls Tryd.prog 57 #[v j, .pointer (some ⟨c, 0, none⟩)] W' (StPost b (!(B j)) (P (j + 1)) W'))) :
    Calls Tryd.prog 59 #[.slice (some ⟨sb, 0, none⟩) 5 5, .func (.func 57) #[] #[.pointer (some ⟨c, 0, none⟩)]] W (CfPost b B P W) := by
  have HI := Lib.hid (idxf_any W b c sb v B P hsb hc hb1 hb2 h0 HA)
  clear hsb hc h0 HA
  go_enter Tryd.func59, Tryd.ntmps59
  go_wp2_with fail
  refine HI.out.mono ?_
  rintro e Y1 ⟨m, hm, hB, hK, h⟩
  have HB := Lib.hid hB
  have HK := Lib.hid hK
  clear hB hK
  rcases h with ⟨rfl, rfl, hP⟩ | ⟨hlt, hD, rfl, hP⟩
  · have HP := Lib.hid hP
    clear hP
    go_wp2_with fail
    go_ret
    exact ⟨5, by omega, HB.out, HK.out, .inl ⟨rfl, rfl, HP.out⟩⟩
  · have HP := Lib.hid hP
    have HD := Lib.hid hD
    have t1 : decide (0 ≤ (m : Int)) = true := decide_eq_true (by omega)
    clear hP hD
    go_wp2_with fail
    go_ret
    exact ⟨m, hm, HB.out, HK.out, .inr ⟨hlt, HD.out, rfl, HP.out⟩⟩
end Go.Proofs.YthojkbmffiibdaaDoor

/- Contracts of package bound's functions: Span. -/
namespace Go.Proofs.YthojkbmffiibdaaDoor
open Go.RowKit Go.Sort Go.Proofs.YthojkbmffiibdaaDoor.Bo
set_option linter.unusedVariables false

/-- The cells that a region loads, and what was there. -/
abbrev LdS (X : World) (b : Nat) (k a : Int) (w' : World) : Prop := w'.cell? ⟨b, 0, none⟩ = some (.int .i64 k) ∧ w'.cell? ⟨b, 1, none⟩ = some (.int .i64 a) ∧ Go.RowKit.Below X.heap.size X w'
theorem LdS.call {X : World} {b : Nat} {k a : Int} {w' w'' : World} (h : LdS X b k a w') (hb : Go.RowKit.Below w'.heap.size w' w'') : LdS X b k a w'' :=
  ⟨(hb.cell (World.block_lt_of_cell? w' _ h.1)).trans h.1, (hb.cell (World.block_lt_of_cell? w' _ h.2.1)).trans h.2.1, bt h.2.2 hb⟩
theorem LdS.alloc {X : World} {b : Nat} {k a : Int} {w' : World} (h : LdS X b k a w') (o : Obj) : LdS X b k a (w'.alloc o) := h.call (below_new w' o)
theorem LdS.drew {X : World} {b : Nat} {k a : Int} {w' : World} (h : LdS X b k a w') : LdS X b k a w'.drew := h.call (Go.RowKit.Below.refl _ _).drew
theorem LdS.put {X : World} {b : Nat} {k a : Int} {w' : World} (h : LdS X b k a w') (hX : b < X.heap.size) (N : Nat) (hN : X.heap.size ≤ N) (v1 v2 : Value) : LdS X b k a ((w'.setCell ⟨N, 0, none⟩ v1).setCell ⟨N, 1, none⟩ v2) := by
  have far : ∀ i, ((w'.setCell ⟨N, 0, none⟩ v1).setCell ⟨N, 1, none⟩ v2).cell? ⟨b, i, none⟩ = w'.cell? ⟨b, i, none⟩ := by
    intro i
    have hne : N ≠ b := by omega
    rw [World.cell?_setCell_other _ _ _ _ (by simp <;> omega), World.cell?_setCell_other _ _ _ _ (by simp <;> omega)]
  exact ⟨(far _).trans h.1, (far _).trans h.2.1, (h.2.2.setCell hN _).setCell hN _⟩
/-- A cut in a block of its own, behind what was there. -/
structure CutIn (X : World) (x y : Int) (N : Nat) (W : World) : Prop where
  far : X.heap.size ≤ N
  box : W.heap[N]? = some (.cells #[.int .i64 x, .int .i64 y] 25)
  be : Go.RowKit.Below X.heap.size X W
theorem CutIn.put {X Y : World} {N : Nat} (x y : Int) (hN : X.heap.size ≤ N) (hb : Y.heap[N]? = some (.cells #[.int .i64 0, .int .i64 0] 25)) (hl : Go.RowKit.Below X.heap.size X Y) : CutIn X x y N ((Y.setCell ⟨N, 0, none⟩ (.int .i64 x)).setCell ⟨N, 1, none⟩ (.int .i64 y)) :=
  ⟨hN, two_put hb, (hl.setCell hN _).setCell hN _⟩
theorem CutIn.new {X Y : World} (x y : Int) (hl : Go.RowKit.Below X.heap.size X Y) : CutIn X x y Y.heap.size (Y.alloc (.cells #[.int .i64 x, .int .i64 y] 25)) := ⟨hl.size, heap_alloc_new _ _, bt hl (below_new _ _)⟩
theorem newC (W : World) : (W.alloc (.cells #[.int .i64 0, .int .i64 0] 25)).heap[W.heap.size]? = some (.cells #[.int .i64 0, .int .i64 0] 25) := heap_alloc_new _ _
theorem newD (W : World) : (W.alloc (.cells #[.int .i64 0, .int .i64 0] 25)).drew.heap[W.heap.size]? = some (.cells #[.int .i64 0, .int .i64 0] 25) := heap_alloc_new _ _
structure Sn3 (w : World) (k1 a1 k2 a2 : Int) (W : World) : Prop where
  b : W.heap[w.heap.size]? = some (bB k1 a1)
  n : W.heap[w.heap.size + 1]? = some (bB k2 a2)
  r : Box4 W (w.heap.size + 1 + 1) z4
  be : Go.RowKit.Below w.heap.size w W
theorem Sn3.new (w : World) (k1 a1 k2 a2 : Int) : Sn3 w k1 a1 k2 a2 (((w.alloc (bB k1 a1)).alloc (bB k2 a2)).alloc (.cells #[.int .i64 0, .int .i64 0, .int .i64 0, .int .i64 0] 27)) :=
  ⟨box_on (box_on (heap_alloc_new w _) (below_new _ _)) (below_new _ _), box_on (new_at _ (by simp)) (below_new _ _), new_at _ (by simp), bt (bt (below_new _ _) (below_new _ _)) (below_new _ _)⟩
theorem Sn3.on {w : World} {k1 a1 k2 a2 : Int} {W W' : World} (h : Sn3 w k1 a1 k2 a2 W) (hb : Go.RowKit.Below W.heap.size W W') : Sn3 w k1 a1 k2 a2 W' := ⟨box_on h.b hb, box_on h.n hb, box_on h.r hb, bt h.be hb⟩
theorem Sn3.sz {w : World} {k1 a1 k2 a2 : Int} {W : World} (h : Sn3 w k1 a1 k2 a2 W) : w.heap.size + 3 ≤ W.heap.size := lt_of_block h.r

set_option maxRecDepth 100000 in
set_option maxHeartbeats 2000000 in
theorem bspan_core (k1 a1 k2 a2 x1 y1 x2 y2 : Int) (B1 B2 : Bool) (Z : S4) (E : Int) (w : World)
    (HF : Hid (∀ W, Calls Tryd.prog 29 #[] W fun e w' => e = .returned (.agg #[.int .i64 (-1), .int .i64 0]) ∧ Go.RowKit.Below W.heap.size W w'))
    (HL : Hid (∀ W, Calls Tryd.prog 32 #[] W fun e w' => e = .returned (.agg #[.int .i64 1, .int .i64 0]) ∧ Go.RowKit.Below W.heap.size W w'))
    (HP : Hid (∀ W, Calls Tryd.prog 28 #[.agg #[.int .i64 k1, .int .i64 a1], .agg #[.int .i64 (-1), .int .i64 0], .func (.func 30) #[] #[], .func (.func 31) #[] #[]] W (PlPost x1 y1 B1 W)))
    (HQ : Hid (∀ W, Calls Tryd.prog 28 #[.agg #[.int .i64 k2, .int .i64 a2], .agg #[.int .i64 1, .int .i64 0], .func (.func 31) #[] #[], .func (.func 30) #[] #[]] W (PlPost x2 y2 B2 W)))
    (HO : Hid ((B1 && B2) = true → ∀ W, Calls Tryd.prog 33 #[.agg #[.int .i64 x1, .int .i64 y1], .agg #[.int .i64 x2, .int .i64 y2]] W fun e w' => e = .returned (.tuple #[.agg #[.int .i64 Z.ls, .int .i64 Z.la, .int .i64 Z.hs, .int .i64 Z.ha], .int .i64 E]) ∧ Go.RowKit.Below W.heap.size W w'))
    (HZ : Hid ((B1 && B2) = false → Z = ⟨0, 0, 0, 0⟩ ∧ E = 40)) :
    Calls Tryd.prog 9 #[.agg #[.int .i64 k1, .int .i64 a1], .agg #[.int .i64 k2, .int .i64 a2]] w fun e w' => e = .returned (.tuple #[.agg #[.int .i64 Z.ls, .int .i64 Z.la, .int .i64 Z.hs, .int .i64 Z.ha], .int .i64 E]) ∧ Go.RowKit.Below w.heap.size w w' := by
  have HX := Lib.hid (Sn3.new w k1 a1 k2 a2)
  have hgy : w.heap.size ≤ w.heap.size + 1 + 1 := by omega
  go_enter Tryd.func9, Tryd.ntmps9
  go_upto_region 1 with fail
  generalize (((w.alloc (bB k1 a1)).alloc (bB k2 a2)).alloc (.cells #[.int .i64 0, .int .i64 0, .int .i64 0, .int .i64 0] 27)) = X at *
  go_cut [6, 7] from 8 to 33 (fun s6 s7 wx => ∃ N, s6 = .pointer (some ⟨N, 0, none⟩) ∧ s7 = .bool B1 ∧ CutIn X x1 y1 N wx)
  case first =>
    obtain ⟨p1, p2, _, _⟩ := two_cells HX.out.b
    have HS : Hid (LdS X w.heap.size k1 a1 X) := ⟨p1, p2, Go.RowKit.Below.refl _ _⟩
    have hsz := HX.out.sz
    have hlt : w.heap.size < X.heap.size := by omega
    have p0 : Go.RowKit.Below X.heap.size X X := Go.RowKit.Below.refl _ _
    clear HL HQ HO HZ
    go_region_held3 (fun w' => w'.cell? ⟨w.heap.size, 0, none⟩ = some (.int .i64 k1) ∧ w'.cell? ⟨w.heap.size, 1, none⟩ = some (.int .i64 a1) ∧ Go.RowKit.Below X.heap.size X w')
      (with_reducible first | exact hS1 | exact hS2 | exact LdS.alloc hS2 _ | exact LdS.put hS2 hlt _ (by omega) _ _ | exact LdS.alloc hS1 _ | exact LdS.alloc HS.out _ | exact LdS.drew (LdS.alloc HS.out _) | exact LdS.drew HS.out | exact HS.out)
      (first
        | (go_at_call 29; (with_reducible refine (HF.out _).mono ?_); rintro e Y1 ⟨rfl, hB1⟩; have hS1 : LdS X w.heap.size k1 a1 Y1 := (by with_reducible first | exact LdS.call HS.out.drew hB1 | exact LdS.call (LdS.drew (LdS.alloc HS.out _)) hB1 | exact LdS.call (LdS.alloc HS.out.drew _) hB1); have hs1 := hS1.2.2.size; (try first | (with_reducible have hN1 := Lib.hid (box_on (newD X) hB1)) | (with_reducible have hN1 := Lib.hid (box_on (newC X.drew) hB1))))
        | (go_at_call 28; (with_reducible refine (HP.out _).mono ?_); rintro e Y2 ⟨rfl, hB2⟩; have hS2 : LdS X w.heap.size k1 a1 Y2 := (by with_reducible first | exact LdS.call hS1 hB2 | exact LdS.call (LdS.alloc hS1 _) hB2); have hs2 := hS2.2.2.size; (try first | (with_reducible have hN2 := box_on hN1.out hB2; obtain ⟨d1, d2, e1, e2⟩ := two_cells hN2) | (with_reducible have hN2 := box_on (newC Y1) hB2; obtain ⟨d1, d2, e1, e2⟩ := two_cells hN2))))
    · have HQ0 := Lib.hid (CutIn.new x1 y1 hS2.2.2)
      go_wp2_with fail
      go_meet
      exact ⟨_, rfl, rfl, HQ0.out⟩
    · have HQ0 := Lib.hid (CutIn.put x1 y1 (by omega) hN2 hS2.2.2)
      go_wp2_with fail
      go_meet
      exact ⟨_, rfl, rfl, HQ0.out⟩
    · have HQ0 := Lib.hid (CutIn.put x1 y1 (Nat.le_refl _) hN2 hS2.2.2)
      go_wp2_with fail
      go_meet
      exact ⟨_, rfl, rfl, HQ0.out⟩
  case rest =>
    obtain ⟨N, rfl, rfl, hN⟩ := hcut
    have HX1 := Lib.hid (HX.out.on hN.be)
    have HN := Lib.hid hN
    clear hN HX
    go_upto_region 2 with fail
    go_cut [8, 9] from 10 to 33 (fun s8 s9 wx => ∃ M, s8 = .pointer (some ⟨M, 0, none⟩) ∧ s9 = .bool B2 ∧ CutIn wc x2 y2 M wx)
    case first =>
      obtain ⟨p1, p2, _, _⟩ := two_cells HX1.out.n
      have HS : Hid (LdS wc (w.heap.size + 1) k2 a2 wc) := ⟨p1, p2, Go.RowKit.Below.refl _ _⟩
      have hsz := HX1.out.sz
      have hlt : w.heap.size + 1 < wc.heap.size := by omega
      have p0 : Go.RowKit.Below wc.heap.size wc wc := Go.RowKit.Below.refl _ _
      clear HF HP HO HZ
      go_region_held3 (fun w' => w'.cell? ⟨w.heap.size + 1, 0, none⟩ = some (.int .i64 k2) ∧ w'.cell? ⟨w.heap.size + 1, 1, none⟩ = some (.int .i64 a2) ∧ Go.RowKit.Below wc.heap.size wc w')
        (with_reducible first | exact hS1 | exact hS2 | exact LdS.alloc hS2 _ | exact LdS.put hS2 hlt _ (by omega) _ _ | exact LdS.alloc hS1 _ | exact LdS.alloc HS.out _ | exact LdS.drew (LdS.alloc HS.out _) | exact LdS.drew HS.out | exact HS.out)
        (first
          | (go_at_call 32; (with_reducible refine (HL.out _).mono ?_); rintro e Y1 ⟨rfl, hB1⟩; have hS1 : LdS wc (w.heap.size + 1) k2 a2 Y1 := (by with_reducible first | exact LdS.call HS.out.drew hB1 | exact LdS.call (LdS.drew (LdS.alloc HS.out _)) hB1 | exact LdS.call (LdS.alloc HS.out.drew _) hB1); have hs1 := hS1.2.2.size; (try first | (with_reducible have hN1 := Lib.hid (box_on (newD wc) hB1)) | (with_reducible have hN1 := Lib.hid (box_on (newC wc.drew) hB1))))
          | (go_at_call 28; (with_reducible refine (HQ.out _).mono ?_); rintro e Y2 ⟨rfl, hB2⟩; have hS2 : LdS wc (w.heap.size + 1) k2 a2 Y2 := (by with_reducible first | exact LdS.call hS1 hB2 | exact LdS.call (LdS.alloc hS1 _) hB2); have hs2 := hS2.2.2.size; (try first | (with_reducible have hN2 := box_on hN1.out hB2; obtain ⟨d1, d2, e1, e2⟩ := two_cells hN2) | (with_reducible have hN2 := box_on (newC Y1) hB2; obtain ⟨d1, d2, e1, e2⟩ := two_cells hN2))))
      · have HQ0 := Lib.hid (CutIn.new x2 y2 hS2.2.2)
        go_wp2_with fail
        go_meet
        exact ⟨_, rfl, rfl, HQ0.out⟩
      · have HQ0 := Lib.hid (CutIn.put x2 y2 (by omega) hN2 hS2.2.2)
        go_wp2_with fail
        go_meet
        exact ⟨_, rfl, rfl, HQ0.out⟩
      · have HQ0 := Lib.hid (CutIn.put x2 y2 (Nat.le_refl _) hN2 hS2.2.2)
        go_wp2_with fail
        go_meet
        exact ⟨_, rfl, rfl, HQ0.out⟩

    case rest =>
      obtain ⟨M, rfl, rfl, hM⟩ := hcut
      rename_i wd
      have HX2 := Lib.hid (HX1.out.on hM.be)
      have HN2 := Lib.hid (box_on HN.out.box hM.be)
      have HM2 := Lib.hid hM.box
      clear hM HX1 HN HF HL HP HQ
      obtain ⟨c1, c2, _, _⟩ := two_cells HN2.out
      obtain ⟨c3, c4, _, _⟩ := two_cells HM2.out
      by_cases hBB : (B1 && B2) = true
      · obtain ⟨rfl, rfl⟩ : B1 = true ∧ B2 = true := by simpa using hBB
        have HO := Lib.hid (HO.out hBB)
        clear hBB HZ
        go_wp2_with fail
        refine (HO.out _).mono ?_
        rintro e Y ⟨rfl, hB5⟩
        have HX3 := Lib.hid (HX2.out.on hB5)
        clear HX2 c1 c2 c3 c4
        obtain ⟨⟨d1, d2, d3, d4⟩, e1, e2, e3, e4⟩ := Box4.zero HX3.out.r
        obtain ⟨f1, f2, f3, f4⟩ := (box_put4 HX3.out.r Z).cells
        have hL4 := (((HX3.out.be.setCell (p := ⟨w.heap.size + 1 + 1, 0, none⟩) hgy (.int .i64 Z.ls)).setCell (p := ⟨w.heap.size + 1 + 1, 1, none⟩) hgy (.int .i64 Z.la)).setCell (p := ⟨w.heap.size + 1 + 1, 2, none⟩) hgy (.int .i64 Z.hs)).setCell (p := ⟨w.heap.size + 1 + 1, 3, none⟩) hgy (.int .i64 Z.ha)
        go_wp2_with fail
        refine bodyPost_ret (v := .tuple #[.agg #[.int .i64 Z.ls, .int .i64 Z.la, .int .i64 Z.hs, .int .i64 Z.ha], .int .i64 E]) (by simp [results, Tryd.results9, go_sem, f1, f2, f3, f4]) rfl ?_
        exact ⟨rfl, hL4⟩
      · have hBB' := eq_false_of_ne_true hBB
        obtain ⟨hz, he⟩ := HZ.out hBB'
        have HZE : Hid (Z = ⟨0, 0, 0, 0⟩ ∧ E = 40) := ⟨hz, he⟩
        clear HZ hz he hBB HO c1 c2 c3 c4
        obtain ⟨⟨d1, d2, d3, d4⟩, e1, e2, e3, e4⟩ := Box4.zero HX2.out.r
        obtain ⟨f1, f2, f3, f4⟩ := (box_put4 HX2.out.r ⟨0, 0, 0, 0⟩).cells
        dsimp only at f1 f2 f3 f4
        have hL4 := (((HX2.out.be.setCell (p := ⟨w.heap.size + 1 + 1, 0, none⟩) hgy (.int .i64 0)).setCell (p := ⟨w.heap.size + 1 + 1, 1, none⟩) hgy (.int .i64 0)).setCell (p := ⟨w.heap.size + 1 + 1, 2, none⟩) hgy (.int .i64 0)).setCell (p := ⟨w.heap.size + 1 + 1, 3, none⟩) hgy (.int .i64 0)
        cases B1 <;> cases B2 <;> first
          | (exact absurd hBB' (by decide))
          | (go_wp2_with fail
             refine bodyPost_ret (v := .tuple #[.agg #[.int .i64 0, .int .i64 0, .int .i64 0, .int .i64 0], .int .i64 40]) (by simp [results, Tryd.results9, go_sem, f1, f2, f3, f4]) rfl ?_
             refine ⟨?_, hL4⟩
             rw [HZE.out.1, HZE.out.2])
theorem plK_ky (k x : Int) (hx : Ky x) : Ky (plK k x) := by
  unfold plK
  split
  · exact hx
  · unfold Ky; omega
theorem bspan_any (k1 a1 k2 a2 : Int) (w : World) (h1 : I64 a1) (h2 : I64 a2) :
    Calls Tryd.prog 9 #[.agg #[.int .i64 k1, .int .i64 a1], .agg #[.int .i64 k2, .int .i64 a2]] w fun e w' => e = .returned (.tuple #[vS (bdS k1 a1 k2 a2), .int .i64 (bdE k1 a1 k2 a2)]) ∧ Go.RowKit.Below w.heap.size w w' := by
  have hk1 := plK_ky k1 _ (lowK_ky k1 a1 h1)
  have hk2 := plK_ky k2 _ (highK_ky k2 a2 h2)
  refine bspan_core k1 a1 k2 a2 _ _ _ _ _ _ (bdS k1 a1 k2 a2) (bdE k1 a1 k2 a2) w (fun W => first_b W) (fun W => last_b W) (fun W => place_low k1 a1 W h1) (fun W => place_high k2 a2 W h2) (fun hB W => ?_) (fun h => ?_)
  · obtain ⟨hb1, hb2⟩ : kindB k1 = true ∧ kindB k2 = true := by simpa using hB
    have h := sof_any (sd (plK k1 (lowK k1 a1))) (pa (plK k1 (lowK k1 a1))) (sd (plK k2 (highK k2 a2))) (pa (plK k2 (highK k2 a2))) W (pa_i64 _ hk1) (pa_i64 _ hk2)
    rw [key_back _ hk1, key_back _ hk2] at h
    rw [show bdS k1 a1 k2 a2 = ofS (plK k1 (lowK k1 a1)) (plK k2 (highK k2 a2)) from by unfold bdS plK; rw [if_pos hB, if_pos hb1, if_pos hb2], show bdE k1 a1 k2 a2 = ofE (plK k1 (lowK k1 a1)) (plK k2 (highK k2 a2)) from by unfold bdE plK; rw [if_pos hB, if_pos hb1, if_pos hb2]]
    exact h
  · unfold bdS bdE
    rw [if_neg (by rw [h]; decide), if_neg (by rw [h]; decide)]
    exact ⟨rfl, rfl⟩
end Go.Proofs.YthojkbmffiibdaaDoor

/- The code's reader of bounds: read. -/
namespace Go.Proofs.YthojkbmffiibdaaDoor
open Go.RowKit Go.Sort Go.Proofs.YthojkbmffiibdaaDoor.Bo
set_option linter.unusedVariables false

theorem Keep.putNew {b : Nat} {X Y : World} (h : Keep b X Y) (p : Addr) (hp : X.heap.size ≤ p.block) (hb : b ≤ p.block) (v : Value) : Keep b X (Y.setCell p v) :=
  ⟨h.lo.setCell hb v, fun k hk hne => (Go.RowKit.Below.heap_setCell _ _ _ _ (by omega)).trans (h.hi k hk hne)⟩
theorem cell4_far {Y : World} {N B : Nat} (h : B ≠ N) (v1 v2 v3 v4 : Value) (i : Nat) : ((((Y.setCell ⟨N, 0, none⟩ v1).setCell ⟨N, 1, none⟩ v2).setCell ⟨N, 2, none⟩ v3).setCell ⟨N, 3, none⟩ v4).cell? ⟨B, i, none⟩ = Y.cell? ⟨B, i, none⟩ := by
  have hne : N ≠ B := fun e => h e.symm
  rw [World.cell?_setCell_other _ _ _ _ (by simp <;> omega), World.cell?_setCell_other _ _ _ _ (by simp <;> omega), World.cell?_setCell_other _ _ _ _ (by simp <;> omega), World.cell?_setCell_other _ _ _ _ (by simp <;> omega)]
theorem cellDrew (W : World) (a : Addr) : W.drew.cell? a = W.cell? a := rfl
/-- read's own blocks, beside the reader's. -/
structure Rw (W : World) (b c : Nat) (t : ByteArray) (i : Int) (bl ro : Bool) (lk la hk ha sc : Int) (Y : World) : Prop where
  rd : RdAt Y b t i bl ro lk la hk ha sc
  cp : Y.heap[c]? = some (capO b)
  r : Box4 Y (c + 1) z4
  n1 : c ≠ b
  n2 : c + 1 ≠ b
  w1 : W.heap.size ≤ c
  w2 : b < W.heap.size
  k : Keep b W Y
theorem Rw.on {W : World} {b c : Nat} {t : ByteArray} {i : Int} {bl ro : Bool} {lk la hk ha sc : Int} {Y Y' : World} (h : Rw W b c t i bl ro lk la hk ha sc Y) (hb : Go.RowKit.Below Y.heap.size Y Y') : Rw W b c t i bl ro lk la hk ha sc Y' :=
  ⟨h.rd.on hb, box_on h.cp hb, h.r.on hb, h.n1, h.n2, h.w1, h.w2, h.k.call h.rd.lt hb⟩
theorem Rw.drew {W : World} {b c : Nat} {t : ByteArray} {i : Int} {bl ro : Bool} {lk la hk ha sc : Int} {Y : World} (h : Rw W b c t i bl ro lk la hk ha sc Y) : Rw W b c t i bl ro lk la hk ha sc Y.drew := h.on (Go.RowKit.Below.refl _ _).drew
theorem Rw.cap {W : World} {b c : Nat} {t : ByteArray} {i : Int} {bl ro : Bool} {lk la hk ha sc : Int} {Y : World} (h : Rw W b c t i bl ro lk la hk ha sc Y) : Y.cell? ⟨c, 0, none⟩ = some (.pointer (some ⟨b, 0, none⟩)) := cell_of_one h.cp
theorem Rw.at1 {W : World} {b c : Nat} {t : ByteArray} {i : Int} {bl ro : Bool} {lk la hk ha sc : Int} {Y : World} (h : Rw W b c t i bl ro lk la hk ha sc Y) : Y.cell? ⟨c, 0, none⟩ = some (.pointer (some ⟨b, 0, none⟩)) ∧ Y.cell? ⟨b, 1, none⟩ = some (.int .i64 i) := ⟨h.cap, h.rd.cells.1.2.1⟩
theorem Rw.at8 {W : World} {b c : Nat} {t : ByteArray} {i : Int} {bl ro : Bool} {lk la hk ha sc : Int} {Y : World} (h : Rw W b c t i bl ro lk la hk ha sc Y) : Y.cell? ⟨c, 0, none⟩ = some (.pointer (some ⟨b, 0, none⟩)) ∧ Y.cell? ⟨b, 8, none⟩ = some (.int .i64 sc) := ⟨h.cap, h.rd.cells.1.2.2.2.2.2.2.2.2⟩
theorem Rw.at1p {W : World} {b c : Nat} {t : ByteArray} {i : Int} {bl ro : Bool} {lk la hk ha sc : Int} {Y : World} (h : Rw W b c t i bl ro lk la hk ha sc Y) (v1 v2 v3 v4 : Value) : ((((Y.setCell ⟨c + 1, 0, none⟩ v1).setCell ⟨c + 1, 1, none⟩ v2).setCell ⟨c + 1, 2, none⟩ v3).setCell ⟨c + 1, 3, none⟩ v4).cell? ⟨c, 0, none⟩ = some (.pointer (some ⟨b, 0, none⟩)) ∧ ((((Y.setCell ⟨c + 1, 0, none⟩ v1).setCell ⟨c + 1, 1, none⟩ v2).setCell ⟨c + 1, 2, none⟩ v3).setCell ⟨c + 1, 3, none⟩ v4).cell? ⟨b, 1, none⟩ = some (.int .i64 i) :=
  ⟨(cell4_far (by omega) _ _ _ _ _).trans h.cap, (cell4_far (Ne.symm h.n2) _ _ _ _ _).trans h.at1.2⟩
theorem Rw.at8p {W : World} {b c : Nat} {t : ByteArray} {i : Int} {bl ro : Bool} {lk la hk ha sc : Int} {Y : World} (h : Rw W b c t i bl ro lk la hk ha sc Y) (v1 v2 v3 v4 : Value) : ((((Y.setCell ⟨c + 1, 0, none⟩ v1).setCell ⟨c + 1, 1, none⟩ v2).setCell ⟨c + 1, 2, none⟩ v3).setCell ⟨c + 1, 3, none⟩ v4).cell? ⟨c, 0, none⟩ = some (.pointer (some ⟨b, 0, none⟩)) ∧ ((((Y.setCell ⟨c + 1, 0, none⟩ v1).setCell ⟨c + 1, 1, none⟩ v2).setCell ⟨c + 1, 2, none⟩ v3).setCell ⟨c + 1, 3, none⟩ v4).cell? ⟨b, 8, none⟩ = some (.int .i64 sc) :=
  ⟨(cell4_far (by omega) _ _ _ _ _).trans h.cap, (cell4_far (Ne.symm h.n2) _ _ _ _ _).trans h.at8.2⟩
theorem Rw.at1pd {W : World} {b c : Nat} {t : ByteArray} {i : Int} {bl ro : Bool} {lk la hk ha sc : Int} {Y : World} (h : Rw W b c t i bl ro lk la hk ha sc Y) (v1 v2 v3 v4 : Value) : ((((Y.setCell ⟨c + 1, 0, none⟩ v1).setCell ⟨c + 1, 1, none⟩ v2).setCell ⟨c + 1, 2, none⟩ v3).setCell ⟨c + 1, 3, none⟩ v4).drew.cell? ⟨c, 0, none⟩ = some (.pointer (some ⟨b, 0, none⟩)) ∧ ((((Y.setCell ⟨c + 1, 0, none⟩ v1).setCell ⟨c + 1, 1, none⟩ v2).setCell ⟨c + 1, 2, none⟩ v3).setCell ⟨c + 1, 3, none⟩ v4).drew.cell? ⟨b, 1, none⟩ = some (.int .i64 i) := ⟨(cellDrew _ _).trans (h.at1p v1 v2 v3 v4).1, (cellDrew _ _).trans (h.at1p v1 v2 v3 v4).2⟩
theorem Rw.at8pd {W : World} {b c : Nat} {t : ByteArray} {i : Int} {bl ro : Bool} {lk la hk ha sc : Int} {Y : World} (h : Rw W b c t i bl ro lk la hk ha sc Y) (v1 v2 v3 v4 : Value) : ((((Y.setCell ⟨c + 1, 0, none⟩ v1).setCell ⟨c + 1, 1, none⟩ v2).setCell ⟨c + 1, 2, none⟩ v3).setCell ⟨c + 1, 3, none⟩ v4).drew.cell? ⟨c, 0, none⟩ = some (.pointer (some ⟨b, 0, none⟩)) ∧ ((((Y.setCell ⟨c + 1, 0, none⟩ v1).setCell ⟨c + 1, 1, none⟩ v2).setCell ⟨c + 1, 2, none⟩ v3).setCell ⟨c + 1, 3, none⟩ v4).drew.cell? ⟨b, 8, none⟩ = some (.int .i64 sc) := ⟨(cellDrew _ _).trans (h.at8p v1 v2 v3 v4).1, (cellDrew _ _).trans (h.at8p v1 v2 v3 v4).2⟩
/-- The result is written. -/
theorem Rw.fin {W : World} {b c : Nat} {t : ByteArray} {i : Int} {bl ro : Bool} {lk la hk ha sc : Int} {Y : World} (h : Rw W b c t i bl ro lk la hk ha sc Y) (Z : S4) :
    Box4 ((((Y.setCell ⟨c + 1, 0, none⟩ (.int .i64 Z.ls)).setCell ⟨c + 1, 1, none⟩ (.int .i64 Z.la)).setCell ⟨c + 1, 2, none⟩ (.int .i64 Z.hs)).setCell ⟨c + 1, 3, none⟩ (.int .i64 Z.ha)) (c + 1) Z ∧ Keep b W ((((Y.setCell ⟨c + 1, 0, none⟩ (.int .i64 Z.ls)).setCell ⟨c + 1, 1, none⟩ (.int .i64 Z.la)).setCell ⟨c + 1, 2, none⟩ (.int .i64 Z.hs)).setCell ⟨c + 1, 3, none⟩ (.int .i64 Z.ha)) :=
  have h1 : W.heap.size ≤ c + 1 := Nat.le_succ_of_le h.w1
  have h2 : b ≤ c + 1 := Nat.le_trans (Nat.le_of_lt h.w2) h1
  ⟨box_put4 h.r Z, (((h.k.putNew _ h1 h2 _).putNew _ h1 h2 _).putNew _ h1 h2 _).putNew _ h1 h2 _⟩
def BReadPost (b : Nat) (Z : S4) (n E : Int) (W : World) (e : Ending) (W' : World) : Prop := e = .returned (.tuple #[.agg #[.int .i64 Z.ls, .int .i64 Z.la, .int .i64 Z.hs, .int .i64 Z.ha], .int .i64 n, .int .i64 E]) ∧ Keep b W W'
/-- What region 4 loads. -/
abbrev RgS (X : World) (c b : Nat) (lk la hk ha : Int) (w' : World) : Prop := w'.cell? ⟨c, 0, none⟩ = some (.pointer (some ⟨b, 0, none⟩)) ∧ w'.cell? ⟨b, 4, none⟩ = some (.int .i64 lk) ∧ w'.cell? ⟨b, 5, none⟩ = some (.int .i64 la) ∧ w'.cell? ⟨b, 6, none⟩ = some (.int .i64 hk) ∧ w'.cell? ⟨b, 7, none⟩ = some (.int .i64 ha) ∧ Go.RowKit.Below X.heap.size X w'
theorem RgS.call {X : World} {c b : Nat} {lk la hk ha : Int} {w' w'' : World} (h : RgS X c b lk la hk ha w') (hb : Go.RowKit.Below w'.heap.size w' w'') : RgS X c b lk la hk ha w'' :=
  ⟨(hb.cell (World.block_lt_of_cell? w' _ h.1)).trans h.1, (hb.cell (World.block_lt_of_cell? w' _ h.2.1)).trans h.2.1, (hb.cell (World.block_lt_of_cell? w' _ h.2.2.1)).trans h.2.2.1, (hb.cell (World.block_lt_of_cell? w' _ h.2.2.2.1)).trans h.2.2.2.1, (hb.cell (World.block_lt_of_cell? w' _ h.2.2.2.2.1)).trans h.2.2.2.2.1, bt h.2.2.2.2.2 hb⟩
theorem RgS.alloc {X : World} {c b : Nat} {lk la hk ha : Int} {w' : World} (h : RgS X c b lk la hk ha w') (o : Obj) : RgS X c b lk la hk ha (w'.alloc o) := h.call (below_new w' o)
theorem RgS.drew {X : World} {c b : Nat} {lk la hk ha : Int} {w' : World} (h : RgS X c b lk la hk ha w') : RgS X c b lk la hk ha w'.drew := h.call (Go.RowKit.Below.refl _ _).drew
theorem RgS.put {X : World} {c b : Nat} {lk la hk ha : Int} {w' : World} (h : RgS X c b lk la hk ha w') (h1 : c < X.heap.size) (h2 : b < X.heap.size) (N : Nat) (hN : X.heap.size ≤ N) (v1 v2 v3 v4 : Value) : RgS X c b lk la hk ha ((((w'.setCell ⟨N, 0, none⟩ v1).setCell ⟨N, 1, none⟩ v2).setCell ⟨N, 2, none⟩ v3).setCell ⟨N, 3, none⟩ v4) :=
  ⟨(cell4_far (by omega) _ _ _ _ _).trans h.1, (cell4_far (by omega) _ _ _ _ _).trans h.2.1, (cell4_far (by omega) _ _ _ _ _).trans h.2.2.1, (cell4_far (by omega) _ _ _ _ _).trans h.2.2.2.1, (cell4_far (by omega) _ _ _ _ _).trans h.2.2.2.2.1, (((h.2.2.2.2.2.setCell hN _).setCell hN _).setCell hN _).setCell hN _⟩
/-- A span in a block of its own, behind what was there. -/
structure SpIn (X : World) (Z : S4) (N : Nat) (Y : World) : Prop where
  far : X.heap.size ≤ N
  box : Box4 Y N Z
  be : Go.RowKit.Below X.heap.size X Y
theorem SpIn.put {X Y : World} {N : Nat} (Z : S4) (hN : X.heap.size ≤ N) (hb : Box4 Y N z4) (hl : Go.RowKit.Below X.heap.size X Y) : SpIn X Z N ((((Y.setCell ⟨N, 0, none⟩ (.int .i64 Z.ls)).setCell ⟨N, 1, none⟩ (.int .i64 Z.la)).setCell ⟨N, 2, none⟩ (.int .i64 Z.hs)).setCell ⟨N, 3, none⟩ (.int .i64 Z.ha)) :=
  ⟨hN, box_put4 hb Z, (((hl.setCell hN _).setCell hN _).setCell hN _).setCell hN _⟩
theorem SpIn.new {X Y : World} (Z : S4) (hl : Go.RowKit.Below X.heap.size X Y) : SpIn X Z Y.heap.size (Y.alloc (.cells #[.int .i64 Z.ls, .int .i64 Z.la, .int .i64 Z.hs, .int .i64 Z.ha] 27)) := ⟨hl.size, heap_alloc_new _ _, bt hl (below_new _ _)⟩
/-- The reader's state ahead of each step. -/
structure R7 where
  i : Nat
  ro : Bool
  lk : Int
  la : Int
  hk : Int
  ha : Int
  sc : Int
def RA (b : Nat) (t : ByteArray) (bl : Bool) (r : R7) (W : World) : Prop := RdAt W b t (r.i : Int) bl r.ro r.lk r.la r.hk r.ha r.sc
set_option maxRecDepth 100000 in
set_option maxHeartbeats 4000000 in
theorem read_core (W : World) (b sb : Nat) (t : ByteArray) (bl : Bool) (v : Nat → Value) (B : Nat → Bool) (r : Nat → R7) (Z : S4) (n E : Int)
    (hsb : W.heap[sb]? = some (stO v)) (hb1 : sb ≠ b) (h0 : RA b t bl (r 0) W)
    (HA : Hid (∀ c j, j < 5 → (∀ k, k < j → B k = true) → ∀ W', RA b t bl (r j) W' → W'.heap[c]? = some (capO b) → Calls Tryd.prog 57 #[v j, .pointer (some ⟨c, 0, none⟩)] W' (StPost b (!(B j)) (RA b t bl (r (j + 1))) W')))
    (HI : Hid (I64 (r 5).la ∧ I64 (r 5).ha))
    (HZ : Hid ((∀ m, m < 5 → (∀ k, k < m → B k = true) → B m = false → Z = ⟨0, 0, 0, 0⟩ ∧ n = ((r (m + 1)).i : Int) ∧ E = 40) ∧
      ((∀ k, k < 5 → B k = true) → (bdE (r 5).lk (r 5).la (r 5).hk (r 5).ha = 0 → Z = bdS (r 5).lk (r 5).la (r 5).hk (r 5).ha ∧ n = ((r 5).i : Int) ∧ E = 0) ∧ (bdE (r 5).lk (r 5).la (r 5).hk (r 5).ha ≠ 0 → Z = ⟨0, 0, 0, 0⟩ ∧ n = (r 5).sc ∧ E = bdE (r 5).lk (r 5).la (r 5).hk (r 5).ha)))) :
    Calls Tryd.prog 42 #[.pointer (some ⟨b, 0, none⟩), .slice (some ⟨sb, 0, none⟩) 5 5] W (BReadPost b Z n E W) := by
  have mx := mixed
  have hmf : ∀ (fn : Fn) (first cap : Array Value) (w : World), (Instr.makeFunc fn first cap).run Tryd.prog w = .ok (.func fn first cap) w := fun _ _ _ _ => rfl
  have hbW : b < W.heap.size := lt_of_block h0
  have hBw := bt (below_new W (capO b)) (below_new _ (.cells #[.int .i64 0, .int .i64 0, .int .i64 0, .int .i64 0] 27))
  have HC := Lib.hid (box_on (heap_alloc_new W (capO b)) (below_new _ (.cells #[.int .i64 0, .int .i64 0, .int .i64 0, .int .i64 0] 27)))
  have HRS : Hid (Box4 ((W.alloc (capO b)).alloc (.cells #[.int .i64 0, .int .i64 0, .int .i64 0, .int .i64 0] 27)) (W.heap.size + 1) z4) := new_at _ (by simp)
  have HSB := Lib.hid (box_on hsb hBw)
  have H0 : Hid (RA b t bl (r 0) ((W.alloc (capO b)).alloc (.cells #[.int .i64 0, .int .i64 0, .int .i64 0, .int .i64 0] 27))) := RdAt.on h0 hBw
  have HK0 := Lib.hid ((Keep.refl b W).call hbW hBw)
  have HW1 := Lib.hid (Nat.le_refl W.heap.size)
  have HW2 := Lib.hid hbW
  have HN1 : Hid (W.heap.size ≠ b) := Nat.ne_of_gt hbW
  have HN2 : Hid (W.heap.size + 1 ≠ b) := Nat.ne_of_gt (Nat.lt_succ_of_lt hbW)
  clear hsb h0 hBw hbW
  go_enter Tryd.func42, Tryd.ntmps42
  go_wp2_with fail
  generalize ((W.alloc (capO b)).alloc (.cells #[.int .i64 0, .int .i64 0, .int .i64 0, .int .i64 0] 27)) = X at *
  generalize hcc : W.heap.size = c at HC HRS HN1 HN2 ⊢
  have HWC : Hid (W.heap.size ≤ c) := Nat.le_of_eq hcc
  clear hcc
  refine (contf_any X b c sb v B (fun j => RA b t bl (r j)) HSB.out HC.out hb1 HN1.out H0.out (fun j hj hB W' hP hc => HA.out c j hj hB W' hP hc)).mono ?_
  rintro e Y1 ⟨m, hm, hB, hK, h⟩
  rcases h with ⟨rfl, rfl, hP⟩ | ⟨hlt, hD, rfl, hP⟩
  · have HZ5 := Lib.hid (HZ.out.2 hB)
    have HI5 := Lib.hid HI.out
    change RA b t bl (r 5) Y1 at hP
    generalize r 5 = rr at *
    obtain ⟨i, ro, lk, la, hk, ha, sc⟩ := rr
    dsimp only at HZ5 HI5
    have HX : Hid (Rw W b c t (i : Int) bl ro lk la hk ha sc Y1) := ⟨hP, hK.box HN1.out HC.out, hK.box HN2.out HRS.out, HN1.out, HN2.out, HWC.out, HW2.out, HK0.out.trans hK⟩
    clear hP hB hK HC HRS HSB H0 HK0 HW1 HZ HI HA hb1 hm HW2
    have HSP := Lib.hid (fun W => bspan_any lk la hk ha W HI5.out.1 HI5.out.2)
    generalize bdS lk la hk ha = ZZ at *
    generalize bdE lk la hk ha = EE at *
    have HSP' : Hid (∀ W, Calls Tryd.prog 9 #[.agg #[.int .i64 lk, .int .i64 la], .agg #[.int .i64 hk, .int .i64 ha]] W fun e w' => e = .returned (.tuple #[.agg #[.int .i64 ZZ.ls, .int .i64 ZZ.la, .int .i64 ZZ.hs, .int .i64 ZZ.ha], .int .i64 EE]) ∧ Go.RowKit.Below W.heap.size W w') := HSP.out
    clear HSP HI5
    go_upto_region 4 with fail
    go_cut [8, 9] from 10 to 43 (fun s8 s9 wx => ∃ N, s8 = .pointer (some ⟨N, 0, none⟩) ∧ s9 = .int .i64 EE ∧ SpIn Y1 ZZ N wx)
    case first =>
      have HS : Hid (RgS Y1 c b lk la hk ha Y1) := ⟨HX.out.cap, HX.out.rd.cells.1.2.2.2.2.1, HX.out.rd.cells.1.2.2.2.2.2.1, HX.out.rd.cells.1.2.2.2.2.2.2.1, HX.out.rd.cells.1.2.2.2.2.2.2.2.1, Go.RowKit.Below.refl _ _⟩
      obtain ⟨p1, p2, p3, p4, p5, p0⟩ := HS.out
      have hcl : c < Y1.heap.size := lt_of_block HX.out.cp
      have hbl : b < Y1.heap.size := HX.out.rd.lt
      go_region_held3 (fun w' => w'.cell? ⟨c, 0, none⟩ = some (.pointer (some ⟨b, 0, none⟩)) ∧ w'.cell? ⟨b, 4, none⟩ = some (.int .i64 lk) ∧ w'.cell? ⟨b, 5, none⟩ = some (.int .i64 la) ∧ w'.cell? ⟨b, 6, none⟩ = some (.int .i64 hk) ∧ w'.cell? ⟨b, 7, none⟩ = some (.int .i64 ha) ∧ Go.RowKit.Below Y1.heap.size Y1 w')
        (with_reducible first | exact hS1 | exact RgS.alloc hS1 _ | exact RgS.put hS1 hcl hbl _ (by omega) _ _ _ _ | exact RgS.alloc HS.out _ | exact RgS.drew (RgS.alloc HS.out _) | exact RgS.drew HS.out | exact HS.out)
        (first
          | (go_at_call 9; (with_reducible refine (HSP'.out _).mono ?_); rintro e Y2 ⟨rfl, hB1⟩; have hS1 : RgS Y1 c b lk la hk ha Y2 := (by with_reducible first | exact RgS.call HS.out.drew hB1 | exact RgS.call (RgS.drew (RgS.alloc HS.out _)) hB1 | exact RgS.call (RgS.alloc HS.out.drew _) hB1); have hs1 := hS1.2.2.2.2.2.size; (try first | (with_reducible have hN1 := Box4.on (Box4.drew (Box4.new Y1)) hB1; obtain ⟨⟨d1, d2, d3, d4⟩, e1, e2, e3, e4⟩ := Box4.zero hN1) | (with_reducible have hN1 := Box4.on (Box4.new Y1.drew) hB1; obtain ⟨⟨d1, d2, d3, d4⟩, e1, e2, e3, e4⟩ := Box4.zero hN1))))
      · have HQ0 := Lib.hid (SpIn.new ZZ hS1.2.2.2.2.2)
        go_wp2_with fail
        go_meet
        exact ⟨_, rfl, rfl, HQ0.out⟩
      · have HQ0 := Lib.hid (SpIn.put ZZ (Nat.le_refl _) hN1 hS1.2.2.2.2.2)
        go_wp2_with fail
        go_meet
        exact ⟨_, rfl, rfl, HQ0.out⟩
    case rest =>
      obtain ⟨N, rfl, rfl, hN⟩ := hcut
      have HX2 := Lib.hid (HX.out.on hN.be)
      have HN := Lib.hid hN
      have HNC : Hid (N ≠ c + 1) := by have h1 := hN.far; have h2 : c + 1 < Y1.heap.size := lt_of_block HX.out.r; show N ≠ c + 1; omega
      clear hN HX HSP'
      by_cases hE : EE = 0
      · obtain ⟨rfl, rfl, rfl⟩ := HZ5.out.1 hE
        subst hE
        clear HZ5
        go_upto_region 7 with fail
        obtain ⟨q1, q2⟩ := HX2.out.at1
        obtain ⟨q3, q4, q5, q6⟩ := HN.out.box.cells
        obtain ⟨⟨d1, d2, d3, d4⟩, e1, e2, e3, e4⟩ := Box4.zero HX2.out.r
        obtain ⟨hbx, hkk⟩ := HX2.out.fin Z
        have HBX := Lib.hid hbx
        have HKK := Lib.hid hkk.drew
        clear hbx hkk
        obtain ⟨f1, f2, f3, f4⟩ := (Box4.drew HBX.out).cells
        go_region_held3 (fun w' => (w'.cell? ⟨c, 0, none⟩ = some (.pointer (some ⟨b, 0, none⟩)) ∧ w'.cell? ⟨b, 1, none⟩ = some (.int .i64 (i : Int))) ∧ (w'.cell? ⟨N, 0, none⟩ = some (.int .i64 Z.ls) ∧ w'.cell? ⟨N, 1, none⟩ = some (.int .i64 Z.la) ∧ w'.cell? ⟨N, 2, none⟩ = some (.int .i64 Z.hs) ∧ w'.cell? ⟨N, 3, none⟩ = some (.int .i64 Z.ha)))
          (with_reducible first | exact ⟨Rw.at1 (Rw.drew HX2.out), Box4.cells (Box4.drew HN.out.box)⟩ | exact ⟨Rw.at1p (Rw.drew HX2.out) _ _ _ _, Box4.cells (box_far4 (Box4.drew HN.out.box) HNC.out _ _ _ _)⟩ | exact ⟨Rw.at1pd HX2.out _ _ _ _, Box4.cells (Box4.drew (box_far4 HN.out.box HNC.out _ _ _ _))⟩)
          (fail)
        all_goals
          go_wp2_with fail
          refine bodyPost_ret (v := .tuple #[.agg #[.int .i64 Z.ls, .int .i64 Z.la, .int .i64 Z.hs, .int .i64 Z.ha], .int .i64 (i : Int), .int .i64 0]) (by simp [results, Tryd.results42, go_sem, f1, f2, f3, f4]) rfl ?_
          exact ⟨rfl, HKK.out⟩
      · obtain ⟨rfl, rfl, rfl⟩ := HZ5.out.2 hE
        have t1 : (E == 0) = false := beq_eq_false_iff_ne.2 hE
        have t2 : (E != 0) = true := bne_iff_ne.2 hE
        clear HZ5 hE
        go_upto_region 6 with fail
        obtain ⟨q1, q2⟩ := HX2.out.at8
        obtain ⟨⟨d1, d2, d3, d4⟩, e1, e2, e3, e4⟩ := Box4.zero HX2.out.r
        obtain ⟨hbx, hkk⟩ := HX2.out.fin ⟨0, 0, 0, 0⟩
        have HBX := Lib.hid hbx
        have HKK := Lib.hid hkk.drew
        clear hbx hkk
        obtain ⟨f1, f2, f3, f4⟩ := (Box4.drew HBX.out).cells
        dsimp only at f1 f2 f3 f4
        go_region_held3 (fun w' => w'.cell? ⟨c, 0, none⟩ = some (.pointer (some ⟨b, 0, none⟩)) ∧ w'.cell? ⟨b, 8, none⟩ = some (.int .i64 n))
          (with_reducible first | exact Rw.at8 (Rw.drew HX2.out) | exact Rw.at8p (Rw.drew HX2.out) _ _ _ _ | exact Rw.at8pd HX2.out _ _ _ _)
          (fail)
        all_goals
          go_wp2_with fail
          refine bodyPost_ret (v := .tuple #[.agg #[.int .i64 0, .int .i64 0, .int .i64 0, .int .i64 0], .int .i64 n, .int .i64 E]) (by simp [results, Tryd.results42, go_sem, f1, f2, f3, f4]) rfl ?_
          exact ⟨rfl, HKK.out⟩
  · obtain ⟨rfl, hn, rfl⟩ := HZ.out.1 m hlt hB hD
    have HNN := Lib.hid hn
    change RA b t bl (r (m + 1)) Y1 at hP
    generalize r (m + 1) = rr at *
    obtain ⟨i, ro, lk, la, hk, ha, sc⟩ := rr
    dsimp only at HNN
    have HX2 : Hid (Rw W b c t (i : Int) bl ro lk la hk ha sc Y1) := ⟨hP, hK.box HN1.out HC.out, hK.box HN2.out HRS.out, HN1.out, HN2.out, HWC.out, HW2.out, HK0.out.trans hK⟩
    clear hP hB hK HC HRS HSB H0 HK0 HW1 HZ HI HA hb1 hm HW2 hlt hD hn
    go_upto_region 3 with fail
    obtain ⟨q1, q2⟩ := HX2.out.at1
    obtain ⟨⟨d1, d2, d3, d4⟩, e1, e2, e3, e4⟩ := Box4.zero HX2.out.r
    obtain ⟨hbx, hkk⟩ := HX2.out.fin ⟨0, 0, 0, 0⟩
    have HBX := Lib.hid hbx
    have HKK := Lib.hid hkk.drew
    clear hbx hkk
    obtain ⟨f1, f2, f3, f4⟩ := (Box4.drew HBX.out).cells
    dsimp only at f1 f2 f3 f4
    go_region_held3 (fun w' => w'.cell? ⟨c, 0, none⟩ = some (.pointer (some ⟨b, 0, none⟩)) ∧ w'.cell? ⟨b, 1, none⟩ = some (.int .i64 (i : Int)))
      (with_reducible first | exact Rw.at1 (Rw.drew HX2.out) | exact Rw.at1p (Rw.drew HX2.out) _ _ _ _ | exact Rw.at1pd HX2.out _ _ _ _)
      (fail)
    all_goals
      go_wp2_with fail
      refine bodyPost_ret (v := .tuple #[.agg #[.int .i64 0, .int .i64 0, .int .i64 0, .int .i64 0], .int .i64 (i : Int), .int .i64 40]) (by simp [results, Tryd.results42, go_sem, f1, f2, f3, f4]) rfl ?_
      refine ⟨?_, HKK.out⟩
      rw [HNN.out]
end Go.Proofs.YthojkbmffiibdaaDoor
