/- A part of the proof: contracts of the functions that the statements reach. -/
import Derived.Test.YthojkbmffiibdaaDoorRows
import Derived.Test.YthojkbmffiibdaaDoorBA
import Derived.Test.YthojkbmffiibdaaDoorBB
import Derived.Test.YthojkbmffiibdaaDoorBC
import Derived.Test.YthojkbmffiibdaaDoorBD
import Derived.Deep.RegionLaw
import Derived.Deep.AppendLies

/- Texts of whole numbers of any size. No Go in sight. -/
namespace Go.Proofs.YthojkbmffiibdaaDoor.Bo

def dv (c : UInt8) : Nat := c.toNat - 48
/-- Where the digits begin. -/
def frm (l : List UInt8) : Nat := if l[0]? = some 45 then 1 else 0
/-- From place m on all are digits. -/
def Digit (c : UInt8) : Prop := 48 ≤ c.toNat ∧ c.toNat ≤ 57
theorem low_val : ∀ (D : List Nat), Ok D → (∀ d, D.getLast? = some d → d ≠ 0) → low (val D) = D := by
  intro D
  induction D with
  | nil => intro _ _; exact low_zero
  | cons d t ih =>
    intro ok hl
    have hd := ok d (by simp)
    cases t with
    | nil =>
      have h0 : d ≠ 0 := hl d rfl
      simp only [val, Nat.mul_zero, Nat.add_zero]
      rw [low_pos d h0, show d / 10 = 0 from by omega, low_zero, show d % 10 = d from by omega]
    | cons e u =>
      have ht := ih (fun x hx => ok x (List.mem_cons_of_mem _ hx)) (fun x hx => hl x (by rw [List.getLast?_cons_cons]; exact hx))
      have hv : val (e :: u) ≠ 0 := fun h => by rw [h, low_zero] at ht; cases ht
      show low (d + 10 * val (e :: u)) = _
      rw [low_pos _ (by omega), show (d + 10 * val (e :: u)) % 10 = d from by omega, show (d + 10 * val (e :: u)) / 10 = val (e :: u) from by omega, ht]
theorem map_ch_dv (l : List UInt8) (h : ∀ c ∈ l, Digit c) : (l.map dv).map ch = l := by
  induction l with
  | nil => rfl
  | cons c t ih =>
    have hc := h c (by simp)
    simp only [List.map_cons]
    rw [ih (fun x hx => h x (List.mem_cons_of_mem _ hx)), show ch (dv c) = c from ch_of_digit c hc.1 hc.2]
theorem ok_dv (l : List UInt8) (h : ∀ c ∈ l, Digit c) : Ok (l.map dv) := by
  intro d hd
  obtain ⟨c, hc, rfl⟩ := List.mem_map.1 hd
  have := h c hc
  unfold Digit at this
  unfold dv; omega
/-- A row of digits, the first one no nought, is its number's. -/
theorem dg_of_digits (c : UInt8) (t : List UInt8) (h : ∀ x ∈ c :: t, Digit x) (h0 : c ≠ 48) : dg (val ((c :: t).reverse.map dv)) = c :: t ∧ val ((c :: t).reverse.map dv) ≠ 0 := by
  have hr : ∀ x ∈ (c :: t).reverse, Digit x := fun x hx => h x (List.mem_reverse.1 hx)
  have hc := h c (by simp)
  have hlow := low_val ((c :: t).reverse.map dv) (ok_dv _ hr) (fun d hd => by
    rw [List.map_reverse, List.getLast?_reverse] at hd
    simp at hd
    subst hd
    intro hz
    apply h0
    apply UInt8.toNat_inj.1
    unfold Digit at hc
    unfold dv at hz
    show c.toNat = 48
    omega)
  have hne : val ((c :: t).reverse.map dv) ≠ 0 := fun h => by rw [h, low_zero] at hlow; simp at hlow
  refine ⟨?_, hne⟩
  rw [dg, if_neg hne, pre, hlow, ← List.map_reverse, List.reverse_reverse]
  exact map_ch_dv _ h
def sg (l : List UInt8) : Int := if l[0]? = some 45 then -1 else 1
/-- The digits, the lowest one first. -/
def digsOf (l : List UInt8) : List Nat := (l.drop (frm l)).reverse.map dv
theorem whole_yes (l : List UInt8) (hd : ∀ c ∈ l.drop (frm l), Digit c) (c : UInt8) (t : List UInt8) (hl : l.drop (frm l) = c :: t) (h0 : c ≠ 48) : l = textOf (sg l * (val (digsOf l) : Int)) := by
  have hg := dg_of_digits c t (fun x hx => hd x (by rw [hl]; exact hx)) h0
  unfold digsOf
  rw [hl]
  obtain ⟨h1, h2⟩ := hg
  unfold sg frm at *
  by_cases hn : l[0]? = some 45
  · rw [if_pos hn] at hl ⊢
    cases l with
    | nil => simp at hn
    | cons a u =>
      simp at hn
      subst hn
      simp only [List.drop_one, List.tail_cons] at hl
      subst hl
      unfold textOf
      rw [if_pos (by omega), show (-1 * (val ((c :: t).reverse.map dv) : Int)).natAbs = val ((c :: t).reverse.map dv) from by omega, h1]
  · rw [if_neg hn] at hl ⊢
    simp only [List.drop_zero] at hl
    subst hl
    unfold textOf
    rw [if_neg (by omega), show (1 * (val ((c :: t).reverse.map dv) : Int)).natAbs = val ((c :: t).reverse.map dv) from by omega, h1]
theorem frm_text (z : Int) : (textOf z).drop (frm (textOf z)) = dg z.natAbs ∧ (frm (textOf z) = 1 ↔ z < 0) := by
  unfold frm
  by_cases h : z < 0
  · rw [textOf_neg z h]
    simp [h]
  · rw [textOf_pos z h]
    have := dg_ne z.natAbs
    rw [if_neg this]
    simp [h]
theorem text_digits (l : List UInt8) (z : Int) (h : l = textOf z) : ∀ c ∈ l.drop (frm l), Digit c := by
  subst h
  rw [(frm_text z).1]
  exact fun c hc => dg_digits _ c hc
theorem text_more (l : List UInt8) (z : Int) (h : l = textOf z) : ∃ c t, l.drop (frm l) = c :: t ∧ (c = 48 → t = [] ∧ frm l = 0) := by
  subst h
  rw [(frm_text z).1]
  by_cases h0 : z.natAbs = 0
  · refine ⟨48, [], by rw [h0, dg_zero], fun _ => ⟨rfl, ?_⟩⟩
    have := (frm_text z).2
    have hz : ¬ z < 0 := by omega
    unfold frm at this ⊢
    split
    · rename_i hh; rw [if_pos hh] at this; exact absurd (this.1 rfl) hz
    · rfl
  · obtain ⟨c, t, e, hc⟩ := dg_first z.natAbs h0
    refine ⟨c, t, e, fun h48 => ?_⟩
    subst h48
    exact absurd hc.1 (by decide)
end Go.Proofs.YthojkbmffiibdaaDoor.Bo

/- Contract of the reference's whole. -/
namespace Go.Proofs.YthojkbmffiibdaaDoor
open Go.RowKit Go.Proofs.YthojkbmffiibdaaDoor.Bo
set_option linter.unusedVariables false

/-- What stands in memory while a text's digits are gathered. -/
structure WhAt (w : World) (sgn : Int) (wr : World) (v : Value) (os : List Nat) : Prop where
  res : wr.heap[w.heap.size]? = some (.cells #[.int .i64 0, .slice none 0 0] 77 (0, 0))
  mem : wr.heap[w.heap.size + 1]? = some (.cells #[.int .i64 sgn, v] 77 (0, 0))
  own : wr.ownsRow (w.heap.size + 2) 3 1 v os.length (os.map iv)
  below : Below w.heap.size w wr
theorem wh_step {w wr w' : World} {sgn : Int} {v v' : Value} {os : List Nat} {d : Nat} {o : Obj} (hA : WhAt w sgn wr v os)
    (hown : w'.ownsRow (w.heap.size + 2) 3 1 v' (os.length + 1) (os.map iv ++ [iv d])) (hg : (wr.alloc o).drew.grownBy w' v.ownBlock) :
    w'.heap[w.heap.size + 1]? = some (.cells #[.int .i64 sgn, v] 77 (0, 0)) ∧ WhAt w sgn (w'.setCell ⟨w.heap.size + 1, 1, none⟩ v') v' (os ++ [d]) := by
  have hl1 := lt_of_block hA.mem
  have hk : ∀ j, j ≤ w.heap.size + 1 → w'.heap[j]? = wr.heap[j]? := fun j hj =>
    (hg.block j (by show j < (wr.alloc o).heap.size; simp; omega) (own_ne hA.own hj)).trans (heap_alloc_old _ _ (by omega))
  have hm := (hk _ (Nat.le_refl _)).trans hA.mem
  refine ⟨hm, ?_, ?_, ?_, ?_⟩
  · rw [heap_setCell_other _ _ _ _ (by simp)]; exact (hk _ (by omega)).trans hA.res
  · have := heap_setCell_same w' (w.heap.size + 1) 1 _ _ v' hm
    rw [this]; rfl
  · have h1 := ownsRow_setCell_below hown (a := ⟨w.heap.size + 1, 1, none⟩) (by simp) v'
    rw [show (os ++ [d]).length = os.length + 1 from by simp, List.map_append]
    exact h1
  · refine Below.setCell ?_ (by simp) _
    refine ((hA.below.alloc (by omega) o).drew).grown hg (by show w.heap.size ≤ (wr.alloc o).heap.size; simp; omega) (fun j hj => ?_)
    have := (hA.own.lt j hj).1
    omega

def zeroBig : Value := .agg #[.int .i64 0, .slice none 0 0]
def WholeNo (l : List UInt8) (w : World) (e : Ending) (w' : World) : Prop := (∀ z, l ≠ textOf z) ∧ e = .returned (.tuple #[.agg #[.int .i64 0, .slice none 0 0], .bool false]) ∧ Below w.heap.size w w'
def WholeYes (l : List UInt8) (w : World) (e : Ending) (w' : World) : Prop := ∃ z V, l = textOf z ∧ e = .returned (.tuple #[V, .bool true]) ∧ BigAt w' V z l.length ∧ Below w.heap.size w w'
def WholePost (l : List UInt8) (w : World) (e : Ending) (w' : World) : Prop := WholeNo l w e w' ∨ WholeYes l w e w'

theorem bytes_at' (s : ByteArray) (k : Nat) (h : k < s.size) : s.data.toList[k]'(by simpa using h) = s[k]'h := by simp [ByteArray.getElem_eq_getElem_data]
theorem osOf_step (l : List UInt8) (m : Nat) (h : m < l.length) : ((l.drop m).reverse.map dv) = ((l.drop (m + 1)).reverse.map dv) ++ [dv l[m]] := by
  rw [List.drop_eq_getElem_cons h, List.reverse_cons, List.map_append]; rfl

theorem drop_digits (l : List UInt8) (m : Nat) (h : m < l.length) (hd : Digit l[m]) (ht : ∀ c ∈ l.drop (m + 1), Digit c) : ∀ c ∈ l.drop m, Digit c := by
  rw [List.drop_eq_getElem_cons h]
  intro c hc
  rcases List.mem_cons.1 hc with rfl | h1
  · exact hd
  · exact ht c h1
theorem mem_drop_at (l : List UInt8) (f m : Nat) (hf : f ≤ m) (h : m < l.length) : l[m] ∈ l.drop f := by
  have h1 : (l.drop f)[m - f]? = some l[m] := by rw [List.getElem?_drop, show f + (m - f) = m from by omega, List.getElem?_eq_getElem h]
  exact List.mem_of_getElem? h1
/-- What the last digit of a row is, in memory. -/
theorem last_cell {wr : World} {a : Option Addr} {n cap : Nat} {os : List Nat} {d : Nat} (h : Dg wr (.slice a n cap) (os ++ [d])) : n = os.length + 1 ∧ ∃ g, a = some ⟨g, 0, none⟩ ∧ wr.cell? ⟨g, os.length, none⟩ = some (.int .i64 (d : Int)) := by
  obtain ⟨h1, h2, h3⟩ := h.cellAt
  simp at h1
  obtain ⟨g, hg, _, hc⟩ := h3 (by omega)
  refine ⟨h1, g, hg, ?_⟩
  have := hc os.length (by simp)
  simpa using this

set_option maxRecDepth 100000 in
set_option maxHeartbeats 4000000 in
theorem whole_neg (s : ByteArray) (w : World) (hs : s.size ≤ 10000) (h45 : s.data.toList[0]? = some 45) :
    Calls Tryd.prog 96 #[.string s] w (WholePost s.data.toList w) := by
  obtain ⟨i0, hi, hz0, hz1, hz2⟩ := info_parts Tryd.infoInt
  have hlt0 : 0 < s.size := by have := (List.getElem?_eq_some_iff.1 h45).1; simpa using this
  have t0 : decide ((0 : Int) < (s.size : Int)) = true := decide_eq_true (by omega)
  have t1 : ((s[0].toNat : Int) == 45) = true := beq_iff_eq.2 (by
    rw [List.getElem?_eq_getElem (by simpa using hlt0), bytes_at' s 0 hlt0] at h45
    have := Option.some.inj h45
    rw [this]; rfl)
  have HF : Hid (frm s.data.toList = 1) := by show frm _ = 1; unfold frm; rw [if_pos h45]
  have HSG : Hid (sg s.data.toList = -1) := by show sg _ = -1; unfold sg; rw [if_pos h45]
  clear h45
  go_enter Tryd.func96, Tryd.ntmps96
  go_wp2_with fail
  go_loopw [6] (fun i wr => ∃ (j : Nat) (v : Value), i = .int .i64 ((j : Int) - 1) ∧ 1 ≤ j ∧ j ≤ s.size ∧ (∀ c ∈ s.data.toList.drop j, Digit c) ∧ WhAt w (-1) wr v ((s.data.toList.drop j).reverse.map dv)) (fun i _ => (intOf i + 1).toNat)
  case atStart =>
    refine ⟨s.size, .slice none 0 0, rfl, by omega, Nat.le_refl _, ?_, ?_⟩
    · rw [List.drop_of_length_le (by simp)]; simp
    · rw [List.drop_of_length_le (by simp)]
      exact ⟨heap_alloc2_old _ _ _, heap_alloc2_new _ _ _, World.ownsRow_nil _ _ _ _, ((Below.refl _ _).alloc (Nat.le_refl _) _).alloc (by simp) _⟩
  case round =>
    obtain ⟨j, v, rfl, hj1, hj2, hdig, hA⟩ := hrel
    have HA := Lib.hid hA
    have c0 := cell_of_row _ _ 0 _ _ _ hA.mem
    have c1 := cell_of_row _ _ 1 _ _ _ hA.mem
    have f1 := frozen_of_row _ _ 1 _ _ hA.mem
    have r0 := cell_of_row _ _ 0 _ _ _ hA.res
    have r1 := cell_of_row _ _ 1 _ _ _ hA.res
    have g0 := frozen_of_row _ _ 0 _ _ hA.res
    have g1 := frozen_of_row _ _ 1 _ _ hA.res
    have hszr := lt_of_block hA.mem
    simp at c0 c1 r0 r1
    have HDIG := Lib.hid hdig
    have hzz := two_set (p := .int .i64 0) (q := .slice none 0 0) hA.res
    have HQ0 := Lib.hid ((cell_of_row _ _ 0 _ _ _ hzz).trans rfl)
    have HQ1 := Lib.hid ((cell_of_row _ _ 1 _ _ _ hzz).trans rfl)
    have HBZ := Lib.hid ((hA.below.setCell (p := ⟨w.heap.size, 0, none⟩) (by simp) (.int .i64 0)).setCell (p := ⟨w.heap.size, 1, none⟩) (by simp) (.slice none 0 0))
    clear hdig hA hzz
    by_cases hmore : 2 ≤ j
    · obtain ⟨m, rfl⟩ : ∃ m, j = m + 1 := ⟨j - 1, by omega⟩
      rw [show ((m + 1 : Nat) : Int) - 1 = (m : Int) from by omega]
      have hm : m < s.size := by omega
      have tg : decide ((1 : Int) ≤ (m : Int)) = true := decide_eq_true (by omega)
      have i1 : (0 : Int) ≤ (m : Int) := by omega
      have i2 : (m : Int) < (s.size : Int) := by omega
      by_cases hd : Digit s[m]
      · have u1 : decide ((s[m].toNat : Int) < 48) = false := decide_eq_false (by unfold Digit at hd; omega)
        have u2 : decide (57 < (s[m].toNat : Int)) = false := decide_eq_false (by unfold Digit at hd; omega)
        have hd1 : 48 ≤ s[m].toNat := hd.1
        have hd2 : s[m].toNat ≤ 57 := hd.2
        have HST := Lib.hid (osOf_step s.data.toList m (by simpa using hm))
        rw [bytes_at' s m hm] at HST
        have HDD : Hid (Value.int .i64 ((s[m].toNat : Int) - 48) = iv (dv s[m])) := by
          show Value.int _ _ = Value.int _ _
          unfold dv
          congr 1; omega
        have hosl : ((s.data.toList.drop (m + 1)).reverse.map dv).length ≤ 10000 := by simp; omega
        have HD1 := Lib.hid (drop_digits s.data.toList m (by simpa using hm) (by rw [bytes_at' s m hm]; exact hd) HDIG.out)
        generalize (s.data.toList.drop (m + 1)).reverse.map dv = os at *
        have hown := Lib.hid HA.out.own
        clear hd HQ0 HQ1 HBZ HDIG
        go_wp2_with fail
        have q1 : IntKind.i64.wrap (s[m].toNat : Int) = (s[m].toNat : Int) := IntWalk.i64_in _ (by omega)
        have q2 : IntKind.i64.wrap ((s[m].toNat : Int) - 48) = (s[m].toNat : Int) - 48 := IntWalk.i64_in _ (by omega)
        go_region_law ((refine step_append_lies _ (by rfl) _ _ _ (by rfl) (w.heap.size + 2) 3 i0 (.int .i64 0) 1 8 Tryd.underlying75 hi hz0 hz1 hz2 rfl (by omega) v os.length (os.map iv) (by rfl) ((hown.out.alloc _).drew) ⟨wr.heap.size, 0, none⟩ 1 1 [.int .i64 ((s[m].toNat : Int) - 48)] (by rfl) (by rfl) (World.news_of_block (cs := #[.int .i64 ((s[m].toNat : Int) - 48)]) (t := 3) (fr := (0, 0)) (heap_alloc_new wr _)) (by simp [Value.oneCell']) (by omega) (by unfold maxLen; omega) (by omega) (by simp; omega) (wr.heap.size + 1) (by simp) ?_; intro gg cap1 w1 hown1 hgrow hat hltt; rw [HDD.out] at hown1; obtain ⟨hm1, hA1⟩ := wh_step HA.out hown1 hgrow; have HA1 := Lib.hid hA1; have d1 : w1.cell? ⟨w.heap.size + 1, 1, none⟩ = some v := (cell_of_row _ _ 1 _ _ _ hm1).trans rfl; have e1 := frozen_of_row _ _ 1 _ _ hm1; clear hA1 hown1 hgrow hat hltt hm1))
        all_goals
          clear q1 q2
          go_wp2_with fail
          go_roundw
          case rel => exact ⟨m, _, rfl, by omega, by omega, HD1.out, by rw [HST.out]; exact HA1.out⟩
          case measure => simp [intOf]
      · have HNO : Hid (∀ z, s.data.toList ≠ textOf z) := fun z hz => hd (by
          have h1 := text_digits s.data.toList z hz
          rw [HF.out] at h1
          have h2 := h1 _ (mem_drop_at s.data.toList 1 m (by omega) (by simpa using hm))
          rw [bytes_at' s m hm] at h2
          exact h2)
        by_cases h48 : s[m].toNat < 48
        · have u1 : decide ((s[m].toNat : Int) < 48) = true := decide_eq_true (by omega)
          clear hd
          go_wp2_with fail
          have q0 := HQ0.out
          have q1 := HQ1.out
          refine bodyPost_ret (v := .tuple #[.agg #[.int .i64 0, .slice none 0 0], .bool false]) (by simp [results, Tryd.results96, go_sem, q0, q1]) rfl ?_
          exact Or.inl ⟨HNO.out, rfl, HBZ.out⟩
        · have u1 : decide ((s[m].toNat : Int) < 48) = false := decide_eq_false (by omega)
          have u2 : decide (57 < (s[m].toNat : Int)) = true := decide_eq_true (by unfold Digit at hd; omega)
          clear hd
          go_wp2_with fail
          have q0 := HQ0.out
          have q1 := HQ1.out
          refine bodyPost_ret (v := .tuple #[.agg #[.int .i64 0, .slice none 0 0], .bool false]) (by simp [results, Tryd.results96, go_sem, q0, q1]) rfl ?_
          exact Or.inl ⟨HNO.out, rfl, HBZ.out⟩
    · obtain rfl : j = 1 := by omega
      have HFL : Hid (s.data.toList.drop (frm s.data.toList) = s.data.toList.drop 1) := by rw [HF.out]; exact rfl
      have tg : decide ((1 : Int) ≤ 0) = false := by decide
      cases hl : s.data.toList.drop 1 with
      | nil =>
        rw [hl] at HA HFL
        have HNO : Hid (∀ z, s.data.toList ≠ textOf z) := fun z hz => by
          obtain ⟨c, t, h1, _⟩ := text_more s.data.toList z hz
          rw [HFL.out] at h1
          cases h1
        obtain ⟨av, cv, hv, _⟩ := dg_of_own HA.out.own
        simp at hv
        subst hv
        clear hl
        go_wp2_with fail
        have q0 := HQ0.out
        have q1 := HQ1.out
        refine bodyPost_ret (v := .tuple #[.agg #[.int .i64 0, .slice none 0 0], .bool false]) (by simp [results, Tryd.results96, go_sem, q0, q1]) rfl ?_
        exact Or.inl ⟨HNO.out, rfl, HBZ.out⟩
      | cons c t =>
        rw [hl] at HA HFL HDIG
        have hcd := HDIG.out c (by simp)
        have HCD := Lib.hid hcd
        have hdg := dg_of_own HA.out.own
        rw [List.reverse_cons, List.map_append] at hdg
        obtain ⟨av, cv, hv, hcv, hgv⟩ := id hdg
        subst hv
        obtain ⟨hlen, g, rfl, hlast⟩ := last_cell (os := t.reverse.map dv) (d := dv c) hdg
        have hln : ((t.reverse.map dv) ++ ([c].map dv)).length = t.length + 1 := by simp
        have hln2 : (t.reverse.map dv).length = t.length := by simp
        rw [hln] at hlen
        rw [hln2] at hlast
        have hsl : t.length ≤ 10000 := by
          have h1 : (s.data.toList.drop 1).length = (c :: t).length := by rw [hl]
          simp at h1
          omega
        have HDGS := Lib.hid hdg
        clear hgv hcv hlen
        rw [hln] at c1
        clear hdg hl
        have z0 : (((t.length + 1 : Nat) : Int) == 0) = false := beq_eq_false_iff_ne.2 (by omega)
        have z1 : (((t.length : Int) + 1) == 0) = false := beq_eq_false_iff_ne.2 (by omega)
        have j1 : (0 : Int) ≤ (t.length : Int) := by omega
        by_cases hc48 : c = 48
        · have hdv : dv c = 0 := by rw [hc48]; rfl
          rw [hdv] at hlast
          clear hdv
          have HNO : Hid (∀ z, s.data.toList ≠ textOf z) := fun z hz => by
            obtain ⟨c', t', h1, h2⟩ := text_more s.data.toList z hz
            rw [HFL.out] at h1
            injection h1 with h3 h4
            have := (h2 (by rw [← h3]; exact hc48)).2
            rw [HF.out] at this
            omega
          clear hc48
          by_cases hlong : 1 < t.length + 1
          · have tl : decide ((1 : Int) < ((t.length + 1 : Nat) : Int)) = true := decide_eq_true (by omega)
            have tl2 : decide ((1 : Int) < (t.length : Int) + 1) = true := decide_eq_true (by omega)
            go_wp2_with fail
            have q0 := HQ0.out
            have q1 := HQ1.out
            refine bodyPost_ret (v := .tuple #[.agg #[.int .i64 0, .slice none 0 0], .bool false]) (by simp [results, Tryd.results96, go_sem, q0, q1]) rfl ?_
            exact Or.inl ⟨HNO.out, rfl, HBZ.out⟩
          · have tl : decide ((1 : Int) < ((t.length + 1 : Nat) : Int)) = false := decide_eq_false (by omega)
            have tl2 : decide ((1 : Int) < (t.length : Int) + 1) = false := decide_eq_false (by omega)
            go_wp2_with fail
            have q0 := HQ0.out
            have q1 := HQ1.out
            refine bodyPost_ret (v := .tuple #[.agg #[.int .i64 0, .slice none 0 0], .bool false]) (by simp [results, Tryd.results96, go_sem, q0, q1]) rfl ?_
            exact Or.inl ⟨HNO.out, rfl, HBZ.out⟩
        · have hdv : dv c ≠ 0 := by
            intro h0
            apply hc48
            apply UInt8.toNat_inj.1
            unfold dv at h0
            unfold Digit at hcd
            show c.toNat = 48
            omega
          have HYES : Hid (s.data.toList = textOf ((-1) * (val (digsOf s.data.toList) : Int))) := by
            show _ = _
            have h1 := whole_yes s.data.toList (by rw [HFL.out]; exact HDIG.out) c t HFL.out hc48
            rw [HSG.out] at h1
            exact h1
          have HDO : Hid (digsOf s.data.toList = t.reverse.map dv ++ [c].map dv) := by
            show _ = _
            unfold digsOf
            rw [HFL.out, List.reverse_cons, List.map_append]
          have HNZ : Hid (Ok (t.reverse.map dv ++ [c].map dv)) := by
            have h1 := ok_dv (c :: t).reverse (fun x hx => HDIG.out x (List.mem_reverse.1 hx))
            rw [List.reverse_cons, List.map_append] at h1
            exact h1
          have td : (((dv c : Nat) : Int) == 0) = false := beq_eq_false_iff_ne.2 (by omega)
          have hfin := two_set (p := .int .i64 (-1)) (q := .slice (some ⟨g, 0, none⟩) (t.length + 1) cv) HA.out.res
          have HP0 := Lib.hid ((cell_of_row _ _ 0 _ _ _ hfin).trans rfl)
          have HP1 := Lib.hid ((cell_of_row _ _ 1 _ _ _ hfin).trans rfl)
          have HBY := Lib.hid ((HA.out.below.setCell (p := ⟨w.heap.size, 0, none⟩) (by simp) (.int .i64 (-1))).setCell (p := ⟨w.heap.size, 1, none⟩) (by simp) (.slice (some ⟨g, 0, none⟩) (t.length + 1) cv))
          have HFAR := Lib.hid ((HDGS.out.far HA.out.res (by decide) 0 (.int .i64 (-1))).far (heap_setCell_same _ _ 0 _ _ (.int .i64 (-1)) HA.out.res) (by decide) 1 (.slice (some ⟨g, 0, none⟩) (t.length + 1) cv))
          rw [hln] at HFAR
          clear hc48 hdv hcd hfin
          go_wp2_with fail
          have q0 := HP0.out
          have q1 := HP1.out
          refine bodyPost_ret (v := .tuple #[.agg #[.int .i64 (-1), .slice (some ⟨g, 0, none⟩) (t.length + 1) cv], .bool true]) (by simp [results, Tryd.results96, go_sem, q0, q1]) rfl ?_
          refine Or.inr ⟨_, _, HYES.out, rfl, ⟨-1, _, _, rfl, by decide, HFAR.out, HNZ.out, ?_, by rw [HDO.out], fun h => absurd h (by decide)⟩, HBY.out⟩
          have h1 : (s.data.toList.drop (frm s.data.toList)).length = (c :: t).length := by rw [HFL.out]
          simp at h1 ⊢
          omega
set_option maxRecDepth 100000 in
set_option maxHeartbeats 4000000 in
theorem whole_pos (s : ByteArray) (w : World) (hs : s.size ≤ 10000) (hlt0 : 0 < s.size) (h45 : ¬ s.data.toList[0]? = some 45) :
    Calls Tryd.prog 96 #[.string s] w (WholePost s.data.toList w) := by
  obtain ⟨i0, hi, hz0, hz1, hz2⟩ := info_parts Tryd.infoInt
  have t0 : decide ((0 : Int) < (s.size : Int)) = true := decide_eq_true (by omega)
  have t1 : ((s[0].toNat : Int) == 45) = false := beq_eq_false_iff_ne.2 (fun h => h45 (by
    rw [List.getElem?_eq_getElem (by simpa using hlt0), bytes_at' s 0 hlt0]
    refine congrArg some (UInt8.toNat_inj.1 ?_)
    show s[0].toNat = 45
    omega))
  have HF : Hid (frm s.data.toList = 0) := by show frm _ = 0; unfold frm; rw [if_neg h45]
  have HSG : Hid (sg s.data.toList = 1) := by show sg _ = 1; unfold sg; rw [if_neg h45]
  clear h45
  go_enter Tryd.func96, Tryd.ntmps96
  go_wp2_with fail
  go_loopw [6] (fun i wr => ∃ (j : Nat) (v : Value), i = .int .i64 ((j : Int) - 1) ∧ 0 ≤ j ∧ j ≤ s.size ∧ (∀ c ∈ s.data.toList.drop j, Digit c) ∧ WhAt w (1) wr v ((s.data.toList.drop j).reverse.map dv)) (fun i _ => (intOf i + 1).toNat)
  case atStart =>
    refine ⟨s.size, .slice none 0 0, rfl, by omega, Nat.le_refl _, ?_, ?_⟩
    · rw [List.drop_of_length_le (by simp)]; simp
    · rw [List.drop_of_length_le (by simp)]
      exact ⟨heap_alloc2_old _ _ _, heap_alloc2_new _ _ _, World.ownsRow_nil _ _ _ _, ((Below.refl _ _).alloc (Nat.le_refl _) _).alloc (by simp) _⟩
  case round =>
    obtain ⟨j, v, rfl, hj1, hj2, hdig, hA⟩ := hrel
    have HA := Lib.hid hA
    have c0 := cell_of_row _ _ 0 _ _ _ hA.mem
    have c1 := cell_of_row _ _ 1 _ _ _ hA.mem
    have f1 := frozen_of_row _ _ 1 _ _ hA.mem
    have r0 := cell_of_row _ _ 0 _ _ _ hA.res
    have r1 := cell_of_row _ _ 1 _ _ _ hA.res
    have g0 := frozen_of_row _ _ 0 _ _ hA.res
    have g1 := frozen_of_row _ _ 1 _ _ hA.res
    have hszr := lt_of_block hA.mem
    simp at c0 c1 r0 r1
    have HDIG := Lib.hid hdig
    have hzz := two_set (p := .int .i64 0) (q := .slice none 0 0) hA.res
    have HQ0 := Lib.hid ((cell_of_row _ _ 0 _ _ _ hzz).trans rfl)
    have HQ1 := Lib.hid ((cell_of_row _ _ 1 _ _ _ hzz).trans rfl)
    have HBZ := Lib.hid ((hA.below.setCell (p := ⟨w.heap.size, 0, none⟩) (by simp) (.int .i64 0)).setCell (p := ⟨w.heap.size, 1, none⟩) (by simp) (.slice none 0 0))
    clear hdig hA hzz
    by_cases hmore : 1 ≤ j
    · obtain ⟨m, rfl⟩ : ∃ m, j = m + 1 := ⟨j - 1, by omega⟩
      rw [show ((m + 1 : Nat) : Int) - 1 = (m : Int) from by omega]
      have hm : m < s.size := by omega
      have tg : decide ((0 : Int) ≤ (m : Int)) = true := decide_eq_true (by omega)
      have i1 : (0 : Int) ≤ (m : Int) := by omega
      have i2 : (m : Int) < (s.size : Int) := by omega
      by_cases hd : Digit s[m]
      · have u1 : decide ((s[m].toNat : Int) < 48) = false := decide_eq_false (by unfold Digit at hd; omega)
        have u2 : decide (57 < (s[m].toNat : Int)) = false := decide_eq_false (by unfold Digit at hd; omega)
        have hd1 : 48 ≤ s[m].toNat := hd.1
        have hd2 : s[m].toNat ≤ 57 := hd.2
        have HST := Lib.hid (osOf_step s.data.toList m (by simpa using hm))
        rw [bytes_at' s m hm] at HST
        have HDD : Hid (Value.int .i64 ((s[m].toNat : Int) - 48) = iv (dv s[m])) := by
          show Value.int _ _ = Value.int _ _
          unfold dv
          congr 1; omega
        have hosl : ((s.data.toList.drop (m + 1)).reverse.map dv).length ≤ 10000 := by simp; omega
        have HD1 := Lib.hid (drop_digits s.data.toList m (by simpa using hm) (by rw [bytes_at' s m hm]; exact hd) HDIG.out)
        generalize (s.data.toList.drop (m + 1)).reverse.map dv = os at *
        have hown := Lib.hid HA.out.own
        clear hd HQ0 HQ1 HBZ HDIG
        go_wp2_with fail
        have q1 : IntKind.i64.wrap (s[m].toNat : Int) = (s[m].toNat : Int) := IntWalk.i64_in _ (by omega)
        have q2 : IntKind.i64.wrap ((s[m].toNat : Int) - 48) = (s[m].toNat : Int) - 48 := IntWalk.i64_in _ (by omega)
        go_region_law ((refine step_append_lies _ (by rfl) _ _ _ (by rfl) (w.heap.size + 2) 3 i0 (.int .i64 0) 1 8 Tryd.underlying75 hi hz0 hz1 hz2 rfl (by omega) v os.length (os.map iv) (by rfl) ((hown.out.alloc _).drew) ⟨wr.heap.size, 0, none⟩ 1 1 [.int .i64 ((s[m].toNat : Int) - 48)] (by rfl) (by rfl) (World.news_of_block (cs := #[.int .i64 ((s[m].toNat : Int) - 48)]) (t := 3) (fr := (0, 0)) (heap_alloc_new wr _)) (by simp [Value.oneCell']) (by omega) (by unfold maxLen; omega) (by omega) (by simp; omega) (wr.heap.size + 1) (by simp) ?_; intro gg cap1 w1 hown1 hgrow hat hltt; rw [HDD.out] at hown1; obtain ⟨hm1, hA1⟩ := wh_step HA.out hown1 hgrow; have HA1 := Lib.hid hA1; have d1 : w1.cell? ⟨w.heap.size + 1, 1, none⟩ = some v := (cell_of_row _ _ 1 _ _ _ hm1).trans rfl; have e1 := frozen_of_row _ _ 1 _ _ hm1; clear hA1 hown1 hgrow hat hltt hm1))
        all_goals
          clear q1 q2
          go_wp2_with fail
          go_roundw
          case rel => exact ⟨m, _, rfl, by omega, by omega, HD1.out, by rw [HST.out]; exact HA1.out⟩
          case measure => simp [intOf]
      · have HNO : Hid (∀ z, s.data.toList ≠ textOf z) := fun z hz => hd (by
          have h1 := text_digits s.data.toList z hz
          rw [HF.out] at h1
          have h2 := h1 _ (mem_drop_at s.data.toList 0 m (by omega) (by simpa using hm))
          rw [bytes_at' s m hm] at h2
          exact h2)
        by_cases h48 : s[m].toNat < 48
        · have u1 : decide ((s[m].toNat : Int) < 48) = true := decide_eq_true (by omega)
          clear hd
          go_wp2_with fail
          have q0 := HQ0.out
          have q1 := HQ1.out
          refine bodyPost_ret (v := .tuple #[.agg #[.int .i64 0, .slice none 0 0], .bool false]) (by simp [results, Tryd.results96, go_sem, q0, q1]) rfl ?_
          exact Or.inl ⟨HNO.out, rfl, HBZ.out⟩
        · have u1 : decide ((s[m].toNat : Int) < 48) = false := decide_eq_false (by omega)
          have u2 : decide (57 < (s[m].toNat : Int)) = true := decide_eq_true (by unfold Digit at hd; omega)
          clear hd
          go_wp2_with fail
          have q0 := HQ0.out
          have q1 := HQ1.out
          refine bodyPost_ret (v := .tuple #[.agg #[.int .i64 0, .slice none 0 0], .bool false]) (by simp [results, Tryd.results96, go_sem, q0, q1]) rfl ?_
          exact Or.inl ⟨HNO.out, rfl, HBZ.out⟩
    · obtain rfl : j = 0 := by omega
      have HFL : Hid (s.data.toList.drop (frm s.data.toList) = s.data.toList.drop 0) := by rw [HF.out]; exact rfl
      have tg : decide ((0 : Int) ≤ -1) = false := by decide
      cases hl : s.data.toList.drop 0 with
      | nil =>
        rw [hl] at HA HFL
        have HNO : Hid (∀ z, s.data.toList ≠ textOf z) := fun z hz => by
          obtain ⟨c, t, h1, _⟩ := text_more s.data.toList z hz
          rw [HFL.out] at h1
          cases h1
        obtain ⟨av, cv, hv, _⟩ := dg_of_own HA.out.own
        simp at hv
        subst hv
        clear hl
        go_wp2_with fail
        have q0 := HQ0.out
        have q1 := HQ1.out
        refine bodyPost_ret (v := .tuple #[.agg #[.int .i64 0, .slice none 0 0], .bool false]) (by simp [results, Tryd.results96, go_sem, q0, q1]) rfl ?_
        exact Or.inl ⟨HNO.out, rfl, HBZ.out⟩
      | cons c t =>
        rw [hl] at HA HFL HDIG
        have hcd := HDIG.out c (by simp)
        have HCD := Lib.hid hcd
        have hdg := dg_of_own HA.out.own
        rw [List.reverse_cons, List.map_append] at hdg
        obtain ⟨av, cv, hv, hcv, hgv⟩ := id hdg
        subst hv
        obtain ⟨hlen, g, rfl, hlast⟩ := last_cell (os := t.reverse.map dv) (d := dv c) hdg
        have hln : ((t.reverse.map dv) ++ ([c].map dv)).length = t.length + 1 := by simp
        have hln2 : (t.reverse.map dv).length = t.length := by simp
        rw [hln] at hlen
        rw [hln2] at hlast
        have hsl : t.length ≤ 10000 := by
          have h1 : (s.data.toList.drop 0).length = (c :: t).length := by rw [hl]
          simp at h1
          omega
        have HDGS := Lib.hid hdg
        clear hgv hcv hlen
        rw [hln] at c1
        clear hdg hl
        have z0 : (((t.length + 1 : Nat) : Int) == 0) = false := beq_eq_false_iff_ne.2 (by omega)
        have z1 : (((t.length : Int) + 1) == 0) = false := beq_eq_false_iff_ne.2 (by omega)
        have j1 : (0 : Int) ≤ (t.length : Int) := by omega
        by_cases hc48 : c = 48
        · have hdv : dv c = 0 := by rw [hc48]; rfl
          rw [hdv] at hlast
          clear hdv
          by_cases hlong : 1 < t.length + 1
          · have HNO : Hid (∀ z, s.data.toList ≠ textOf z) := fun z hz => by
              obtain ⟨c', t', h1, h2⟩ := text_more s.data.toList z hz
              rw [HFL.out] at h1
              injection h1 with h3 h4
              have := (h2 (by rw [← h3]; exact hc48)).1
              rw [← h4] at this
              rw [this] at hlong
              simp at hlong
            have tl : decide ((1 : Int) < ((t.length + 1 : Nat) : Int)) = true := decide_eq_true (by omega)
            have tl2 : decide ((1 : Int) < (t.length : Int) + 1) = true := decide_eq_true (by omega)
            clear hc48
            go_wp2_with fail
            have q0 := HQ0.out
            have q1 := HQ1.out
            refine bodyPost_ret (v := .tuple #[.agg #[.int .i64 0, .slice none 0 0], .bool false]) (by simp [results, Tryd.results96, go_sem, q0, q1]) rfl ?_
            exact Or.inl ⟨HNO.out, rfl, HBZ.out⟩
          · have tl : decide ((1 : Int) < ((t.length + 1 : Nat) : Int)) = false := decide_eq_false (by omega)
            have tl2 : decide ((1 : Int) < (t.length : Int) + 1) = false := decide_eq_false (by omega)
            have HZT : Hid (s.data.toList = textOf 0) := by
              show _ = _
              have h0 : t = [] := List.eq_nil_of_length_eq_zero (by omega)
              have h1 : s.data.toList.drop 0 = c :: t := by rw [← HFL.out, HF.out]
              rw [List.drop_zero, h0, hc48] at h1
              rw [h1]; rfl
            clear hc48
            go_wp2_with fail
            have q0 := HQ0.out
            have q1 := HQ1.out
            refine bodyPost_ret (v := .tuple #[.agg #[.int .i64 0, .slice none 0 0], .bool true]) (by simp [results, Tryd.results96, go_sem, q0, q1]) rfl ?_
            exact Or.inr ⟨0, _, HZT.out, rfl, ⟨0, _, [], rfl, Or.inr (Or.inl rfl), ⟨none, 0, rfl, Nat.le_refl _, fun h => by simp at h⟩, Ok.nil, Nat.zero_le _, by simp, fun _ => rfl⟩, HBZ.out⟩
        · have hdv : dv c ≠ 0 := by
            intro h0
            apply hc48
            apply UInt8.toNat_inj.1
            unfold dv at h0
            unfold Digit at hcd
            show c.toNat = 48
            omega
          have HYES : Hid (s.data.toList = textOf ((1) * (val (digsOf s.data.toList) : Int))) := by
            show _ = _
            have h1 := whole_yes s.data.toList (by rw [HFL.out]; exact HDIG.out) c t HFL.out hc48
            rw [HSG.out] at h1
            exact h1
          have HDO : Hid (digsOf s.data.toList = t.reverse.map dv ++ [c].map dv) := by
            show _ = _
            unfold digsOf
            rw [HFL.out, List.reverse_cons, List.map_append]
          have HNZ : Hid (Ok (t.reverse.map dv ++ [c].map dv)) := by
            have h1 := ok_dv (c :: t).reverse (fun x hx => HDIG.out x (List.mem_reverse.1 hx))
            rw [List.reverse_cons, List.map_append] at h1
            exact h1
          have td : (((dv c : Nat) : Int) == 0) = false := beq_eq_false_iff_ne.2 (by omega)
          have hfin := two_set (p := .int .i64 (1)) (q := .slice (some ⟨g, 0, none⟩) (t.length + 1) cv) HA.out.res
          have HP0 := Lib.hid ((cell_of_row _ _ 0 _ _ _ hfin).trans rfl)
          have HP1 := Lib.hid ((cell_of_row _ _ 1 _ _ _ hfin).trans rfl)
          have HBY := Lib.hid ((HA.out.below.setCell (p := ⟨w.heap.size, 0, none⟩) (by simp) (.int .i64 (1))).setCell (p := ⟨w.heap.size, 1, none⟩) (by simp) (.slice (some ⟨g, 0, none⟩) (t.length + 1) cv))
          have HFAR := Lib.hid ((HDGS.out.far HA.out.res (by decide) 0 (.int .i64 (1))).far (heap_setCell_same _ _ 0 _ _ (.int .i64 (1)) HA.out.res) (by decide) 1 (.slice (some ⟨g, 0, none⟩) (t.length + 1) cv))
          rw [hln] at HFAR
          clear hc48 hdv hcd hfin
          go_wp2_with fail
          have q0 := HP0.out
          have q1 := HP1.out
          refine bodyPost_ret (v := .tuple #[.agg #[.int .i64 (1), .slice (some ⟨g, 0, none⟩) (t.length + 1) cv], .bool true]) (by simp [results, Tryd.results96, go_sem, q0, q1]) rfl ?_
          refine Or.inr ⟨_, _, HYES.out, rfl, ⟨1, _, _, rfl, by decide, HFAR.out, HNZ.out, ?_, by rw [HDO.out], fun h => absurd h (by decide)⟩, HBY.out⟩
          have h1 : (s.data.toList.drop (frm s.data.toList)).length = (c :: t).length := by rw [HFL.out]
          simp at h1 ⊢
          omega
set_option maxRecDepth 100000 in
set_option maxHeartbeats 4000000 in
theorem whole_empty (s : ByteArray) (w : World) (hs : s.size ≤ 10000) (hlt0 : s.size = 0) :
    Calls Tryd.prog 96 #[.string s] w (WholePost s.data.toList w) := by
  obtain ⟨i0, hi, hz0, hz1, hz2⟩ := info_parts Tryd.infoInt
  have hnil : s.data.toList = [] := List.eq_nil_of_length_eq_zero (by rw [Array.length_toList]; exact hlt0)
  have t0 : decide ((0 : Int) < (s.size : Int)) = false := decide_eq_false (by omega)
  have HF : Hid (frm s.data.toList = 0) := by show frm _ = 0; rw [hnil]; rfl
  have HSG : Hid (sg s.data.toList = 1) := by show sg _ = 1; rw [hnil]; rfl
  have hle0 : s.size ≤ 0 := by omega
  clear hnil hlt0
  go_enter Tryd.func96, Tryd.ntmps96
  go_wp2_with fail
  go_loopw [6] (fun i wr => ∃ (j : Nat) (v : Value), i = .int .i64 ((j : Int) - 1) ∧ 0 ≤ j ∧ j ≤ s.size ∧ (∀ c ∈ s.data.toList.drop j, Digit c) ∧ WhAt w (1) wr v ((s.data.toList.drop j).reverse.map dv)) (fun i _ => (intOf i + 1).toNat)
  case atStart =>
    refine ⟨s.size, .slice none 0 0, rfl, by omega, Nat.le_refl _, ?_, ?_⟩
    · rw [List.drop_of_length_le (by simp)]; simp
    · rw [List.drop_of_length_le (by simp)]
      exact ⟨heap_alloc2_old _ _ _, heap_alloc2_new _ _ _, World.ownsRow_nil _ _ _ _, ((Below.refl _ _).alloc (Nat.le_refl _) _).alloc (by simp) _⟩
  case round =>
    obtain ⟨j, v, rfl, hj1, hj2, hdig, hA⟩ := hrel
    have HA := Lib.hid hA
    have c0 := cell_of_row _ _ 0 _ _ _ hA.mem
    have c1 := cell_of_row _ _ 1 _ _ _ hA.mem
    have f1 := frozen_of_row _ _ 1 _ _ hA.mem
    have r0 := cell_of_row _ _ 0 _ _ _ hA.res
    have r1 := cell_of_row _ _ 1 _ _ _ hA.res
    have g0 := frozen_of_row _ _ 0 _ _ hA.res
    have g1 := frozen_of_row _ _ 1 _ _ hA.res
    have hszr := lt_of_block hA.mem
    simp at c0 c1 r0 r1
    have HDIG := Lib.hid hdig
    have hzz := two_set (p := .int .i64 0) (q := .slice none 0 0) hA.res
    have HQ0 := Lib.hid ((cell_of_row _ _ 0 _ _ _ hzz).trans rfl)
    have HQ1 := Lib.hid ((cell_of_row _ _ 1 _ _ _ hzz).trans rfl)
    have HBZ := Lib.hid ((hA.below.setCell (p := ⟨w.heap.size, 0, none⟩) (by simp) (.int .i64 0)).setCell (p := ⟨w.heap.size, 1, none⟩) (by simp) (.slice none 0 0))
    clear hdig hA hzz
    by_cases hmore : 1 ≤ j
    · omega
    · obtain rfl : j = 0 := by omega
      have HFL : Hid (s.data.toList.drop (frm s.data.toList) = s.data.toList.drop 0) := by rw [HF.out]; exact rfl
      have tg : decide ((0 : Int) ≤ -1) = false := by decide
      cases hl : s.data.toList.drop 0 with
      | nil =>
        rw [hl] at HA HFL
        have HNO : Hid (∀ z, s.data.toList ≠ textOf z) := fun z hz => by
          obtain ⟨c, t, h1, _⟩ := text_more s.data.toList z hz
          rw [HFL.out] at h1
          cases h1
        obtain ⟨av, cv, hv, _⟩ := dg_of_own HA.out.own
        simp at hv
        subst hv
        clear hl
        go_wp2_with fail
        have q0 := HQ0.out
        have q1 := HQ1.out
        refine bodyPost_ret (v := .tuple #[.agg #[.int .i64 0, .slice none 0 0], .bool false]) (by simp [results, Tryd.results96, go_sem, q0, q1]) rfl ?_
        exact Or.inl ⟨HNO.out, rfl, HBZ.out⟩
      | cons c t =>
        have hlc := congrArg List.length hl
        simp at hlc
        omega

theorem whole_any (s : ByteArray) (w : World) (hs : s.size ≤ 10000) : Calls Tryd.prog 96 #[.string s] w (WholePost s.data.toList w) := by
  by_cases h0 : s.size = 0
  · exact whole_empty s w hs h0
  · by_cases h45 : s.data.toList[0]? = some 45
    · exact whole_neg s w hs h45
    · exact whole_pos s w hs (by omega) h45
end Go.Proofs.YthojkbmffiibdaaDoor

/- Contracts of the reference's Parse and Read. -/
namespace Go.Proofs.YthojkbmffiibdaaDoor
open Go.RowKit Go.Proofs.YthojkbmffiibdaaDoor.Bo
set_option linter.unusedVariables false

/-- What the reference's Parse answers: the number whose text it is, or none. -/
def ParsePost (l : List UInt8) (w : World) (e : Ending) (w' : World) : Prop :=
  ((∃ z, I64 z ∧ l = textOf z ∧ e = .returned (.tuple #[.int .i64 z, .int .i64 0])) ∨ ((∀ z, I64 z → l ≠ textOf z) ∧ e = .returned (.tuple #[.int .i64 0, .int .i64 10]))) ∧ Below w.heap.size w w'
theorem dg_inj (m n : Nat) (h : dg m = dg n) : m = n := by
  have h1 : rd (m + n) (dg m ++ []) 0 0 = rd (m + n) [] (dg m).length m := rd_dg (m + n) m [] (by omega)
  have h2 : rd (m + n) (dg n ++ []) 0 0 = rd (m + n) [] (dg n).length n := rd_dg (m + n) n [] (by omega)
  rw [h] at h1
  rw [h1] at h2
  rw [rd_nil, rd_nil] at h2
  exact (Prod.mk.inj h2).1
theorem val_text_inj (a b : Int) (h : textOf a = textOf b) : a = b := by
  by_cases ha : a < 0
  · by_cases hb : b < 0
    · rw [textOf_neg a ha, textOf_neg b hb] at h
      have := dg_inj _ _ (List.cons.inj h).2
      omega
    · rw [textOf_neg a ha, textOf_pos b hb] at h
      exact absurd (show (dg b.natAbs)[0]? = some 45 by rw [← h]; rfl) (dg_ne _)
  · by_cases hb : b < 0
    · rw [textOf_pos a ha, textOf_neg b hb] at h
      exact absurd (show (dg a.natAbs)[0]? = some 45 by rw [h]; rfl) (dg_ne _)
    · rw [textOf_pos a ha, textOf_pos b hb] at h
      have := dg_inj _ _ h
      omega

set_option maxRecDepth 100000 in
set_option maxHeartbeats 2000000 in
theorem rparse_any (s : ByteArray) (w : World) (hs : s.size ≤ 10000) : Calls Tryd.prog 88 #[.string s] w (ParsePost s.data.toList w) := by
  have HW := Lib.hid (whole_any s w hs)
  have hlen : s.data.toList.length ≤ 10000 := by simpa using hs
  go_enter Tryd.func88, Tryd.ntmps88
  go_wp2_with fail
  refine HW.out.mono ?_
  intro e x1 hpost
  rcases hpost with ⟨hno, rfl, hB1⟩ | ⟨z, V, hz, rfl, hV, hB1⟩
  · have HNO := Lib.hid hno
    have hB2 : Below x1.heap.size x1 (x1.alloc (.cells #[.int .i64 0, .slice none 0 0] 77)) := (Below.refl _ _).alloc (Nat.le_refl _) _
    clear hno HW
    go_wp2_with fail
    go_ret2
    exact ⟨Or.inr ⟨fun z _ => HNO.out z, rfl⟩, bt hB1 hB2⟩
  · have HZ := Lib.hid hz
    have HV := Lib.hid hV
    obtain ⟨s1, v1, xs1, rfl, hs1, hd1, ok1, hl1, hz1, h01⟩ := hV
    obtain ⟨a1, n1, c1, rfl⟩ := slice_of_dg hd1
    have hB2 : Below x1.heap.size x1 (x1.alloc (.cells #[.int .i64 s1, .slice a1 n1 c1] 77)) := (Below.refl _ _).alloc (Nat.le_refl _) _
    have hm := heap_alloc_new x1 (.cells #[.int .i64 s1, .slice a1 n1 c1] 77)
    have HV2 := Lib.hid (HV.out.below hB2)
    clear hz hs1 hd1 ok1 hl1 hz1 h01 HW
    go_wp2_with fail
    generalize x1.alloc (.cells #[.int .i64 s1, .slice a1 n1 c1] 77) = x2 at *
    have p0 := cell_of_row _ _ 0 _ _ _ hm
    have p1 := cell_of_row _ _ 1 _ _ _ hm
    simp at p0 p1
    clear hm
    refine (is_big _ _ _ _ HV2.out (by omega)).mono ?_
    rintro e x3 ⟨rfl, hB3⟩
    have p0' := (hB3.cell (p := ⟨x1.heap.size, 0, none⟩) (World.block_lt_of_cell? x2 _ p0)).trans p0
    have p1' := (hB3.cell (p := ⟨x1.heap.size, 1, none⟩) (World.block_lt_of_cell? x2 _ p1)).trans p1
    clear p0 p1
    by_cases hin : clamp z = z
    · rw [decide_eq_true hin]
      have HI := Lib.hid hin
      clear hin
      go_wp2_with fail
      refine (end_big _ _ _ _ (HV2.out.below hB3) (by omega)).mono ?_
      rintro e x4 ⟨rfl, hB4⟩
      go_wp2_with fail
      go_ret2
      refine ⟨Or.inl ⟨z, by rw [← HI.out]; exact clamp_i64 z, HZ.out, ?_⟩, bt (bt (bt hB1 hB2) hB3) hB4⟩
      show Ending.returned (.tuple #[.int .i64 (clamp z), .int .i64 0]) = _
      rw [HI.out]
    · rw [decide_eq_false hin]
      have HI := Lib.hid hin
      clear hin
      go_wp2_with fail
      go_ret2
      refine ⟨Or.inr ⟨fun y hy h => ?_, rfl⟩, bt (bt hB1 hB2) hB3⟩
      have := val_text_inj z y (by rw [← HZ.out]; exact h)
      subst this
      exact HI.out (clamp_in _ hy)

/-- Which beginnings are no number's text. -/
def NoneFrom (l : List UInt8) (j n : Nat) : Prop := ∀ i, j < i → i ≤ n → ∀ z, I64 z → l.take i ≠ textOf z
def ReadPost (l : List UInt8) (w : World) (e : Ending) (w' : World) : Prop := e = .returned (.tuple #[.int .i64 (rdAll l).1, .int .i64 ((rdAll l).2 : Int)]) ∧ Below w.heap.size w w'

theorem rdAll_hit (l : List UInt8) (j n : Nat) (z : Int) (hj : 0 < j) (hjn : j ≤ n) (hn : n ≤ l.length) (hn20 : n = l.length ∨ 20 ≤ n) (hz : I64 z) (h : l.take j = textOf z) (hno : NoneFrom l j n) : rdAll l = (z, j) := by
  have hf := rdAll_far l z j hz h (by omega)
  have hb := rdAll_bounds l
  rcases rdAll_is l with ⟨h0, _⟩ | ⟨h0, ht⟩
  · omega
  · have hk : (rdAll l).2 = j := by
      rcases Nat.lt_or_ge j (rdAll l).2 with hlt | hge
      · exfalso
        have hle : (rdAll l).2 ≤ n := by
          rcases hn20 with e | e
          · rw [e]; exact hb.2
          · have hl := textOf_len _ hb.1
            rw [← ht, List.length_take] at hl
            omega
        exact hno _ hlt hle _ hb.1 ht
      · omega
    rw [hk, h] at ht
    have := textOf_inj _ _ hz hb.1 ht
    exact Prod.ext this.symm hk
theorem rdAll_miss (l : List UInt8) (n : Nat) (hn20 : n = l.length ∨ 20 ≤ n) (hno : NoneFrom l 0 n) : rdAll l = (0, 0) := by
  have hb := rdAll_bounds l
  rcases rdAll_is l with ⟨h0, h1⟩ | ⟨h0, ht⟩
  · exact Prod.ext h1 h0
  · exfalso
    have hle : (rdAll l).2 ≤ n := by
      rcases hn20 with e | e
      · rw [e]; exact hb.2
      · have hl := textOf_len _ hb.1
        rw [← ht, List.length_take] at hl
        omega
    exact hno _ (by omega) hle _ hb.1 ht

set_option maxRecDepth 100000 in
set_option maxHeartbeats 2000000 in
theorem rread_any (s : ByteArray) (w : World) (hs : s.size ≤ 10000) : Calls Tryd.prog 76 #[.string s] w (ReadPost s.data.toList w) := by
  by_cases hsm : s.size ≤ 20
  · have HN20 : Hid (s.size = s.data.toList.length ∨ 20 ≤ s.size) := Or.inl (by simp)
    have hn : s.size ≤ s.size := Nat.le_refl _
    have t1 : decide ((20 : Int) < (s.size : Int)) = false := decide_eq_false (by omega)
    go_enter Tryd.func76, Tryd.ntmps76
    go_wp2_with fail
    go_loopw [5] (fun i wr => ∃ j : Nat, i = .int .i64 (j : Int) ∧ j ≤ s.size ∧ NoneFrom s.data.toList j s.size ∧ Below w.heap.size w wr) (fun i _ => (intOf i).toNat)
    case atStart => exact ⟨s.size, rfl, Nat.le_refl _, fun i h1 h2 => by omega, Below.refl _ _⟩
    case round =>
      obtain ⟨j, rfl, hj, hno, hBr⟩ := hrel
      have HNO := Lib.hid hno
      clear hno
      by_cases hpos : 0 < j
      · have tp : decide ((0 : Int) < (j : Int)) = true := decide_eq_true (by omega)
        have hx : (s.extract 0 j).data.toList = s.data.toList.take j := by simp
        have HP := Lib.hid (rparse_any (s.extract 0 j) wr (by simp; omega))
        rw [hx] at HP
        clear hx
        go_wp2_with fail
        refine HP.out.mono ?_
        intro e x1 hpost
        obtain ⟨hc, hB1⟩ := hpost
        rcases hc with ⟨z, hz, ht, rfl⟩ | ⟨hmiss, rfl⟩
        · have HR := Lib.hid (rdAll_hit s.data.toList j s.size z hpos hj (by rw [Array.length_toList]; exact hn) HN20.out hz ht HNO.out)
          clear ht hz HP
          go_wp2_with fail
          go_ret2
          refine ⟨?_, bt hBr hB1⟩
          rw [HR.out]
          rfl
        · have HM := Lib.hid hmiss
          clear hmiss HP
          obtain ⟨i, rfl⟩ : ∃ i, j = i + 1 := ⟨j - 1, by omega⟩
          go_wp2_with fail
          go_roundw
          case rel =>
            refine ⟨i, by go_num, by omega, fun k h1 h2 z hz => ?_, bt hBr hB1⟩
            rcases Nat.lt_or_ge (i + 1) k with h3 | h3
            · exact HNO.out k h3 h2 z hz
            · obtain rfl : k = i + 1 := by omega
              exact HM.out z hz
          case measure => simp [intOf]
      · obtain rfl : j = 0 := by omega
        have HR := Lib.hid (rdAll_miss s.data.toList s.size HN20.out HNO.out)
        go_wp2_with fail
        go_ret2
        refine ⟨?_, hBr⟩
        rw [HR.out]
        rfl
  · have HN20 : Hid ((20 : Nat) = s.data.toList.length ∨ 20 ≤ 20) := Or.inr (Nat.le_refl _)
    have hn : 20 ≤ s.size := by omega
    have t1 : decide ((20 : Int) < (s.size : Int)) = true := decide_eq_true (by omega)
    go_enter Tryd.func76, Tryd.ntmps76
    go_wp2_with fail
    go_loopw [5] (fun i wr => ∃ j : Nat, i = .int .i64 (j : Int) ∧ j ≤ 20 ∧ NoneFrom s.data.toList j 20 ∧ Below w.heap.size w wr) (fun i _ => (intOf i).toNat)
    case atStart => exact ⟨20, rfl, Nat.le_refl _, fun i h1 h2 => by omega, Below.refl _ _⟩
    case round =>
      obtain ⟨j, rfl, hj, hno, hBr⟩ := hrel
      have HNO := Lib.hid hno
      clear hno
      by_cases hpos : 0 < j
      · have tp : decide ((0 : Int) < (j : Int)) = true := decide_eq_true (by omega)
        have hx : (s.extract 0 j).data.toList = s.data.toList.take j := by simp
        have HP := Lib.hid (rparse_any (s.extract 0 j) wr (by simp; omega))
        rw [hx] at HP
        clear hx
        go_wp2_with fail
        refine HP.out.mono ?_
        intro e x1 hpost
        obtain ⟨hc, hB1⟩ := hpost
        rcases hc with ⟨z, hz, ht, rfl⟩ | ⟨hmiss, rfl⟩
        · have HR := Lib.hid (rdAll_hit s.data.toList j 20 z hpos hj (by rw [Array.length_toList]; exact hn) HN20.out hz ht HNO.out)
          clear ht hz HP
          go_wp2_with fail
          go_ret2
          refine ⟨?_, bt hBr hB1⟩
          rw [HR.out]
          rfl
        · have HM := Lib.hid hmiss
          clear hmiss HP
          obtain ⟨i, rfl⟩ : ∃ i, j = i + 1 := ⟨j - 1, by omega⟩
          go_wp2_with fail
          go_roundw
          case rel =>
            refine ⟨i, by go_num, by omega, fun k h1 h2 z hz => ?_, bt hBr hB1⟩
            rcases Nat.lt_or_ge (i + 1) k with h3 | h3
            · exact HNO.out k h3 h2 z hz
            · obtain rfl : k = i + 1 := by omega
              exact HM.out z hz
          case measure => simp [intOf]
      · obtain rfl : j = 0 := by omega
        have HR := Lib.hid (rdAll_miss s.data.toList 20 HN20.out HNO.out)
        go_wp2_with fail
        go_ret2
        refine ⟨?_, hBr⟩
        rw [HR.out]
        rfl
end Go.Proofs.YthojkbmffiibdaaDoor

/- Contracts of the reference's texts of cuts. -/
namespace Go.Proofs.YthojkbmffiibdaaDoor
open Go.RowKit Go.Sort Go.Proofs.YthojkbmffiibdaaDoor.Bo
set_option linter.unusedVariables false

theorem box_new0 {w w' : World} (o : Obj) (hb : Below (w.alloc o).heap.size (w.alloc o) w') : w'.heap[w.heap.size]? = some o := (hb.block _ (by simp)).trans (heap_alloc_new w o)
theorem below_new0 (w : World) (o : Obj) : Below w.heap.size w (w.alloc o) := (Below.refl _ _).alloc (Nat.le_refl _) _
theorem ret_str2 {a b : List UInt8} (h : a = b) : Ending.returned (.string ⟨a.toArray⟩) = .returned (.string ⟨b.toArray⟩) := by rw [h]
theorem rctext_any (s a : Int) (w : World) (ha : I64 a) :
    Calls Tryd.prog 54 #[.agg #[.int .i64 s, .int .i64 a]] w fun e w' => e = .returned (.string ⟨(ktext (key s a)).toArray⟩) ∧ Below w.heap.size w w' := by
  have HC := Lib.hid (fun W => rcanon_any s a W ha)
  have hk := key_ky s a ha
  generalize key s a = k at *
  rcases ky_cases k hk with ⟨rfl, h1, h2⟩ | ⟨rfl, h1, h2⟩ | ⟨g1, g2, h1, h2⟩
  · rw [h1, h2] at HC
    clear h1 h2 hk
    go_enter Tryd.func54, Tryd.ntmps54
    go_wp2_with fail
    refine (HC.out _).mono ?_
    rintro e w1 ⟨rfl, hL⟩
    have hb : w1.heap[w.heap.size]? = some (.cells #[.int .i64 s, .int .i64 a] 25 (0, 0)) := by rw [hL.block _ (by simp)]; exact heap_alloc_new _ _
    have hL1 := ((bt ((Below.refl _ _).alloc (Nat.le_refl _) _) hL).setCell (p := ⟨w.heap.size, 0, none⟩) (by simp) (.int .i64 (-1))).setCell (p := ⟨w.heap.size, 1, none⟩) (by simp) (.int .i64 0)
    obtain ⟨p1, p2, _, _⟩ := two_cells (two_put (p := .int .i64 (-1)) (q := .int .i64 0) hb)
    obtain ⟨q1, q2, q3, q4⟩ := two_cells hb
    clear hb
    go_wp2_with fail
    go_ret
    exact ⟨ret_str2 ktext_lo.symm, hL1⟩
  · rw [h1, h2] at HC
    clear h1 h2 hk
    go_enter Tryd.func54, Tryd.ntmps54
    go_wp2_with fail
    refine (HC.out _).mono ?_
    rintro e w1 ⟨rfl, hL⟩
    have hb : w1.heap[w.heap.size]? = some (.cells #[.int .i64 s, .int .i64 a] 25 (0, 0)) := by rw [hL.block _ (by simp)]; exact heap_alloc_new _ _
    have hL1 := ((bt ((Below.refl _ _).alloc (Nat.le_refl _) _) hL).setCell (p := ⟨w.heap.size, 0, none⟩) (by simp) (.int .i64 1)).setCell (p := ⟨w.heap.size, 1, none⟩) (by simp) (.int .i64 0)
    obtain ⟨p1, p2, _, _⟩ := two_cells (two_put (p := .int .i64 1) (q := .int .i64 0) hb)
    obtain ⟨q1, q2, q3, q4⟩ := two_cells hb
    clear hb
    go_wp2_with fail
    go_ret
    exact ⟨ret_str2 ktext_hi.symm, hL1⟩
  · have HK := Lib.hid (ktext_mid k g1 g2)
    have HI := Lib.hid (mid_i64 k g1 g2)
    rw [h1, h2] at HC
    clear h1 h2 hk
    go_enter Tryd.func54, Tryd.ntmps54
    go_wp2_with fail
    refine (HC.out _).mono ?_
    rintro e w1 ⟨rfl, hL⟩
    have hb : w1.heap[w.heap.size]? = some (.cells #[.int .i64 s, .int .i64 a] 25 (0, 0)) := by rw [hL.block _ (by simp)]; exact heap_alloc_new _ _
    have hL1 := ((bt ((Below.refl _ _).alloc (Nat.le_refl _) _) hL).setCell (p := ⟨w.heap.size, 0, none⟩) (by simp) (.int .i64 0)).setCell (p := ⟨w.heap.size, 1, none⟩) (by simp) (.int .i64 k)
    obtain ⟨p1, p2, _, _⟩ := two_cells (two_put (p := .int .i64 0) (q := .int .i64 k) hb)
    obtain ⟨q1, q2, q3, q4⟩ := two_cells hb
    clear hb
    go_wp2_with fail
    refine (rtext_any k _ HI.out).mono ?_
    rintro e w2 ⟨rfl, hB2⟩
    go_wp2_with fail
    go_ret
    exact ⟨ret_str2 HK.out.symm, bt hL1 hB2⟩

/-- What the reference's parse answers: the cut whose text it is, or none. -/
def CutParsePost (l : List UInt8) (w : World) (e : Ending) (w' : World) : Prop :=
  ((∃ k, Ky k ∧ l = ktext k ∧ e = .returned (.tuple #[.agg #[.int .i64 (sd k), .int .i64 (pa k)], .bool true])) ∨ ((∀ k, Ky k → l ≠ ktext k) ∧ ∃ x y : Int, e = .returned (.tuple #[.agg #[.int .i64 x, .int .i64 y], .bool false]))) ∧ Below w.heap.size w w'

theorem bytes_beq (s : ByteArray) (p : Array UInt8) (D : Bool) (h : decide (s.data.toList = p.toList) = D) : (s.toList == (⟨p⟩ : ByteArray).toList) = D := by
  subst h
  rw [ByteArray.toList_eq, ByteArray.toList_eq]
  by_cases h : s.data.toList = p.toList
  · rw [decide_eq_true h, h]; exact beq_self_eq_true _
  · rw [decide_eq_false h]; exact beq_eq_false_iff_ne.2 h

set_option maxRecDepth 100000 in
set_option maxHeartbeats 2000000 in
theorem rcparse_any (s : ByteArray) (w : World) (hs : s.size ≤ 10000) : Calls Tryd.prog 89 #[.string s] w (CutParsePost s.data.toList w) := by
  have HP := Lib.hid (fun W => rparse_any s W hs)
  by_cases h1 : s.data.toList = [45, 105, 110, 102]
  · have HL := Lib.hid h1
    obtain rfl : s = ⟨#[45, 105, 110, 102]⟩ := by obtain ⟨⟨l⟩⟩ := s; simp at h1; subst h1; rfl
    clear h1 HP
    go_enter Tryd.func89, Tryd.ntmps89
    go_wp2_with fail
    refine bodyPost_ret (v := .tuple #[.agg #[.int .i64 (-1), .int .i64 0], .bool true]) (by simp [results, Tryd.results89, go_sem]) rfl ?_
    exact ⟨.inl ⟨-9223372036854775808, ⟨by decide, by decide⟩, by rw [ktext_lo], by rw [sd_lo, pa_lo]⟩, below_new0 _ _⟩
  · by_cases h2 : s.data.toList = [43, 105, 110, 102]
    · obtain rfl : s = ⟨#[43, 105, 110, 102]⟩ := by obtain ⟨⟨l⟩⟩ := s; simp at h2; subst h2; rfl
      clear h1 h2 HP
      go_enter Tryd.func89, Tryd.ntmps89
      go_wp2_with fail
      refine bodyPost_ret (v := .tuple #[.agg #[.int .i64 1, .int .i64 0], .bool true]) (by simp [results, Tryd.results89, go_sem]) rfl ?_
      exact ⟨.inl ⟨9223372036854775808, ⟨by decide, by decide⟩, by rw [ktext_hi], by rw [sd_hi, pa_hi]⟩, below_new0 _ _⟩
    · have t1 : (s.toList == [45, 105, 110, 102]) = false := by rw [ByteArray.toList_eq]; exact beq_eq_false_iff_ne.2 h1
      have t2 : (s.toList == [43, 105, 110, 102]) = false := by rw [ByteArray.toList_eq]; exact beq_eq_false_iff_ne.2 h2
      have H1 := Lib.hid h1
      have H2 := Lib.hid h2
      clear h1 h2
      have hnk : Hid (∀ k, Ky k → s.data.toList = ktext k → s.data.toList = textOf k ∧ -9223372036854775808 < k ∧ k < 9223372036854775808) := by
        intro k hk h
        rcases ky_cases k hk with ⟨rfl, _, _⟩ | ⟨rfl, _, _⟩ | ⟨g1, g2, _, _⟩
        · rw [ktext_lo] at h; exact absurd h H1.out
        · rw [ktext_hi] at h; exact absurd h H2.out
        · rw [ktext_mid k g1 g2] at h; exact ⟨h, g1, g2⟩
      go_enter Tryd.func89, Tryd.ntmps89
      go_wp2_with fail
      refine (HP.out _).mono ?_
      intro e w1 hpost
      obtain ⟨hc, hB1⟩ := hpost
      have hb := box_new0 _ hB1
      have hL := bt (below_new0 _ _) hB1
      rcases hc with ⟨z, hz, ht, rfl⟩ | ⟨hno, rfl⟩
      · have HZ := Lib.hid hz
        have HT := Lib.hid ht
        clear hz ht hB1
        by_cases hq : z = -9223372036854775808
        · subst hq
          have HB := Lib.hid hb
          clear hb
          go_wp2_with fail
          refine (rleast_any _).mono ?_
          rintro e w2 ⟨rfl, hB2⟩
          have hb2 := (hB2.block _ (lt_of_block HB.out)).trans HB.out
          obtain ⟨q1, q2, q3, q4⟩ := two_cells hb2
          obtain ⟨p1, p2, _, _⟩ := two_cells (two_put (p := .int .i64 0) (q := .int .i64 (-9223372036854775808)) hb2)
          have hL2 := ((bt hL hB2).setCell (p := ⟨w.heap.size, 0, none⟩) (by simp) (.int .i64 0)).setCell (p := ⟨w.heap.size, 1, none⟩) (by simp) (.int .i64 (-9223372036854775808))
          clear hb2 hB2
          go_wp2_with fail
          refine bodyPost_ret (v := .tuple #[.agg #[.int .i64 0, .int .i64 (-9223372036854775808)], .bool false]) (by simp [results, Tryd.results89, go_sem, p1, p2]) rfl ?_
          refine ⟨.inr ⟨fun k hk h => ?_, _, _, rfl⟩, hL2⟩
          rw [HT.out] at h
          exact text_least_no k hk h
        · have tq : (z != -9223372036854775808) = true := bne_iff_ne.2 hq
          have HQ := Lib.hid hq
          have HB := Lib.hid hb
          clear hb hq
          go_wp2_with fail
          refine (rleast_any _).mono ?_
          rintro e w2 ⟨rfl, hB2⟩
          have hb2 := (hB2.block _ (lt_of_block HB.out)).trans HB.out
          obtain ⟨q1, q2, q3, q4⟩ := two_cells hb2
          obtain ⟨p1, p2, _, _⟩ := two_cells (two_put (p := .int .i64 0) (q := .int .i64 z) hb2)
          have hL2 := ((bt hL hB2).setCell (p := ⟨w.heap.size, 0, none⟩) (by simp) (.int .i64 0)).setCell (p := ⟨w.heap.size, 1, none⟩) (by simp) (.int .i64 z)
          clear hb2 hB2
          go_wp2_with fail
          refine bodyPost_ret (v := .tuple #[.agg #[.int .i64 0, .int .i64 z], .bool true]) (by simp [results, Tryd.results89, go_sem, p1, p2]) rfl ?_
          have hz := HZ.out
          have hq := HQ.out
          unfold I64 at hz
          have h9 : z ≠ 9223372036854775808 := by omega
          exact ⟨.inl ⟨z, ⟨by omega, by omega⟩, by rw [ktext_mid z (by omega) (by omega)]; exact HT.out, by rw [sd_mid z hq h9, pa_mid z hq h9]⟩, hL2⟩
      · have HNO := Lib.hid hno
        have HB := Lib.hid hb
        obtain ⟨q1, q2, q3, q4⟩ := two_cells hb
        obtain ⟨p1, p2, _, _⟩ := two_cells (two_put (p := .int .i64 0) (q := .int .i64 0) hb)
        have hL2 := (hL.setCell (p := ⟨w.heap.size, 0, none⟩) (by simp) (.int .i64 0)).setCell (p := ⟨w.heap.size, 1, none⟩) (by simp) (.int .i64 0)
        clear hno hb hB1
        go_wp2_with fail
        refine bodyPost_ret (v := .tuple #[.agg #[.int .i64 0, .int .i64 0], .bool false]) (by simp [results, Tryd.results89, go_sem, p1, p2]) rfl ?_
        refine ⟨.inr ⟨fun k hk h => ?_, _, _, rfl⟩, hL2⟩
        obtain ⟨h3, h4, h5⟩ := hnk.out k hk h
        exact HNO.out k (mid_i64 k h4 h5) h3

def CutReadPost (l : List UInt8) (w : World) (e : Ending) (w' : World) : Prop := e = .returned (.tuple #[.agg #[.int .i64 (sd (rdCut l).1), .int .i64 (pa (rdCut l).1)], .int .i64 ((rdCut l).2 : Int)]) ∧ Below w.heap.size w w'

set_option maxRecDepth 100000 in
set_option maxHeartbeats 2000000 in
theorem rcread_any (s : ByteArray) (w : World) (hs : s.size ≤ 10000) : Calls Tryd.prog 77 #[.string s] w (CutReadPost s.data.toList w) := by
  by_cases hsm : s.size ≤ 20
  · have HN20 : Hid (s.size = s.data.toList.length ∨ 20 ≤ s.size) := Or.inl (by simp)
    have hn : s.size ≤ s.size := by omega
    have t1 : decide ((20 : Int) < (s.size : Int)) = false := decide_eq_false (by omega)
    go_enter Tryd.func77, Tryd.ntmps77
    go_wp2_with fail
    go_loopw [5] (fun i wr => ∃ j : Nat, i = .int .i64 (j : Int) ∧ j ≤ s.size ∧ NoCut s.data.toList j s.size ∧ Below (w.alloc (.cells #[.int .i64 0, .int .i64 0] 25)).heap.size (w.alloc (.cells #[.int .i64 0, .int .i64 0] 25)) wr) (fun i _ => (intOf i).toNat)
    case atStart => exact ⟨s.size, rfl, Nat.le_refl _, fun i h1 h2 => by omega, Below.refl _ _⟩
    case round =>
      obtain ⟨j, rfl, hj, hno, hBr⟩ := hrel
      have HNO := Lib.hid hno
      clear hno
      by_cases hpos : 0 < j
      · have tp : decide ((0 : Int) < (j : Int)) = true := decide_eq_true (by omega)
        have hx : (s.extract 0 j).data.toList = s.data.toList.take j := by simp
        have HP := Lib.hid (rcparse_any (s.extract 0 j) wr (by simp; omega))
        rw [hx] at HP
        clear hx
        go_wp2_with fail
        refine HP.out.mono ?_
        intro e x1 hpost
        obtain ⟨hc, hB1⟩ := hpost
        rcases hc with ⟨k, hk, ht, rfl⟩ | ⟨hmiss, cx, cy, rfl⟩
        · have HR := Lib.hid (rdCut_hit s.data.toList j s.size k hpos hj (by rw [Array.length_toList]; exact hn) HN20.out hk ht HNO.out)
          obtain ⟨kx, ekx⟩ : ∃ x, x = sd k := ⟨_, rfl⟩
          obtain ⟨ky, eky⟩ : ∃ x, x = pa k := ⟨_, rfl⟩
          rw [← ekx, ← eky]
          have HK := Lib.hid (And.intro ekx eky)
          clear ekx eky
          have hB2 := bt (bt hBr hB1) (below_new0 x1 (.cells #[.int .i64 kx, .int .i64 ky] 25))
          have hb := box_new0 _ hB2
          obtain ⟨q1, q2, q3, q4⟩ := two_cells hb
          obtain ⟨p1, p2, _, _⟩ := two_cells (two_put (p := .int .i64 kx) (q := .int .i64 ky) hb)
          have hL2 := ((bt (below_new0 _ _) hB2).setCell (p := ⟨w.heap.size, 0, none⟩) (by simp) (.int .i64 kx)).setCell (p := ⟨w.heap.size, 1, none⟩) (by simp) (.int .i64 ky)
          clear ht hk HP hb hB2 hB1
          go_wp2_with fail
          refine bodyPost_ret (v := .tuple #[.agg #[.int .i64 kx, .int .i64 ky], .int .i64 (j : Int)]) (by simp [results, Tryd.results77, go_sem, p1, p2]) rfl ?_
          refine ⟨?_, hL2⟩
          rw [HR.out, HK.out.1, HK.out.2]
        · have HM := Lib.hid hmiss
          have hB2 := bt (bt hBr hB1) (below_new0 x1 (.cells #[.int .i64 cx, .int .i64 cy] 25))
          clear hmiss HP hB1
          obtain ⟨i, rfl⟩ : ∃ i, j = i + 1 := ⟨j - 1, by omega⟩
          go_wp2_with fail
          go_roundw
          case rel =>
            refine ⟨i, by go_num, by omega, fun q h1 h2 k hk => ?_, hB2⟩
            rcases Nat.lt_or_ge (i + 1) q with h3 | h3
            · exact HNO.out q h3 h2 k hk
            · obtain rfl : q = i + 1 := by omega
              exact HM.out k hk
          case measure => simp [intOf]
      · obtain rfl : j = 0 := by omega
        have HR := Lib.hid (rdCut_miss s.data.toList s.size HN20.out HNO.out)
        have hb := box_new0 _ hBr
        obtain ⟨q1, q2, q3, q4⟩ := two_cells hb
        obtain ⟨p1, p2, _, _⟩ := two_cells (two_put (p := .int .i64 0) (q := .int .i64 0) hb)
        have hL2 := ((bt (below_new0 _ _) hBr).setCell (p := ⟨w.heap.size, 0, none⟩) (by simp) (.int .i64 0)).setCell (p := ⟨w.heap.size, 1, none⟩) (by simp) (.int .i64 0)
        clear hb
        go_wp2_with fail
        refine bodyPost_ret (v := .tuple #[.agg #[.int .i64 0, .int .i64 0], .int .i64 0]) (by simp [results, Tryd.results77, go_sem, p1, p2]) rfl ?_
        refine ⟨?_, hL2⟩
        show _ = Ending.returned (.tuple #[.agg #[.int .i64 (sd (rdCut s.data.toList).1), .int .i64 (pa (rdCut s.data.toList).1)], .int .i64 ((rdCut s.data.toList).2 : Int)])
        rw [HR.out, sd_mid 0 (by decide) (by decide), pa_mid 0 (by decide) (by decide)]
        rfl

  · have HN20 : Hid (20 = s.data.toList.length ∨ 20 ≤ 20) := Or.inr (Nat.le_refl _)
    have hn : 20 ≤ s.size := by omega
    have t1 : decide ((20 : Int) < (s.size : Int)) = true := decide_eq_true (by omega)
    go_enter Tryd.func77, Tryd.ntmps77
    go_wp2_with fail
    go_loopw [5] (fun i wr => ∃ j : Nat, i = .int .i64 (j : Int) ∧ j ≤ 20 ∧ NoCut s.data.toList j 20 ∧ Below (w.alloc (.cells #[.int .i64 0, .int .i64 0] 25)).heap.size (w.alloc (.cells #[.int .i64 0, .int .i64 0] 25)) wr) (fun i _ => (intOf i).toNat)
    case atStart => exact ⟨20, rfl, Nat.le_refl _, fun i h1 h2 => by omega, Below.refl _ _⟩
    case round =>
      obtain ⟨j, rfl, hj, hno, hBr⟩ := hrel
      have HNO := Lib.hid hno
      clear hno
      by_cases hpos : 0 < j
      · have tp : decide ((0 : Int) < (j : Int)) = true := decide_eq_true (by omega)
        have hx : (s.extract 0 j).data.toList = s.data.toList.take j := by simp
        have HP := Lib.hid (rcparse_any (s.extract 0 j) wr (by simp; omega))
        rw [hx] at HP
        clear hx
        go_wp2_with fail
        refine HP.out.mono ?_
        intro e x1 hpost
        obtain ⟨hc, hB1⟩ := hpost
        rcases hc with ⟨k, hk, ht, rfl⟩ | ⟨hmiss, cx, cy, rfl⟩
        · have HR := Lib.hid (rdCut_hit s.data.toList j 20 k hpos hj (by rw [Array.length_toList]; exact hn) HN20.out hk ht HNO.out)
          obtain ⟨kx, ekx⟩ : ∃ x, x = sd k := ⟨_, rfl⟩
          obtain ⟨ky, eky⟩ : ∃ x, x = pa k := ⟨_, rfl⟩
          rw [← ekx, ← eky]
          have HK := Lib.hid (And.intro ekx eky)
          clear ekx eky
          have hB2 := bt (bt hBr hB1) (below_new0 x1 (.cells #[.int .i64 kx, .int .i64 ky] 25))
          have hb := box_new0 _ hB2
          obtain ⟨q1, q2, q3, q4⟩ := two_cells hb
          obtain ⟨p1, p2, _, _⟩ := two_cells (two_put (p := .int .i64 kx) (q := .int .i64 ky) hb)
          have hL2 := ((bt (below_new0 _ _) hB2).setCell (p := ⟨w.heap.size, 0, none⟩) (by simp) (.int .i64 kx)).setCell (p := ⟨w.heap.size, 1, none⟩) (by simp) (.int .i64 ky)
          clear ht hk HP hb hB2 hB1
          go_wp2_with fail
          refine bodyPost_ret (v := .tuple #[.agg #[.int .i64 kx, .int .i64 ky], .int .i64 (j : Int)]) (by simp [results, Tryd.results77, go_sem, p1, p2]) rfl ?_
          refine ⟨?_, hL2⟩
          rw [HR.out, HK.out.1, HK.out.2]
        · have HM := Lib.hid hmiss
          have hB2 := bt (bt hBr hB1) (below_new0 x1 (.cells #[.int .i64 cx, .int .i64 cy] 25))
          clear hmiss HP hB1
          obtain ⟨i, rfl⟩ : ∃ i, j = i + 1 := ⟨j - 1, by omega⟩
          go_wp2_with fail
          go_roundw
          case rel =>
            refine ⟨i, by go_num, by omega, fun q h1 h2 k hk => ?_, hB2⟩
            rcases Nat.lt_or_ge (i + 1) q with h3 | h3
            · exact HNO.out q h3 h2 k hk
            · obtain rfl : q = i + 1 := by omega
              exact HM.out k hk
          case measure => simp [intOf]
      · obtain rfl : j = 0 := by omega
        have HR := Lib.hid (rdCut_miss s.data.toList 20 HN20.out HNO.out)
        have hb := box_new0 _ hBr
        obtain ⟨q1, q2, q3, q4⟩ := two_cells hb
        obtain ⟨p1, p2, _, _⟩ := two_cells (two_put (p := .int .i64 0) (q := .int .i64 0) hb)
        have hL2 := ((bt (below_new0 _ _) hBr).setCell (p := ⟨w.heap.size, 0, none⟩) (by simp) (.int .i64 0)).setCell (p := ⟨w.heap.size, 1, none⟩) (by simp) (.int .i64 0)
        clear hb
        go_wp2_with fail
        refine bodyPost_ret (v := .tuple #[.agg #[.int .i64 0, .int .i64 0], .int .i64 0]) (by simp [results, Tryd.results77, go_sem, p1, p2]) rfl ?_
        refine ⟨?_, hL2⟩
        show _ = Ending.returned (.tuple #[.agg #[.int .i64 (sd (rdCut s.data.toList).1), .int .i64 (pa (rdCut s.data.toList).1)], .int .i64 ((rdCut s.data.toList).2 : Int)])
        rw [HR.out, sd_mid 0 (by decide) (by decide), pa_mid 0 (by decide) (by decide)]
        rfl

end Go.Proofs.YthojkbmffiibdaaDoor
