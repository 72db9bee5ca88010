/- Contract of the reference's whole. -/
import Derived.Test.YtmdnmcbjpjpgjaaBigF
import Derived.Test.YtmdnmcbjpjpgjaaWholeMath
import Derived.Deep.RegionLaw
import Derived.Deep.AppendLies
namespace Go.Proofs.Ytmdnmcbjpjpgjaa
open Go.RowKit Go.Proofs.Ytmdnmcbjpjpgjaa.Bo
set_option linter.unusedVariables false

/-- What stands in memory while a text's digits are gathered. -/
structure WhAt (w : World) (sgn : Int) (wr : World) (v : Value) (os : List Nat) : Prop where
  res : wr.heap[w.heap.size]? = some (.cells #[.int .i64 0, .slice none 0 0] 52 (0, 0))
  mem : wr.heap[w.heap.size + 1]? = some (.cells #[.int .i64 sgn, v] 52 (0, 0))
  own : wr.ownsRow (w.heap.size + 2) 3 1 v os.length (os.map iv)
  below : Below w.heap.size w wr
theorem wh_step {w wr w' : World} {sgn : Int} {v v' : Value} {os : List Nat} {d : Nat} {o : Obj} (hA : WhAt w sgn wr v os)
    (hown : w'.ownsRow (w.heap.size + 2) 3 1 v' (os.length + 1) (os.map iv ++ [iv d])) (hg : (wr.alloc o).drew.grownBy w' v.ownBlock) :
    w'.heap[w.heap.size + 1]? = some (.cells #[.int .i64 sgn, v] 52 (0, 0)) ∧ WhAt w sgn (w'.setCell ⟨w.heap.size + 1, 1, none⟩ v') v' (os ++ [d]) := by
  have hl1 := lt_of_block hA.mem
  have hk : ∀ j, j ≤ w.heap.size + 1 → w'.heap[j]? = wr.heap[j]? := fun j hj =>
    (hg.block j (by show j < (wr.alloc o).heap.size; simp; omega) (own_ne hA.own hj)).trans (heap_alloc_old _ _ (by omega))
  have hm := (hk _ (Nat.le_refl _)).trans hA.mem
  refine ⟨hm, ?_, ?_, ?_, ?_⟩
  · rw [heap_setCell_other _ _ _ _ (by simp)]; exact (hk _ (by omega)).trans hA.res
  · have := heap_setCell_same w' (w.heap.size + 1) 1 _ _ v' hm
    rw [this]; rfl
  · have h1 := ownsRow_setCell_below hown (a := ⟨w.heap.size + 1, 1, none⟩) (by simp) v'
    rw [show (os ++ [d]).length = os.length + 1 from by simp, List.map_append]
    exact h1
  · refine Below.setCell ?_ (by simp) _
    refine ((hA.below.alloc (by omega) o).drew).grown hg (by show w.heap.size ≤ (wr.alloc o).heap.size; simp; omega) (fun j hj => ?_)
    have := (hA.own.lt j hj).1
    omega

def zeroBig : Value := .agg #[.int .i64 0, .slice none 0 0]
def WholeNo (l : List UInt8) (w : World) (e : Ending) (w' : World) : Prop := (∀ z, l ≠ textOf z) ∧ e = .returned (.tuple #[.agg #[.int .i64 0, .slice none 0 0], .bool false]) ∧ Below w.heap.size w w'
def WholeYes (l : List UInt8) (w : World) (e : Ending) (w' : World) : Prop := ∃ z V, l = textOf z ∧ e = .returned (.tuple #[V, .bool true]) ∧ BigAt w' V z l.length ∧ Below w.heap.size w w'
def WholePost (l : List UInt8) (w : World) (e : Ending) (w' : World) : Prop := WholeNo l w e w' ∨ WholeYes l w e w'

theorem bytes_at' (s : ByteArray) (k : Nat) (h : k < s.size) : s.data.toList[k]'(by simpa using h) = s[k]'h := by simp [ByteArray.getElem_eq_getElem_data]
theorem osOf_step (l : List UInt8) (m : Nat) (h : m < l.length) : ((l.drop m).reverse.map dv) = ((l.drop (m + 1)).reverse.map dv) ++ [dv l[m]] := by
  rw [List.drop_eq_getElem_cons h, List.reverse_cons, List.map_append]; rfl

theorem drop_digits (l : List UInt8) (m : Nat) (h : m < l.length) (hd : Digit l[m]) (ht : ∀ c ∈ l.drop (m + 1), Digit c) : ∀ c ∈ l.drop m, Digit c := by
  rw [List.drop_eq_getElem_cons h]
  intro c hc
  rcases List.mem_cons.1 hc with rfl | h1
  · exact hd
  · exact ht c h1
theorem mem_drop_at (l : List UInt8) (f m : Nat) (hf : f ≤ m) (h : m < l.length) : l[m] ∈ l.drop f := by
  have h1 : (l.drop f)[m - f]? = some l[m] := by rw [List.getElem?_drop, show f + (m - f) = m from by omega, List.getElem?_eq_getElem h]
  exact List.mem_of_getElem? h1
/-- What the last digit of a row is, in memory. -/
theorem last_cell {wr : World} {a : Option Addr} {n cap : Nat} {os : List Nat} {d : Nat} (h : Dg wr (.slice a n cap) (os ++ [d])) : n = os.length + 1 ∧ ∃ g, a = some ⟨g, 0, none⟩ ∧ wr.cell? ⟨g, os.length, none⟩ = some (.int .i64 (d : Int)) := by
  obtain ⟨h1, h2, h3⟩ := h.cellAt
  simp at h1
  obtain ⟨g, hg, _, hc⟩ := h3 (by omega)
  refine ⟨h1, g, hg, ?_⟩
  have := hc os.length (by simp)
  simpa using this

set_option maxRecDepth 100000 in
set_option maxHeartbeats 4000000 in
theorem whole_neg (s : ByteArray) (w : World) (hs : s.size ≤ 10000) (h45 : s.data.toList[0]? = some 45) :
    Calls Try.prog 70 #[.string s] w (WholePost s.data.toList w) := by
  obtain ⟨i0, hi, hz0, hz1, hz2⟩ := info_parts Try.infoInt
  have hlt0 : 0 < s.size := by have := (List.getElem?_eq_some_iff.1 h45).1; simpa using this
  have t0 : decide ((0 : Int) < (s.size : Int)) = true := decide_eq_true (by omega)
  have t1 : ((s[0].toNat : Int) == 45) = true := beq_iff_eq.2 (by
    rw [List.getElem?_eq_getElem (by simpa using hlt0), bytes_at' s 0 hlt0] at h45
    have := Option.some.inj h45
    rw [this]; rfl)
  have HF : Hid (frm s.data.toList = 1) := by show frm _ = 1; unfold frm; rw [if_pos h45]
  have HSG : Hid (sg s.data.toList = -1) := by show sg _ = -1; unfold sg; rw [if_pos h45]
  clear h45
  go_enter Try.func70, Try.ntmps70
  go_wp2_with fail
  go_loopw [6] (fun i wr => ∃ (j : Nat) (v : Value), i = .int .i64 ((j : Int) - 1) ∧ 1 ≤ j ∧ j ≤ s.size ∧ (∀ c ∈ s.data.toList.drop j, Digit c) ∧ WhAt w (-1) wr v ((s.data.toList.drop j).reverse.map dv)) (fun i _ => (intOf i + 1).toNat)
  case atStart =>
    refine ⟨s.size, .slice none 0 0, rfl, by omega, Nat.le_refl _, ?_, ?_⟩
    · rw [List.drop_of_length_le (by simp)]; simp
    · rw [List.drop_of_length_le (by simp)]
      exact ⟨heap_alloc2_old _ _ _, heap_alloc2_new _ _ _, World.ownsRow_nil _ _ _ _, ((Below.refl _ _).alloc (Nat.le_refl _) _).alloc (by simp) _⟩
  case round =>
    obtain ⟨j, v, rfl, hj1, hj2, hdig, hA⟩ := hrel
    have HA := Lib.hid hA
    have c0 := cell_of_row _ _ 0 _ _ _ hA.mem
    have c1 := cell_of_row _ _ 1 _ _ _ hA.mem
    have f1 := frozen_of_row _ _ 1 _ _ hA.mem
    have r0 := cell_of_row _ _ 0 _ _ _ hA.res
    have r1 := cell_of_row _ _ 1 _ _ _ hA.res
    have g0 := frozen_of_row _ _ 0 _ _ hA.res
    have g1 := frozen_of_row _ _ 1 _ _ hA.res
    have hszr := lt_of_block hA.mem
    simp at c0 c1 r0 r1
    have HDIG := Lib.hid hdig
    have hzz := two_set (p := .int .i64 0) (q := .slice none 0 0) hA.res
    have HQ0 := Lib.hid ((cell_of_row _ _ 0 _ _ _ hzz).trans rfl)
    have HQ1 := Lib.hid ((cell_of_row _ _ 1 _ _ _ hzz).trans rfl)
    have HBZ := Lib.hid ((hA.below.setCell (p := ⟨w.heap.size, 0, none⟩) (by simp) (.int .i64 0)).setCell (p := ⟨w.heap.size, 1, none⟩) (by simp) (.slice none 0 0))
    clear hdig hA hzz
    by_cases hmore : 2 ≤ j
    · obtain ⟨m, rfl⟩ : ∃ m, j = m + 1 := ⟨j - 1, by omega⟩
      rw [show ((m + 1 : Nat) : Int) - 1 = (m : Int) from by omega]
      have hm : m < s.size := by omega
      have tg : decide ((1 : Int) ≤ (m : Int)) = true := decide_eq_true (by omega)
      have i1 : (0 : Int) ≤ (m : Int) := by omega
      have i2 : (m : Int) < (s.size : Int) := by omega
      by_cases hd : Digit s[m]
      · have u1 : decide ((s[m].toNat : Int) < 48) = false := decide_eq_false (by unfold Digit at hd; omega)
        have u2 : decide (57 < (s[m].toNat : Int)) = false := decide_eq_false (by unfold Digit at hd; omega)
        have hd1 : 48 ≤ s[m].toNat := hd.1
        have hd2 : s[m].toNat ≤ 57 := hd.2
        have HST := Lib.hid (osOf_step s.data.toList m (by simpa using hm))
        rw [bytes_at' s m hm] at HST
        have HDD : Hid (Value.int .i64 ((s[m].toNat : Int) - 48) = iv (dv s[m])) := by
          show Value.int _ _ = Value.int _ _
          unfold dv
          congr 1; omega
        have hosl : ((s.data.toList.drop (m + 1)).reverse.map dv).length ≤ 10000 := by simp; omega
        have HD1 := Lib.hid (drop_digits s.data.toList m (by simpa using hm) (by rw [bytes_at' s m hm]; exact hd) HDIG.out)
        generalize (s.data.toList.drop (m + 1)).reverse.map dv = os at *
        have hown := Lib.hid HA.out.own
        clear hd HQ0 HQ1 HBZ HDIG
        go_wp2_with fail
        have q1 : IntKind.i64.wrap (s[m].toNat : Int) = (s[m].toNat : Int) := IntWalk.i64_in _ (by omega)
        have q2 : IntKind.i64.wrap ((s[m].toNat : Int) - 48) = (s[m].toNat : Int) - 48 := IntWalk.i64_in _ (by omega)
        go_region_law ((refine step_append_lies _ (by rfl) _ _ _ (by rfl) (w.heap.size + 2) 3 i0 (.int .i64 0) 1 8 Try.underlying50 hi hz0 hz1 hz2 rfl (by omega) v os.length (os.map iv) (by rfl) ((hown.out.alloc _).drew) ⟨wr.heap.size, 0, none⟩ 1 1 [.int .i64 ((s[m].toNat : Int) - 48)] (by rfl) (by rfl) (World.news_of_block (cs := #[.int .i64 ((s[m].toNat : Int) - 48)]) (t := 3) (fr := (0, 0)) (heap_alloc_new wr _)) (by simp [Value.oneCell']) (by omega) (by unfold maxLen; omega) (by omega) (by simp; omega) (wr.heap.size + 1) (by simp) ?_; intro gg cap1 w1 hown1 hgrow hat hltt; rw [HDD.out] at hown1; obtain ⟨hm1, hA1⟩ := wh_step HA.out hown1 hgrow; have HA1 := Lib.hid hA1; have d1 : w1.cell? ⟨w.heap.size + 1, 1, none⟩ = some v := (cell_of_row _ _ 1 _ _ _ hm1).trans rfl; have e1 := frozen_of_row _ _ 1 _ _ hm1; clear hA1 hown1 hgrow hat hltt hm1))
        all_goals
          clear q1 q2
          go_wp2_with fail
          go_roundw
          case rel => exact ⟨m, _, rfl, by omega, by omega, HD1.out, by rw [HST.out]; exact HA1.out⟩
          case measure => simp [intOf]
      · have HNO : Hid (∀ z, s.data.toList ≠ textOf z) := fun z hz => hd (by
          have h1 := text_digits s.data.toList z hz
          rw [HF.out] at h1
          have h2 := h1 _ (mem_drop_at s.data.toList 1 m (by omega) (by simpa using hm))
          rw [bytes_at' s m hm] at h2
          exact h2)
        by_cases h48 : s[m].toNat < 48
        · have u1 : decide ((s[m].toNat : Int) < 48) = true := decide_eq_true (by omega)
          clear hd
          go_wp2_with fail
          have q0 := HQ0.out
          have q1 := HQ1.out
          refine bodyPost_ret (v := .tuple #[.agg #[.int .i64 0, .slice none 0 0], .bool false]) (by simp [results, Try.results70, go_sem, q0, q1]) rfl ?_
          exact Or.inl ⟨HNO.out, rfl, HBZ.out⟩
        · have u1 : decide ((s[m].toNat : Int) < 48) = false := decide_eq_false (by omega)
          have u2 : decide (57 < (s[m].toNat : Int)) = true := decide_eq_true (by unfold Digit at hd; omega)
          clear hd
          go_wp2_with fail
          have q0 := HQ0.out
          have q1 := HQ1.out
          refine bodyPost_ret (v := .tuple #[.agg #[.int .i64 0, .slice none 0 0], .bool false]) (by simp [results, Try.results70, go_sem, q0, q1]) rfl ?_
          exact Or.inl ⟨HNO.out, rfl, HBZ.out⟩
    · obtain rfl : j = 1 := by omega
      have HFL : Hid (s.data.toList.drop (frm s.data.toList) = s.data.toList.drop 1) := by rw [HF.out]; exact rfl
      have tg : decide ((1 : Int) ≤ 0) = false := by decide
      cases hl : s.data.toList.drop 1 with
      | nil =>
        rw [hl] at HA HFL
        have HNO : Hid (∀ z, s.data.toList ≠ textOf z) := fun z hz => by
          obtain ⟨c, t, h1, _⟩ := text_more s.data.toList z hz
          rw [HFL.out] at h1
          cases h1
        obtain ⟨av, cv, hv, _⟩ := dg_of_own HA.out.own
        simp at hv
        subst hv
        clear hl
        go_wp2_with fail
        have q0 := HQ0.out
        have q1 := HQ1.out
        refine bodyPost_ret (v := .tuple #[.agg #[.int .i64 0, .slice none 0 0], .bool false]) (by simp [results, Try.results70, go_sem, q0, q1]) rfl ?_
        exact Or.inl ⟨HNO.out, rfl, HBZ.out⟩
      | cons c t =>
        rw [hl] at HA HFL HDIG
        have hcd := HDIG.out c (by simp)
        have HCD := Lib.hid hcd
        have hdg := dg_of_own HA.out.own
        rw [List.reverse_cons, List.map_append] at hdg
        obtain ⟨av, cv, hv, hcv, hgv⟩ := id hdg
        subst hv
        obtain ⟨hlen, g, rfl, hlast⟩ := last_cell (os := t.reverse.map dv) (d := dv c) hdg
        have hln : ((t.reverse.map dv) ++ ([c].map dv)).length = t.length + 1 := by simp
        have hln2 : (t.reverse.map dv).length = t.length := by simp
        rw [hln] at hlen
        rw [hln2] at hlast
        have hsl : t.length ≤ 10000 := by
          have h1 : (s.data.toList.drop 1).length = (c :: t).length := by rw [hl]
          simp at h1
          omega
        have HDGS := Lib.hid hdg
        clear hgv hcv hlen
        rw [hln] at c1
        clear hdg hl
        have z0 : (((t.length + 1 : Nat) : Int) == 0) = false := beq_eq_false_iff_ne.2 (by omega)
        have z1 : (((t.length : Int) + 1) == 0) = false := beq_eq_false_iff_ne.2 (by omega)
        have j1 : (0 : Int) ≤ (t.length : Int) := by omega
        by_cases hc48 : c = 48
        · have hdv : dv c = 0 := by rw [hc48]; rfl
          rw [hdv] at hlast
          clear hdv
          have HNO : Hid (∀ z, s.data.toList ≠ textOf z) := fun z hz => by
            obtain ⟨c', t', h1, h2⟩ := text_more s.data.toList z hz
            rw [HFL.out] at h1
            injection h1 with h3 h4
            have := (h2 (by rw [← h3]; exact hc48)).2
            rw [HF.out] at this
            omega
          clear hc48
          by_cases hlong : 1 < t.length + 1
          · have tl : decide ((1 : Int) < ((t.length + 1 : Nat) : Int)) = true := decide_eq_true (by omega)
            have tl2 : decide ((1 : Int) < (t.length : Int) + 1) = true := decide_eq_true (by omega)
            go_wp2_with fail
            have q0 := HQ0.out
            have q1 := HQ1.out
            refine bodyPost_ret (v := .tuple #[.agg #[.int .i64 0, .slice none 0 0], .bool false]) (by simp [results, Try.results70, go_sem, q0, q1]) rfl ?_
            exact Or.inl ⟨HNO.out, rfl, HBZ.out⟩
          · have tl : decide ((1 : Int) < ((t.length + 1 : Nat) : Int)) = false := decide_eq_false (by omega)
            have tl2 : decide ((1 : Int) < (t.length : Int) + 1) = false := decide_eq_false (by omega)
            go_wp2_with fail
            have q0 := HQ0.out
            have q1 := HQ1.out
            refine bodyPost_ret (v := .tuple #[.agg #[.int .i64 0, .slice none 0 0], .bool false]) (by simp [results, Try.results70, go_sem, q0, q1]) rfl ?_
            exact Or.inl ⟨HNO.out, rfl, HBZ.out⟩
        · have hdv : dv c ≠ 0 := by
            intro h0
            apply hc48
            apply UInt8.toNat_inj.1
            unfold dv at h0
            unfold Digit at hcd
            show c.toNat = 48
            omega
          have HYES : Hid (s.data.toList = textOf ((-1) * (val (digsOf s.data.toList) : Int))) := by
            show _ = _
            have h1 := whole_yes s.data.toList (by rw [HFL.out]; exact HDIG.out) c t HFL.out hc48
            rw [HSG.out] at h1
            exact h1
          have HDO : Hid (digsOf s.data.toList = t.reverse.map dv ++ [c].map dv) := by
            show _ = _
            unfold digsOf
            rw [HFL.out, List.reverse_cons, List.map_append]
          have HNZ : Hid (Ok (t.reverse.map dv ++ [c].map dv)) := by
            have h1 := ok_dv (c :: t).reverse (fun x hx => HDIG.out x (List.mem_reverse.1 hx))
            rw [List.reverse_cons, List.map_append] at h1
            exact h1
          have td : (((dv c : Nat) : Int) == 0) = false := beq_eq_false_iff_ne.2 (by omega)
          have hfin := two_set (p := .int .i64 (-1)) (q := .slice (some ⟨g, 0, none⟩) (t.length + 1) cv) HA.out.res
          have HP0 := Lib.hid ((cell_of_row _ _ 0 _ _ _ hfin).trans rfl)
          have HP1 := Lib.hid ((cell_of_row _ _ 1 _ _ _ hfin).trans rfl)
          have HBY := Lib.hid ((HA.out.below.setCell (p := ⟨w.heap.size, 0, none⟩) (by simp) (.int .i64 (-1))).setCell (p := ⟨w.heap.size, 1, none⟩) (by simp) (.slice (some ⟨g, 0, none⟩) (t.length + 1) cv))
          have HFAR := Lib.hid ((HDGS.out.far HA.out.res (by decide) 0 (.int .i64 (-1))).far (heap_setCell_same _ _ 0 _ _ (.int .i64 (-1)) HA.out.res) (by decide) 1 (.slice (some ⟨g, 0, none⟩) (t.length + 1) cv))
          rw [hln] at HFAR
          clear hc48 hdv hcd hfin
          go_wp2_with fail
          have q0 := HP0.out
          have q1 := HP1.out
          refine bodyPost_ret (v := .tuple #[.agg #[.int .i64 (-1), .slice (some ⟨g, 0, none⟩) (t.length + 1) cv], .bool true]) (by simp [results, Try.results70, go_sem, q0, q1]) rfl ?_
          refine Or.inr ⟨_, _, HYES.out, rfl, ⟨-1, _, _, rfl, by decide, HFAR.out, HNZ.out, ?_, by rw [HDO.out], fun h => absurd h (by decide)⟩, HBY.out⟩
          have h1 : (s.data.toList.drop (frm s.data.toList)).length = (c :: t).length := by rw [HFL.out]
          simp at h1 ⊢
          omega
set_option maxRecDepth 100000 in
set_option maxHeartbeats 4000000 in
theorem whole_pos (s : ByteArray) (w : World) (hs : s.size ≤ 10000) (hlt0 : 0 < s.size) (h45 : ¬ s.data.toList[0]? = some 45) :
    Calls Try.prog 70 #[.string s] w (WholePost s.data.toList w) := by
  obtain ⟨i0, hi, hz0, hz1, hz2⟩ := info_parts Try.infoInt
  have t0 : decide ((0 : Int) < (s.size : Int)) = true := decide_eq_true (by omega)
  have t1 : ((s[0].toNat : Int) == 45) = false := beq_eq_false_iff_ne.2 (fun h => h45 (by
    rw [List.getElem?_eq_getElem (by simpa using hlt0), bytes_at' s 0 hlt0]
    refine congrArg some (UInt8.toNat_inj.1 ?_)
    show s[0].toNat = 45
    omega))
  have HF : Hid (frm s.data.toList = 0) := by show frm _ = 0; unfold frm; rw [if_neg h45]
  have HSG : Hid (sg s.data.toList = 1) := by show sg _ = 1; unfold sg; rw [if_neg h45]
  clear h45
  go_enter Try.func70, Try.ntmps70
  go_wp2_with fail
  go_loopw [6] (fun i wr => ∃ (j : Nat) (v : Value), i = .int .i64 ((j : Int) - 1) ∧ 0 ≤ j ∧ j ≤ s.size ∧ (∀ c ∈ s.data.toList.drop j, Digit c) ∧ WhAt w (1) wr v ((s.data.toList.drop j).reverse.map dv)) (fun i _ => (intOf i + 1).toNat)
  case atStart =>
    refine ⟨s.size, .slice none 0 0, rfl, by omega, Nat.le_refl _, ?_, ?_⟩
    · rw [List.drop_of_length_le (by simp)]; simp
    · rw [List.drop_of_length_le (by simp)]
      exact ⟨heap_alloc2_old _ _ _, heap_alloc2_new _ _ _, World.ownsRow_nil _ _ _ _, ((Below.refl _ _).alloc (Nat.le_refl _) _).alloc (by simp) _⟩
  case round =>
    obtain ⟨j, v, rfl, hj1, hj2, hdig, hA⟩ := hrel
    have HA := Lib.hid hA
    have c0 := cell_of_row _ _ 0 _ _ _ hA.mem
    have c1 := cell_of_row _ _ 1 _ _ _ hA.mem
    have f1 := frozen_of_row _ _ 1 _ _ hA.mem
    have r0 := cell_of_row _ _ 0 _ _ _ hA.res
    have r1 := cell_of_row _ _ 1 _ _ _ hA.res
    have g0 := frozen_of_row _ _ 0 _ _ hA.res
    have g1 := frozen_of_row _ _ 1 _ _ hA.res
    have hszr := lt_of_block hA.mem
    simp at c0 c1 r0 r1
    have HDIG := Lib.hid hdig
    have hzz := two_set (p := .int .i64 0) (q := .slice none 0 0) hA.res
    have HQ0 := Lib.hid ((cell_of_row _ _ 0 _ _ _ hzz).trans rfl)
    have HQ1 := Lib.hid ((cell_of_row _ _ 1 _ _ _ hzz).trans rfl)
    have HBZ := Lib.hid ((hA.below.setCell (p := ⟨w.heap.size, 0, none⟩) (by simp) (.int .i64 0)).setCell (p := ⟨w.heap.size, 1, none⟩) (by simp) (.slice none 0 0))
    clear hdig hA hzz
    by_cases hmore : 1 ≤ j
    · obtain ⟨m, rfl⟩ : ∃ m, j = m + 1 := ⟨j - 1, by omega⟩
      rw [show ((m + 1 : Nat) : Int) - 1 = (m : Int) from by omega]
      have hm : m < s.size := by omega
      have tg : decide ((0 : Int) ≤ (m : Int)) = true := decide_eq_true (by omega)
      have i1 : (0 : Int) ≤ (m : Int) := by omega
      have i2 : (m : Int) < (s.size : Int) := by omega
      by_cases hd : Digit s[m]
      · have u1 : decide ((s[m].toNat : Int) < 48) = false := decide_eq_false (by unfold Digit at hd; omega)
        have u2 : decide (57 < (s[m].toNat : Int)) = false := decide_eq_false (by unfold Digit at hd; omega)
        have hd1 : 48 ≤ s[m].toNat := hd.1
        have hd2 : s[m].toNat ≤ 57 := hd.2
        have HST := Lib.hid (osOf_step s.data.toList m (by simpa using hm))
        rw [bytes_at' s m hm] at HST
        have HDD : Hid (Value.int .i64 ((s[m].toNat : Int) - 48) = iv (dv s[m])) := by
          show Value.int _ _ = Value.int _ _
          unfold dv
          congr 1; omega
        have hosl : ((s.data.toList.drop (m + 1)).reverse.map dv).length ≤ 10000 := by simp; omega
        have HD1 := Lib.hid (drop_digits s.data.toList m (by simpa using hm) (by rw [bytes_at' s m hm]; exact hd) HDIG.out)
        generalize (s.data.toList.drop (m + 1)).reverse.map dv = os at *
        have hown := Lib.hid HA.out.own
        clear hd HQ0 HQ1 HBZ HDIG
        go_wp2_with fail
        have q1 : IntKind.i64.wrap (s[m].toNat : Int) = (s[m].toNat : Int) := IntWalk.i64_in _ (by omega)
        have q2 : IntKind.i64.wrap ((s[m].toNat : Int) - 48) = (s[m].toNat : Int) - 48 := IntWalk.i64_in _ (by omega)
        go_region_law ((refine step_append_lies _ (by rfl) _ _ _ (by rfl) (w.heap.size + 2) 3 i0 (.int .i64 0) 1 8 Try.underlying50 hi hz0 hz1 hz2 rfl (by omega) v os.length (os.map iv) (by rfl) ((hown.out.alloc _).drew) ⟨wr.heap.size, 0, none⟩ 1 1 [.int .i64 ((s[m].toNat : Int) - 48)] (by rfl) (by rfl) (World.news_of_block (cs := #[.int .i64 ((s[m].toNat : Int) - 48)]) (t := 3) (fr := (0, 0)) (heap_alloc_new wr _)) (by simp [Value.oneCell']) (by omega) (by unfold maxLen; omega) (by omega) (by simp; omega) (wr.heap.size + 1) (by simp) ?_; intro gg cap1 w1 hown1 hgrow hat hltt; rw [HDD.out] at hown1; obtain ⟨hm1, hA1⟩ := wh_step HA.out hown1 hgrow; have HA1 := Lib.hid hA1; have d1 : w1.cell? ⟨w.heap.size + 1, 1, none⟩ = some v := (cell_of_row _ _ 1 _ _ _ hm1).trans rfl; have e1 := frozen_of_row _ _ 1 _ _ hm1; clear hA1 hown1 hgrow hat hltt hm1))
        all_goals
          clear q1 q2
          go_wp2_with fail
          go_roundw
          case rel => exact ⟨m, _, rfl, by omega, by omega, HD1.out, by rw [HST.out]; exact HA1.out⟩
          case measure => simp [intOf]
      · have HNO : Hid (∀ z, s.data.toList ≠ textOf z) := fun z hz => hd (by
          have h1 := text_digits s.data.toList z hz
          rw [HF.out] at h1
          have h2 := h1 _ (mem_drop_at s.data.toList 0 m (by omega) (by simpa using hm))
          rw [bytes_at' s m hm] at h2
          exact h2)
        by_cases h48 : s[m].toNat < 48
        · have u1 : decide ((s[m].toNat : Int) < 48) = true := decide_eq_true (by omega)
          clear hd
          go_wp2_with fail
          have q0 := HQ0.out
          have q1 := HQ1.out
          refine bodyPost_ret (v := .tuple #[.agg #[.int .i64 0, .slice none 0 0], .bool false]) (by simp [results, Try.results70, go_sem, q0, q1]) rfl ?_
          exact Or.inl ⟨HNO.out, rfl, HBZ.out⟩
        · have u1 : decide ((s[m].toNat : Int) < 48) = false := decide_eq_false (by omega)
          have u2 : decide (57 < (s[m].toNat : Int)) = true := decide_eq_true (by unfold Digit at hd; omega)
          clear hd
          go_wp2_with fail
          have q0 := HQ0.out
          have q1 := HQ1.out
          refine bodyPost_ret (v := .tuple #[.agg #[.int .i64 0, .slice none 0 0], .bool false]) (by simp [results, Try.results70, go_sem, q0, q1]) rfl ?_
          exact Or.inl ⟨HNO.out, rfl, HBZ.out⟩
    · obtain rfl : j = 0 := by omega
      have HFL : Hid (s.data.toList.drop (frm s.data.toList) = s.data.toList.drop 0) := by rw [HF.out]; exact rfl
      have tg : decide ((0 : Int) ≤ -1) = false := by decide
      cases hl : s.data.toList.drop 0 with
      | nil =>
        rw [hl] at HA HFL
        have HNO : Hid (∀ z, s.data.toList ≠ textOf z) := fun z hz => by
          obtain ⟨c, t, h1, _⟩ := text_more s.data.toList z hz
          rw [HFL.out] at h1
          cases h1
        obtain ⟨av, cv, hv, _⟩ := dg_of_own HA.out.own
        simp at hv
        subst hv
        clear hl
        go_wp2_with fail
        have q0 := HQ0.out
        have q1 := HQ1.out
        refine bodyPost_ret (v := .tuple #[.agg #[.int .i64 0, .slice none 0 0], .bool false]) (by simp [results, Try.results70, go_sem, q0, q1]) rfl ?_
        exact Or.inl ⟨HNO.out, rfl, HBZ.out⟩
      | cons c t =>
        rw [hl] at HA HFL HDIG
        have hcd := HDIG.out c (by simp)
        have HCD := Lib.hid hcd
        have hdg := dg_of_own HA.out.own
        rw [List.reverse_cons, List.map_append] at hdg
        obtain ⟨av, cv, hv, hcv, hgv⟩ := id hdg
        subst hv
        obtain ⟨hlen, g, rfl, hlast⟩ := last_cell (os := t.reverse.map dv) (d := dv c) hdg
        have hln : ((t.reverse.map dv) ++ ([c].map dv)).length = t.length + 1 := by simp
        have hln2 : (t.reverse.map dv).length = t.length := by simp
        rw [hln] at hlen
        rw [hln2] at hlast
        have hsl : t.length ≤ 10000 := by
          have h1 : (s.data.toList.drop 0).length = (c :: t).length := by rw [hl]
          simp at h1
          omega
        have HDGS := Lib.hid hdg
        clear hgv hcv hlen
        rw [hln] at c1
        clear hdg hl
        have z0 : (((t.length + 1 : Nat) : Int) == 0) = false := beq_eq_false_iff_ne.2 (by omega)
        have z1 : (((t.length : Int) + 1) == 0) = false := beq_eq_false_iff_ne.2 (by omega)
        have j1 : (0 : Int) ≤ (t.length : Int) := by omega
        by_cases hc48 : c = 48
        · have hdv : dv c = 0 := by rw [hc48]; rfl
          rw [hdv] at hlast
          clear hdv
          by_cases hlong : 1 < t.length + 1
          · have HNO : Hid (∀ z, s.data.toList ≠ textOf z) := fun z hz => by
              obtain ⟨c', t', h1, h2⟩ := text_more s.data.toList z hz
              rw [HFL.out] at h1
              injection h1 with h3 h4
              have := (h2 (by rw [← h3]; exact hc48)).1
              rw [← h4] at this
              rw [this] at hlong
              simp at hlong
            have tl : decide ((1 : Int) < ((t.length + 1 : Nat) : Int)) = true := decide_eq_true (by omega)
            have tl2 : decide ((1 : Int) < (t.length : Int) + 1) = true := decide_eq_true (by omega)
            clear hc48
            go_wp2_with fail
            have q0 := HQ0.out
            have q1 := HQ1.out
            refine bodyPost_ret (v := .tuple #[.agg #[.int .i64 0, .slice none 0 0], .bool false]) (by simp [results, Try.results70, go_sem, q0, q1]) rfl ?_
            exact Or.inl ⟨HNO.out, rfl, HBZ.out⟩
          · have tl : decide ((1 : Int) < ((t.length + 1 : Nat) : Int)) = false := decide_eq_false (by omega)
            have tl2 : decide ((1 : Int) < (t.length : Int) + 1) = false := decide_eq_false (by omega)
            have HZT : Hid (s.data.toList = textOf 0) := by
              show _ = _
              have h0 : t = [] := List.eq_nil_of_length_eq_zero (by omega)
              have h1 : s.data.toList.drop 0 = c :: t := by rw [← HFL.out, HF.out]
              rw [List.drop_zero, h0, hc48] at h1
              rw [h1]; rfl
            clear hc48
            go_wp2_with fail
            have q0 := HQ0.out
            have q1 := HQ1.out
            refine bodyPost_ret (v := .tuple #[.agg #[.int .i64 0, .slice none 0 0], .bool true]) (by simp [results, Try.results70, go_sem, q0, q1]) rfl ?_
            exact Or.inr ⟨0, _, HZT.out, rfl, ⟨0, _, [], rfl, Or.inr (Or.inl rfl), ⟨none, 0, rfl, Nat.le_refl _, fun h => by simp at h⟩, Ok.nil, Nat.zero_le _, by simp, fun _ => rfl⟩, HBZ.out⟩
        · have hdv : dv c ≠ 0 := by
            intro h0
            apply hc48
            apply UInt8.toNat_inj.1
            unfold dv at h0
            unfold Digit at hcd
            show c.toNat = 48
            omega
          have HYES : Hid (s.data.toList = textOf ((1) * (val (digsOf s.data.toList) : Int))) := by
            show _ = _
            have h1 := whole_yes s.data.toList (by rw [HFL.out]; exact HDIG.out) c t HFL.out hc48
            rw [HSG.out] at h1
            exact h1
          have HDO : Hid (digsOf s.data.toList = t.reverse.map dv ++ [c].map dv) := by
            show _ = _
            unfold digsOf
            rw [HFL.out, List.reverse_cons, List.map_append]
          have HNZ : Hid (Ok (t.reverse.map dv ++ [c].map dv)) := by
            have h1 := ok_dv (c :: t).reverse (fun x hx => HDIG.out x (List.mem_reverse.1 hx))
            rw [List.reverse_cons, List.map_append] at h1
            exact h1
          have td : (((dv c : Nat) : Int) == 0) = false := beq_eq_false_iff_ne.2 (by omega)
          have hfin := two_set (p := .int .i64 (1)) (q := .slice (some ⟨g, 0, none⟩) (t.length + 1) cv) HA.out.res
          have HP0 := Lib.hid ((cell_of_row _ _ 0 _ _ _ hfin).trans rfl)
          have HP1 := Lib.hid ((cell_of_row _ _ 1 _ _ _ hfin).trans rfl)
          have HBY := Lib.hid ((HA.out.below.setCell (p := ⟨w.heap.size, 0, none⟩) (by simp) (.int .i64 (1))).setCell (p := ⟨w.heap.size, 1, none⟩) (by simp) (.slice (some ⟨g, 0, none⟩) (t.length + 1) cv))
          have HFAR := Lib.hid ((HDGS.out.far HA.out.res (by decide) 0 (.int .i64 (1))).far (heap_setCell_same _ _ 0 _ _ (.int .i64 (1)) HA.out.res) (by decide) 1 (.slice (some ⟨g, 0, none⟩) (t.length + 1) cv))
          rw [hln] at HFAR
          clear hc48 hdv hcd hfin
          go_wp2_with fail
          have q0 := HP0.out
          have q1 := HP1.out
          refine bodyPost_ret (v := .tuple #[.agg #[.int .i64 (1), .slice (some ⟨g, 0, none⟩) (t.length + 1) cv], .bool true]) (by simp [results, Try.results70, go_sem, q0, q1]) rfl ?_
          refine Or.inr ⟨_, _, HYES.out, rfl, ⟨1, _, _, rfl, by decide, HFAR.out, HNZ.out, ?_, by rw [HDO.out], fun h => absurd h (by decide)⟩, HBY.out⟩
          have h1 : (s.data.toList.drop (frm s.data.toList)).length = (c :: t).length := by rw [HFL.out]
          simp at h1 ⊢
          omega
set_option maxRecDepth 100000 in
set_option maxHeartbeats 4000000 in
theorem whole_empty (s : ByteArray) (w : World) (hs : s.size ≤ 10000) (hlt0 : s.size = 0) :
    Calls Try.prog 70 #[.string s] w (WholePost s.data.toList w) := by
  obtain ⟨i0, hi, hz0, hz1, hz2⟩ := info_parts Try.infoInt
  have hnil : s.data.toList = [] := List.eq_nil_of_length_eq_zero (by rw [Array.length_toList]; exact hlt0)
  have t0 : decide ((0 : Int) < (s.size : Int)) = false := decide_eq_false (by omega)
  have HF : Hid (frm s.data.toList = 0) := by show frm _ = 0; rw [hnil]; rfl
  have HSG : Hid (sg s.data.toList = 1) := by show sg _ = 1; rw [hnil]; rfl
  have hle0 : s.size ≤ 0 := by omega
  clear hnil hlt0
  go_enter Try.func70, Try.ntmps70
  go_wp2_with fail
  go_loopw [6] (fun i wr => ∃ (j : Nat) (v : Value), i = .int .i64 ((j : Int) - 1) ∧ 0 ≤ j ∧ j ≤ s.size ∧ (∀ c ∈ s.data.toList.drop j, Digit c) ∧ WhAt w (1) wr v ((s.data.toList.drop j).reverse.map dv)) (fun i _ => (intOf i + 1).toNat)
  case atStart =>
    refine ⟨s.size, .slice none 0 0, rfl, by omega, Nat.le_refl _, ?_, ?_⟩
    · rw [List.drop_of_length_le (by simp)]; simp
    · rw [List.drop_of_length_le (by simp)]
      exact ⟨heap_alloc2_old _ _ _, heap_alloc2_new _ _ _, World.ownsRow_nil _ _ _ _, ((Below.refl _ _).alloc (Nat.le_refl _) _).alloc (by simp) _⟩
  case round =>
    obtain ⟨j, v, rfl, hj1, hj2, hdig, hA⟩ := hrel
    have HA := Lib.hid hA
    have c0 := cell_of_row _ _ 0 _ _ _ hA.mem
    have c1 := cell_of_row _ _ 1 _ _ _ hA.mem
    have f1 := frozen_of_row _ _ 1 _ _ hA.mem
    have r0 := cell_of_row _ _ 0 _ _ _ hA.res
    have r1 := cell_of_row _ _ 1 _ _ _ hA.res
    have g0 := frozen_of_row _ _ 0 _ _ hA.res
    have g1 := frozen_of_row _ _ 1 _ _ hA.res
    have hszr := lt_of_block hA.mem
    simp at c0 c1 r0 r1
    have HDIG := Lib.hid hdig
    have hzz := two_set (p := .int .i64 0) (q := .slice none 0 0) hA.res
    have HQ0 := Lib.hid ((cell_of_row _ _ 0 _ _ _ hzz).trans rfl)
    have HQ1 := Lib.hid ((cell_of_row _ _ 1 _ _ _ hzz).trans rfl)
    have HBZ := Lib.hid ((hA.below.setCell (p := ⟨w.heap.size, 0, none⟩) (by simp) (.int .i64 0)).setCell (p := ⟨w.heap.size, 1, none⟩) (by simp) (.slice none 0 0))
    clear hdig hA hzz
    by_cases hmore : 1 ≤ j
    · omega
    · obtain rfl : j = 0 := by omega
      have HFL : Hid (s.data.toList.drop (frm s.data.toList) = s.data.toList.drop 0) := by rw [HF.out]; exact rfl
      have tg : decide ((0 : Int) ≤ -1) = false := by decide
      cases hl : s.data.toList.drop 0 with
      | nil =>
        rw [hl] at HA HFL
        have HNO : Hid (∀ z, s.data.toList ≠ textOf z) := fun z hz => by
          obtain ⟨c, t, h1, _⟩ := text_more s.data.toList z hz
          rw [HFL.out] at h1
          cases h1
        obtain ⟨av, cv, hv, _⟩ := dg_of_own HA.out.own
        simp at hv
        subst hv
        clear hl
        go_wp2_with fail
        have q0 := HQ0.out
        have q1 := HQ1.out
        refine bodyPost_ret (v := .tuple #[.agg #[.int .i64 0, .slice none 0 0], .bool false]) (by simp [results, Try.results70, go_sem, q0, q1]) rfl ?_
        exact Or.inl ⟨HNO.out, rfl, HBZ.out⟩
      | cons c t =>
        have hlc := congrArg List.length hl
        simp at hlc
        omega

theorem whole_any (s : ByteArray) (w : World) (hs : s.size ≤ 10000) : Calls Try.prog 70 #[.string s] w (WholePost s.data.toList w) := by
  by_cases h0 : s.size = 0
  · exact whole_empty s w hs h0
  · by_cases h45 : s.data.toList[0]? = some 45
    · exact whole_neg s w hs h45
    · exact whole_pos s w hs (by omega) h45
end Go.Proofs.Ytmdnmcbjpjpgjaa
