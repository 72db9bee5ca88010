/- A part of the proof: contracts of the functions that the statements reach. -/
import Derived.Test.YtakkmnhiaddnnaaRows
import Derived.Test.YtakkmnhiaddnnaaCA
import Derived.Test.YtakkmnhiaddnnaaCB
import Derived.Test.YtakkmnhiaddnnaaCC
import Derived.Test.YtakkmnhiaddnnaaCD
import Derived.Test.YtakkmnhiaddnnaaCE
import Derived.Test.YtakkmnhiaddnnaaCF
import Derived.Test.YtakkmnhiaddnnaaCG
import Derived.Test.YtakkmnhiaddnnaaCH
import Derived.Test.YtakkmnhiaddnnaaCI
import Derived.Test.YtakkmnhiaddnnaaCJ
import Derived.Test.YtakkmnhiaddnnaaCK
import Derived.Test.YtakkmnhiaddnnaaCL
import Derived.IntWalk

/- Contract of the reference's Put: a new segment is laid at its place. -/
namespace Go.Proofs.Ytakkmnhiaddnnaa
open Go.RowKit Go.Sort Go.Proofs.Ytakkmnhiaddnnaa.Bo
set_option linter.unusedVariables false

/-- What is laid of a row, and of the new one, up to a place. -/
def InsAt (l : List G5) (s : G5) (n j : Nat) (D : Bool) (out : List G5) : Prop := (D = false ∧ j ≤ n ∧ out = l.take j) ∨ (D = true ∧ n < j ∧ out = l.take n ++ s :: (l.drop n).take (j - n))
theorem own_lenS {w : World} {base cap n m size : Nat} {e : TypeId} {a : Option Addr} {xs : List Value} (h : w.ownsRow base e size (.slice a n cap) n xs) (hnm : n = m) : w.ownsRow base e size (.slice a m cap) m xs := hnm ▸ h
theorem insAt_len {l : List G5} {s : G5} {n j : Nat} {D : Bool} {out : List G5} (h : InsAt l s n j D out) (hn : n ≤ l.length) : out.length ≤ j + 1 := by
  rcases h with ⟨_, h1, rfl⟩ | ⟨_, h1, rfl⟩
  · rw [List.length_take]; omega
  · rw [List.length_append, List.length_take, List.length_cons, List.length_take]; omega
theorem insAt_no {l : List G5} {s : G5} {n j : Nat} {out : List G5} (h : InsAt l s n j false out) (hj : j < l.length) (hjn : j < n) : InsAt l s n (j + 1) false (out ++ [l[j]]) := by
  rcases h with ⟨_, h1, rfl⟩ | ⟨h, _⟩
  · exact .inl ⟨rfl, by omega, (List.take_succ_eq_append_getElem hj).symm⟩
  · cases h
theorem insAt_new {l : List G5} {s : G5} {n : Nat} {out : List G5} (h : InsAt l s n n false out) (hj : n < l.length) : InsAt l s n (n + 1) true (out ++ [s] ++ [l[n]]) := by
  rcases h with ⟨_, h1, rfl⟩ | ⟨h, _⟩
  · refine .inr ⟨rfl, by omega, ?_⟩
    rw [show n + 1 - n = 1 by omega, List.append_assoc]
    congr 1
    show [s, l[n]] = s :: (l.drop n).take 1
    congr 1
    rw [List.drop_eq_getElem_cons hj]
    rfl
  · cases h
theorem insAt_on {l : List G5} {s : G5} {n j : Nat} {out : List G5} (h : InsAt l s n j true out) (hj : j < l.length) : InsAt l s n (j + 1) true (out ++ [l[j]]) := by
  rcases h with ⟨h, _⟩ | ⟨_, h1, rfl⟩
  · cases h
  · refine .inr ⟨rfl, by omega, ?_⟩
    have e : (l.drop n)[j - n]? = some l[j] := by
      rw [List.getElem?_drop, show n + (j - n) = j by omega, List.getElem?_eq_getElem hj]
    have hlt : j - n < (l.drop n).length := by rw [List.length_drop]; omega
    have e2 : (l.drop n)[j - n] = l[j] := by
      rw [List.getElem?_eq_getElem hlt] at e
      exact Option.some.inj e
    rw [show j + 1 - n = (j - n) + 1 by omega, List.take_succ_eq_append_getElem hlt, e2]
    simp
set_option maxRecDepth 100000 in
set_option maxHeartbeats 4000000 in
theorem rputG_ins (a : Option Addr) (cap : Nat) (l : List G5) (room : Int) (s : G5) (w : World) (hs : s.ok) (hmay : s.may = true) (hz : ∀ g ∈ l, g.ok) (hno : ¬ findG l s.key < l.length) (hfull : ¬ room ≤ (l.length : Int)) (hr : GRow w a l) (hc : l.length ≤ cap) (hl : l.length ≤ 10000) :
    Calls Try.prog 34 #[.slice a l.length cap, .int .i64 room, vG s] w (PutG a l (insG s l, 0) w) := by
  have mx := mixed
  have hfd : ∀ W : World, (Instr.field 31 (.agg #[.int .i64 s.ls, .int .i64 s.la]) 0).run Try.prog W = .ok (.int .i64 s.ls) W := fun _ => by kernel_rfl
  obtain ⟨i0, hi0, hz0, hz1, hz2⟩ := info_parts Try.infoSeg
  have HK := Lib.hid (fun W => rkey_any s W)
  have HC := Lib.hid (fun W => rcanon_any s.ls s.la W hs.1)
  have nec := neq_cut (sd (key s.ls s.la)) (pa (key s.ls s.la)) s.ls s.la
  have hD : (sd (key s.ls s.la) == s.ls && pa (key s.ls s.la) == s.la) = true ∧ ¬ 0 < s.ls := by
    unfold G5.may G5.is G5.key at hmay
    simp at hmay ⊢
    exact ⟨⟨hmay.1.1.symm, hmay.1.2.symm⟩, hmay.2⟩
  have t1 : decide (0 < s.ls) = false := decide_eq_false hD.2
  rw [hD.1] at nec
  have HFI := Lib.hid (fun W (h : GRow W a l) => rfind_any a cap l s.ls s.la W hs.1 h (by omega))
  have hfv : findV l (key s.ls s.la) = -1 := by unfold findV; exact if_neg hno
  rw [hfv] at HFI
  have t2 : decide (room ≤ (l.length : Int)) = false := decide_eq_false hfull
  obtain ⟨n, hn, hins, hlo, hhi⟩ := insG_split s l
  have HINS := Lib.hid hins
  have HLO := Lib.hid hlo
  have HHI := Lib.hid hhi
  have HLE : Hid (∀ (j : Nat) (h : j < l.length) W, Calls Try.prog 62 #[.agg #[.int .i64 s.ls, .int .i64 s.la], .agg #[.int .i64 l[j].ls, .int .i64 l[j].la]] W fun e w' => e = .returned (.bool (decide (s.key < l[j].key))) ∧ Go.RowKit.Below W.heap.size W w') := fun j h W => rless_any _ _ _ _ W hs.1 (hz _ (List.getElem_mem h)).1
  clear hfv hno hfull hins hlo hhi hz
  generalize sd (key s.ls s.la) = x1 at *
  generalize pa (key s.ls s.la) = x2 at *
  have HB0 : Hid ((w.alloc (oG s)).heap[w.heap.size]? = some (oG s)) := heap_alloc_new _ _
  have hL := below_new w (oG s)
  have HR := Lib.hid hr
  clear hD hmay hr
  go_enter Try.func34, Try.ntmps34
  go_upto_region 1 with fail
  generalize w.alloc (oG s) = X at *
  obtain ⟨p1, p2, p3, p4, p5⟩ := (five_cells HB0.out).re
  refine wp_region_quiet_below (by assumption) (by kernel_rfl) ?_
  repeat (go_big_quiet_step (first
    | (go_at_call 41; exact Calls.regrown_of (HK.out _))
    | (go_at_call 53; exact Calls.regrown_of (HC.out _))))
  refine wpQuiet_nil ?_
  intro _ hw'
  obtain ⟨⟨nq, osq⟩, hw''⟩ := hw'
  subst hw''
  have hBq := below_regrown X nq osq
  have hL1 := bt hL hBq
  have HB1 := Lib.hid (box_on HB0.out hBq)
  clear p1 p2 p3 p4 p5 hBq HB0 hL HC nec t1
  generalize grow (redrawn X nq) osq = X1 at *
  obtain ⟨c1, c2, c3, c4, c5⟩ := five_cells HB1.out
  rw [Nat.zero_add] at c2 c3 c4 c5
  go_wp2_with fail
  clear c1 c2 c3 c4 c5
  refine (HK.out _).mono ?_
  rintro e y1 ⟨rfl, hB1⟩
  have hL2 := bt hL1 hB1
  have HB2 := Lib.hid (box_on HB1.out hB1)
  clear hB1 hL1 HB1
  go_wp2_with fail
  refine (HFI.out _ (HR.out.below hL2)).mono ?_
  rintro e y2 ⟨rfl, hB2⟩
  have hL3 := bt hL2 hB2
  have HB3 := Lib.hid (box_on HB2.out hB2)
  clear hB2 hL2 HB2 HFI
  go_wp2_with fail
  clear t2
  have HBX := Lib.hid HB3.out
  go_loopw [10, 11, 12] (fun o d i wr => ∃ (j cap3 : Nat) (a3 : Option Addr) (out : List G5) (D : Bool), i = .int .i64 (j : Int) ∧ o = .slice a3 out.length cap3 ∧ d = .bool D ∧ j ≤ l.length ∧ InsAt l s n j D out ∧ wr.ownsRow y2.heap.size 35 5 (.slice a3 out.length cap3) out.length (flatG out) ∧ Go.RowKit.Below y2.heap.size y2 wr) (fun _ _ i _ => l.length - (intOf i).toNat)
  case atStart => exact ⟨0, 0, none, [], false, rfl, rfl, rfl, Nat.zero_le _, .inl ⟨rfl, Nat.zero_le _, rfl⟩, ⟨rfl, .inl ⟨rfl, rfl⟩⟩, Go.RowKit.Below.refl _ _⟩
  case round =>
    obtain ⟨j, cap3, a3, out, D, rfl, rfl, rfl, hj, hat, hown, hBr⟩ := hrel
    have HAT := Lib.hid hat
    have HO := Lib.hid hown
    have hol := insAt_len hat hn
    have HBr := Lib.hid hBr
    have hszr := hBr.size
    have HB4 := Lib.hid (box_on HBX.out hBr)
    clear hat hown
    by_cases hlt : j < l.length
    · obtain ⟨b, off, rfl, hcc⟩ := ((HR.out.below hL3).below hBr) (by omega)
      have HC5 := Lib.hid (hcc j hlt)
      have ti0 : (0 : Int) ≤ (j : Int) := by omega
      have ti1 : (j : Int) < (l.length : Int) := by omega
      have HLEJ := Lib.hid (HLE.out j hlt)
      have HA1 : Hid (D = false → j < n → InsAt l s n (j + 1) false (out ++ [l[j]])) := fun h h2 => insAt_no (by have := HAT.out; rw [h] at this; exact this) hlt h2
      have HA2 : Hid (D = false → j = n → InsAt l s n (j + 1) true (out ++ [s] ++ [l[j]])) := fun h h2 => by subst h2; exact insAt_new (by have := HAT.out; rw [h] at this; exact this) hlt
      have HA3 : Hid (D = true → InsAt l s n (j + 1) true (out ++ [l[j]])) := fun h => insAt_on (by have := HAT.out; rw [h] at this; exact this) hlt
      have HJN : Hid (D = false → j ≤ n ∧ (s.key < l[j].key → j = n) ∧ (¬ s.key < l[j].key → j < n)) := by
        intro h
        have hjn : j ≤ n := by
          rcases HAT.out with ⟨_, h1, _⟩ | ⟨h1, _⟩
          · exact h1
          · rw [h] at h1; cases h1
        refine ⟨hjn, fun c => ?_, fun c => ?_⟩
        · rcases Nat.lt_or_ge j n with h2 | h2
          · exact absurd c (by have := HLO.out j hlt h2; omega)
          · omega
        · rcases Nat.lt_or_ge j n with h2 | h2
          · exact h2
          · obtain rfl : j = n := by omega
            exact absurd (HHI.out hlt) (by omega)
      clear hcc
      have HKg := Lib.hid (fun W => rkey_any l[j] W)
      obtain ⟨LB, hLB⟩ : ∃ LB, decide (s.key < l[j].key) = LB := ⟨_, rfl⟩
      rw [hLB] at HLEJ
      have HLB := Lib.hid hLB
      clear hLB
      obtain ⟨g, HGJ⟩ : ∃ g, Hid (l[j] = g) := ⟨_, Lib.hid rfl⟩
      rw [HGJ.out] at HC5 HA1 HA2 HA3 HJN HKg HLB HLEJ
      cases D with
      | false =>
        obtain ⟨p1, p2, p3, p4, p5⟩ := (five_cells HB4.out).re
        rw [Nat.zero_add] at p2 p3 p4 p5
        obtain ⟨p6, p7, p8, p9, p10⟩ := HC5.out.re
        go_wp2_with fail
        refine wp_region_quiet_below (by assumption) (by kernel_rfl) ?_
        repeat (go_big_quiet_step (first
          | (go_at_call 41; exact Calls.regrown_of (HK.out _))
          | (go_at_call 41; exact Calls.regrown_of (HKg.out _))
          | (go_at_call 62; exact Calls.regrown_of (HLEJ.out _))))
        refine wpQuiet_nil ?_
        intro _ hw'
        obtain ⟨⟨nq, osq⟩, hw''⟩ := hw'
        subst hw''
        have hBq := below_regrown wr nq osq
        have hB5 := bt HBr.out hBq
        have HO5 := Lib.hid (own_on HO.out hBq)
        have HB5 := Lib.hid (box_on HB4.out hBq)
        have HC6 := Lib.hid (HC5.out.below hBq)
        clear p1 p2 p3 p4 p5 p6 p7 p8 p9 p10 hBq HO HB4 HC5 hBr hszr
        generalize grow (redrawn wr nq) osq = y5 at *
        have hsz5 := hB5.size
        cases LB with
        | true =>
          have HJ := Lib.hid ((HJN.out (by trivial)).2.1 (of_decide_eq_true HLB.out))
          obtain ⟨c1, c2, c3, c4, c5⟩ := five_cells HB5.out
          rw [Nat.zero_add] at c2 c3 c4 c5
          have HN1 := Lib.hid (grow_one (heap_alloc_new y5 (oG s)))
          have HO5b := Lib.hid (own_on HO5.out (below_new y5 (oG s)))
          go_upto_region 18 with (at_builtin; refine wpList_append_segs _ rfl _ _ 29 rfl y2.heap.size 35 i0 (.agg #[.int .i64 0, .int .i64 0, .int .i64 0, .int .i64 0, .int .i64 0]) 40 Try.underlying29 hi0 hz0 hz1 hz2 rfl _ out.length (flatG out) (by rfl) HO5b.out (some ⟨y5.heap.size, 0, none⟩) 1 [s] (by rfl) HN1.out (by unfold maxLen; simp; omega) (by simp; omega) (by simp; omega) ?_; intro a6 cap6 w6 hown hgrow; have hB6 : Go.RowKit.Below y2.heap.size y2 w6 := (hB5.alloc (by omega) _).grown hgrow (by simp; omega) (fun k hk => (HO5b.out.lt k hk).1); have HO6 : Hid (w6.ownsRow y2.heap.size 35 5 (.slice a6 (out.length + 1) cap6) (out.length + 1) (flatG (out ++ [s]))) := (by rw [flatG_append]; exact hown); clear hown hgrow)
          clear c1 c2 c3 c4 c5 HN1 HO5b HO5
          have HC7 : Hid (Cells5 w6 b (off + j * 5) g) := by
            obtain ⟨b', off', e', hcc⟩ := ((HR.out.below hL3).below hB6) (by omega)
            injection e' with e'
            injection e' with e1 e2
            subst e1 e2
            have := hcc j hlt
            rw [HGJ.out] at this
            exact this
          obtain ⟨d1, d2, d3, d4, d5⟩ := HC7.out
          have hsz6 := hB6.size
          have HN2 := Lib.hid (grow_one (heap_alloc_new w6 (oG g)))
          have HO6b := Lib.hid (own_on HO6.out (below_new w6 (oG g)))
          go_wp2_with (at_builtin; refine wpList_append_segs _ rfl _ _ 29 rfl y2.heap.size 35 i0 (.agg #[.int .i64 0, .int .i64 0, .int .i64 0, .int .i64 0, .int .i64 0]) 40 Try.underlying29 hi0 hz0 hz1 hz2 rfl _ (out.length + 1) (flatG (out ++ [s])) (by rfl) HO6b.out (some ⟨w6.heap.size, 0, none⟩) 1 [g] (by rfl) HN2.out (by unfold maxLen; simp; omega) (by simp; omega) (by simp; omega) ?_; intro a7 cap7 w7 hown hgrow; have hB7 : Go.RowKit.Below y2.heap.size y2 w7 := (hB6.alloc (by omega) _).grown hgrow (by simp; omega) (fun k hk => (HO6b.out.lt k hk).1); have HO7 : Hid (w7.ownsRow y2.heap.size 35 5 (.slice a7 ((out.length + 1) + 1) cap7) ((out.length + 1) + 1) (flatG ((out ++ [s]) ++ [g]))) := (by rw [flatG_append]; exact hown); clear hown hgrow)
          go_roundw
          case rel => exact ⟨j + 1, cap7, a7, out ++ [s] ++ [g], true, by go_num, by simp, rfl, by omega, HA2.out (by trivial) HJ.out, own_lenS HO7.out (by simp), hB7⟩
          case measure => simp [intOf]; omega
        | false =>
          have HJ := Lib.hid ((HJN.out (by trivial)).2.2 (by have := of_decide_eq_false HLB.out; omega))
          obtain ⟨d1, d2, d3, d4, d5⟩ := HC6.out
          have HN2 := Lib.hid (grow_one (heap_alloc_new y5 (oG g)))
          have HO6b := Lib.hid (own_on HO5.out (below_new y5 (oG g)))
          go_wp2_with (at_builtin; refine wpList_append_segs _ rfl _ _ 29 rfl y2.heap.size 35 i0 (.agg #[.int .i64 0, .int .i64 0, .int .i64 0, .int .i64 0, .int .i64 0]) 40 Try.underlying29 hi0 hz0 hz1 hz2 rfl _ out.length (flatG out) (by rfl) HO6b.out (some ⟨y5.heap.size, 0, none⟩) 1 [g] (by rfl) HN2.out (by unfold maxLen; simp; omega) (by simp; omega) (by simp; omega) ?_; intro a7 cap7 w7 hown hgrow; have hB7 : Go.RowKit.Below y2.heap.size y2 w7 := (hB5.alloc (by omega) _).grown hgrow (by simp; omega) (fun k hk => (HO6b.out.lt k hk).1); have HO7 : Hid (w7.ownsRow y2.heap.size 35 5 (.slice a7 (out.length + 1) cap7) (out.length + 1) (flatG (out ++ [g]))) := (by rw [flatG_append]; exact hown); clear hown hgrow)
          go_roundw
          case rel => exact ⟨j + 1, cap7, a7, out ++ [g], false, by go_num, by simp, rfl, by omega, HA1.out (by trivial) HJ.out, own_lenS HO7.out (by simp), hB7⟩
          case measure => simp [intOf]; omega
      | true =>
        go_wp2_with fail
        refine wp_region_quiet_below (by assumption) (by kernel_rfl) ?_
        repeat (go_big_quiet_step (fail))
        refine wpQuiet_nil ?_
        intro _ hw'
        obtain ⟨⟨nq, osq⟩, hw''⟩ := hw'
        subst hw''
        have hBq := below_regrown wr nq osq
        have hB5 := bt HBr.out hBq
        have HO5 := Lib.hid (own_on HO.out hBq)
        have HC6 := Lib.hid (HC5.out.below hBq)
        clear hBq HO HB4 HC5 hBr hszr
        generalize grow (redrawn wr nq) osq = y5 at *
        have hsz5 := hB5.size
        obtain ⟨d1, d2, d3, d4, d5⟩ := HC6.out
        have HN2 := Lib.hid (grow_one (heap_alloc_new y5 (oG g)))
        have HO6b := Lib.hid (own_on HO5.out (below_new y5 (oG g)))
        go_wp2_with (at_builtin; refine wpList_append_segs _ rfl _ _ 29 rfl y2.heap.size 35 i0 (.agg #[.int .i64 0, .int .i64 0, .int .i64 0, .int .i64 0, .int .i64 0]) 40 Try.underlying29 hi0 hz0 hz1 hz2 rfl _ out.length (flatG out) (by rfl) HO6b.out (some ⟨y5.heap.size, 0, none⟩) 1 [g] (by rfl) HN2.out (by unfold maxLen; simp; omega) (by simp; omega) (by simp; omega) ?_; intro a7 cap7 w7 hown hgrow; have hB7 : Go.RowKit.Below y2.heap.size y2 w7 := (hB5.alloc (by omega) _).grown hgrow (by simp; omega) (fun k hk => (HO6b.out.lt k hk).1); have HO7 : Hid (w7.ownsRow y2.heap.size 35 5 (.slice a7 (out.length + 1) cap7) (out.length + 1) (flatG (out ++ [g]))) := (by rw [flatG_append]; exact hown); clear hown hgrow)
        go_roundw
        case rel => exact ⟨j + 1, cap7, a7, out ++ [g], true, by go_num, by simp, rfl, by omega, HA3.out (by trivial), own_lenS HO7.out (by simp), hB7⟩
        case measure => simp [intOf]; omega
    · obtain rfl : j = l.length := by omega
      cases D with
      | false =>
        have HE : Hid (insG s l = out ++ [s]) := by
          show _ = _
          rw [HINS.out]
          rcases HAT.out with ⟨_, h1, rfl⟩ | ⟨h1, _⟩
          · obtain rfl : n = l.length := by omega
            simp
          · cases h1
        obtain ⟨c1, c2, c3, c4, c5⟩ := five_cells HB4.out
        rw [Nat.zero_add] at c2 c3 c4 c5
        have HN1 := Lib.hid (grow_one (heap_alloc_new wr (oG s)))
        have HO5b := Lib.hid (own_on HO.out (below_new wr (oG s)))
        go_wp2_with (at_builtin; refine wpList_append_segs _ rfl _ _ 29 rfl y2.heap.size 35 i0 (.agg #[.int .i64 0, .int .i64 0, .int .i64 0, .int .i64 0, .int .i64 0]) 40 Try.underlying29 hi0 hz0 hz1 hz2 rfl _ out.length (flatG out) (by rfl) HO5b.out (some ⟨wr.heap.size, 0, none⟩) 1 [s] (by rfl) HN1.out (by unfold maxLen; simp; omega) (by simp; omega) (by simp; omega) ?_; intro a6 cap6 w6 hown hgrow; have hB6 : Go.RowKit.Below y2.heap.size y2 w6 := (hBr.alloc (by omega) _).grown hgrow (by simp; omega) (fun k hk => (HO5b.out.lt k hk).1); have HO6 : Hid (w6.ownsRow y2.heap.size 35 5 (.slice a6 (out.length + 1) cap6) (out.length + 1) (flatG (out ++ [s]))) := (by rw [flatG_append]; exact hown); clear hown hgrow)
        go_ret2
        rw [HE.out]
        refine ⟨a6, cap6, ⟨by simp, own_grow HO6.out (by simp), by have := own_capG HO6.out; simp; omega, .inr (own_new HO6.out hL3.size)⟩, bt hL3 hB6⟩
      | true =>
        have HE : Hid (insG s l = out) := by
          show _ = _
          rw [HINS.out]
          rcases HAT.out with ⟨h1, _⟩ | ⟨_, h1, rfl⟩
          · cases h1
          · rw [List.take_of_length_le (l := l.drop n) (by rw [List.length_drop]; omega)]
        go_wp2_with fail
        go_ret2
        rw [HE.out]
        exact ⟨a3, cap3, ⟨rfl, own_grow HO.out rfl, own_capG HO.out, .inr (own_new HO.out hL3.size)⟩, bt hL3 hBr⟩
end Go.Proofs.Ytakkmnhiaddnnaa

/- Contracts of the reference's Put, Delete, Do, Bits over rows of segments. -/
namespace Go.Proofs.Ytakkmnhiaddnnaa
open Go.RowKit Go.Sort Go.Proofs.Ytakkmnhiaddnnaa.Bo
set_option linter.unusedVariables false

theorem rputG_any (a : Option Addr) (cap : Nat) (l : List G5) (room : Int) (s : G5) (w : World) (hs : s.ok) (hz : ∀ g ∈ l, g.ok) (hr : GRow w a l) (hc : l.length ≤ cap) (hl : l.length ≤ 9999) :
    Calls Try.prog 34 #[.slice a l.length cap, .int .i64 room, vG s] w (PutG a l (putG l room s) w) := by
  unfold putG
  cases hm : s.may with
  | false => rw [if_pos rfl]; exact rputG_arg a cap l room s w hs hm hr hc
  | true =>
    rw [if_neg (by decide)]
    by_cases hf : findG l s.key < l.length
    · rw [if_pos hf]; exact rputG_set a cap l room s w hs hm _ rfl hf hr hc (by omega)
    · rw [if_neg hf]
      by_cases hfull : room ≤ (l.length : Int)
      · rw [if_pos hfull]; exact rputG_full a cap l room s w hs hm hf hfull hr hc (by omega)
      · rw [if_neg hfull]; exact rputG_ins a cap l room s w hs hm hz hf hfull hr hc (by omega)
theorem GRow.take {w : World} {a : Option Addr} {l : List G5} (h : GRow w a l) (n : Nat) : GRow w a (l.take n) := by
  intro hp
  rw [List.length_take] at hp
  obtain ⟨b, off, e, hc⟩ := h (by omega)
  refine ⟨b, off, e, fun j hj => ?_⟩
  rw [List.length_take] at hj
  rw [List.getElem_take]
  exact hc j (by omega)
theorem GRow.drop {w : World} {b off : Nat} {l : List G5} (n : Nat) (hc : ∀ (j : Nat) (h : j < l.length), Cells5 w b (off + j * 5) l[j]) : GRow w (some ⟨b, off + n * 5, none⟩) (l.drop n) := by
  intro hp
  refine ⟨b, off + n * 5, rfl, fun j hj => ?_⟩
  rw [List.length_drop] at hj
  rw [List.getElem_drop, show off + n * 5 + j * 5 = off + (n + j) * 5 by omega]
  exact hc (n + j) (by omega)
/-- What Delete leaves. -/
def DelG (a0 : Option Addr) (l0 : List G5) (x : List G5 × Bool) (w : World) (e : Ending) (w' : World) : Prop := ∃ a cap, (e = .returned (.tuple #[.slice a x.1.length cap, .bool x.2]) ∧ GRow w' a x.1 ∧ x.1.length ≤ cap ∧ NewOr w.heap.size a0 l0 a x.1) ∧ Go.RowKit.Below w.heap.size w w'
set_option maxRecDepth 100000 in
set_option maxHeartbeats 2000000 in
theorem rdelG_no (a : Option Addr) (cap : Nat) (l : List G5) (s x : Int) (w : World) (hx : I64 x) (hno : ¬ findG l (key s x) < l.length) (hr : GRow w a l) (hc : l.length ≤ cap) (hl : l.length ≤ 9999) :
    Calls Try.prog 37 #[.slice a l.length cap, .agg #[.int .i64 s, .int .i64 x]] w (DelG a l (l, false) w) := by
  have HFI := Lib.hid (fun W (h : GRow W a l) => rfind_any a cap l s x W hx h (by omega))
  have hfv : findV l (key s x) = -1 := by unfold findV; exact if_neg hno
  rw [hfv] at HFI
  have hb : (w.alloc (.cells #[.int .i64 s, .int .i64 x] 31)).heap[w.heap.size]? = some (.cells #[.int .i64 s, .int .i64 x] 31) := heap_alloc_new _ _
  have hL := below_new w (.cells #[.int .i64 s, .int .i64 x] 31)
  have HR := Lib.hid hr
  obtain ⟨c1, c2, _, _⟩ := two_cells hb
  clear hfv hno hr hx hb
  go_enter Try.func37, Try.ntmps37
  go_wp2_with fail
  generalize w.alloc (.cells #[.int .i64 s, .int .i64 x] 31) = X at *
  refine (HFI.out _ (HR.out.below hL)).mono ?_
  rintro e y ⟨rfl, hB⟩
  go_wp2_with fail
  go_ret2
  exact ⟨a, cap, ⟨rfl, HR.out.below (bt hL hB), hc, .inl ⟨rfl, rfl⟩⟩, bt hL hB⟩
set_option maxRecDepth 100000 in
set_option maxHeartbeats 1000000 in
theorem rbits_any (n : Nat) (w : World) (hn : n ≤ 1000000) : Calls Try.prog 30 #[.int .i64 (n : Int)] w fun e w' => e = .returned (.int .i64 ((Nat.log2 n + (if n = 0 then 0 else 1) : Nat) : Int)) ∧ Go.RowKit.Below w.heap.size w w' := by
  obtain ⟨EV, hEV⟩ : ∃ EV : Nat, EV = Nat.log2 n + (if n = 0 then 0 else 1) := ⟨_, rfl⟩
  rw [← hEV]
  have HEV := Lib.hid hEV
  have hlog : Nat.log2 n ≤ n := Nat.log2_le_self n
  have hE : EV ≤ n + 1 := by rw [hEV]; split <;> omega
  clear hEV
  go_enter Try.func30, Try.ntmps30
  go_wp2_with fail
  go_loopw [0, 3] (fun m k wr => ∃ (M K : Nat), m = .int .i64 (M : Int) ∧ k = .int .i64 (K : Int) ∧ M ≤ n ∧ K + (Nat.log2 M + (if M = 0 then 0 else 1)) = EV ∧ Go.RowKit.Below w.heap.size w wr) (fun m _ _ => (intOf m).toNat)
  case atStart => exact ⟨n, 0, rfl, rfl, Nat.le_refl _, by rw [HEV.out, Nat.zero_add], Go.RowKit.Below.refl _ _⟩
  case round =>
    obtain ⟨M, K, rfl, rfl, hM, hK, hBr⟩ := hrel
    by_cases h0 : 0 < M
    · have t1 : decide ((0 : Int) < (M : Int)) = true := decide_eq_true (by omega)
      have HK : Hid (K + 1 + (Nat.log2 (M / 2) + (if M / 2 = 0 then 0 else 1)) = EV) := by
        show _ = _
        rw [← hK, if_neg (show ¬ M = 0 by omega)]
        by_cases h1 : M = 1
        · subst h1; rfl
        · rw [if_neg (show ¬ M / 2 = 0 by omega), Nat.log2_def M, if_pos (show 2 ≤ M by omega)]; omega
      have hKE : K ≤ EV := by omega
      have e2 : (M : Int).tdiv 2 = ((M / 2 : Nat) : Int) := by rw [Int.tdiv_eq_ediv_of_nonneg (by omega)]; rfl
      clear hK
      go_wp2_with fail
      go_roundw
      case rel => exact ⟨M / 2, K + 1, by first | exact congrArg (Value.int .i64) e2 | (rw [e2]) | go_num, by go_num, by omega, HK.out, hBr⟩
      case measure =>
        simp [intOf]
        omega
    · obtain rfl : M = 0 := by omega
      have HK : Hid (K = EV) := by rw [← hK]; rfl
      go_wp2_with fail
      go_ret
      refine ⟨?_, hBr⟩
      rw [HK.out]; rfl
end Go.Proofs.Ytakkmnhiaddnnaa

/- Contract of the reference's Delete: the one of a key is taken away. -/
namespace Go.Proofs.Ytakkmnhiaddnnaa
open Go.RowKit Go.Sort Go.Proofs.Ytakkmnhiaddnnaa.Bo
set_option linter.unusedVariables false

theorem bl_alloc5 {X W : World} (o : Obj) (h : Go.RowKit.Below X.heap.size X W) : Go.RowKit.Below X.heap.size X (W.alloc o) := bt h (below_new W o)
theorem bl_drew5 {X W : World} (h : Go.RowKit.Below X.heap.size X W) : Go.RowKit.Below X.heap.size X W.drew := h.drew
theorem step_append_segs {ops : Array Oper} {o : Oper} {a : Act} {K : Act → World → Prop} {Q : Exit → Act → World → Prop} {E : Prop} (w : World) (hgd : o.guard = none) (s x : Operand) (t : TypeId)
    (ho : o.op = .call { callee := .builtin .append, args := #[s, x], argTypes := #[t, t] })
    (base : Nat) (e : TypeId) (i : TypeInfo) (z : Value) (bytes : Nat) (ht : Try.prog.underlying t = some (.slice e)) (hi : Try.prog.info? e = some i) (hz : i.zero = some z)
    (hsize : i.size = 5) (hby : i.bytes = bytes) (hzs : z.cells.size = 5)
    (v : Value) (n : Nat) (xs : List Value) (hs : a.eval s = v) (hown : w.ownsRow base e 5 v n xs)
    (ax : Option Addr) (m c : Nat) (l : List G5) (hm : m = l.length) (hx : a.eval x = .slice ax m c) (hr : GRow w ax l)
    (h63 : n + m ≤ maxLen) (hbytes : (n + m) * bytes ≤ 140737488355328) (hbase : base ≤ w.heap.size)
    (h : ∀ a' cap w', w'.ownsRow base e 5 (.slice a' (n + m) cap) (n + m) (xs ++ flatG l) → w.grownBy w' v.ownBlock → K (a.put o.dst (.slice a' (n + m) cap)) w') :
    if Region.wanted o (yielded ops a.tmps) = true then Oper.wp Try.prog o a w K Q else E := by
  subst hm
  have hw : Region.wanted o (yielded ops a.tmps) = true := by simp [Region.wanted, hgd]
  rw [if_pos hw]
  obtain ⟨a', cap, w', hr', h2, h3⟩ := run_append_segs w t o.type e base i z bytes ht hi hz hsize hby hzs v n xs hown ax c l hr h63 hbytes hbase
  unfold Oper.wp execOp
  simp only [ho, resolve, invoke, builtin, Sem.run_bind, Sem.run_pure, Result.andThen_ok, List.map_toArray, List.map_cons, List.map_nil, hs, hx, hr']
  exact h a' cap w' h2 h3

set_option maxRecDepth 100000 in
set_option maxHeartbeats 2000000 in
theorem rdelG_yes (a : Option Addr) (cap : Nat) (l : List G5) (s x : Int) (k : Nat) (w : World) (hx : I64 x) (hk0 : k = findG l (key s x)) (hk : k < l.length) (hr : GRow w a l) (hc : l.length ≤ cap) (hl : l.length ≤ 9999) :
    Calls Try.prog 37 #[.slice a l.length cap, .agg #[.int .i64 s, .int .i64 x]] w (DelG a l (l.take k ++ l.drop (k + 1), true) w) := by
  have mx := mixed
  obtain ⟨i0, hi0, hz0, hz1, hz2⟩ := info_parts Try.infoSeg
  have HFI := Lib.hid (fun W (h : GRow W a l) => rfind_any a cap l s x W hx h (by omega))
  have hfv : findV l (key s x) = (k : Int) := by subst hk0; unfold findV; exact if_pos hk
  rw [hfv] at HFI
  have hb : (w.alloc (.cells #[.int .i64 s, .int .i64 x] 31)).heap[w.heap.size]? = some (.cells #[.int .i64 s, .int .i64 x] 31) := heap_alloc_new _ _
  have hL := below_new w (.cells #[.int .i64 s, .int .i64 x] 31)
  have HR := Lib.hid hr
  obtain ⟨c1, c2, _, _⟩ := two_cells hb
  clear hfv hk0 hr hx hb
  go_enter Try.func37, Try.ntmps37
  go_wp2_with fail
  generalize w.alloc (.cells #[.int .i64 s, .int .i64 x] 31) = X at *
  clear c1 c2
  refine (HFI.out _ (HR.out.below hL)).mono ?_
  rintro e y ⟨rfl, hB⟩
  have hL1 := bt hL hB
  obtain ⟨b, off, rfl, hcc⟩ := (HR.out.below hL1) (by omega)
  have HCC := Lib.hid hcc
  clear hcc hB HFI
  have i1 : (0 : Int) ≤ (k : Int) := by omega
  have i2 : (k : Int) ≤ (cap : Int) := by omega
  have i3 : (0 : Int) ≤ (k : Int) + 1 := by omega
  have i4 : (k : Int) + 1 ≤ (l.length : Int) := by omega
  have i5 : ((k : Int) + 1).toNat = k + 1 := by omega
  have i6 : IntKind.i64.wrap ((k : Int) + 1) = (k : Int) + 1 := IntWalk.i64_in _ (by omega)
  have i7 : (l.length : Int) ≤ (cap : Int) := by omega
  have HO0 := Lib.hid (own_emptyG y)
  have HGY : Hid (GRow y (some ⟨b, off, none⟩) l) := fun _ => ⟨b, off, rfl, HCC.out⟩
  have HLT : Hid ((l.take k).length = k) := by show _ = _; rw [List.length_take]; omega
  have HDR : Hid (l.length - (k + 1) = (l.drop (k + 1)).length) := by show _ = _; rw [List.length_drop]
  have HGD : Hid (∀ W, Go.RowKit.Below y.heap.size y W → GRow W (if cap = k + 1 then some ⟨b, off, none⟩ else some ⟨b, off + (k + 1) * 5, none⟩) (l.drop (k + 1))) := by
    intro W hW
    by_cases h : cap = k + 1
    · intro hp
      rw [List.length_drop] at hp
      omega
    · rw [if_neg h]
      exact GRow.drop (k + 1) (fun j hj => (HCC.out j hj).below hW)
  go_upto_region 4 with fail
  have HCK := Lib.hid (HCC.out k hk)
  generalize l[k] = gk at *
  have hck := HCK.out.1
  go_region_held3 (fun w' => w'.cell? ⟨b, off + k * 5, none⟩ = some (.int .i64 gk.ls))
    (exact (HCK.out.below (by with_reducible repeat (first | assumption | exact Go.RowKit.Below.refl _ _ | refine bl_alloc5 _ ?_ | refine bl_drew5 ?_))).1)
    (first
      | ((refine step_append_segs _ (by rfl) _ _ _ (by rfl) y.heap.size 35 i0 (.agg #[.int .i64 0, .int .i64 0, .int .i64 0, .int .i64 0, .int .i64 0]) 40 Try.underlying29 hi0 hz0 hz1 hz2 rfl (.slice (some ⟨y.heap.size, 0, none⟩) 0 0) 0 [] (by rfl) (by exact HO0.out) (some ⟨b, off, none⟩) k cap (l.take k) HLT.out.symm (by rfl) ((HGY.out.below (by with_reducible repeat (first | exact Go.RowKit.Below.refl _ _ | refine bl_alloc5 _ ?_ | refine bl_drew5 ?_))).take k) (by unfold maxLen; omega) (by omega) (by simp) ?_; intro a1 cap1 w1 hown1 hgrow1; rw [List.nil_append] at hown1; have hB1 : Go.RowKit.Below y.heap.size y w1 := (Go.RowKit.Below.grown (by with_reducible repeat (first | exact Go.RowKit.Below.refl _ _ | refine bl_alloc5 _ ?_ | refine bl_drew5 ?_)) hgrow1 (by simp) (fun k hk => (HO0.out.lt k hk).1)); have HO1 := Lib.hid hown1; clear hown1 hgrow1))
      | ((refine step_append_segs _ (by rfl) _ _ _ (by rfl) y.heap.size 35 i0 (.agg #[.int .i64 0, .int .i64 0, .int .i64 0, .int .i64 0, .int .i64 0]) 40 Try.underlying29 hi0 hz0 hz1 hz2 rfl (.slice a1 (0 + k) cap1) (0 + k) (flatG (l.take k)) (by rfl) (by exact HO1.out) (if cap = k + 1 then some ⟨b, off, none⟩ else some ⟨b, off + (k + 1) * 5, none⟩) (l.length - (k + 1)) (cap - (k + 1)) (l.drop (k + 1)) HDR.out (by rfl) (HGD.out _ (by with_reducible repeat (first | exact hB1 | refine bl_drew5 ?_))) (by unfold maxLen; omega) (by omega) (by have := hB1.size; first | exact this | (simp; omega)) ?_; intro a2 cap2 w2 hown2 hgrow2; have hB2 : Go.RowKit.Below y.heap.size y w2 := (Go.RowKit.Below.grown (by with_reducible repeat (first | exact hB1 | refine bl_drew5 ?_)) hgrow2 (by have := hB1.size; first | exact this | (simp; omega)) (fun k hk => (HO1.out.lt k hk).1)); have HO2 := Lib.hid hown2; clear hown2 hgrow2)))
  all_goals go_wp2_with fail
  all_goals
    go_ret2
    have HO3 : Hid (w2.ownsRow y.heap.size 35 5 (.slice a2 (0 + k + (l.length - (k + 1))) cap2) (0 + k + (l.length - (k + 1))) (flatG (l.take k ++ l.drop (k + 1)))) := by rw [flatG_append]; exact HO2.out
    have hlen : (l.take k ++ l.drop (k + 1)).length = 0 + k + (l.length - (k + 1)) := by rw [List.length_append, HLT.out, ← HDR.out, Nat.zero_add]
    refine ⟨a2, cap2, ⟨?_, own_grow HO3.out hlen.symm, ?_, .inr (own_new HO3.out hL1.size)⟩, bt hL1 hB2⟩
    · show _ = Ending.returned (.tuple #[.slice a2 (l.take k ++ l.drop (k + 1)).length cap2, .bool true])
      rw [hlen, Nat.zero_add]; rfl
    · show (l.take k ++ l.drop (k + 1)).length ≤ cap2
      rw [hlen]; exact own_capG HO3.out
theorem rdelG_any (a : Option Addr) (cap : Nat) (l : List G5) (s x : Int) (w : World) (hx : I64 x) (hr : GRow w a l) (hc : l.length ≤ cap) (hl : l.length ≤ 9999) :
    Calls Try.prog 37 #[.slice a l.length cap, .agg #[.int .i64 s, .int .i64 x]] w (DelG a l (delG l (key s x)) w) := by
  unfold delG
  by_cases h : findG l (key s x) < l.length
  · rw [if_pos h]; exact rdelG_yes a cap l s x _ w hx rfl h hr hc hl
  · rw [if_neg h]; exact rdelG_no a cap l s x w hx h hr hc hl
end Go.Proofs.Ytakkmnhiaddnnaa

/- Contract of the reference's Do over rows of segments. -/
namespace Go.Proofs.Ytakkmnhiaddnnaa
open Go.RowKit Go.Sort Go.Proofs.Ytakkmnhiaddnnaa.Bo
set_option linter.unusedVariables false

abbrev vOG (k : Int) (g : G5) : Value := .agg #[.int .i64 k, .int .i64 g.ls, .int .i64 g.la, .int .i64 g.hs, .int .i64 g.ha, .int .i64 g.v]
abbrev oOG (k : Int) (g : G5) : Obj := .cells #[.int .i64 k, .int .i64 g.ls, .int .i64 g.la, .int .i64 g.hs, .int .i64 g.ha, .int .i64 g.v] 37
theorem six_cells {W : World} {b : Nat} {k : Int} {g : G5} (h : W.heap[b]? = some (oOG k g)) : W.cell? ⟨b, 0, none⟩ = some (.int .i64 k) ∧ W.cell? ⟨b, 1, none⟩ = some (.int .i64 g.ls) ∧ W.cell? ⟨b, 2, none⟩ = some (.int .i64 g.la) ∧ W.cell? ⟨b, 3, none⟩ = some (.int .i64 g.hs) ∧ W.cell? ⟨b, 4, none⟩ = some (.int .i64 g.ha) ∧ W.cell? ⟨b, 5, none⟩ = some (.int .i64 g.v) :=
  ⟨(cell_of_row _ _ 0 _ _ _ h).trans rfl, (cell_of_row _ _ 1 _ _ _ h).trans rfl, (cell_of_row _ _ 2 _ _ _ h).trans rfl, (cell_of_row _ _ 3 _ _ _ h).trans rfl, (cell_of_row _ _ 4 _ _ _ h).trans rfl, (cell_of_row _ _ 5 _ _ _ h).trans rfl⟩
/-- What a call of the document's row leaves. -/
def DoGP (a0 : Option Addr) (l0 : List G5) (x : List G5 × Bool × Int) (w : World) (e : Ending) (w' : World) : Prop := ∃ a cap, (e = .returned (.tuple #[.slice a x.1.length cap, .bool x.2.1, .int .i64 x.2.2]) ∧ GRow w' a x.1 ∧ x.1.length ≤ cap ∧ NewOr w.heap.size a0 l0 a x.1) ∧ Go.RowKit.Below w.heap.size w w'
set_option maxRecDepth 100000 in
set_option maxHeartbeats 2000000 in
theorem rdoG_any (a : Option Addr) (cap : Nat) (l : List G5) (room k : Int) (s : G5) (w : World) (hs : s.ok) (hz : ∀ g ∈ l, g.ok) (hr : GRow w a l) (hc : l.length ≤ cap) (hl : l.length ≤ 9999) :
    Calls Try.prog 13 #[.slice a l.length cap, .int .i64 room, vOG k s] w (DoGP a l (doG l room k s) w) := by
  have hb : (w.alloc (oOG k s)).heap[w.heap.size]? = some (oOG k s) := heap_alloc_new _ _
  have hL := below_new w (oOG k s)
  obtain ⟨c1, c2, c3, c4, c5, c6⟩ := six_cells hb
  have HR := Lib.hid hr
  have HP := Lib.hid (fun W (h : GRow W a l) => rputG_any a cap l room s W hs hz h hc hl)
  have HD : Hid (∀ W, GRow W a l → Calls Try.prog 37 #[.slice a l.length cap, .agg #[.int .i64 s.ls, .int .i64 s.la]] W (DelG a l (delG l s.key) W)) := fun W h => rdelG_any a cap l s.ls s.la W hs.1 h hc hl
  have HK := Lib.hid (fun W => rkey_any s W)
  obtain ⟨EV, hEV⟩ : ∃ EV, EV = doG l room k s := ⟨_, rfl⟩
  rw [← hEV]
  unfold doG at hEV
  have HEV := Lib.hid hEV
  clear hEV hr hz hb
  go_enter Try.func13, Try.ntmps13
  by_cases h0 : k = 0
  · subst h0
    have HE : Hid (EV = ((putG l room s).1, false, (putG l room s).2)) := by show _ = _; rw [HEV.out, if_pos rfl]
    generalize putG l room s = x at *
    go_wp2_with fail
    generalize w.alloc (oOG 0 s) = X at *
    refine (HP.out _ (HR.out.below hL)).mono ?_
    rintro e y ⟨a1, cap1, ⟨rfl, hg, hcp, hnw⟩, hB⟩
    clear c1 c2 c3 c4 c5 c6 HEV
    go_wp2_with fail
    go_ret3
    rw [HE.out]
    exact ⟨a1, cap1, ⟨rfl, hg, hcp, hnw.on hL.size⟩, bt hL hB⟩
  · have t0 : (k == 0) = false := beq_eq_false_iff_ne.2 h0
    by_cases h1 : k = 1
    · subst h1
      have HE : Hid (EV = ((delG l s.key).1, (delG l s.key).2, 0)) := by show _ = _; rw [HEV.out, if_neg (by decide), if_pos rfl]
      generalize delG l s.key = x at *
      go_wp2_with fail
      generalize w.alloc (oOG 1 s) = X at *
      refine (HK.out _).mono ?_
      rintro e y0 ⟨rfl, hB0⟩
      have hL1 := bt hL hB0
      clear c1 c2 c3 c4 c5 c6 HEV
      go_wp2_with fail
      refine (HD.out _ (HR.out.below hL1)).mono ?_
      rintro e y ⟨a1, cap1, ⟨rfl, hg, hcp, hnw⟩, hB⟩
      go_wp2_with fail
      go_ret3
      rw [HE.out]
      exact ⟨a1, cap1, ⟨rfl, hg, hcp, hnw.on hL1.size⟩, bt hL1 hB⟩
    · have t1 : (k == 1) = false := beq_eq_false_iff_ne.2 h1
      by_cases h2 : k = 2
      · subst h2
        have HE : Hid (EV = ([], false, 0)) := by show _ = _; rw [HEV.out, if_neg (by decide), if_neg (by decide), if_pos rfl]
        go_wp2_with fail
        go_ret3
        rw [HE.out]
        exact ⟨none, 0, ⟨rfl, grow_nil _ _, Nat.le_refl _, .inr (fun p hp => by cases hp)⟩, hL⟩
      · have t2 : (k == 2) = false := beq_eq_false_iff_ne.2 h2
        have HE : Hid (EV = (l, false, 0)) := by show _ = _; rw [HEV.out, if_neg h0, if_neg h1, if_neg h2]
        clear h0 h1 h2
        go_wp2_with fail
        go_ret3
        rw [HE.out]
        exact ⟨a, cap, ⟨rfl, HR.out.below hL, hc, .inl ⟨rfl, rfl⟩⟩, hL⟩
end Go.Proofs.Ytakkmnhiaddnnaa

/- The nearest segments of a row. No Go in sight. -/
namespace Go.Proofs.Ytakkmnhiaddnnaa.Bo
def g0 : G5 := ⟨0, 0, 0, 0, 0⟩
/-- One of a row: is it the one that is sought, or a nearer one? 0 Floor, 1 Lower, 2 Ceiling, 3 Higher. -/
def hit1 (which k : Int) : Bool := (which == 0 && decide (k ≤ 0)) || (which == 1 && decide (k < 0))
def hit2 (which k : Int) : Bool := (which == 2 && decide (0 ≤ k)) || (which == 3 && decide (0 < k))
def nstep (which c : Int) (s : G5 × Bool) (g : G5) : G5 × Bool := if hit1 which (kcmp g.key c) = true then (g, true) else if s.2 = false ∧ hit2 which (kcmp g.key c) = true then (g, true) else s
def nearG (l : List G5) (c which : Int) : G5 × Bool := l.foldl (nstep which c) (g0, false)
theorem nearG_step (l : List G5) (c which : Int) (j : Nat) (h : j < l.length) : nearG (l.take (j + 1)) c which = nstep which c (nearG (l.take j) c which) l[j] := by
  unfold nearG
  rw [List.take_succ_eq_append_getElem h, List.foldl_append]
  rfl
theorem kcmp_small (a b : Int) : -1 ≤ kcmp a b ∧ kcmp a b ≤ 1 := by unfold kcmp; split <;> (try split) <;> omega
/-- What is told of one that may not be there. -/
def opt (o : Option G5) : G5 × Bool := match o with | some g => (g, true) | none => (g0, false)
theorem kcmp_le (a b : Int) : decide (kcmp a b ≤ 0) = decide (a ≤ b) := by
  unfold kcmp; split
  · simp; omega
  · split <;> simp <;> omega
theorem kcmp_lt0 (a b : Int) : decide (kcmp a b < 0) = decide (a < b) := by
  unfold kcmp; split
  · simp; omega
  · split <;> simp <;> omega
theorem kcmp_ge (a b : Int) : decide (0 ≤ kcmp a b) = decide (b ≤ a) := by
  unfold kcmp; split
  · simp; omega
  · split <;> simp <;> omega
theorem kcmp_gt0 (a b : Int) : decide (0 < kcmp a b) = decide (b < a) := by
  unfold kcmp; split
  · simp; omega
  · split <;> simp <;> omega
theorem near_last (q : G5 → Bool) (w c : Int) (h1 : ∀ g, hit1 w (kcmp g.key c) = q g) (h2 : ∀ k, hit2 w k = false) (l : List G5) : nearG l c w = opt ((l.filter q).getLast?) := by
  have : ∀ (l : List G5) (s : G5 × Bool), l.foldl (nstep w c) s = match (l.filter q).getLast? with | some g => (g, true) | none => s := by
    intro l
    induction l with
    | nil => intro s; rfl
    | cons a l ih =>
      intro s
      rw [List.foldl_cons, ih]
      have e : nstep w c s a = if q a = true then (a, true) else s := by
        unfold nstep; rw [h1, h2]; simp
      rw [e]
      by_cases qa : q a = true
      · rw [if_pos qa, List.filter_cons_of_pos qa, List.getLast?_cons]
        cases (l.filter q).getLast? <;> rfl
      · rw [if_neg qa, List.filter_cons_of_neg qa]
  unfold nearG
  rw [this]
  unfold opt
  rfl
theorem near_first (q : G5 → Bool) (w c : Int) (h1 : ∀ k, hit1 w k = false) (h2 : ∀ g, hit2 w (kcmp g.key c) = q g) (l : List G5) : nearG l c w = opt ((l.filter q).head?) := by
  have ht : ∀ (l : List G5) (g : G5), l.foldl (nstep w c) (g, true) = (g, true) := by
    intro l
    induction l with
    | nil => intro g; rfl
    | cons a l ih => intro g; rw [List.foldl_cons, show nstep w c (g, true) a = (g, true) by unfold nstep; rw [h1]; simp, ih]
  unfold nearG
  induction l with
  | nil => rfl
  | cons a l ih =>
    rw [List.foldl_cons]
    have e : nstep w c (g0, false) a = if q a = true then (a, true) else (g0, false) := by
      unfold nstep; rw [h1, h2]; simp
    rw [e]
    by_cases qa : q a = true
    · rw [if_pos qa, ht, List.filter_cons_of_pos qa]; rfl
    · rw [if_neg qa, ih, List.filter_cons_of_neg qa]
theorem near0 (l : List G5) (c : Int) : nearG l c 0 = opt ((l.filter (fun g => decide (g.key ≤ c))).getLast?) :=
  near_last _ 0 c (fun g => by unfold hit1; rw [kcmp_le]; simp) (fun k => by unfold hit2; simp) l
theorem near1 (l : List G5) (c : Int) : nearG l c 1 = opt ((l.filter (fun g => decide (g.key < c))).getLast?) :=
  near_last _ 1 c (fun g => by unfold hit1; rw [kcmp_lt0]; simp) (fun k => by unfold hit2; simp) l
theorem near2 (l : List G5) (c : Int) : nearG l c 2 = opt ((l.filter (fun g => decide (c ≤ g.key))).head?) :=
  near_first _ 2 c (fun k => by unfold hit1; simp) (fun g => by unfold hit2; rw [kcmp_ge]; simp) l
theorem near3 (l : List G5) (c : Int) : nearG l c 3 = opt ((l.filter (fun g => decide (c < g.key))).head?) :=
  near_first _ 3 c (fun k => by unfold hit1; simp) (fun g => by unfold hit2; rw [kcmp_gt0]; simp) l
end Go.Proofs.Ytakkmnhiaddnnaa.Bo

/- Contract of the reference's Near. -/
namespace Go.Proofs.Ytakkmnhiaddnnaa
open Go.RowKit Go.Sort Go.Proofs.Ytakkmnhiaddnnaa.Bo
set_option linter.unusedVariables false
abbrev seg5 (W : World) (b : Nat) (g : G5) : World := ((((W.setCell ⟨b, 0, none⟩ (.int .i64 g.ls)).setCell ⟨b, 1, none⟩ (.int .i64 g.la)).setCell ⟨b, 2, none⟩ (.int .i64 g.hs)).setCell ⟨b, 3, none⟩ (.int .i64 g.ha)).setCell ⟨b, 4, none⟩ (.int .i64 g.v)
theorem five_put {W : World} {b : Nat} {g : G5} (h : W.heap[b]? = some (oG g)) (q : G5) : (seg5 W b q).heap[b]? = some (oG q) :=
  heap_setCell_same _ _ _ _ _ _ (heap_setCell_same _ _ _ _ _ _ (heap_setCell_same _ _ _ _ _ _ (heap_setCell_same _ _ _ _ _ _ (heap_setCell_same _ _ _ _ _ _ h))))
theorem five_far {W : World} {b c : Nat} {o : Obj} (h : W.heap[b]? = some o) (hne : b ≠ c) (g : G5) : (seg5 W c g).heap[b]? = some o := set_far (set_far (set_far (set_far (set_far h hne) hne) hne) hne) hne
theorem five_frozen {W : World} {b : Nat} {g : G5} (h : W.heap[b]? = some (oG g)) (j : Nat) : W.frozen? ⟨b, j, none⟩ = false := frozen_of_row _ _ _ _ _ h
abbrev zG : Obj := .cells #[.int .i64 0, .int .i64 0, .int .i64 0, .int .i64 0, .int .i64 0] 35
/-- The blocks of Near. -/
structure NrAt (w : World) (s x : Int) (best : G5) (W : World) : Prop where
  cb : W.heap[w.heap.size]? = some (.cells #[.int .i64 s, .int .i64 x] 31)
  rs : W.heap[w.heap.size + 1]? = some zG
  bs : W.heap[w.heap.size + 1 + 1]? = some (oG best)
  be : Go.RowKit.Below w.heap.size w W
theorem NrAt.on {w : World} {s x : Int} {best : G5} {W W' : World} (h : NrAt w s x best W) (hb : Go.RowKit.Below W.heap.size W W') : NrAt w s x best W' := ⟨box_on h.cb hb, box_on h.rs hb, box_on h.bs hb, bt h.be hb⟩
theorem seg5_below {w W : World} {b : Nat} (h : Go.RowKit.Below w.heap.size w W) (hb : w.heap.size ≤ b) (g : G5) : Go.RowKit.Below w.heap.size w (seg5 W b g) := ((((h.setCell (p := ⟨b, 0, none⟩) hb _).setCell (p := ⟨b, 1, none⟩) hb _).setCell (p := ⟨b, 2, none⟩) hb _).setCell (p := ⟨b, 3, none⟩) hb _).setCell (p := ⟨b, 4, none⟩) hb _
theorem NrAt.put {w : World} {s x : Int} {best : G5} {W : World} (h : NrAt w s x best W) (g : G5) : NrAt w s x g (seg5 W (w.heap.size + 1 + 1) g) := ⟨five_far h.cb (by omega) g, five_far h.rs (by omega) g, five_put h.bs g, seg5_below h.be (by omega) g⟩
theorem nr_new (w : World) (s x : Int) : NrAt w s x g0 (((w.alloc (.cells #[.int .i64 s, .int .i64 x] 31)).alloc zG).alloc zG) :=
  ⟨box_on (box_on (heap_alloc_new w _) (below_new _ _)) (below_new _ _), box_on (new_at' _ (by simp)) (below_new _ _), new_at' _ (by simp), bt (bt (below_new _ _) (below_new _ _)) (below_new _ _)⟩
def NrPost (w : World) (r : G5 × Bool) (e : Ending) (w' : World) : Prop := e = .returned (.tuple #[vG r.1, .bool r.2]) ∧ Go.RowKit.Below w.heap.size w w'
set_option maxRecDepth 100000 in
set_option maxHeartbeats 4000000 in
theorem rnear_any (a : Option Addr) (cap : Nat) (l : List G5) (s x which : Int) (w : World) (hx : I64 x) (hok : ∀ g ∈ l, g.ok) (hr : GRow w a l) (hl : l.length ≤ 100000) :
    Calls Try.prog 23 #[.slice a l.length cap, .agg #[.int .i64 s, .int .i64 x], .int .i64 which] w (NrPost w (nearG l (key s x) which)) := by
  have mx := mixed
  have HCM := Lib.hid (fun (g : G5) W (hg : g.ok) => rcompare_any g.ls g.la s x W hg.1 hx)
  have HK := Lib.hid rkey_any
  have HOK := Lib.hid hok
  have HR := Lib.hid hr
  have HX0 : Hid (NrAt w s x g0 (((w.alloc (.cells #[.int .i64 s, .int .i64 x] 31)).alloc (.cells #[.int .i64 0, .int .i64 0, .int .i64 0, .int .i64 0, .int .i64 0] 35)).alloc (.cells #[.int .i64 0, .int .i64 0, .int .i64 0, .int .i64 0, .int .i64 0] 35))) := nr_new w s x
  have HKY : Hid (∀ g : G5, Bo.key g.ls g.la = g.key) := fun g => rfl
  obtain ⟨c, hcdef⟩ : ∃ c, key s x = c := ⟨_, rfl⟩
  rw [hcdef] at HCM ⊢
  clear hok hr hx hcdef
  go_enter Try.func23, Try.ntmps23
  go_upto_region 2 with fail
  generalize ((w.alloc (.cells #[.int .i64 s, .int .i64 x] 31)).alloc (.cells #[.int .i64 0, .int .i64 0, .int .i64 0, .int .i64 0, .int .i64 0] 35)).alloc (.cells #[.int .i64 0, .int .i64 0, .int .i64 0, .int .i64 0, .int .i64 0] 35) = X0 at *
  go_wp2_with fail
  go_loopw [9, 10] (fun f i wr => ∃ (j : Nat), i = .int .i64 (j : Int) ∧ f = .bool (nearG (l.take j) c which).2 ∧ j ≤ l.length ∧ NrAt w s x (nearG (l.take j) c which).1 wr) (fun _ i _ => l.length - (intOf i).toNat)
  case atStart => exact ⟨0, rfl, rfl, Nat.zero_le _, HX0.out⟩
  case round =>
    clear HX0
    obtain ⟨j, rfl, rfl, hj, hat⟩ := hrel
    by_cases hlt : j < l.length
    · obtain ⟨b, off, rfl, hc⟩ := (HR.out.below hat.be) (by omega)
      have hc5 := hc j hlt
      have HG := Lib.hid (HOK.out l[j] (List.getElem_mem hlt))
      have HSTEP := Lib.hid (nearG_step l c which j hlt)
      have ti0 : (0 : Int) ≤ (j : Int) := by omega
      have ti1 : (j : Int) < (l.length : Int) := by omega
      clear hc
      generalize nearG (l.take j) c which = st at *
      generalize l[j] = g at *
      obtain ⟨best, fd⟩ := st
      dsimp only at hat ⊢
      have HT := Lib.hid hat
      have HC5 := Lib.hid hc5
      have HKg := Lib.hid (fun W => HK.out g W)
      have HCg := Lib.hid (fun W => HCM.out g W HG.out)
      have hks := kcmp_small (Bo.key g.ls g.la) c
      have HKG := Lib.hid (HKY.out g)
      generalize hkv : kcmp (Bo.key g.ls g.la) c = k at *
      have HKV := Lib.hid hkv
      clear hkv
      obtain ⟨p1', p2', p3', p4', p5'⟩ := hc5
      have p1 := cell_regrown p1'
      have p2 := cell_regrown p2'
      have p3 := cell_regrown p3'
      have p4 := cell_regrown p4'
      have p5 := cell_regrown p5'
      have p6 := cell_regrown (two_cells hat.cb).1
      have p7 := cell_regrown (two_cells hat.cb).2.1
      clear hat p1' p2' p3' p4' p5'
      go_wp2_with fail
      refine wp_region_quiet_below (by assumption) (by kernel_rfl) ?_
      repeat (go_big_quiet_step (first
        | (go_at_call 41; exact Calls.regrown_of (HKg.out _))
        | (go_at_call 51; exact Calls.regrown_of (HCg.out _))))
      refine wpQuiet_nil ?_
      intro _ hw'
      obtain ⟨⟨nq, osq⟩, hw''⟩ := hw'
      subst hw''
      have hB5 := below_regrown wr nq osq
      have HT1 := Lib.hid (HT.out.on hB5)
      have HC1 := Lib.hid (HC5.out.below hB5)
      clear p1 p2 p3 p4 p5 p6 p7
      show Exit.then _ _ Exit.normal _ (grow (redrawn wr nq) osq)
      generalize grow (redrawn wr nq) osq = y5 at *
      obtain ⟨c1, c2, c3, c4, c5⟩ := HC1.out
      obtain ⟨d1, d2, d3, d4, d5⟩ := five_cells HT1.out.bs
      have f0 := five_frozen HT1.out.bs 0
      have f1 := five_frozen HT1.out.bs 1
      have f2 := five_frozen HT1.out.bs 2
      have f3 := five_frozen HT1.out.bs 3
      have f4 := five_frozen HT1.out.bs 4
      have HPT := Lib.hid (HT1.out.put g)
      have HKC : Hid (kcmp (Bo.key g.ls g.la) c = k) := HKV.out
      clear HKV
      by_cases w0 : which = 0
      · by_cases h1 : k ≤ 0
        · cases fd with
          | true =>
            have u0 : (which == 0) = true := beq_iff_eq.2 (by omega)
            have u1 : (which == 1) = false := beq_eq_false_iff_ne.2 (by omega)
            have u2 : (which == 2) = false := beq_eq_false_iff_ne.2 (by omega)
            have u3 : (which == 3) = false := beq_eq_false_iff_ne.2 (by omega)
            have v737 : decide (k ≤ 0) = true := decide_eq_true (by omega)
            have HST2 : Hid (nearG (l.take (j + 1)) c which = (g, true)) := by
              show _ = _
              rw [HSTEP.out]
              unfold nstep hit1 hit2
              rw [← HKG.out, HKC.out]
              simp [*]
            clear HSTEP
            go_wp2_with fail
            go_roundw
            case rel => exact ⟨j + 1, by go_num, by rw [HST2.out], by omega, by rw [HST2.out]; exact HPT.out⟩
            case measure => simp [intOf]; omega
          | false =>
            have u0 : (which == 0) = true := beq_iff_eq.2 (by omega)
            have u1 : (which == 1) = false := beq_eq_false_iff_ne.2 (by omega)
            have u2 : (which == 2) = false := beq_eq_false_iff_ne.2 (by omega)
            have u3 : (which == 3) = false := beq_eq_false_iff_ne.2 (by omega)
            have v737 : decide (k ≤ 0) = true := decide_eq_true (by omega)
            have HST2 : Hid (nearG (l.take (j + 1)) c which = (g, true)) := by
              show _ = _
              rw [HSTEP.out]
              unfold nstep hit1 hit2
              rw [← HKG.out, HKC.out]
              simp [*]
            clear HSTEP
            go_wp2_with fail
            go_roundw
            case rel => exact ⟨j + 1, by go_num, by rw [HST2.out], by omega, by rw [HST2.out]; exact HPT.out⟩
            case measure => simp [intOf]; omega
        · cases fd with
          | true =>
            have u0 : (which == 0) = true := beq_iff_eq.2 (by omega)
            have u1 : (which == 1) = false := beq_eq_false_iff_ne.2 (by omega)
            have u2 : (which == 2) = false := beq_eq_false_iff_ne.2 (by omega)
            have u3 : (which == 3) = false := beq_eq_false_iff_ne.2 (by omega)
            have v737 : decide (k ≤ 0) = false := decide_eq_false (by omega)
            have HST2 : Hid (nearG (l.take (j + 1)) c which = (best, true)) := by
              show _ = _
              rw [HSTEP.out]
              unfold nstep hit1 hit2
              rw [← HKG.out, HKC.out]
              simp [*]
            clear HSTEP
            go_wp2_with fail
            go_roundw
            case rel => exact ⟨j + 1, by go_num, by rw [HST2.out], by omega, by rw [HST2.out]; exact HT1.out⟩
            case measure => simp [intOf]; omega
          | false =>
            have u0 : (which == 0) = true := beq_iff_eq.2 (by omega)
            have u1 : (which == 1) = false := beq_eq_false_iff_ne.2 (by omega)
            have u2 : (which == 2) = false := beq_eq_false_iff_ne.2 (by omega)
            have u3 : (which == 3) = false := beq_eq_false_iff_ne.2 (by omega)
            have v737 : decide (k ≤ 0) = false := decide_eq_false (by omega)
            have HST2 : Hid (nearG (l.take (j + 1)) c which = (best, false)) := by
              show _ = _
              rw [HSTEP.out]
              unfold nstep hit1 hit2
              rw [← HKG.out, HKC.out]
              simp [*]
            clear HSTEP
            go_wp2_with fail
            go_roundw
            case rel => exact ⟨j + 1, by go_num, by rw [HST2.out], by omega, by rw [HST2.out]; exact HT1.out⟩
            case measure => simp [intOf]; omega
      · by_cases w1 : which = 1
        · by_cases h1 : k < 0
          · cases fd with
            | true =>
              have u0 : (which == 0) = false := beq_eq_false_iff_ne.2 (by omega)
              have u1 : (which == 1) = true := beq_iff_eq.2 (by omega)
              have u2 : (which == 2) = false := beq_eq_false_iff_ne.2 (by omega)
              have u3 : (which == 3) = false := beq_eq_false_iff_ne.2 (by omega)
              have v575 : decide (k < 0) = true := decide_eq_true (by omega)
              have HST2 : Hid (nearG (l.take (j + 1)) c which = (g, true)) := by
                show _ = _
                rw [HSTEP.out]
                unfold nstep hit1 hit2
                rw [← HKG.out, HKC.out]
                simp [*]
              clear HSTEP
              go_wp2_with fail
              go_roundw
              case rel => exact ⟨j + 1, by go_num, by rw [HST2.out], by omega, by rw [HST2.out]; exact HPT.out⟩
              case measure => simp [intOf]; omega
            | false =>
              have u0 : (which == 0) = false := beq_eq_false_iff_ne.2 (by omega)
              have u1 : (which == 1) = true := beq_iff_eq.2 (by omega)
              have u2 : (which == 2) = false := beq_eq_false_iff_ne.2 (by omega)
              have u3 : (which == 3) = false := beq_eq_false_iff_ne.2 (by omega)
              have v575 : decide (k < 0) = true := decide_eq_true (by omega)
              have HST2 : Hid (nearG (l.take (j + 1)) c which = (g, true)) := by
                show _ = _
                rw [HSTEP.out]
                unfold nstep hit1 hit2
                rw [← HKG.out, HKC.out]
                simp [*]
              clear HSTEP
              go_wp2_with fail
              go_roundw
              case rel => exact ⟨j + 1, by go_num, by rw [HST2.out], by omega, by rw [HST2.out]; exact HPT.out⟩
              case measure => simp [intOf]; omega
          · cases fd with
            | true =>
              have u0 : (which == 0) = false := beq_eq_false_iff_ne.2 (by omega)
              have u1 : (which == 1) = true := beq_iff_eq.2 (by omega)
              have u2 : (which == 2) = false := beq_eq_false_iff_ne.2 (by omega)
              have u3 : (which == 3) = false := beq_eq_false_iff_ne.2 (by omega)
              have v575 : decide (k < 0) = false := decide_eq_false (by omega)
              have HST2 : Hid (nearG (l.take (j + 1)) c which = (best, true)) := by
                show _ = _
                rw [HSTEP.out]
                unfold nstep hit1 hit2
                rw [← HKG.out, HKC.out]
                simp [*]
              clear HSTEP
              go_wp2_with fail
              go_roundw
              case rel => exact ⟨j + 1, by go_num, by rw [HST2.out], by omega, by rw [HST2.out]; exact HT1.out⟩
              case measure => simp [intOf]; omega
            | false =>
              have u0 : (which == 0) = false := beq_eq_false_iff_ne.2 (by omega)
              have u1 : (which == 1) = true := beq_iff_eq.2 (by omega)
              have u2 : (which == 2) = false := beq_eq_false_iff_ne.2 (by omega)
              have u3 : (which == 3) = false := beq_eq_false_iff_ne.2 (by omega)
              have v575 : decide (k < 0) = false := decide_eq_false (by omega)
              have HST2 : Hid (nearG (l.take (j + 1)) c which = (best, false)) := by
                show _ = _
                rw [HSTEP.out]
                unfold nstep hit1 hit2
                rw [← HKG.out, HKC.out]
                simp [*]
              clear HSTEP
              go_wp2_with fail
              go_roundw
              case rel => exact ⟨j + 1, by go_num, by rw [HST2.out], by omega, by rw [HST2.out]; exact HT1.out⟩
              case measure => simp [intOf]; omega
        · cases fd with
          | true =>
            have u0 : (which == 0) = false := beq_eq_false_iff_ne.2 (by omega)
            have u1 : (which == 1) = false := beq_eq_false_iff_ne.2 (by omega)
            have HST2 : Hid (nearG (l.take (j + 1)) c which = (best, true)) := by
              show _ = _
              rw [HSTEP.out]
              unfold nstep hit1 hit2
              rw [← HKG.out, HKC.out]
              simp [*]
            clear HSTEP
            go_wp2_with fail
            go_roundw
            case rel => exact ⟨j + 1, by go_num, by rw [HST2.out], by omega, by rw [HST2.out]; exact HT1.out⟩
            case measure => simp [intOf]; omega
          | false =>
            by_cases w2 : which = 2
            · by_cases h1 : 0 ≤ k
              · skip
                have u0 : (which == 0) = false := beq_eq_false_iff_ne.2 (by omega)
                have u1 : (which == 1) = false := beq_eq_false_iff_ne.2 (by omega)
                have u2 : (which == 2) = true := beq_iff_eq.2 (by omega)
                have u3 : (which == 3) = false := beq_eq_false_iff_ne.2 (by omega)
                have v102 : decide (0 ≤ k) = true := decide_eq_true (by omega)
                have HST2 : Hid (nearG (l.take (j + 1)) c which = (g, true)) := by
                  show _ = _
                  rw [HSTEP.out]
                  unfold nstep hit1 hit2
                  rw [← HKG.out, HKC.out]
                  simp [*]
                clear HSTEP
                go_wp2_with fail
                go_roundw
                case rel => exact ⟨j + 1, by go_num, by rw [HST2.out], by omega, by rw [HST2.out]; exact HPT.out⟩
                case measure => simp [intOf]; omega
              · skip
                have u0 : (which == 0) = false := beq_eq_false_iff_ne.2 (by omega)
                have u1 : (which == 1) = false := beq_eq_false_iff_ne.2 (by omega)
                have u2 : (which == 2) = true := beq_iff_eq.2 (by omega)
                have u3 : (which == 3) = false := beq_eq_false_iff_ne.2 (by omega)
                have v102 : decide (0 ≤ k) = false := decide_eq_false (by omega)
                have HST2 : Hid (nearG (l.take (j + 1)) c which = (best, false)) := by
                  show _ = _
                  rw [HSTEP.out]
                  unfold nstep hit1 hit2
                  rw [← HKG.out, HKC.out]
                  simp [*]
                clear HSTEP
                go_wp2_with fail
                go_roundw
                case rel => exact ⟨j + 1, by go_num, by rw [HST2.out], by omega, by rw [HST2.out]; exact HT1.out⟩
                case measure => simp [intOf]; omega
            · by_cases w3 : which = 3
              · by_cases h1 : 0 < k
                · skip
                  have u0 : (which == 0) = false := beq_eq_false_iff_ne.2 (by omega)
                  have u1 : (which == 1) = false := beq_eq_false_iff_ne.2 (by omega)
                  have u2 : (which == 2) = false := beq_eq_false_iff_ne.2 (by omega)
                  have u3 : (which == 3) = true := beq_iff_eq.2 (by omega)
                  have v851 : decide (0 < k) = true := decide_eq_true (by omega)
                  have HST2 : Hid (nearG (l.take (j + 1)) c which = (g, true)) := by
                    show _ = _
                    rw [HSTEP.out]
                    unfold nstep hit1 hit2
                    rw [← HKG.out, HKC.out]
                    simp [*]
                  clear HSTEP
                  go_wp2_with fail
                  go_roundw
                  case rel => exact ⟨j + 1, by go_num, by rw [HST2.out], by omega, by rw [HST2.out]; exact HPT.out⟩
                  case measure => simp [intOf]; omega
                · skip
                  have u0 : (which == 0) = false := beq_eq_false_iff_ne.2 (by omega)
                  have u1 : (which == 1) = false := beq_eq_false_iff_ne.2 (by omega)
                  have u2 : (which == 2) = false := beq_eq_false_iff_ne.2 (by omega)
                  have u3 : (which == 3) = true := beq_iff_eq.2 (by omega)
                  have v851 : decide (0 < k) = false := decide_eq_false (by omega)
                  have HST2 : Hid (nearG (l.take (j + 1)) c which = (best, false)) := by
                    show _ = _
                    rw [HSTEP.out]
                    unfold nstep hit1 hit2
                    rw [← HKG.out, HKC.out]
                    simp [*]
                  clear HSTEP
                  go_wp2_with fail
                  go_roundw
                  case rel => exact ⟨j + 1, by go_num, by rw [HST2.out], by omega, by rw [HST2.out]; exact HT1.out⟩
                  case measure => simp [intOf]; omega
              · skip
                have u0 : (which == 0) = false := beq_eq_false_iff_ne.2 (by omega)
                have u1 : (which == 1) = false := beq_eq_false_iff_ne.2 (by omega)
                have u2 : (which == 2) = false := beq_eq_false_iff_ne.2 (by omega)
                have u3 : (which == 3) = false := beq_eq_false_iff_ne.2 (by omega)
                have HST2 : Hid (nearG (l.take (j + 1)) c which = (best, false)) := by
                  show _ = _
                  rw [HSTEP.out]
                  unfold nstep hit1 hit2
                  rw [← HKG.out, HKC.out]
                  simp [*]
                clear HSTEP
                go_wp2_with fail
                go_roundw
                case rel => exact ⟨j + 1, by go_num, by rw [HST2.out], by omega, by rw [HST2.out]; exact HT1.out⟩
                case measure => simp [intOf]; omega
    · obtain rfl : j = l.length := by omega
      have HT := Lib.hid hat
      rw [List.take_length] at HT ⊢
      generalize nearG l c which = st at *
      obtain ⟨best, fd⟩ := st
      dsimp only at HT ⊢
      clear hat
      obtain ⟨d1, d2, d3, d4, d5⟩ := five_cells HT.out.bs
      obtain ⟨e1, e2, e3, e4, e5⟩ := five_cells (g := g0) HT.out.rs
      have f0 := five_frozen (g := g0) HT.out.rs 0
      have f1 := five_frozen (g := g0) HT.out.rs 1
      have f2 := five_frozen (g := g0) HT.out.rs 2
      have f3 := five_frozen (g := g0) HT.out.rs 3
      have f4 := five_frozen (g := g0) HT.out.rs 4
      obtain ⟨q1, q2, q3, q4, q5⟩ := five_cells (five_put (g := g0) HT.out.rs best)
      go_wp2_with fail
      refine bodyPost_ret (v := .tuple #[vG best, .bool fd]) (by simp [results, Try.results23, go_sem, q1, q2, q3, q4, q5]) rfl ?_
      exact ⟨rfl, seg5_below HT.out.be (by omega) best⟩
end Go.Proofs.Ytakkmnhiaddnnaa

/- What the tree's calls say of its row. No Go in sight. -/
namespace Go.Proofs.Ytakkmnhiaddnnaa.Bo
theorem Ag.count {α : Type} (a : Ag α) (h : a.ok) : (((List.range a.ever.toNat).filter (fun i : Nat => a.is (i : Int))).length : Int) = a.len := by
  have he := h.ever
  have h1 := filter_in a.ever.toNat a.free h.once (fun i hi => by have := h.free i hi; omega)
  have h2 := filter_not_len (List.range a.ever.toNat) (fun i : Nat => a.free.contains (i : Int))
  have h3 : (List.range a.ever.toNat).filter (fun i : Nat => a.is (i : Int)) = (List.range a.ever.toNat).filter (fun i : Nat => !a.free.contains (i : Int)) := by
    apply List.filter_congr
    intro i hi
    have h5 : i < a.ever.toNat := List.mem_range.1 hi
    have h6 : (decide (0 ≤ (i : Int)) && decide ((i : Int) < a.ever)) = true := by simp; omega
    unfold Ag.is
    rw [h6, Bool.and_true]
  rw [List.length_range] at h2
  rw [h3]
  unfold Ag.len
  omega
theorem Rep.len {t : Rt} {x : Tr} (h : Rep t x) : t.ar.len = (x.ino.length : Int) := by
  rw [← t.ar.count h.ok, ino_len]
  have hp : ((List.range t.ar.ever.toNat).filter (fun i : Nat => t.ar.is (i : Int))).Perm x.ids := by
    rw [List.perm_ext_iff_of_nodup (List.Pairwise.filter _ List.nodup_range) h.nd]
    intro k
    rw [List.mem_filter, List.mem_range]
    constructor
    · rintro ⟨_, h2⟩; exact h.all k h2
    · intro hk
      obtain ⟨n, e⟩ := repT_in x _ h.rep k hk
      have his := (t.ar.look_some _ _ e).1
      have := (t.ar.is_iff _).1 his
      exact ⟨by omega, his⟩
  rw [hp.length_eq]
theorem Fin.len {t : Rt} {L : List G5} (h : Fin t L) : t.ar.len = (L.length : Int) := by
  obtain ⟨x, h1, _, h3⟩ := h
  rw [h1.len, h3]
theorem ris_of (l : List G5) (h : RowOk l) : Ris l := (ris_iff l).1 h.ris
def wyLe (k : Int) (g : G5) : Bool := decide (g.key ≤ k)
def wyLt (k : Int) (g : G5) : Bool := decide (g.key < k)
theorem cut_le (k : Int) : Cutq (wyLe k) := ⟨fun a b h hb => by unfold wyLe at *; simp at *; omega⟩
theorem cut_lt (k : Int) : Cutq (wyLt k) := ⟨fun a b h hb => by unfold wyLt at *; simp at *; omega⟩
/-- What is told of a node that may not be there. -/
def tl (o : Option Fr) : G5 × Bool := opt (o.map (·.g))
theorem tl_floor (x : Tr) (k : Int) (h : Ris x.ino) : tl (fnr true (dn (wyLe k) x [])) = nearG x.ino k 0 := by
  rw [near0]; unfold tl; rw [(dn_near _ (cut_le k) x h).1]; rfl
theorem tl_higher (x : Tr) (k : Int) (h : Ris x.ino) : tl (fnr false (dn (wyLe k) x [])) = nearG x.ino k 3 := by
  rw [near3]; unfold tl; rw [(dn_near _ (cut_le k) x h).2]
  congr 2
  apply List.filter_congr
  intro g _
  unfold wyLe
  by_cases e : g.key ≤ k
  · have : ¬ k < g.key := by omega
    simp [e, this]
  · have : k < g.key := by omega
    simp [e, this]
theorem tl_lower (x : Tr) (k : Int) (h : Ris x.ino) : tl (fnr true (dn (wyLt k) x [])) = nearG x.ino k 1 := by
  rw [near1]; unfold tl; rw [(dn_near _ (cut_lt k) x h).1]; rfl
theorem tl_ceiling (x : Tr) (k : Int) (h : Ris x.ino) : tl (fnr false (dn (wyLt k) x [])) = nearG x.ino k 2 := by
  rw [near2]; unfold tl; rw [(dn_near _ (cut_lt k) x h).2]
  congr 2
  apply List.filter_congr
  intro g _
  unfold wyLt
  by_cases e : g.key < k
  · have : ¬ k ≤ g.key := by omega
    simp [e, this]
  · have : k ≤ g.key := by omega
    simp [e, this]
/-- The node of a key. -/
def plF (k : Int) (x : Tr) : Option Fr := match fnr true (dn (wyLe k) x []) with | some y => if y.g.key = k then some y else none | none => none
def getG (l : List G5) (k : Int) : G5 × Bool := if h : findG l k < l.length then (l[findG l k], true) else (g0, false)
theorem find_at (A B : List G5) (g : G5) (k : Int) (h : RowOk (A ++ g :: B)) (hk : Ky k) (hg : g.key = k) : findG (A ++ g :: B) k = A.length := by
  have hr := ris_of _ h
  unfold findG
  rw [List.findIdx_append]
  have h1 : A.findIdx (fun g => g.is k) = A.length := by
    rw [List.findIdx_eq_length]
    intro a ha
    cases e : a.is k with
    | false => rfl
    | true =>
      have := G5.is_key a k hk e
      simp only [Ris, List.pairwise_append] at hr
      have := hr.2.2 a ha g (by simp)
      omega
  rw [h1, if_neg (by omega), List.findIdx_cons]
  have : g.is k = true := by
    have := g.may_is (h.may g (by simp))
    rw [hg] at this; exact this
  rw [this]; simp
theorem find_none (l : List G5) (k : Int) (hk : Ky k) (h : ∀ g ∈ l, g.key ≠ k) : ¬ findG l k < l.length := by
  intro hf
  exact h _ (List.getElem_mem hf) (findG_key l k hk hf)
/-- The node of a key, and the row. -/
theorem pl_some (x : Tr) (k : Int) (y : Fr) (h : plF k x = some y) : ∃ a b, dn (wyLe k) x [] = a ++ y :: b ∧ y.s = true ∧ (∀ z ∈ a, z.s = false) ∧ y.g.key = k ∧ fnr true (dn (wyLe k) x []) = some y := by
  unfold plF at h
  cases e : fnr true (dn (wyLe k) x []) with
  | none => rw [e] at h; cases h
  | some z =>
    rw [e] at h
    simp only at h
    split at h
    · rename_i hk
      injection h with h
      subst h
      obtain ⟨a, b, h1, h2, h3⟩ := fnr_split true _ z e
      exact ⟨a, b, h1, h2, h3, hk, rfl⟩
    · cases h
theorem pl_row (x : Tr) (k : Int) (y : Fr) (a b : List Fr) (hd : dn (wyLe k) x [] = a ++ y :: b) (hs : y.s = true) (ha : ∀ z ∈ a, z.s = false) :
    x = plug b (Tr.mk true y.c (plug a .nil) y.i y.g y.o) ∧ x.ino = (cpre b ++ y.o.ino) ++ y.g :: (cpost a ++ cpost b) := by
  have hx := dn_plug (wyLe k) x []
  rw [hd, plug_append] at hx
  have e1 : plug (y :: b) (plug a .nil) = plug b (Tr.mk true y.c (plug a .nil) y.i y.g y.o) := by show plug b (Tr.mk y.s _ _ _ _ _) = _; rw [hs]
  rw [e1] at hx
  refine ⟨hx.symm, ?_⟩
  have hx' : x = plug b (Tr.mk true y.c (plug a .nil) y.i y.g y.o) := hx.symm
  rw [hx', ino_plug]
  have e2 : (plug a Tr.nil).ino = cpost a := by rw [ino_plug, cpre_left a ha]; simp [Tr.ino]
  simp [Tr.mk, Tr.ino, e2]
theorem pl_none (x : Tr) (k : Int) (hr : Ris x.ino) (h : plF k x = none) : ∀ g ∈ x.ino, g.key ≠ k := by
  obtain ⟨e, h1, h2⟩ := dn_cut (wyLe k) (cut_le k) x hr
  have hl := fnr_last (dn (wyLe k) x [])
  intro g hg hk
  rw [e] at hg
  rcases List.mem_append.1 hg with hg | hg
  · have hne : cpre (dn (wyLe k) x []) ≠ [] := fun e => by rw [e] at hg; simp at hg
    obtain ⟨q, l, hq⟩ : ∃ q l, cpre (dn (wyLe k) x []) = q ++ [l] := ⟨_, _, (List.dropLast_concat_getLast hne).symm⟩
    rw [hq] at hl hg
    simp at hl
    cases ef : fnr true (dn (wyLe k) x []) with
    | none => rw [ef] at hl; cases hl
    | some y =>
      rw [ef] at hl
      simp at hl
      have hyk : y.g.key = k := by
        have := h1 l (by rw [hq]; simp)
        unfold wyLe at this
        simp at this
        rw [e, hq] at hr
        rcases List.mem_append.1 hg with hg | hg
        · simp only [Ris, List.pairwise_append] at hr
          have := hr.1.2.2 g hg l (by simp)
          rw [← hl]; omega
        · simp at hg; subst hg; rw [← hl]; exact hk
      unfold plF at h
      rw [ef] at h
      simp [hyk] at h
  · have := h2 g hg
    unfold wyLe at this
    simp at this
    omega
theorem tl_get (x : Tr) (k : Int) (h : RowOk x.ino) (hk : Ky k) : tl (plF k x) = getG x.ino k := by
  cases e : plF k x with
  | none =>
    unfold getG
    rw [dif_neg (find_none _ _ hk (pl_none x k (ris_of _ h) e))]
    rfl
  | some y =>
    obtain ⟨a, b, h1, h2, h3, h4, _⟩ := pl_some x k y e
    obtain ⟨_, h6⟩ := pl_row x k y a b h1 h2 h3
    unfold getG
    rw [h6] at h ⊢
    have hf := find_at _ _ _ _ h hk h4
    have hlt : findG (cpre b ++ y.o.ino ++ y.g :: (cpost a ++ cpost b)) k < (cpre b ++ y.o.ino ++ y.g :: (cpost a ++ cpost b)).length := by rw [hf]; simp
    rw [dif_pos hlt]
    unfold tl opt
    simp only [Option.map_some]
    congr 1
    simp only [hf]
    rw [List.getElem_append_right (by simp)]
    simp
theorem rb_setG (s c : Bool) (A : Tr) (i : Nat) (g g' : G5) (B : Tr) (n : Nat) (h : RB (Tr.mk s c A i g B) n) : RB (Tr.mk s c A i g' B) n := by
  cases c
  · exact (rb_black ..).2 ((rb_black ..).1 h)
  · exact (rb_red ..).2 ((rb_red ..).1 h)
theorem rbt_setG (cx : List Fr) (s c : Bool) (A : Tr) (i : Nat) (g g' : G5) (B : Tr) (h : Rbt (plug cx (Tr.mk s c A i g B))) : Rbt (plug cx (Tr.mk s c A i g' B)) := by
  obtain ⟨n, h1, h2, h3⟩ := rb_unplug cx _ h
  exact rb_plug cx _ n h1 (rb_setG _ _ _ _ _ _ _ _ h2) (fun e => h3 (by rw [Tr.mk_red] at e ⊢; exact e))
/-- A segment is put where one of its key is. -/
theorem put_set {t : Rt} {x : Tr} (h : Rep t x) (hb : Rbt x) (hR : RowOk x.ino) (room : Int) (s : G5) (hm : s.may = true) (hk : Ky s.key) (y : Fr) (hy : plF s.key x = some y) :
    t.ar.is (y.i : Int) = true ∧ Fin (t.tw y.i (·.setG s)) (putG x.ino room s).1 ∧ (putG x.ino room s).2 = 0 := by
  obtain ⟨a, b, h1, h2, h3, h4, _⟩ := pl_some x _ y hy
  obtain ⟨h5, h6⟩ := pl_row x _ y a b h1 h2 h3
  have hf := find_at _ _ _ _ (h6 ▸ hR) hk h4
  have hput : putG x.ino room s = ((cpre b ++ y.o.ino) ++ s :: (cpost a ++ cpost b), 0) := by
    unfold putG
    rw [if_neg (by rw [hm]; simp), h6, hf, if_pos (by simp)]
    congr 1
    rw [List.set_append_right _ _ (by simp)]
    simp
  rw [hput]
  rw [h5] at h hb
  refine ⟨h.is, ⟨_, h.turn (·.setG s) (fun p => ndk_setG ..), rbt_setG _ _ _ _ _ _ _ _ hb, ?_⟩, rfl⟩
  rw [ino_plug]
  have e2 : (plug a Tr.nil).ino = cpost a := by rw [ino_plug, cpre_left a h3]; simp [Tr.ino]
  simp [Tr.mk, Tr.ino, e2]
theorem insG_cut (s : G5) (A B : List G5) (hA : ∀ g ∈ A, g.key < s.key) (hB : ∀ g ∈ B, s.key < g.key) : insG s (A ++ B) = A ++ s :: B := by
  induction A with
  | nil =>
    cases B with
    | nil => rfl
    | cons b B => show insG s (b :: B) = _; unfold insG; rw [if_pos (hB b (by simp))]; rfl
  | cons a A ih =>
    show insG s (a :: (A ++ B)) = _
    unfold insG
    rw [if_neg (by have := hA a (by simp); omega), ih (fun g hg => hA g (by simp [hg]))]
    rfl
/-- A segment of a new key. -/
theorem put_new {x : Tr} (hR : RowOk x.ino) (room : Int) (s : G5) (hm : s.may = true) (hk : Ky s.key) (hn : plF s.key x = none) :
    plug (dn (wyLt s.key) x []) .nil = x ∧ (room ≤ (x.ino.length : Int) → putG x.ino room s = (x.ino, 50)) ∧ (¬ room ≤ (x.ino.length : Int) → putG x.ino room s = (cpre (dn (wyLt s.key) x []) ++ s :: cpost (dn (wyLt s.key) x []), 0)) := by
  have hne := pl_none x s.key (ris_of _ hR) hn
  obtain ⟨e, h1, h2⟩ := dn_cut (wyLt s.key) (cut_lt s.key) x (ris_of _ hR)
  have hf := find_none _ _ hk hne
  refine ⟨dn_plug _ x [], fun hr => ?_, fun hr => ?_⟩
  · unfold putG; rw [if_neg (by rw [hm]; simp), if_neg hf, if_pos hr]
  · unfold putG
    rw [if_neg (by rw [hm]; simp), if_neg hf, if_neg hr]
    congr 1
    have : insG s x.ino = insG s (cpre (dn (wyLt s.key) x []) ++ cpost (dn (wyLt s.key) x [])) := by rw [← e]
    rw [this]
    refine insG_cut s _ _ (fun g hg => ?_) (fun g hg => ?_)
    · have := h1 g hg
      unfold wyLt at this; simpa using this
    · have := h2 g hg
      have h3 := hne g (by rw [e]; simp [hg])
      unfold wyLt at this; simp at this; omega
theorem putG_bad (l : List G5) (room : Int) (s : G5) (h : s.may = false) : putG l room s = (l, 1) := by unfold putG; rw [if_pos h]
/-- A segment is taken away. -/
theorem del_at (A B : List G5) (g : G5) (k : Int) (h : RowOk (A ++ g :: B)) (hk : Ky k) (hg : g.key = k) : delG (A ++ g :: B) k = (A ++ B, true) := by
  unfold delG
  rw [find_at A B g k h hk hg, if_pos (by simp)]
  congr 1
  rw [List.take_left, List.drop_append]
  simp
theorem del_none (l : List G5) (k : Int) (hk : Ky k) (h : ∀ g ∈ l, g.key ≠ k) : delG l k = (l, false) := by
  unfold delG; rw [if_neg (find_none l k hk h)]
end Go.Proofs.Ytakkmnhiaddnnaa.Bo

/- The nearest nodes. -/
namespace Go.Proofs.Ytakkmnhiaddnnaa
open Go.RowKit Go.Sort Go.Proofs.Ytakkmnhiaddnnaa.Bo
set_option linter.unusedVariables false

theorem wy_le_t (k : Int) : wyOf true (fun g => decide (g.key ≤ k)) = wyLe k := by funext g; unfold wyOf wyLe; by_cases h : g.key ≤ k <;> simp [h]
theorem wy_gt_f (k : Int) : wyOf false (fun g => decide (g.key > k)) = wyLe k := by
  funext g; unfold wyOf wyLe
  by_cases h : g.key ≤ k
  · have : ¬ g.key > k := by omega
    simp [h, this]
  · have : g.key > k := by omega
    simp [h, this]
theorem wy_lt_t (k : Int) : wyOf true (fun g => decide (g.key < k)) = wyLt k := by funext g; unfold wyOf wyLt; by_cases h : g.key < k <;> simp [h]
theorem wy_ge_f (k : Int) : wyOf false (fun g => decide (g.key ≥ k)) = wyLt k := by
  funext g; unfold wyOf wyLt
  by_cases h : g.key < k
  · have : ¬ g.key ≥ k := by omega
    simp [h, this]
  · have : g.key ≥ k := by omega
    simp [h, this]
set_option maxRecDepth 100000 in
set_option maxHeartbeats 1000000 in
theorem rnab_core (T : Nat) (x y r : Int) (w : World) (HO : Hid (Calls Try.prog 46 #[aP T, .int .i64 1, .func (.func 70) #[] #[.pointer (some ⟨w.heap.size, 0, none⟩)]] (w.alloc (.cells #[.int .i64 x, .int .i64 y] 31)) fun e w' => e = .returned (.int .i64 r) ∧ Go.RowKit.Below (w.alloc (.cells #[.int .i64 x, .int .i64 y] 31)).heap.size (w.alloc (.cells #[.int .i64 x, .int .i64 y] 31)) w')) :
    Calls Try.prog 45 #[aP T, .agg #[.int .i64 x, .int .i64 y]] w fun e w' => e = .returned (.int .i64 r) ∧ Go.RowKit.Below w.heap.size w w' := by
  have mx := mixed
  have HB := Lib.hid (below_new w (.cells #[.int .i64 x, .int .i64 y] 31))
  go_enter Try.func45, Try.ntmps45
  go_wp2_with fail
  refine HO.out.mono ?_
  rintro e z ⟨rfl, hb⟩
  have HZ := Lib.hid (bt HB.out hb)
  clear hb
  go_wp2_with fail
  go_ret
  exact ⟨rfl, HZ.out⟩
set_option maxRecDepth 100000 in
set_option maxHeartbeats 1000000 in
theorem rabv_core (T : Nat) (x y r : Int) (w : World) (HO : Hid (Calls Try.prog 46 #[aP T, .int .i64 0, .func (.func 76) #[] #[.pointer (some ⟨w.heap.size, 0, none⟩)]] (w.alloc (.cells #[.int .i64 x, .int .i64 y] 31)) fun e w' => e = .returned (.int .i64 r) ∧ Go.RowKit.Below (w.alloc (.cells #[.int .i64 x, .int .i64 y] 31)).heap.size (w.alloc (.cells #[.int .i64 x, .int .i64 y] 31)) w')) :
    Calls Try.prog 50 #[aP T, .agg #[.int .i64 x, .int .i64 y]] w fun e w' => e = .returned (.int .i64 r) ∧ Go.RowKit.Below w.heap.size w w' := by
  have mx := mixed
  have HB := Lib.hid (below_new w (.cells #[.int .i64 x, .int .i64 y] 31))
  go_enter Try.func50, Try.ntmps50
  go_wp2_with fail
  refine HO.out.mono ?_
  rintro e z ⟨rfl, hb⟩
  have HZ := Lib.hid (bt HB.out hb)
  clear hb
  go_wp2_with fail
  go_ret
  exact ⟨rfl, HZ.out⟩
abbrev nO : Obj := .cells #[.int .i64 0, .int .i64 0, .int .i64 0, .int .i64 0, .int .i64 0, .int .i64 0, .int .i64 0, .int .i64 0, .bool false] 74
set_option maxRecDepth 100000 in
set_option maxHeartbeats 2000000 in
theorem rtold_core (T A : Nat) (root i : Int) (n : Nd) (b : Bool) (w : World) (HT : Hid (w.heap[T]? = some (tO A root)))
    (HG : Hid (∀ W, Go.RowKit.Below w.heap.size w W → Calls Try.prog 69 #[aP A, .int .i64 i] W fun e w' => e = .returned (.tuple #[.agg #[.int .i64 n.g.ls, .int .i64 n.g.la, .int .i64 n.g.hs, .int .i64 n.g.ha, .int .i64 n.g.v, .int .i64 n.pa, .int .i64 n.c0, .int .i64 n.c1, .bool n.red], .bool b]) ∧ Go.RowKit.Below W.heap.size W w')) :
    Calls Try.prog 44 #[aP T, .int .i64 i] w fun e w' => e = .returned (.tuple #[vG n.g, .bool b]) ∧ Go.RowKit.Below w.heap.size w w' := by
  have mx := mixed
  go_enter Try.func44, Try.ntmps44
  have HR0 := Lib.hid (heap_alloc_new w zG)
  have HB0 := Lib.hid (below_new w zG)
  have c0 : (w.alloc zG).cell? ⟨T, 0, none⟩ = some (aP A) := (HB0.out.cell (p := ⟨T, 0, none⟩) (lt_of_block HT.out)).trans ((cell_of_row _ _ 0 _ _ _ HT.out).trans rfl)
  go_upto_region 1 with fail
  generalize w.alloc zG = X at *
  go_wp2_with fail
  refine (HG.out _ HB0.out).mono ?_
  rintro e y ⟨rfl, hb⟩
  have HRy := Lib.hid (box_on HR0.out hb)
  have HBy := Lib.hid (bt HB0.out hb)
  clear c0 hb
  go_upto_region 2 with fail
  have hNY := heap_alloc_new y (.cells #[.int .i64 n.g.ls, .int .i64 n.g.la, .int .i64 n.g.hs, .int .i64 n.g.ha, .int .i64 n.g.v, .int .i64 n.pa, .int .i64 n.c0, .int .i64 n.c1, .bool n.red] 74)
  have hRY := box_on HRy.out (below_new y (.cells #[.int .i64 n.g.ls, .int .i64 n.g.la, .int .i64 n.g.hs, .int .i64 n.g.ha, .int .i64 n.g.v, .int .i64 n.pa, .int .i64 n.c0, .int .i64 n.c1, .bool n.red] 74))
  have hBY := bt HBy.out (below_new y (.cells #[.int .i64 n.g.ls, .int .i64 n.g.la, .int .i64 n.g.hs, .int .i64 n.g.ha, .int .i64 n.g.v, .int .i64 n.pa, .int .i64 n.c0, .int .i64 n.c1, .bool n.red] 74))
  generalize (y.alloc (.cells #[.int .i64 n.g.ls, .int .i64 n.g.la, .int .i64 n.g.hs, .int .i64 n.g.ha, .int .i64 n.g.v, .int .i64 n.pa, .int .i64 n.c0, .int .i64 n.c1, .bool n.red] 74)) = Y at *
  generalize y.heap.size = N at *
  have k0 : Y.cell? ⟨N, 0, none⟩ = some (.int .i64 n.g.ls) := (cell_of_row _ _ 0 _ _ _ hNY).trans rfl
  have k1 : Y.cell? ⟨N, 1, none⟩ = some (.int .i64 n.g.la) := (cell_of_row _ _ 1 _ _ _ hNY).trans rfl
  have k2 : Y.cell? ⟨N, 2, none⟩ = some (.int .i64 n.g.hs) := (cell_of_row _ _ 2 _ _ _ hNY).trans rfl
  have k3 : Y.cell? ⟨N, 3, none⟩ = some (.int .i64 n.g.ha) := (cell_of_row _ _ 3 _ _ _ hNY).trans rfl
  have k4 : Y.cell? ⟨N, 4, none⟩ = some (.int .i64 n.g.v) := (cell_of_row _ _ 4 _ _ _ hNY).trans rfl
  obtain ⟨d0, d1, d2, d3, d4⟩ := five_cells (g := g0) hRY
  have z0 := five_frozen (g := g0) hRY 0
  have z1 := five_frozen (g := g0) hRY 1
  have z2 := five_frozen (g := g0) hRY 2
  have z3 := five_frozen (g := g0) hRY 3
  have z4 := five_frozen (g := g0) hRY 4
  obtain ⟨q0, q1, q2, q3, q4⟩ := five_cells (five_put (g := g0) hRY n.g)
  have HE := Lib.hid (seg5_below hBY (Nat.le_refl _) n.g)
  simp only [Nat.zero_add] at d1 d2 d3 d4 q1 q2 q3 q4
  clear hNY hRY hBY
  go_wp2_with fail
  refine bodyPost_ret (v := .tuple #[vG n.g, .bool b]) (by simp [results, Try.results44, go_sem, q0, q1, q2, q3, q4]) rfl ?_
  exact ⟨rfl, HE.out⟩
end Go.Proofs.Ytakkmnhiaddnnaa

/- What is told of the nearest nodes: the walks. -/
namespace Go.Proofs.Ytakkmnhiaddnnaa
open Go.RowKit Go.Sort Go.Proofs.Ytakkmnhiaddnnaa.Bo
set_option linter.unusedVariables false

set_option maxRecDepth 100000 in
set_option maxHeartbeats 2000000 in
theorem rfloor_core (T : Nat) (x y : Int) (r : Int) (g : G5) (b : Bool) (w : World)
    (HN : Hid (∀ W, Go.RowKit.Below w.heap.size w W → Calls Try.prog 45 #[aP T, .agg #[.int .i64 x, .int .i64 y]] W fun e w' => e = .returned (.int .i64 r) ∧ Go.RowKit.Below W.heap.size W w'))
    (HD : Hid (∀ W, Go.RowKit.Below w.heap.size w W → Calls Try.prog 44 #[aP T, .int .i64 r] W fun e w' => e = .returned (.tuple #[vG g, .bool b]) ∧ Go.RowKit.Below W.heap.size W w')) :
    Calls Try.prog 19 #[aP T, .agg #[.int .i64 x, .int .i64 y]] w fun e w' => e = .returned (.tuple #[vG g, .bool b]) ∧ Go.RowKit.Below w.heap.size w w' := by
  have mx := mixed
  have HR0 := Lib.hid (show ((w.alloc (.cells #[.int .i64 x, .int .i64 y] 31)).alloc zG).heap[w.heap.size + 1]? = some zG from new_at' _ (by simp))
  have HK0 := Lib.hid (show ((w.alloc (.cells #[.int .i64 x, .int .i64 y] 31)).alloc zG).heap[w.heap.size]? = some (.cells #[.int .i64 x, .int .i64 y] 31) from box_on (heap_alloc_new _ _) (below_new _ _))
  have HB0 := Lib.hid (bt (below_new w (.cells #[.int .i64 x, .int .i64 y] 31)) (below_new _ zG))
  go_enter Try.func19, Try.ntmps19
  go_wp2_with fail
  refine (HN.out _ HB0.out).mono ?_
  rintro e y1 ⟨rfl, hb⟩
  have HR1 := Lib.hid (box_on HR0.out hb)
  have HB1 := Lib.hid (bt HB0.out hb)
  clear hb
  go_wp2_with fail
  refine (HD.out _ HB1.out).mono ?_
  rintro e y2 ⟨rfl, hb⟩
  have hR := box_on HR1.out hb
  have hBY := bt HB1.out hb
  clear hb
  obtain ⟨d0, d1, d2, d3, d4⟩ := five_cells (g := g0) hR
  have z0 := five_frozen (g := g0) hR 0
  have z1 := five_frozen (g := g0) hR 1
  have z2 := five_frozen (g := g0) hR 2
  have z3 := five_frozen (g := g0) hR 3
  have z4 := five_frozen (g := g0) hR 4
  obtain ⟨q0, q1, q2, q3, q4⟩ := five_cells (five_put (g := g0) hR g)
  have HE := Lib.hid (seg5_below (b := w.heap.size + 1) hBY (by omega) g)
  simp only [Nat.zero_add] at d1 d2 d3 d4 q1 q2 q3 q4
  clear hR hBY
  go_wp2_with fail
  refine bodyPost_ret (v := .tuple #[vG g, .bool b]) (by simp [results, Try.results19, go_sem, q0, q1, q2, q3, q4]) rfl ?_
  exact ⟨rfl, HE.out⟩
set_option maxRecDepth 100000 in
set_option maxHeartbeats 2000000 in
theorem rhigher_core (T : Nat) (x y : Int) (r : Int) (g : G5) (b : Bool) (w : World)
    (HN : Hid (∀ W, Go.RowKit.Below w.heap.size w W → Calls Try.prog 50 #[aP T, .agg #[.int .i64 x, .int .i64 y]] W fun e w' => e = .returned (.int .i64 r) ∧ Go.RowKit.Below W.heap.size W w'))
    (HD : Hid (∀ W, Go.RowKit.Below w.heap.size w W → Calls Try.prog 44 #[aP T, .int .i64 r] W fun e w' => e = .returned (.tuple #[vG g, .bool b]) ∧ Go.RowKit.Below W.heap.size W w')) :
    Calls Try.prog 22 #[aP T, .agg #[.int .i64 x, .int .i64 y]] w fun e w' => e = .returned (.tuple #[vG g, .bool b]) ∧ Go.RowKit.Below w.heap.size w w' := by
  have mx := mixed
  have HR0 := Lib.hid (show ((w.alloc (.cells #[.int .i64 x, .int .i64 y] 31)).alloc zG).heap[w.heap.size + 1]? = some zG from new_at' _ (by simp))
  have HK0 := Lib.hid (show ((w.alloc (.cells #[.int .i64 x, .int .i64 y] 31)).alloc zG).heap[w.heap.size]? = some (.cells #[.int .i64 x, .int .i64 y] 31) from box_on (heap_alloc_new _ _) (below_new _ _))
  have HB0 := Lib.hid (bt (below_new w (.cells #[.int .i64 x, .int .i64 y] 31)) (below_new _ zG))
  go_enter Try.func22, Try.ntmps22
  go_wp2_with fail
  refine (HN.out _ HB0.out).mono ?_
  rintro e y1 ⟨rfl, hb⟩
  have HR1 := Lib.hid (box_on HR0.out hb)
  have HB1 := Lib.hid (bt HB0.out hb)
  clear hb
  go_wp2_with fail
  refine (HD.out _ HB1.out).mono ?_
  rintro e y2 ⟨rfl, hb⟩
  have hR := box_on HR1.out hb
  have hBY := bt HB1.out hb
  clear hb
  obtain ⟨d0, d1, d2, d3, d4⟩ := five_cells (g := g0) hR
  have z0 := five_frozen (g := g0) hR 0
  have z1 := five_frozen (g := g0) hR 1
  have z2 := five_frozen (g := g0) hR 2
  have z3 := five_frozen (g := g0) hR 3
  have z4 := five_frozen (g := g0) hR 4
  obtain ⟨q0, q1, q2, q3, q4⟩ := five_cells (five_put (g := g0) hR g)
  have HE := Lib.hid (seg5_below (b := w.heap.size + 1) hBY (by omega) g)
  simp only [Nat.zero_add] at d1 d2 d3 d4 q1 q2 q3 q4
  clear hR hBY
  go_wp2_with fail
  refine bodyPost_ret (v := .tuple #[vG g, .bool b]) (by simp [results, Try.results22, go_sem, q0, q1, q2, q3, q4]) rfl ?_
  exact ⟨rfl, HE.out⟩
set_option maxRecDepth 100000 in
set_option maxHeartbeats 2000000 in
theorem rget_core (T : Nat) (x y : Int) (r : Int) (g : G5) (b : Bool) (w : World)
    (HN : Hid (∀ W, Go.RowKit.Below w.heap.size w W → Calls Try.prog 52 #[aP T, .agg #[.int .i64 x, .int .i64 y]] W fun e w' => e = .returned (.int .i64 r) ∧ Go.RowKit.Below W.heap.size W w'))
    (HD : Hid (∀ W, Go.RowKit.Below w.heap.size w W → Calls Try.prog 44 #[aP T, .int .i64 r] W fun e w' => e = .returned (.tuple #[vG g, .bool b]) ∧ Go.RowKit.Below W.heap.size W w')) :
    Calls Try.prog 24 #[aP T, .agg #[.int .i64 x, .int .i64 y]] w fun e w' => e = .returned (.tuple #[vG g, .bool b]) ∧ Go.RowKit.Below w.heap.size w w' := by
  have mx := mixed
  have HR0 := Lib.hid (show ((w.alloc (.cells #[.int .i64 x, .int .i64 y] 31)).alloc zG).heap[w.heap.size + 1]? = some zG from new_at' _ (by simp))
  have HK0 := Lib.hid (show ((w.alloc (.cells #[.int .i64 x, .int .i64 y] 31)).alloc zG).heap[w.heap.size]? = some (.cells #[.int .i64 x, .int .i64 y] 31) from box_on (heap_alloc_new _ _) (below_new _ _))
  have HB0 := Lib.hid (bt (below_new w (.cells #[.int .i64 x, .int .i64 y] 31)) (below_new _ zG))
  go_enter Try.func24, Try.ntmps24
  go_wp2_with fail
  refine (HN.out _ HB0.out).mono ?_
  rintro e y1 ⟨rfl, hb⟩
  have HR1 := Lib.hid (box_on HR0.out hb)
  have HB1 := Lib.hid (bt HB0.out hb)
  clear hb
  go_wp2_with fail
  refine (HD.out _ HB1.out).mono ?_
  rintro e y2 ⟨rfl, hb⟩
  have hR := box_on HR1.out hb
  have hBY := bt HB1.out hb
  clear hb
  obtain ⟨d0, d1, d2, d3, d4⟩ := five_cells (g := g0) hR
  have z0 := five_frozen (g := g0) hR 0
  have z1 := five_frozen (g := g0) hR 1
  have z2 := five_frozen (g := g0) hR 2
  have z3 := five_frozen (g := g0) hR 3
  have z4 := five_frozen (g := g0) hR 4
  obtain ⟨q0, q1, q2, q3, q4⟩ := five_cells (five_put (g := g0) hR g)
  have HE := Lib.hid (seg5_below (b := w.heap.size + 1) hBY (by omega) g)
  simp only [Nat.zero_add] at d1 d2 d3 d4 q1 q2 q3 q4
  clear hR hBY
  go_wp2_with fail
  refine bodyPost_ret (v := .tuple #[vG g, .bool b]) (by simp [results, Try.results24, go_sem, q0, q1, q2, q3, q4]) rfl ?_
  exact ⟨rfl, HE.out⟩
set_option maxRecDepth 100000 in
set_option maxHeartbeats 2000000 in
theorem rlower_core (T : Nat) (x y : Int) (r : Int) (g : G5) (b : Bool) (w : World)
    (HN : Hid (∀ W, Go.RowKit.Below w.heap.size w W → W.heap[w.heap.size]? = some (.cells #[.int .i64 x, .int .i64 y] 31) → Calls Try.prog 46 #[aP T, .int .i64 1, .func (.func 47) #[] #[.pointer (some ⟨w.heap.size, 0, none⟩)]] W fun e w' => e = .returned (.int .i64 r) ∧ Go.RowKit.Below W.heap.size W w'))
    (HD : Hid (∀ W, Go.RowKit.Below w.heap.size w W → Calls Try.prog 44 #[aP T, .int .i64 r] W fun e w' => e = .returned (.tuple #[vG g, .bool b]) ∧ Go.RowKit.Below W.heap.size W w')) :
    Calls Try.prog 20 #[aP T, .agg #[.int .i64 x, .int .i64 y]] w fun e w' => e = .returned (.tuple #[vG g, .bool b]) ∧ Go.RowKit.Below w.heap.size w w' := by
  have mx := mixed
  have HR0 := Lib.hid (show ((w.alloc (.cells #[.int .i64 x, .int .i64 y] 31)).alloc zG).heap[w.heap.size + 1]? = some zG from new_at' _ (by simp))
  have HK0 := Lib.hid (show ((w.alloc (.cells #[.int .i64 x, .int .i64 y] 31)).alloc zG).heap[w.heap.size]? = some (.cells #[.int .i64 x, .int .i64 y] 31) from box_on (heap_alloc_new _ _) (below_new _ _))
  have HB0 := Lib.hid (bt (below_new w (.cells #[.int .i64 x, .int .i64 y] 31)) (below_new _ zG))
  go_enter Try.func20, Try.ntmps20
  go_wp2_with fail
  refine (HN.out _ HB0.out HK0.out).mono ?_
  rintro e y1 ⟨rfl, hb⟩
  have HR1 := Lib.hid (box_on HR0.out hb)
  have HB1 := Lib.hid (bt HB0.out hb)
  clear hb
  go_wp2_with fail
  refine (HD.out _ HB1.out).mono ?_
  rintro e y2 ⟨rfl, hb⟩
  have hR := box_on HR1.out hb
  have hBY := bt HB1.out hb
  clear hb
  obtain ⟨d0, d1, d2, d3, d4⟩ := five_cells (g := g0) hR
  have z0 := five_frozen (g := g0) hR 0
  have z1 := five_frozen (g := g0) hR 1
  have z2 := five_frozen (g := g0) hR 2
  have z3 := five_frozen (g := g0) hR 3
  have z4 := five_frozen (g := g0) hR 4
  obtain ⟨q0, q1, q2, q3, q4⟩ := five_cells (five_put (g := g0) hR g)
  have HE := Lib.hid (seg5_below (b := w.heap.size + 1) hBY (by omega) g)
  simp only [Nat.zero_add] at d1 d2 d3 d4 q1 q2 q3 q4
  clear hR hBY
  go_wp2_with fail
  refine bodyPost_ret (v := .tuple #[vG g, .bool b]) (by simp [results, Try.results20, go_sem, q0, q1, q2, q3, q4]) rfl ?_
  exact ⟨rfl, HE.out⟩
set_option maxRecDepth 100000 in
set_option maxHeartbeats 2000000 in
theorem rceiling_core (T : Nat) (x y : Int) (r : Int) (g : G5) (b : Bool) (w : World)
    (HN : Hid (∀ W, Go.RowKit.Below w.heap.size w W → W.heap[w.heap.size]? = some (.cells #[.int .i64 x, .int .i64 y] 31) → Calls Try.prog 46 #[aP T, .int .i64 0, .func (.func 49) #[] #[.pointer (some ⟨w.heap.size, 0, none⟩)]] W fun e w' => e = .returned (.int .i64 r) ∧ Go.RowKit.Below W.heap.size W w'))
    (HD : Hid (∀ W, Go.RowKit.Below w.heap.size w W → Calls Try.prog 44 #[aP T, .int .i64 r] W fun e w' => e = .returned (.tuple #[vG g, .bool b]) ∧ Go.RowKit.Below W.heap.size W w')) :
    Calls Try.prog 21 #[aP T, .agg #[.int .i64 x, .int .i64 y]] w fun e w' => e = .returned (.tuple #[vG g, .bool b]) ∧ Go.RowKit.Below w.heap.size w w' := by
  have mx := mixed
  have HR0 := Lib.hid (show ((w.alloc (.cells #[.int .i64 x, .int .i64 y] 31)).alloc zG).heap[w.heap.size + 1]? = some zG from new_at' _ (by simp))
  have HK0 := Lib.hid (show ((w.alloc (.cells #[.int .i64 x, .int .i64 y] 31)).alloc zG).heap[w.heap.size]? = some (.cells #[.int .i64 x, .int .i64 y] 31) from box_on (heap_alloc_new _ _) (below_new _ _))
  have HB0 := Lib.hid (bt (below_new w (.cells #[.int .i64 x, .int .i64 y] 31)) (below_new _ zG))
  go_enter Try.func21, Try.ntmps21
  go_wp2_with fail
  refine (HN.out _ HB0.out HK0.out).mono ?_
  rintro e y1 ⟨rfl, hb⟩
  have HR1 := Lib.hid (box_on HR0.out hb)
  have HB1 := Lib.hid (bt HB0.out hb)
  clear hb
  go_wp2_with fail
  refine (HD.out _ HB1.out).mono ?_
  rintro e y2 ⟨rfl, hb⟩
  have hR := box_on HR1.out hb
  have hBY := bt HB1.out hb
  clear hb
  obtain ⟨d0, d1, d2, d3, d4⟩ := five_cells (g := g0) hR
  have z0 := five_frozen (g := g0) hR 0
  have z1 := five_frozen (g := g0) hR 1
  have z2 := five_frozen (g := g0) hR 2
  have z3 := five_frozen (g := g0) hR 3
  have z4 := five_frozen (g := g0) hR 4
  obtain ⟨q0, q1, q2, q3, q4⟩ := five_cells (five_put (g := g0) hR g)
  have HE := Lib.hid (seg5_below (b := w.heap.size + 1) hBY (by omega) g)
  simp only [Nat.zero_add] at d1 d2 d3 d4 q1 q2 q3 q4
  clear hR hBY
  go_wp2_with fail
  refine bodyPost_ret (v := .tuple #[vG g, .bool b]) (by simp [results, Try.results21, go_sem, q0, q1, q2, q3, q4]) rfl ?_
  exact ⟨rfl, HE.out⟩
set_option maxRecDepth 100000 in
set_option maxHeartbeats 2000000 in
theorem rfirst_core (T : Nat) (g : G5) (b : Bool) (w : World)
    (HN : Hid (∀ W, Calls Try.prog 54 #[] W fun e w' => e = .returned (.agg #[.int .i64 (-1), .int .i64 0]) ∧ Go.RowKit.Below W.heap.size W w'))
    (HD : Hid (∀ W, Go.RowKit.Below w.heap.size w W → Calls Try.prog 21 #[aP T, .agg #[.int .i64 (-1), .int .i64 0]] W fun e w' => e = .returned (.tuple #[vG g, .bool b]) ∧ Go.RowKit.Below W.heap.size W w')) :
    Calls Try.prog 26 #[aP T] w fun e w' => e = .returned (.tuple #[vG g, .bool b]) ∧ Go.RowKit.Below w.heap.size w w' := by
  have mx := mixed
  have HR0 := Lib.hid (heap_alloc_new w zG)
  have HB0 := Lib.hid (below_new w zG)
  go_enter Try.func26, Try.ntmps26
  go_wp2_with fail
  refine (HN.out _).mono ?_
  rintro e y1 ⟨rfl, hb⟩
  have HR1 := Lib.hid (box_on HR0.out hb)
  have HB1 := Lib.hid (bt HB0.out hb)
  clear hb
  go_wp2_with fail
  refine (HD.out _ HB1.out).mono ?_
  rintro e y2 ⟨rfl, hb⟩
  have hR := box_on HR1.out hb
  have hBY := bt HB1.out hb
  clear hb
  obtain ⟨d0, d1, d2, d3, d4⟩ := five_cells (g := g0) hR
  have z0 := five_frozen (g := g0) hR 0
  have z1 := five_frozen (g := g0) hR 1
  have z2 := five_frozen (g := g0) hR 2
  have z3 := five_frozen (g := g0) hR 3
  have z4 := five_frozen (g := g0) hR 4
  obtain ⟨q0, q1, q2, q3, q4⟩ := five_cells (five_put (g := g0) hR g)
  have HE := Lib.hid (seg5_below (b := w.heap.size) hBY (by omega) g)
  simp only [Nat.zero_add] at d1 d2 d3 d4 q1 q2 q3 q4
  clear hR hBY
  go_wp2_with fail
  refine bodyPost_ret (v := .tuple #[vG g, .bool b]) (by simp [results, Try.results26, go_sem, q0, q1, q2, q3, q4]) rfl ?_
  exact ⟨rfl, HE.out⟩
set_option maxRecDepth 100000 in
set_option maxHeartbeats 2000000 in
theorem rlast_core (T : Nat) (g : G5) (b : Bool) (w : World)
    (HN : Hid (∀ W, Calls Try.prog 55 #[] W fun e w' => e = .returned (.agg #[.int .i64 1, .int .i64 0]) ∧ Go.RowKit.Below W.heap.size W w'))
    (HD : Hid (∀ W, Go.RowKit.Below w.heap.size w W → Calls Try.prog 19 #[aP T, .agg #[.int .i64 1, .int .i64 0]] W fun e w' => e = .returned (.tuple #[vG g, .bool b]) ∧ Go.RowKit.Below W.heap.size W w')) :
    Calls Try.prog 27 #[aP T] w fun e w' => e = .returned (.tuple #[vG g, .bool b]) ∧ Go.RowKit.Below w.heap.size w w' := by
  have mx := mixed
  have HR0 := Lib.hid (heap_alloc_new w zG)
  have HB0 := Lib.hid (below_new w zG)
  go_enter Try.func27, Try.ntmps27
  go_wp2_with fail
  refine (HN.out _).mono ?_
  rintro e y1 ⟨rfl, hb⟩
  have HR1 := Lib.hid (box_on HR0.out hb)
  have HB1 := Lib.hid (bt HB0.out hb)
  clear hb
  go_wp2_with fail
  refine (HD.out _ HB1.out).mono ?_
  rintro e y2 ⟨rfl, hb⟩
  have hR := box_on HR1.out hb
  have hBY := bt HB1.out hb
  clear hb
  obtain ⟨d0, d1, d2, d3, d4⟩ := five_cells (g := g0) hR
  have z0 := five_frozen (g := g0) hR 0
  have z1 := five_frozen (g := g0) hR 1
  have z2 := five_frozen (g := g0) hR 2
  have z3 := five_frozen (g := g0) hR 3
  have z4 := five_frozen (g := g0) hR 4
  obtain ⟨q0, q1, q2, q3, q4⟩ := five_cells (five_put (g := g0) hR g)
  have HE := Lib.hid (seg5_below (b := w.heap.size) hBY (by omega) g)
  simp only [Nat.zero_add] at d1 d2 d3 d4 q1 q2 q3 q4
  clear hR hBY
  go_wp2_with fail
  refine bodyPost_ret (v := .tuple #[vG g, .bool b]) (by simp [results, Try.results27, go_sem, q0, q1, q2, q3, q4]) rfl ?_
  exact ⟨rfl, HE.out⟩
end Go.Proofs.Ytakkmnhiaddnnaa
