/- The contract of cut.Sort. -/
import Derived.Test.YtbpplhlkpfdegaaCutSf
import Derived.Deep.AppendLies
namespace Go.Proofs.Ytbpplhlkpfdegaa
open Go.RowKit Go.Sort Go.Proofs.Ytbpplhlkpfdegaa.Bo
set_option linter.unusedVariables false

/-- The cells of the right cuts of these. -/
def flatC (cs : List (Int × Int)) : List Value := cs.flatMap fun c => [.int .i64 (sd (kOf c)), .int .i64 (pa (kOf c))]
theorem flatC_len (cs : List (Int × Int)) : (flatC cs).length = cs.length * 2 := by
  unfold flatC
  induction cs with
  | nil => rfl
  | cons a l ih => rw [List.flatMap_cons, List.length_append, ih]; simp; omega
theorem flatC_snoc (cs : List (Int × Int)) (c : Int × Int) : flatC (cs ++ [c]) = flatC cs ++ [.int .i64 (sd (kOf c)), .int .i64 (pa (kOf c))] := by
  unfold flatC; rw [List.flatMap_append]; simp
theorem flatC_get (cs : List (Int × Int)) (j : Nat) (hj : j < cs.length) : (flatC cs)[j * 2]? = some (.int .i64 (sd (kOf cs[j]))) ∧ (flatC cs)[j * 2 + 1]? = some (.int .i64 (pa (kOf cs[j]))) := by
  induction cs generalizing j with
  | nil => simp at hj
  | cons a l ih =>
    cases j with
    | zero => exact ⟨rfl, rfl⟩
    | succ j =>
      have := ih j (by simpa using hj)
      unfold flatC at *
      rw [List.flatMap_cons]
      rw [show (j + 1) * 2 = j * 2 + 2 by omega]
      simpa [List.getElem?_append] using this
theorem own_on {w w' : World} {base : Nat} {e : TypeId} {size : Nat} {v : Value} {n : Nat} {xs : List Value} (h : w.ownsRow base e size v n xs) (hb : Go.RowKit.Below w.heap.size w w') : w'.ownsRow base e size v n xs := by
  obtain ⟨h1, h2⟩ := h
  refine ⟨h1, ?_⟩
  rcases h2 with h2 | ⟨g, cap, cur, hv, hg, hh, r⟩
  · exact .inl h2
  · exact .inr ⟨g, cap, cur, hv, hg, (hb.block _ (lt_of_block hh)).trans hh, r⟩
theorem row_of_own2 {w : World} {base g cap n : Nat} {cs : List (Int × Int)} (h : w.ownsRow base 27 2 (.slice (some ⟨g, 0, none⟩) n cap) n (flatC cs)) (hn : n = cs.length) : RowAt w g cap (cs.map kOf) ∧ base ≤ g ∧ cap ≤ maxLen := by
  rcases h.2 with ⟨h1, _⟩ | ⟨g', cap', cur, h1, hb, hh, hnc, hcm, hcs, htake⟩
  · cases h1
  · injection h1 with e1 e2 e3
    injection e1 with e1
    injection e1 with e1
    subst e1 e3
    refine ⟨⟨⟨cur, hh, hcs⟩, by rw [List.length_map]; omega, fun j hj => ?_⟩, hb, hcm⟩
    rw [List.length_map] at hj
    obtain ⟨f1, f2⟩ := flatC_get cs j hj
    rw [← htake, List.getElem?_take, if_pos (by omega)] at f1 f2
    rw [List.getElem_map]
    exact ⟨(cell_of_row _ _ _ _ _ _ hh).trans (by simpa using f1), (cell_of_row _ _ _ _ _ _ hh).trans (by simpa using f2)⟩
theorem one_two (a b : Int) : ∀ u ∈ ([.int .i64 a, .int .i64 b] : List Value), u.oneCell' = true := by
  intro u hu
  simp at hu
  rcases hu with rfl | rfl <;> rfl
theorem Try.infoCut : (Try.prog.info? 27).map (fun i => (i.zero, i.size, i.bytes)) = some (some (.agg #[.int .i64 0, .int .i64 0]), 2, 16) := by kernel_rfl

set_option maxRecDepth 100000 in
set_option maxHeartbeats 4000000 in
theorem csort_any (a : Option Addr) (cap0 : Nat) (cs : List (Int × Int)) (w : World) (hz : ∀ c ∈ cs, I64 c.2) (hr : CRow w a cs) (hl : cs.length ≤ 100) :
    Calls Try.prog 5 #[.slice a cs.length cap0] w fun e w' => ∃ (g cap : Nat) (ks : List Int), (e = .returned (.slice (some ⟨g, 0, none⟩) ks.length cap) ∧ Up ks ∧ (∀ x, x ∈ ks ↔ x ∈ cs.map kOf) ∧ RowAt w' g cap ks ∧ ks.length ≤ 100) ∧ Go.RowKit.Below w.heap.size w w' := by
  obtain ⟨i0, hi, hz0, hz1, hz2⟩ := info_parts Try.infoCut
  have HR := Lib.hid hr
  have HZ := Lib.hid hz
  clear hr hz
  go_enter Try.func5, Try.ntmps5
  go_wp2_with (at_make; refine wpList_make_own _ rfl _ _ 22 rfl w.heap.size 27 i0 (.agg #[.int .i64 0, .int .i64 0]) 2 Try.underlying22 hi hz0 hz1 _ _ _ cs.length rfl rfl (by omega) (by rw [hz2]; omega) (by unfold maxLen; omega) (Nat.le_refl _) ?_; intro w0 hown0 hgrow0)
  have hB0 : Go.RowKit.Below w.heap.size w w0 := (Go.RowKit.Below.refl _ _).grown hgrow0 (Nat.le_refl _) (fun j hj => by cases hj)
  have HO := Lib.hid hown0
  clear hown0 hgrow0
  go_loopw [3, 11] (fun s3 i wr => ∃ (j g cap : Nat), i = .int .i64 (j : Int) ∧ s3 = .slice (some ⟨g, 0, none⟩) j cap ∧ j ≤ cs.length ∧ wr.ownsRow w.heap.size 27 2 (.slice (some ⟨g, 0, none⟩) j cap) j (flatC (cs.take j)) ∧ Go.RowKit.Below w.heap.size w wr) (fun _ i _ => cs.length - (intOf i).toNat)
  case atStart => exact ⟨0, _, _, rfl, rfl, Nat.zero_le _, HO.out, hB0⟩
  case round =>
    clear HO hB0
    obtain ⟨j, g, cap, rfl, rfl, hj, hown, hBr⟩ := hrel
    have HO := Lib.hid hown
    clear hown
    by_cases hlt : j < cs.length
    · obtain ⟨b, off, rfl, hcell⟩ := (HR.out.below hBr) (by omega)
      obtain ⟨hc1, hc2⟩ := hcell j hlt
      have HCAN := Lib.hid (fun W => canon_b cs[j].1 cs[j].2 (HZ.out _ (List.getElem_mem hlt)) W)
      have HE : Hid (flatC (cs.take (j + 1)) = flatC (cs.take j) ++ [.int .i64 (sd (kOf cs[j])), .int .i64 (pa (kOf cs[j]))]) := by
        show _ = _
        rw [List.take_succ_eq_append_getElem hlt, flatC_snoc]
      rw [show key cs[j].1 cs[j].2 = kOf cs[j] from rfl] at HCAN
      generalize sd (kOf cs[j]) = sk at *
      generalize pa (kOf cs[j]) = pk at *
      generalize cs[j].1 = c1 at *
      generalize cs[j].2 = c2 at *
      have hsz := hBr.size
      clear hcell
      go_wp2_with fail
      refine (HCAN.out _).mono ?_
      rintro e y1 ⟨rfl, hB1⟩
      have hB2 := bt (below_new wr (.cells #[.int .i64 c1, .int .i64 c2] 27)) hB1
      have hOn := own_on HO.out hB2
      have hL2 := bt hBr hB2
      have hL3 := bt hL2 (below_new y1 (.cells #[.int .i64 sk, .int .i64 pk] 27))
      have HO2 := Lib.hid (hOn.alloc (.cells #[.int .i64 sk, .int .i64 pk] 27))
      have hsz2 := hL2.size
      clear hB1 hB2 hOn HCAN HO hc1 hc2
      go_wp2_with (at_builtin; refine wpList_append_lies _ rfl _ _ 22 rfl w.heap.size 27 i0 (.agg #[.int .i64 0, .int .i64 0]) 2 16 Try.underlying22 hi hz0 hz1 hz2 rfl (by decide) _ j (flatC (cs.take j)) (by rfl) HO2.out ⟨y1.heap.size, 0, none⟩ 1 1 [.int .i64 sk, .int .i64 pk] (by rfl) rfl (World.news_of_block (heap_alloc_new y1 _)) (one_two sk pk) (by decide) (by unfold maxLen; omega) (by omega) (by simp; omega) _ rfl ?_; intro g2 cap2 w1 hown1 hgrow1 hat1 hlt1)
      have hL4 : Go.RowKit.Below w.heap.size w w1 := hL3.grown hgrow1 (by simp; omega) (fun k hk => (HO2.out.lt k hk).1)
      refine ⟨⟨j + 1, g2, cap2, by go_num, rfl, by omega, by rw [HE.out]; exact hown1, hL4⟩, ?_⟩
      simp [intOf]; omega
    · obtain rfl : j = cs.length := by omega
      have ho := HO.out
      rw [List.take_length] at ho
      obtain ⟨hrow, hbg, hcm⟩ := row_of_own2 ho rfl
      have hkl : (cs.map kOf).length = cs.length := List.length_map ..
      have hky : ∀ k ∈ cs.map kOf, Ky k := by
        intro k hk
        obtain ⟨c, hc, rfl⟩ := List.mem_map.1 hk
        exact key_ky _ _ (HZ.out c hc)
      have HS := Lib.hid (sortfunc_any w.heap.size g cap (cs.map kOf) wr hbg hrow hky (by omega))
      rw [hkl] at HS
      have HKY := Lib.hid hky
      have hgr : g < wr.heap.size := hrow.1.lt
      clear ho hrow hky HO hkl
      go_wp2_with fail
      refine HS.out.mono ?_
      rintro e y1 ⟨⟨rfl, ls, hll, hle, hmem, hrow1⟩, hB1⟩
      have HC := Lib.hid (compact_any w.heap.size g cap ls y1 hbg hrow1 (fun k hk => HKY.out k ((hmem k).1 hk)) (by unfold maxLen at hcm; omega) (by omega))
      rw [hll] at HC
      have HF := Lib.hid (And.intro (dd_up ls hle) hmem)
      have HDL : Hid ((dd ls).length ≤ 100) := by have := dd_le ls; show _ ≤ _; omega
      have hB2 := hBr.trans hB1
      clear hle hmem hrow1 HS hB1 hBr hll
      go_wp2_with fail
      refine HC.out.mono ?_
      rintro e y2 ⟨⟨rfl, hrow2⟩, hB3⟩
      have HR2 := Lib.hid hrow2
      have hB4 := hB2.trans hB3
      clear hrow2 hB3 HC
      go_wp2_with fail
      go_ret
      exact ⟨g, cap, dd ls, ⟨rfl, HF.out.1.1, fun x => (HF.out.1.2 x).trans (HF.out.2 x), HR2.out, HDL.out⟩, hB4⟩
end Go.Proofs.Ytbpplhlkpfdegaa
