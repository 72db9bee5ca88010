/- The contract of the reference's Same, where both rows are one. -/
import Derived.Test.YtbpplhlkpfdegaaCutRS
namespace Go.Proofs.Ytbpplhlkpfdegaa
open Go.RowKit Go.Sort Go.Proofs.Ytbpplhlkpfdegaa.Bo
set_option linter.unusedVariables false

def cutOf (k : Int) : Int × Int := (sd k, pa k)
theorem kOf_cutOf (k : Int) (h : Ky k) : kOf (cutOf k) = k := key_back k h
theorem map_cutOf (ks : List Int) (h : ∀ k ∈ ks, Ky k) : (ks.map cutOf).map kOf = ks := by
  rw [List.map_map]
  conv => rhs; rw [← List.map_id ks]
  exact List.map_congr_left fun k hk => kOf_cutOf k (h k hk)
theorem crow_of_row {w : World} {g cap : Nat} {ks : List Int} (h : RowAt w g cap ks) : CRow w (some ⟨g, 0, none⟩) (ks.map cutOf) := by
  intro _
  refine ⟨g, 0, rfl, fun j hj => ?_⟩
  rw [List.length_map] at hj
  have := h.2.2 j hj
  rw [List.getElem_map, Nat.zero_add]
  exact this
theorem crow_of_own {w : World} {base N : Nat} {v : Value} {ks : List Int} (h : w.ownsRow base 27 2 v ks.length (flatL ks)) (ho : OutIs N ks v) : ∃ a cap, v = .slice a ks.length cap ∧ CRow w a (ks.map cutOf) := by
  rcases ho with ⟨rfl, rfl⟩ | ⟨g, cap, q, hq, rfl, _⟩
  · exact ⟨none, 0, rfl, fun h => by simp at h⟩
  · refine ⟨some ⟨g, 0, none⟩, cap, by rw [hq], fun _ => ⟨g, 0, rfl, fun j hj => ?_⟩⟩
    rw [List.length_map] at hj
    have := own_cells h rfl j hj
    rw [List.getElem_map, Nat.zero_add]
    exact this

set_option maxRecDepth 100000 in
set_option maxHeartbeats 4000000 in
theorem same_any (a a2 : Option Addr) (cap cap2 : Nat) (cs : List (Int × Int)) (w : World) (h1 : CRow w a cs) (h2 : CRow w a2 cs) (hl : cs.length ≤ 100000) :
    Calls Try.prog 7 #[.slice a cs.length cap, .slice a2 cs.length cap2] w fun e w' => e = .returned (.bool true) ∧ Go.RowKit.Below w.heap.size w w' := by
  have mx := mixed
  have nec := neq_cut
  have H1 := Lib.hid h1
  have H2 := Lib.hid h2
  clear h1 h2
  have tl : ((cs.length : Int) != (cs.length : Int)) = false := by simp
  go_enter Try.func7, Try.ntmps7
  go_wp2_with fail
  go_loopw [5] (fun i wr => ∃ j : Nat, i = .int .i64 (j : Int) ∧ j ≤ cs.length ∧ Go.RowKit.Below w.heap.size w wr) (fun i _ => cs.length - (intOf i).toNat)
  case atStart => exact ⟨0, rfl, Nat.zero_le _, Go.RowKit.Below.refl _ _⟩
  case round =>
    obtain ⟨j, rfl, hj, hBr⟩ := hrel
    by_cases hlt : j < cs.length
    · obtain ⟨b, off, rfl, hc⟩ := (H1.out.below hBr) (by omega)
      obtain ⟨b2, off2, rfl, hd⟩ := (H2.out.below hBr) (by omega)
      obtain ⟨c1, c2⟩ := hc j hlt
      obtain ⟨d1, d2⟩ := hd j hlt
      clear hc hd
      generalize cs[j].1 = x at *
      generalize cs[j].2 = y at *
      have p1 := cell_regrown c1
      have p2 := cell_regrown c2
      have p3 := cell_regrown d1
      have p4 := cell_regrown d2
      clear c1 c2 d1 d2
      go_wp2_with fail
      refine wp_region_quiet_below (by assumption) (by kernel_rfl) ?_
      repeat (go_big_quiet_step (fail))
      refine wpQuiet_nil ?_
      intro _ hw'
      obtain ⟨⟨nq, osq⟩, hw''⟩ := hw'
      subst hw''
      have hBn := bt hBr (below_regrown wr nq osq)
      clear p1 p2 p3 p4
      go_wp2_with fail
      go_roundw
      case rel => exact ⟨j + 1, by go_num, by omega, hBn⟩
      case measure => simp [intOf]; omega
    · obtain rfl : j = cs.length := by omega
      go_wp2_with fail
      go_ret
      exact ⟨rfl, hBr⟩
end Go.Proofs.Ytbpplhlkpfdegaa
