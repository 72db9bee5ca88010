/- A part of the proof: contracts of the functions that the statements reach. -/
import Derived.Test.YtakkmnhiaddnnaaRows
import Derived.Test.YtakkmnhiaddnnaaCA
import Derived.Test.YtakkmnhiaddnnaaCB
import Derived.Test.YtakkmnhiaddnnaaCC
import Derived.Test.YtakkmnhiaddnnaaCD
import Derived.Test.YtakkmnhiaddnnaaCE
import Derived.Test.YtakkmnhiaddnnaaCF
import Derived.Test.YtakkmnhiaddnnaaCG
import Derived.Test.YtakkmnhiaddnnaaCH
import Derived.Test.YtakkmnhiaddnnaaCI
import Derived.Deep.RegionHeld3
import Derived.StillTailTactics

/- The arena of bocage/rbtree.node: Set, Free, take, Put, Reset. -/
namespace Go.Proofs.Ytakkmnhiaddnnaa
open Go.RowKit Go.Sort Go.Proofs.Ytakkmnhiaddnnaa.Bo
set_option linter.unusedVariables false

theorem Try.infoNd : (Try.prog.info? 111).map (fun i => (i.zero, i.size, i.bytes)) = some (some (.agg #[.int .i64 0, .int .i64 0, .int .i64 0, .int .i64 0, .int .i64 0, .int .i64 0, .int .i64 0, .int .i64 0, .bool false, .bool false]), 10, 80) := by kernel_rfl
set_option maxRecDepth 100000 in
theorem rnreset_core (A : Nat) (pv fv : Value) (room : Int) (w : World) (H : Hid (w.heap[A]? = some (rnO room pv fv))) :
    Calls Try.prog 68 #[aP A] w fun e w' => e = .returned (.tuple #[]) ∧ (w.setCell ⟨A, 1, none⟩ (.slice none 0 0)).setCell ⟨A, 2, none⟩ (.slice none 0 0) = w' := by
  obtain ⟨⟨c1, c2, c3⟩, e1, e2, e3⟩ := box3 H.out
  obtain ⟨⟨_, _, d3⟩, _, _, d4⟩ := box3 (heap_setCell_same w A 1 _ _ (.slice none 0 0) H.out)
  go_enter Try.func68, Try.ntmps68
  go_wp2_with fail
  go_end0
  exact ⟨rfl, rfl⟩
set_option maxRecDepth 100000 in
theorem rnfree_no_core (A : Nat) (i : Int) (w : World) (HA : Hid (Calls Try.prog 64 #[aP A, .int .i64 i] w fun e w' => e = .returned (.pointer none) ∧ w = w')) :
    Calls Try.prog 92 #[aP A, .int .i64 i] w fun e w' => e = .returned (.bool false) ∧ w = w' := by
  go_enter Try.func92, Try.ntmps92
  go_wp2_with fail
  refine HA.out.mono ?_
  rintro e w' ⟨rfl, rfl⟩
  go_wp2_with fail
  go_ret
  exact ⟨rfl, rfl⟩
set_option maxRecDepth 100000 in
set_option maxHeartbeats 4000000 in
theorem rnfree_yes_core (A g cap fn fc n base : Nat) (fa : Option Addr) (room : Int) (ps : List (Nd × Bool)) (fs : List Int) (w : World) (hfn : fn = fs.length) (hn : n < ps.length) (hl : ps.length ≤ 1000000) (hl2 : fs.length ≤ 1000000)
    (HS : Hid (rnAt w base A room (.slice (some ⟨g, 0, none⟩) ps.length cap) (.slice fa fn fc) ps fs)) (HA : Hid (Calls Try.prog 64 #[aP A, .int .i64 (n : Int)] w fun e w' => e = .returned (.pointer (some ⟨g, n * 10, none⟩)) ∧ w = w')) :
    Calls Try.prog 92 #[aP A, .int .i64 (n : Int)] w (GPost rnE 100 111 w base A room (.slice (some ⟨g, 0, none⟩) ps.length cap) (.slice fa fn fc) (ps.set n (rnZ, false)) (fs ++ [(n : Int)]) (.bool true)) := by
  obtain ⟨i0, hi, hz0, hz1, hz2⟩ := info_parts Try.infoInt
  obtain ⟨⟨b1, b2, b3⟩, _⟩ := box3 HS.out.box
  obtain ⟨g', cap', e0, hgA, hat, hfz⟩ := HS.out.at n hn
  injection e0 with e0 _ _
  injection e0 with e0
  injection e0 with e0
  subst e0
  have HS1 : Hid (rnAt ((((((((((w.setCell ⟨g, n * 10, none⟩ (.int .i64 0)).setCell ⟨g, n * 10 + 1, none⟩ (.int .i64 0)).setCell ⟨g, n * 10 + 2, none⟩ (.int .i64 0)).setCell ⟨g, n * 10 + 3, none⟩ (.int .i64 0)).setCell ⟨g, n * 10 + 4, none⟩ (.int .i64 0)).setCell ⟨g, n * 10 + 5, none⟩ (.int .i64 0)).setCell ⟨g, n * 10 + 6, none⟩ (.int .i64 0)).setCell ⟨g, n * 10 + 7, none⟩ (.int .i64 0)).setCell ⟨g, n * 10 + 8, none⟩ (.bool false)).setCell ⟨g, n * 10 + 9, none⟩ (.bool false)) base A room (.slice (some ⟨g, 0, none⟩) ps.length cap) (.slice fa fn fc) (ps.set n (rnZ, false)) fs ∧ Kp (FP A (.slice (some ⟨g, 0, none⟩) ps.length cap) (.slice fa fn fc)) w ((((((((((w.setCell ⟨g, n * 10, none⟩ (.int .i64 0)).setCell ⟨g, n * 10 + 1, none⟩ (.int .i64 0)).setCell ⟨g, n * 10 + 2, none⟩ (.int .i64 0)).setCell ⟨g, n * 10 + 3, none⟩ (.int .i64 0)).setCell ⟨g, n * 10 + 4, none⟩ (.int .i64 0)).setCell ⟨g, n * 10 + 5, none⟩ (.int .i64 0)).setCell ⟨g, n * 10 + 6, none⟩ (.int .i64 0)).setCell ⟨g, n * 10 + 7, none⟩ (.int .i64 0)).setCell ⟨g, n * 10 + 8, none⟩ (.bool false)).setCell ⟨g, n * 10 + 9, none⟩ (.bool false))) := HS.out.put n hn (rnZ, false)
  have i1 : (0 : Int) ≤ (n : Int) := by omega
  have i2 : (n : Int) < (ps.length : Int) := by omega
  have HFN := Lib.hid hfn
  obtain ⟨P0, hP0⟩ : ∃ P0, ps[n] = P0 := ⟨_, rfl⟩
  rw [hP0] at hat
  have c0 : w.cell? ⟨g, n * 10, none⟩ = some (.int .i64 P0.1.g.ls) := hat 0 _ rfl
  have c1 : w.cell? ⟨g, n * 10 + 1, none⟩ = some (.int .i64 P0.1.g.la) := hat 1 _ rfl
  have c2 : w.cell? ⟨g, n * 10 + 2, none⟩ = some (.int .i64 P0.1.g.hs) := hat 2 _ rfl
  have c3 : w.cell? ⟨g, n * 10 + 3, none⟩ = some (.int .i64 P0.1.g.ha) := hat 3 _ rfl
  have c4 : w.cell? ⟨g, n * 10 + 4, none⟩ = some (.int .i64 P0.1.g.v) := hat 4 _ rfl
  have c5 : w.cell? ⟨g, n * 10 + 5, none⟩ = some (.int .i64 P0.1.pa) := hat 5 _ rfl
  have c6 : w.cell? ⟨g, n * 10 + 6, none⟩ = some (.int .i64 P0.1.c0) := hat 6 _ rfl
  have c7 : w.cell? ⟨g, n * 10 + 7, none⟩ = some (.int .i64 P0.1.c1) := hat 7 _ rfl
  have c8 : w.cell? ⟨g, n * 10 + 8, none⟩ = some (.bool P0.1.red) := hat 8 _ rfl
  have c9 : w.cell? ⟨g, n * 10 + 9, none⟩ = some (.bool P0.2) := hat 9 _ rfl
  have u0 := c0
  have v0 := hfz (n * 10)
  have u1 : (w.setCell ⟨g, n * 10, none⟩ (.int .i64 0)).cell? ⟨g, n * 10 + 1, none⟩ = _ := (putQ_next g [.int .i64 0] w (n * 10) 1 (Nat.le_of_eq rfl)).trans c1
  have v1 : (w.setCell ⟨g, n * 10, none⟩ (.int .i64 0)).frozen? ⟨g, n * 10 + 1, none⟩ = false := (putQ_frozen g _ [.int .i64 0] w (n * 10)).trans (hfz (n * 10 + 1))
  have u2 : ((w.setCell ⟨g, n * 10, none⟩ (.int .i64 0)).setCell ⟨g, n * 10 + 1, none⟩ (.int .i64 0)).cell? ⟨g, n * 10 + 2, none⟩ = _ := (putQ_next g [.int .i64 0, .int .i64 0] w (n * 10) 2 (Nat.le_of_eq rfl)).trans c2
  have v2 : ((w.setCell ⟨g, n * 10, none⟩ (.int .i64 0)).setCell ⟨g, n * 10 + 1, none⟩ (.int .i64 0)).frozen? ⟨g, n * 10 + 2, none⟩ = false := (putQ_frozen g _ [.int .i64 0, .int .i64 0] w (n * 10)).trans (hfz (n * 10 + 2))
  have u3 : (((w.setCell ⟨g, n * 10, none⟩ (.int .i64 0)).setCell ⟨g, n * 10 + 1, none⟩ (.int .i64 0)).setCell ⟨g, n * 10 + 2, none⟩ (.int .i64 0)).cell? ⟨g, n * 10 + 3, none⟩ = _ := (putQ_next g [.int .i64 0, .int .i64 0, .int .i64 0] w (n * 10) 3 (Nat.le_of_eq rfl)).trans c3
  have v3 : (((w.setCell ⟨g, n * 10, none⟩ (.int .i64 0)).setCell ⟨g, n * 10 + 1, none⟩ (.int .i64 0)).setCell ⟨g, n * 10 + 2, none⟩ (.int .i64 0)).frozen? ⟨g, n * 10 + 3, none⟩ = false := (putQ_frozen g _ [.int .i64 0, .int .i64 0, .int .i64 0] w (n * 10)).trans (hfz (n * 10 + 3))
  have u4 : ((((w.setCell ⟨g, n * 10, none⟩ (.int .i64 0)).setCell ⟨g, n * 10 + 1, none⟩ (.int .i64 0)).setCell ⟨g, n * 10 + 2, none⟩ (.int .i64 0)).setCell ⟨g, n * 10 + 3, none⟩ (.int .i64 0)).cell? ⟨g, n * 10 + 4, none⟩ = _ := (putQ_next g [.int .i64 0, .int .i64 0, .int .i64 0, .int .i64 0] w (n * 10) 4 (Nat.le_of_eq rfl)).trans c4
  have v4 : ((((w.setCell ⟨g, n * 10, none⟩ (.int .i64 0)).setCell ⟨g, n * 10 + 1, none⟩ (.int .i64 0)).setCell ⟨g, n * 10 + 2, none⟩ (.int .i64 0)).setCell ⟨g, n * 10 + 3, none⟩ (.int .i64 0)).frozen? ⟨g, n * 10 + 4, none⟩ = false := (putQ_frozen g _ [.int .i64 0, .int .i64 0, .int .i64 0, .int .i64 0] w (n * 10)).trans (hfz (n * 10 + 4))
  have u5 : (((((w.setCell ⟨g, n * 10, none⟩ (.int .i64 0)).setCell ⟨g, n * 10 + 1, none⟩ (.int .i64 0)).setCell ⟨g, n * 10 + 2, none⟩ (.int .i64 0)).setCell ⟨g, n * 10 + 3, none⟩ (.int .i64 0)).setCell ⟨g, n * 10 + 4, none⟩ (.int .i64 0)).cell? ⟨g, n * 10 + 5, none⟩ = _ := (putQ_next g [.int .i64 0, .int .i64 0, .int .i64 0, .int .i64 0, .int .i64 0] w (n * 10) 5 (Nat.le_of_eq rfl)).trans c5
  have v5 : (((((w.setCell ⟨g, n * 10, none⟩ (.int .i64 0)).setCell ⟨g, n * 10 + 1, none⟩ (.int .i64 0)).setCell ⟨g, n * 10 + 2, none⟩ (.int .i64 0)).setCell ⟨g, n * 10 + 3, none⟩ (.int .i64 0)).setCell ⟨g, n * 10 + 4, none⟩ (.int .i64 0)).frozen? ⟨g, n * 10 + 5, none⟩ = false := (putQ_frozen g _ [.int .i64 0, .int .i64 0, .int .i64 0, .int .i64 0, .int .i64 0] w (n * 10)).trans (hfz (n * 10 + 5))
  have u6 : ((((((w.setCell ⟨g, n * 10, none⟩ (.int .i64 0)).setCell ⟨g, n * 10 + 1, none⟩ (.int .i64 0)).setCell ⟨g, n * 10 + 2, none⟩ (.int .i64 0)).setCell ⟨g, n * 10 + 3, none⟩ (.int .i64 0)).setCell ⟨g, n * 10 + 4, none⟩ (.int .i64 0)).setCell ⟨g, n * 10 + 5, none⟩ (.int .i64 0)).cell? ⟨g, n * 10 + 6, none⟩ = _ := (putQ_next g [.int .i64 0, .int .i64 0, .int .i64 0, .int .i64 0, .int .i64 0, .int .i64 0] w (n * 10) 6 (Nat.le_of_eq rfl)).trans c6
  have v6 : ((((((w.setCell ⟨g, n * 10, none⟩ (.int .i64 0)).setCell ⟨g, n * 10 + 1, none⟩ (.int .i64 0)).setCell ⟨g, n * 10 + 2, none⟩ (.int .i64 0)).setCell ⟨g, n * 10 + 3, none⟩ (.int .i64 0)).setCell ⟨g, n * 10 + 4, none⟩ (.int .i64 0)).setCell ⟨g, n * 10 + 5, none⟩ (.int .i64 0)).frozen? ⟨g, n * 10 + 6, none⟩ = false := (putQ_frozen g _ [.int .i64 0, .int .i64 0, .int .i64 0, .int .i64 0, .int .i64 0, .int .i64 0] w (n * 10)).trans (hfz (n * 10 + 6))
  have u7 : (((((((w.setCell ⟨g, n * 10, none⟩ (.int .i64 0)).setCell ⟨g, n * 10 + 1, none⟩ (.int .i64 0)).setCell ⟨g, n * 10 + 2, none⟩ (.int .i64 0)).setCell ⟨g, n * 10 + 3, none⟩ (.int .i64 0)).setCell ⟨g, n * 10 + 4, none⟩ (.int .i64 0)).setCell ⟨g, n * 10 + 5, none⟩ (.int .i64 0)).setCell ⟨g, n * 10 + 6, none⟩ (.int .i64 0)).cell? ⟨g, n * 10 + 7, none⟩ = _ := (putQ_next g [.int .i64 0, .int .i64 0, .int .i64 0, .int .i64 0, .int .i64 0, .int .i64 0, .int .i64 0] w (n * 10) 7 (Nat.le_of_eq rfl)).trans c7
  have v7 : (((((((w.setCell ⟨g, n * 10, none⟩ (.int .i64 0)).setCell ⟨g, n * 10 + 1, none⟩ (.int .i64 0)).setCell ⟨g, n * 10 + 2, none⟩ (.int .i64 0)).setCell ⟨g, n * 10 + 3, none⟩ (.int .i64 0)).setCell ⟨g, n * 10 + 4, none⟩ (.int .i64 0)).setCell ⟨g, n * 10 + 5, none⟩ (.int .i64 0)).setCell ⟨g, n * 10 + 6, none⟩ (.int .i64 0)).frozen? ⟨g, n * 10 + 7, none⟩ = false := (putQ_frozen g _ [.int .i64 0, .int .i64 0, .int .i64 0, .int .i64 0, .int .i64 0, .int .i64 0, .int .i64 0] w (n * 10)).trans (hfz (n * 10 + 7))
  have u8 : ((((((((w.setCell ⟨g, n * 10, none⟩ (.int .i64 0)).setCell ⟨g, n * 10 + 1, none⟩ (.int .i64 0)).setCell ⟨g, n * 10 + 2, none⟩ (.int .i64 0)).setCell ⟨g, n * 10 + 3, none⟩ (.int .i64 0)).setCell ⟨g, n * 10 + 4, none⟩ (.int .i64 0)).setCell ⟨g, n * 10 + 5, none⟩ (.int .i64 0)).setCell ⟨g, n * 10 + 6, none⟩ (.int .i64 0)).setCell ⟨g, n * 10 + 7, none⟩ (.int .i64 0)).cell? ⟨g, n * 10 + 8, none⟩ = _ := (putQ_next g [.int .i64 0, .int .i64 0, .int .i64 0, .int .i64 0, .int .i64 0, .int .i64 0, .int .i64 0, .int .i64 0] w (n * 10) 8 (Nat.le_of_eq rfl)).trans c8
  have v8 : ((((((((w.setCell ⟨g, n * 10, none⟩ (.int .i64 0)).setCell ⟨g, n * 10 + 1, none⟩ (.int .i64 0)).setCell ⟨g, n * 10 + 2, none⟩ (.int .i64 0)).setCell ⟨g, n * 10 + 3, none⟩ (.int .i64 0)).setCell ⟨g, n * 10 + 4, none⟩ (.int .i64 0)).setCell ⟨g, n * 10 + 5, none⟩ (.int .i64 0)).setCell ⟨g, n * 10 + 6, none⟩ (.int .i64 0)).setCell ⟨g, n * 10 + 7, none⟩ (.int .i64 0)).frozen? ⟨g, n * 10 + 8, none⟩ = false := (putQ_frozen g _ [.int .i64 0, .int .i64 0, .int .i64 0, .int .i64 0, .int .i64 0, .int .i64 0, .int .i64 0, .int .i64 0] w (n * 10)).trans (hfz (n * 10 + 8))
  have u9 : (((((((((w.setCell ⟨g, n * 10, none⟩ (.int .i64 0)).setCell ⟨g, n * 10 + 1, none⟩ (.int .i64 0)).setCell ⟨g, n * 10 + 2, none⟩ (.int .i64 0)).setCell ⟨g, n * 10 + 3, none⟩ (.int .i64 0)).setCell ⟨g, n * 10 + 4, none⟩ (.int .i64 0)).setCell ⟨g, n * 10 + 5, none⟩ (.int .i64 0)).setCell ⟨g, n * 10 + 6, none⟩ (.int .i64 0)).setCell ⟨g, n * 10 + 7, none⟩ (.int .i64 0)).setCell ⟨g, n * 10 + 8, none⟩ (.bool false)).cell? ⟨g, n * 10 + 9, none⟩ = _ := (putQ_next g [.int .i64 0, .int .i64 0, .int .i64 0, .int .i64 0, .int .i64 0, .int .i64 0, .int .i64 0, .int .i64 0, .bool false] w (n * 10) 9 (Nat.le_of_eq rfl)).trans c9
  have v9 : (((((((((w.setCell ⟨g, n * 10, none⟩ (.int .i64 0)).setCell ⟨g, n * 10 + 1, none⟩ (.int .i64 0)).setCell ⟨g, n * 10 + 2, none⟩ (.int .i64 0)).setCell ⟨g, n * 10 + 3, none⟩ (.int .i64 0)).setCell ⟨g, n * 10 + 4, none⟩ (.int .i64 0)).setCell ⟨g, n * 10 + 5, none⟩ (.int .i64 0)).setCell ⟨g, n * 10 + 6, none⟩ (.int .i64 0)).setCell ⟨g, n * 10 + 7, none⟩ (.int .i64 0)).setCell ⟨g, n * 10 + 8, none⟩ (.bool false)).frozen? ⟨g, n * 10 + 9, none⟩ = false := (putQ_frozen g _ [.int .i64 0, .int .i64 0, .int .i64 0, .int .i64 0, .int .i64 0, .int .i64 0, .int .i64 0, .int .i64 0, .bool false] w (n * 10)).trans (hfz (n * 10 + 9))
  clear hP0 hfn hat hfz c0 c1 c2 c3 c4 c5 c6 c7 c8 c9
  go_enter Try.func92, Try.ntmps92
  go_wp2_with fail
  refine HA.out.mono ?_
  rintro e w' ⟨rfl, rfl⟩
  go_upto_region 4 with fail
  obtain ⟨hA1, hK1⟩ := HS1.out
  clear HS1 b1 b2 b3 HA u0 v0 u1 v1 u2 v2 u3 v3 u4 v4 u5 v5 u6 v6 u7 v7 u8 v8 u9 v9
  generalize ((((((((((w.setCell ⟨g, n * 10, none⟩ (.int .i64 0)).setCell ⟨g, n * 10 + 1, none⟩ (.int .i64 0)).setCell ⟨g, n * 10 + 2, none⟩ (.int .i64 0)).setCell ⟨g, n * 10 + 3, none⟩ (.int .i64 0)).setCell ⟨g, n * 10 + 4, none⟩ (.int .i64 0)).setCell ⟨g, n * 10 + 5, none⟩ (.int .i64 0)).setCell ⟨g, n * 10 + 6, none⟩ (.int .i64 0)).setCell ⟨g, n * 10 + 7, none⟩ (.int .i64 0)).setCell ⟨g, n * 10 + 8, none⟩ (.bool false)).setCell ⟨g, n * 10 + 9, none⟩ (.bool false)) = X at *
  have HA1 := Lib.hid hA1
  have HK1 := Lib.hid hK1
  clear hA1 hK1
  have HA2 := Lib.hid (HA1.out.alloc (.cells #[.int .i64 (n : Int)] 3))
  obtain ⟨⟨c1, c2, c3⟩, _⟩ := box3 HA1.out.box
  have HOW : Hid ((X.alloc (.cells #[.int .i64 (n : Int)] 3)).ownsRow base 3 1 (.slice fa fn fc) fn (fs.map nv)) := by
    have := HA2.out.frow
    rw [← HFN.out] at this
    exact this
  have hbl := HA2.out.base_le
  have hfb : fn ≤ 1000000 := by have := HFN.out; omega
  go_upto_region 5 with (at_builtin; refine wpList_append_lies _ rfl _ _ 98 rfl base 3 i0 _ 1 8 Try.underlying98 hi hz0 hz1 hz2 rfl (by omega) _ fn (fs.map nv) (by rfl) HOW.out ⟨X.heap.size, 0, none⟩ 1 1 [.int .i64 (n : Int)] (by rfl) rfl (World.news_of_block (heap_alloc_new X _)) (by simp [Value.oneCell']) (by omega) (by unfold maxLen; omega) (by omega) hbl _ rfl ?_; intro g2 cap2 w1 hown1 hgrow1 hat1 hlt1; have HO1 := Lib.hid hown1; have HG1 := Lib.hid hgrow1; have HT1 := Lib.hid hat1; have hA1b := (HG1.out.block A (lt_of_block HA2.out.box) (fun e => HA2.out.apart.2.1 A e.symm rfl)).trans HA2.out.box; obtain ⟨⟨d1, d2, d3⟩, _, _, d4⟩ := box3 hA1b; clear hown1 hgrow1 hat1 hA1b)
  have HO2 : Hid (w1.ownsRow base 3 1 (.slice (some ⟨g2, 0, none⟩) (fn + 1) cap2) (fs ++ [(n : Int)]).length ((fs ++ [(n : Int)]).map nv)) := by
    have h := HO1.out
    rw [List.map_append, List.length_append]
    rw [HFN.out] at h ⊢
    exact h
  have HZ := Lib.hid (HA2.out.setF HG1.out HO2.out)
  clear d1 d2 d3 d4 c1 c2 c3
  go_wp2_with fail
  go_ret
  obtain ⟨z1, z2⟩ := HZ.out
  refine ⟨.slice (some ⟨g, 0, none⟩) ps.length cap, .slice (some ⟨g2, 0, none⟩) (fn + 1) cap2, ⟨rfl, z1⟩, ?_, ?_⟩
  · exact (HK1.out.alloc _).trans z2 (fun _ _ h => h)
  · rintro b (rfl | hb | hb)
    · exact .inl (.inl rfl)
    · exact .inl (.inr (.inl hb))
    · have e : g2 = b := by simpa [Value.ownBlock] using hb
      subst e
      rcases HT1.out with h | h
      · exact .inl (.inr (.inr h))
      · right; rw [h]; have := HK1.out.size; simp; omega
set_option maxRecDepth 100000 in
set_option maxHeartbeats 2000000 in
theorem rntake_new_core (A pn pc fc base : Nat) (pa fa : Option Addr) (room : Int) (ps : List (Nd × Bool)) (w : World) (hpn : pn = ps.length) (hl : ps.length ≤ 1000000)
    (HS : Hid (rnAt w base A room (.slice pa pn pc) (.slice fa 0 fc) ps [])) :
    Calls Try.prog 83 #[aP A] w (GPost rnE 100 111 w base A room (.slice pa pn pc) (.slice fa 0 fc) (ps ++ [(rnZ, false)]) [] (.int .i64 (pn : Int))) := by
  obtain ⟨i0, hi, hz0, hz1, hz2⟩ := info_parts Try.infoNd
  obtain ⟨⟨c1, c2, c3⟩, _⟩ := box3 HS.out.box
  have HPN := Lib.hid hpn
  have hpb : pn ≤ 1000000 := by omega
  clear hpn
  have HA2 := Lib.hid (HS.out.alloc (.cells #[.int .i64 0, .int .i64 0, .int .i64 0, .int .i64 0, .int .i64 0, .int .i64 0, .int .i64 0, .int .i64 0, .bool false, .bool false] 111))
  have HOW : Hid ((w.alloc (.cells #[.int .i64 0, .int .i64 0, .int .i64 0, .int .i64 0, .int .i64 0, .int .i64 0, .int .i64 0, .int .i64 0, .bool false, .bool false] 111)).ownsRow base 111 10 (.slice pa pn pc) pn (flatQ rnE ps)) := by
    have := HA2.out.prow
    rw [← HPN.out] at this
    exact this
  have hbl := HA2.out.base_le
  go_enter Try.func83, Try.ntmps83
  go_upto_region 4 with (at_builtin; refine wpList_append_lies _ rfl _ _ 97 rfl base 111 i0 _ 10 80 Try.underlying97 hi hz0 hz1 hz2 rfl (by omega) _ pn (flatQ rnE ps) (by rfl) HOW.out ⟨w.heap.size, 0, none⟩ 1 1 [.int .i64 0, .int .i64 0, .int .i64 0, .int .i64 0, .int .i64 0, .int .i64 0, .int .i64 0, .int .i64 0, .bool false, .bool false] (by rfl) rfl (World.news_of_block (heap_alloc_new w _)) (by simp [Value.oneCell']) (by omega) (by unfold maxLen; omega) (by omega) hbl _ rfl ?_; intro g2 cap2 w1 hown1 hgrow1 hat1 hlt1; have HO1 := Lib.hid hown1; have HG1 := Lib.hid hgrow1; have HT1 := Lib.hid hat1; have hA1b := (HG1.out.block A (lt_of_block HA2.out.box) (fun e => HA2.out.apart.1 A e.symm rfl)).trans HA2.out.box; obtain ⟨⟨d1, d2, d3⟩, _, d4, _⟩ := box3 hA1b; clear hown1 hgrow1 hat1 hA1b)
  have HO2 : Hid (w1.ownsRow base 111 (9 + 1) (.slice (some ⟨g2, 0, none⟩) (pn + 1) cap2) (ps ++ [(rnZ, false)]).length (flatQ rnE (ps ++ [(rnZ, false)]))) := by
    have h := HO1.out
    rw [flatQ_append, List.length_append]
    rw [HPN.out] at h ⊢
    exact h
  have HZ := Lib.hid (HA2.out.setP HG1.out HO2.out)
  clear d1 d2 d3 d4 c1 c2 c3
  obtain ⟨⟨d1, d2, d3⟩, _⟩ := box3 HZ.out.1.box
  go_wp2_with fail
  go_ret
  obtain ⟨z1, z2⟩ := HZ.out
  refine ⟨.slice (some ⟨g2, 0, none⟩) (pn + 1) cap2, .slice fa 0 fc, ⟨by first | rfl | (congr 2; omega), z1⟩, ?_, ?_⟩
  · exact ((Kp.refl _ w).alloc _).trans z2 (fun _ _ h => h)
  · rintro b (rfl | hb | hb)
    · exact .inl (.inl rfl)
    · have e : g2 = b := by simpa [Value.ownBlock] using hb
      subst e
      rcases HT1.out with h | h
      · exact .inl (.inr (.inl h))
      · right; rw [h]; simp
    · exact .inl (.inr (.inr hb))
set_option maxRecDepth 100000 in
set_option maxHeartbeats 2000000 in
theorem rntake_free_core (A gf fn fc base : Nat) (pv : Value) (room f : Int) (ps : List (Nd × Bool)) (fs : List Int) (w : World) (hfn : fn = fs.length + 1) (hl2 : fn ≤ 1000000)
    (HS : Hid (rnAt w base A room pv (.slice (some ⟨gf, 0, none⟩) fn fc) ps (fs ++ [f]))) :
    Calls Try.prog 83 #[aP A] w (GPost rnE 100 111 w base A room pv (.slice (some ⟨gf, 0, none⟩) fn fc) ps fs (.int .i64 f)) := by
  obtain ⟨⟨c1, c2, c3⟩, _, _, c4⟩ := box3 HS.out.box
  have HFR : Hid (w.ownsRow base 3 1 (.slice (some ⟨gf, 0, none⟩) fn fc) fn ((fs ++ [f]).map nv)) := by
    have := HS.out.frow
    rw [List.length_append] at this
    rw [hfn]
    rw [hfn] at this
    exact this
  have hcf : w.cell? ⟨gf, fn - 1, none⟩ = some (.int .i64 f) := by
    obtain ⟨g', e1, _, hc, _⟩ := own_at HFR.out (by simp; omega) (fn - 1) (by omega)
    injection e1 with e1
    injection e1 with e1
    subst e1
    rw [hc]
    congr 2
    rw [List.getElem_append_right (by omega)]
    simp
  have hcap : fn ≤ fc := own_cap HFR.out
  have HSH := Lib.hid (own_shrink HFR.out)
  have HZ := Lib.hid (HS.out.setF (World.grownBy.refl w _) HSH.out.1)
  have hpos : 0 < fn := by omega
  have t1 : decide ((fn : Int) - 1 < 0) = false := decide_eq_false (by omega)
  have t2 : decide ((fn : Int) < 1) = false := decide_eq_false (by omega)
  have i1 : (0 : Int) ≤ (fn : Int) - 1 := by omega
  have i2 : (fn : Int) - 1 < (fn : Int) := by omega
  have i3 : ((fn : Int) - 1).toNat = fn - 1 := by omega
  have i4 : (fn : Int) - 1 ≤ (fc : Int) := by omega
  clear hfn
  go_enter Try.func83, Try.ntmps83
  go_wp2_with fail
  go_ret
  obtain ⟨z1, z2⟩ := HZ.out
  refine ⟨pv, .slice (some ⟨gf, 0, none⟩) (fn - 1) fc, ⟨rfl, z1⟩, z2, ?_⟩
  rintro b (rfl | hb | hb)
  · exact .inl (.inl rfl)
  · exact .inl (.inr (.inl hb))
  · exact .inl (.inr (.inr hb))
end Go.Proofs.Ytakkmnhiaddnnaa

/- The arena of bocage/rbtree.node: Put; all calls told by the arena of lists. -/
namespace Go.Proofs.Ytakkmnhiaddnnaa
open Go.RowKit Go.Sort Go.Proofs.Ytakkmnhiaddnnaa.Bo
set_option linter.unusedVariables false

theorem rnkeep {W : World} {A B : Nat} {y0 y1 y2 z0 z1 z2 z3 z4 z5 z6 z7 z8 : Value} {t u : TypeId} (h1 : W.heap[A]? = some (.cells #[y0, y1, y2] t (0, 0))) (h2 : W.heap[B]? = some (.cells #[z0, z1, z2, z3, z4, z5, z6, z7, z8] u (0, 0))) :
    W.cell? ⟨A, 1, none⟩ = some y1 ∧ W.cell? ⟨B, 0, none⟩ = some (z0) ∧ W.cell? ⟨B, 1, none⟩ = some (z1) ∧ W.cell? ⟨B, 2, none⟩ = some (z2) ∧ W.cell? ⟨B, 3, none⟩ = some (z3) ∧ W.cell? ⟨B, 4, none⟩ = some (z4) ∧ W.cell? ⟨B, 5, none⟩ = some (z5) ∧ W.cell? ⟨B, 6, none⟩ = some (z6) ∧ W.cell? ⟨B, 7, none⟩ = some (z7) ∧ W.cell? ⟨B, 8, none⟩ = some (z8) :=
  ⟨(box3 h1).1.2.1, (cell_of_row _ _ 0 _ _ _ h2).trans rfl, (cell_of_row _ _ 1 _ _ _ h2).trans rfl, (cell_of_row _ _ 2 _ _ _ h2).trans rfl, (cell_of_row _ _ 3 _ _ _ h2).trans rfl, (cell_of_row _ _ 4 _ _ _ h2).trans rfl, (cell_of_row _ _ 5 _ _ _ h2).trans rfl, (cell_of_row _ _ 6 _ _ _ h2).trans rfl, (cell_of_row _ _ 7 _ _ _ h2).trans rfl, (cell_of_row _ _ 8 _ _ _ h2).trans rfl⟩
theorem heap_drew {W : World} {b : Nat} {o : Obj} (h : W.heap[b]? = some o) : W.drew.heap[b]? = some o := h
set_option maxRecDepth 100000 in
set_option maxHeartbeats 2000000 in
theorem rnput_full_core (A pn fn : Nat) (pv fv : Value) (room : Int) (x0 : Int) (x1 : Int) (x2 : Int) (x3 : Int) (x4 : Int) (x5 : Int) (x6 : Int) (x7 : Int) (x8 : Bool) (w : World) (hp : pn ≤ 1000000) (hf : fn ≤ 1000000) (H : Hid (w.heap[A]? = some (rnO room pv fv)))
    (HL : Hid (∀ W, Go.RowKit.Below w.heap.size w W → Calls Try.prog 43 #[aP A] W fun e w' => e = .returned (.int .i64 ((pn : Int) - (fn : Int))) ∧ Go.RowKit.Below W.heap.size W w')) (hfull : room ≤ (pn : Int) - (fn : Int)) :
    Calls Try.prog 65 #[aP A, .agg #[.int .i64 x0, .int .i64 x1, .int .i64 x2, .int .i64 x3, .int .i64 x4, .int .i64 x5, .int .i64 x6, .int .i64 x7, .bool x8]] w fun e w' => e = .returned (.tuple #[.int .i64 0, .int .i64 50]) ∧ Go.RowKit.Below w.heap.size w w' := by
  have mx := mixed
  have HB := Lib.hid (below_new w (.cells #[.int .i64 x0, .int .i64 x1, .int .i64 x2, .int .i64 x3, .int .i64 x4, .int .i64 x5, .int .i64 x6, .int .i64 x7, .bool x8] 74))
  have HX := Lib.hid (box_on H.out HB.out)
  have t1 : decide (room ≤ (pn : Int) - (fn : Int)) = true := decide_eq_true hfull
  clear hfull
  go_enter Try.func65, Try.ntmps65
  go_upto_region 1 with fail
  generalize w.alloc (.cells #[.int .i64 x0, .int .i64 x1, .int .i64 x2, .int .i64 x3, .int .i64 x4, .int .i64 x5, .int .i64 x6, .int .i64 x7, .bool x8] 74) = W1 at *
  have q1 := cell_regrown (box3 HX.out).1.1
  refine wp_region_quiet_below (by assumption) (by kernel_rfl) ?_
  repeat (go_big_quiet_step (first | (go_at_call 43; exact Calls.regrown_of (HL.out _ (bt HB.out (below_regrown _ _ _))))))
  refine wpQuiet_nil ?_
  intro _ hw'
  obtain ⟨⟨nq, osq⟩, hw''⟩ := hw'
  subst hw''
  have HY := Lib.hid (bt HB.out (below_regrown W1 nq osq))
  show Exit.then _ _ Exit.normal _ (grow (redrawn W1 nq) osq)
  generalize grow (redrawn W1 nq) osq = Y at *
  clear q1 HL
  go_wp2_with fail
  go_ret2
  exact ⟨rfl, HY.out⟩
set_option maxRecDepth 100000 in
set_option maxHeartbeats 4000000 in
theorem rnput_core (A pn fn n base : Nat) (pv fv : Value) (room : Int) (x0 : Int) (x1 : Int) (x2 : Int) (x3 : Int) (x4 : Int) (x5 : Int) (x6 : Int) (x7 : Int) (x8 : Bool) (ps' : List (Nd × Bool)) (fs' : List Int) (w : World) (hp : pn ≤ 1000000) (hf : fn ≤ 1000000) (H : Hid (w.heap[A]? = some (rnO room pv fv))) (HFP : Hid (∀ b, FP A pv fv b → b < w.heap.size))
    (HL : Hid (∀ W, Go.RowKit.Below w.heap.size w W → Calls Try.prog 43 #[aP A] W fun e w' => e = .returned (.int .i64 ((pn : Int) - (fn : Int))) ∧ Go.RowKit.Below W.heap.size W w')) (hno : (pn : Int) - (fn : Int) < room) (hn : n < ps'.length)
    (HT : Hid (∀ W, Go.RowKit.Below w.heap.size w W → Calls Try.prog 83 #[aP A] W (GPost rnE 100 111 W base A room pv fv ps' fs' (.int .i64 (n : Int))))) :
    Calls Try.prog 65 #[aP A, .agg #[.int .i64 x0, .int .i64 x1, .int .i64 x2, .int .i64 x3, .int .i64 x4, .int .i64 x5, .int .i64 x6, .int .i64 x7, .bool x8]] w (GPost rnE 100 111 w base A room pv fv (ps'.set n (⟨⟨x0, x1, x2, x3, x4⟩, x5, x6, x7, x8⟩, true)) fs' (.tuple #[.int .i64 (n : Int), .int .i64 0])) := by
  have mx := mixed
  have HB := Lib.hid (below_new w (.cells #[.int .i64 x0, .int .i64 x1, .int .i64 x2, .int .i64 x3, .int .i64 x4, .int .i64 x5, .int .i64 x6, .int .i64 x7, .bool x8] 74))
  have HV := Lib.hid (heap_alloc_new w (.cells #[.int .i64 x0, .int .i64 x1, .int .i64 x2, .int .i64 x3, .int .i64 x4, .int .i64 x5, .int .i64 x6, .int .i64 x7, .bool x8] 74))
  have HX := Lib.hid (box_on H.out HB.out)
  have t1 : decide (room ≤ (pn : Int) - (fn : Int)) = false := decide_eq_false (by omega)
  clear hno
  go_enter Try.func65, Try.ntmps65
  go_upto_region 1 with fail
  generalize w.alloc (.cells #[.int .i64 x0, .int .i64 x1, .int .i64 x2, .int .i64 x3, .int .i64 x4, .int .i64 x5, .int .i64 x6, .int .i64 x7, .bool x8] 74) = W1 at *
  have q1 := cell_regrown (box3 HX.out).1.1
  refine wp_region_quiet_below (by assumption) (by kernel_rfl) ?_
  repeat (go_big_quiet_step (first | (go_at_call 43; exact Calls.regrown_of (HL.out _ (bt HB.out (below_regrown _ _ _))))))
  refine wpQuiet_nil ?_
  intro _ hw'
  obtain ⟨⟨nq, osq⟩, hw''⟩ := hw'
  subst hw''
  have HY := Lib.hid (bt HB.out (below_regrown W1 nq osq))
  have HVY := Lib.hid (box_on HV.out (below_regrown W1 nq osq))
  show Exit.then _ _ Exit.normal _ (grow (redrawn W1 nq) osq)
  generalize grow (redrawn W1 nq) osq = Y at *
  clear q1 HL
  go_wp2_with fail
  refine (HT.out Y HY.out).mono ?_
  rintro e w1 ⟨pv1, fv1, ⟨rfl, hA⟩, hK, hsub⟩
  have HA := Lib.hid hA
  have HK := Lib.hid hK
  have HSUB := Lib.hid hsub
  have HV1 := Lib.hid (hK.at HVY.out (fun hb => by have := HFP.out _ hb; omega))
  clear hA hK hsub HT
  obtain ⟨g, cap, rfl, hgA, hat, hfz⟩ := HA.out.at n hn
  obtain ⟨B, hB⟩ : ∃ B, w.heap.size = B := ⟨_, rfl⟩
  have hBg : B ≠ g := by
    intro e
    have hb : FP A (.slice (some ⟨g, 0, none⟩) ps'.length cap) fv1 g := .inr (.inl rfl)
    rcases HSUB.out g hb with h | h
    · have := HFP.out g h; omega
    · have := lt_of_block HVY.out; omega
  have HA2 := Lib.hid (HA.out.below ((Go.RowKit.Below.refl _ w1).drew))
  have HV2 := Lib.hid (heap_drew HV1.out)
  have HK2 := Lib.hid HK.out.drew
  have i1 : (0 : Int) ≤ (n : Int) := by omega
  have i2 : (n : Int) < (ps'.length : Int) := by omega
  have HBG := Lib.hid hBg
  clear hBg hB hat hfz
  go_wp2_with fail
  obtain ⟨q1, z0, z1, z2, z3, z4, z5, z6, z7, z8⟩ := rnkeep (W := w1.drew) HA2.out.box HV2.out
  obtain ⟨r1, y0, y1, y2, y3, y4, y5, y6, y7, y8⟩ := rnkeep (W := w1) HA.out.box HV1.out
  go_still_tail 8, (by kernel_rfl)
  change wpList _ _ _ _ _ w1.drew
  generalize w1.drew = X at *
  clear q1 z0 z1 z2 z3 z4 z5 z6 z7 z8 r1 y0 y1 y2 y3 y4 y5 y6 y7 y8
  obtain ⟨g', cap', e0, _, hat, hfz⟩ := HA2.out.at n hn
  injection e0 with e0 _ _
  injection e0 with e0
  injection e0 with e0
  subst e0
  have HZ : Hid (rnAt ((((((((((X.setCell ⟨g, n * 10, none⟩ (.int .i64 x0)).setCell ⟨g, n * 10 + 1, none⟩ (.int .i64 x1)).setCell ⟨g, n * 10 + 2, none⟩ (.int .i64 x2)).setCell ⟨g, n * 10 + 3, none⟩ (.int .i64 x3)).setCell ⟨g, n * 10 + 4, none⟩ (.int .i64 x4)).setCell ⟨g, n * 10 + 5, none⟩ (.int .i64 x5)).setCell ⟨g, n * 10 + 6, none⟩ (.int .i64 x6)).setCell ⟨g, n * 10 + 7, none⟩ (.int .i64 x7)).setCell ⟨g, n * 10 + 8, none⟩ (.bool x8)).setCell ⟨g, n * 10 + 9, none⟩ (.bool true)) base A room (.slice (some ⟨g, 0, none⟩) ps'.length cap) fv1 (ps'.set n (⟨⟨x0, x1, x2, x3, x4⟩, x5, x6, x7, x8⟩, true)) fs' ∧ Kp (FP A (.slice (some ⟨g, 0, none⟩) ps'.length cap) fv1) X ((((((((((X.setCell ⟨g, n * 10, none⟩ (.int .i64 x0)).setCell ⟨g, n * 10 + 1, none⟩ (.int .i64 x1)).setCell ⟨g, n * 10 + 2, none⟩ (.int .i64 x2)).setCell ⟨g, n * 10 + 3, none⟩ (.int .i64 x3)).setCell ⟨g, n * 10 + 4, none⟩ (.int .i64 x4)).setCell ⟨g, n * 10 + 5, none⟩ (.int .i64 x5)).setCell ⟨g, n * 10 + 6, none⟩ (.int .i64 x6)).setCell ⟨g, n * 10 + 7, none⟩ (.int .i64 x7)).setCell ⟨g, n * 10 + 8, none⟩ (.bool x8)).setCell ⟨g, n * 10 + 9, none⟩ (.bool true))) := HA2.out.put n hn (⟨⟨x0, x1, x2, x3, x4⟩, x5, x6, x7, x8⟩, true)
  obtain ⟨P0, hP0⟩ : ∃ P0, ps'[n] = P0 := ⟨_, rfl⟩
  rw [hP0] at hat
  have c0 : X.cell? ⟨g, n * 10, none⟩ = some (.int .i64 P0.1.g.ls) := hat 0 _ rfl
  have c1 : X.cell? ⟨g, n * 10 + 1, none⟩ = some (.int .i64 P0.1.g.la) := hat 1 _ rfl
  have c2 : X.cell? ⟨g, n * 10 + 2, none⟩ = some (.int .i64 P0.1.g.hs) := hat 2 _ rfl
  have c3 : X.cell? ⟨g, n * 10 + 3, none⟩ = some (.int .i64 P0.1.g.ha) := hat 3 _ rfl
  have c4 : X.cell? ⟨g, n * 10 + 4, none⟩ = some (.int .i64 P0.1.g.v) := hat 4 _ rfl
  have c5 : X.cell? ⟨g, n * 10 + 5, none⟩ = some (.int .i64 P0.1.pa) := hat 5 _ rfl
  have c6 : X.cell? ⟨g, n * 10 + 6, none⟩ = some (.int .i64 P0.1.c0) := hat 6 _ rfl
  have c7 : X.cell? ⟨g, n * 10 + 7, none⟩ = some (.int .i64 P0.1.c1) := hat 7 _ rfl
  have c8 : X.cell? ⟨g, n * 10 + 8, none⟩ = some (.bool P0.1.red) := hat 8 _ rfl
  have c9 : X.cell? ⟨g, n * 10 + 9, none⟩ = some (.bool P0.2) := hat 9 _ rfl
  have u0 := c0
  have v0 := hfz (n * 10)
  have u1 : (X.setCell ⟨g, n * 10, none⟩ (.int .i64 x0)).cell? ⟨g, n * 10 + 1, none⟩ = _ := (putQ_next g [.int .i64 x0] X (n * 10) 1 (Nat.le_of_eq rfl)).trans c1
  have v1 : (X.setCell ⟨g, n * 10, none⟩ (.int .i64 x0)).frozen? ⟨g, n * 10 + 1, none⟩ = false := (putQ_frozen g _ [.int .i64 x0] X (n * 10)).trans (hfz (n * 10 + 1))
  have u2 : ((X.setCell ⟨g, n * 10, none⟩ (.int .i64 x0)).setCell ⟨g, n * 10 + 1, none⟩ (.int .i64 x1)).cell? ⟨g, n * 10 + 2, none⟩ = _ := (putQ_next g [.int .i64 x0, .int .i64 x1] X (n * 10) 2 (Nat.le_of_eq rfl)).trans c2
  have v2 : ((X.setCell ⟨g, n * 10, none⟩ (.int .i64 x0)).setCell ⟨g, n * 10 + 1, none⟩ (.int .i64 x1)).frozen? ⟨g, n * 10 + 2, none⟩ = false := (putQ_frozen g _ [.int .i64 x0, .int .i64 x1] X (n * 10)).trans (hfz (n * 10 + 2))
  have u3 : (((X.setCell ⟨g, n * 10, none⟩ (.int .i64 x0)).setCell ⟨g, n * 10 + 1, none⟩ (.int .i64 x1)).setCell ⟨g, n * 10 + 2, none⟩ (.int .i64 x2)).cell? ⟨g, n * 10 + 3, none⟩ = _ := (putQ_next g [.int .i64 x0, .int .i64 x1, .int .i64 x2] X (n * 10) 3 (Nat.le_of_eq rfl)).trans c3
  have v3 : (((X.setCell ⟨g, n * 10, none⟩ (.int .i64 x0)).setCell ⟨g, n * 10 + 1, none⟩ (.int .i64 x1)).setCell ⟨g, n * 10 + 2, none⟩ (.int .i64 x2)).frozen? ⟨g, n * 10 + 3, none⟩ = false := (putQ_frozen g _ [.int .i64 x0, .int .i64 x1, .int .i64 x2] X (n * 10)).trans (hfz (n * 10 + 3))
  have u4 : ((((X.setCell ⟨g, n * 10, none⟩ (.int .i64 x0)).setCell ⟨g, n * 10 + 1, none⟩ (.int .i64 x1)).setCell ⟨g, n * 10 + 2, none⟩ (.int .i64 x2)).setCell ⟨g, n * 10 + 3, none⟩ (.int .i64 x3)).cell? ⟨g, n * 10 + 4, none⟩ = _ := (putQ_next g [.int .i64 x0, .int .i64 x1, .int .i64 x2, .int .i64 x3] X (n * 10) 4 (Nat.le_of_eq rfl)).trans c4
  have v4 : ((((X.setCell ⟨g, n * 10, none⟩ (.int .i64 x0)).setCell ⟨g, n * 10 + 1, none⟩ (.int .i64 x1)).setCell ⟨g, n * 10 + 2, none⟩ (.int .i64 x2)).setCell ⟨g, n * 10 + 3, none⟩ (.int .i64 x3)).frozen? ⟨g, n * 10 + 4, none⟩ = false := (putQ_frozen g _ [.int .i64 x0, .int .i64 x1, .int .i64 x2, .int .i64 x3] X (n * 10)).trans (hfz (n * 10 + 4))
  have u5 : (((((X.setCell ⟨g, n * 10, none⟩ (.int .i64 x0)).setCell ⟨g, n * 10 + 1, none⟩ (.int .i64 x1)).setCell ⟨g, n * 10 + 2, none⟩ (.int .i64 x2)).setCell ⟨g, n * 10 + 3, none⟩ (.int .i64 x3)).setCell ⟨g, n * 10 + 4, none⟩ (.int .i64 x4)).cell? ⟨g, n * 10 + 5, none⟩ = _ := (putQ_next g [.int .i64 x0, .int .i64 x1, .int .i64 x2, .int .i64 x3, .int .i64 x4] X (n * 10) 5 (Nat.le_of_eq rfl)).trans c5
  have v5 : (((((X.setCell ⟨g, n * 10, none⟩ (.int .i64 x0)).setCell ⟨g, n * 10 + 1, none⟩ (.int .i64 x1)).setCell ⟨g, n * 10 + 2, none⟩ (.int .i64 x2)).setCell ⟨g, n * 10 + 3, none⟩ (.int .i64 x3)).setCell ⟨g, n * 10 + 4, none⟩ (.int .i64 x4)).frozen? ⟨g, n * 10 + 5, none⟩ = false := (putQ_frozen g _ [.int .i64 x0, .int .i64 x1, .int .i64 x2, .int .i64 x3, .int .i64 x4] X (n * 10)).trans (hfz (n * 10 + 5))
  have u6 : ((((((X.setCell ⟨g, n * 10, none⟩ (.int .i64 x0)).setCell ⟨g, n * 10 + 1, none⟩ (.int .i64 x1)).setCell ⟨g, n * 10 + 2, none⟩ (.int .i64 x2)).setCell ⟨g, n * 10 + 3, none⟩ (.int .i64 x3)).setCell ⟨g, n * 10 + 4, none⟩ (.int .i64 x4)).setCell ⟨g, n * 10 + 5, none⟩ (.int .i64 x5)).cell? ⟨g, n * 10 + 6, none⟩ = _ := (putQ_next g [.int .i64 x0, .int .i64 x1, .int .i64 x2, .int .i64 x3, .int .i64 x4, .int .i64 x5] X (n * 10) 6 (Nat.le_of_eq rfl)).trans c6
  have v6 : ((((((X.setCell ⟨g, n * 10, none⟩ (.int .i64 x0)).setCell ⟨g, n * 10 + 1, none⟩ (.int .i64 x1)).setCell ⟨g, n * 10 + 2, none⟩ (.int .i64 x2)).setCell ⟨g, n * 10 + 3, none⟩ (.int .i64 x3)).setCell ⟨g, n * 10 + 4, none⟩ (.int .i64 x4)).setCell ⟨g, n * 10 + 5, none⟩ (.int .i64 x5)).frozen? ⟨g, n * 10 + 6, none⟩ = false := (putQ_frozen g _ [.int .i64 x0, .int .i64 x1, .int .i64 x2, .int .i64 x3, .int .i64 x4, .int .i64 x5] X (n * 10)).trans (hfz (n * 10 + 6))
  have u7 : (((((((X.setCell ⟨g, n * 10, none⟩ (.int .i64 x0)).setCell ⟨g, n * 10 + 1, none⟩ (.int .i64 x1)).setCell ⟨g, n * 10 + 2, none⟩ (.int .i64 x2)).setCell ⟨g, n * 10 + 3, none⟩ (.int .i64 x3)).setCell ⟨g, n * 10 + 4, none⟩ (.int .i64 x4)).setCell ⟨g, n * 10 + 5, none⟩ (.int .i64 x5)).setCell ⟨g, n * 10 + 6, none⟩ (.int .i64 x6)).cell? ⟨g, n * 10 + 7, none⟩ = _ := (putQ_next g [.int .i64 x0, .int .i64 x1, .int .i64 x2, .int .i64 x3, .int .i64 x4, .int .i64 x5, .int .i64 x6] X (n * 10) 7 (Nat.le_of_eq rfl)).trans c7
  have v7 : (((((((X.setCell ⟨g, n * 10, none⟩ (.int .i64 x0)).setCell ⟨g, n * 10 + 1, none⟩ (.int .i64 x1)).setCell ⟨g, n * 10 + 2, none⟩ (.int .i64 x2)).setCell ⟨g, n * 10 + 3, none⟩ (.int .i64 x3)).setCell ⟨g, n * 10 + 4, none⟩ (.int .i64 x4)).setCell ⟨g, n * 10 + 5, none⟩ (.int .i64 x5)).setCell ⟨g, n * 10 + 6, none⟩ (.int .i64 x6)).frozen? ⟨g, n * 10 + 7, none⟩ = false := (putQ_frozen g _ [.int .i64 x0, .int .i64 x1, .int .i64 x2, .int .i64 x3, .int .i64 x4, .int .i64 x5, .int .i64 x6] X (n * 10)).trans (hfz (n * 10 + 7))
  have u8 : ((((((((X.setCell ⟨g, n * 10, none⟩ (.int .i64 x0)).setCell ⟨g, n * 10 + 1, none⟩ (.int .i64 x1)).setCell ⟨g, n * 10 + 2, none⟩ (.int .i64 x2)).setCell ⟨g, n * 10 + 3, none⟩ (.int .i64 x3)).setCell ⟨g, n * 10 + 4, none⟩ (.int .i64 x4)).setCell ⟨g, n * 10 + 5, none⟩ (.int .i64 x5)).setCell ⟨g, n * 10 + 6, none⟩ (.int .i64 x6)).setCell ⟨g, n * 10 + 7, none⟩ (.int .i64 x7)).cell? ⟨g, n * 10 + 8, none⟩ = _ := (putQ_next g [.int .i64 x0, .int .i64 x1, .int .i64 x2, .int .i64 x3, .int .i64 x4, .int .i64 x5, .int .i64 x6, .int .i64 x7] X (n * 10) 8 (Nat.le_of_eq rfl)).trans c8
  have v8 : ((((((((X.setCell ⟨g, n * 10, none⟩ (.int .i64 x0)).setCell ⟨g, n * 10 + 1, none⟩ (.int .i64 x1)).setCell ⟨g, n * 10 + 2, none⟩ (.int .i64 x2)).setCell ⟨g, n * 10 + 3, none⟩ (.int .i64 x3)).setCell ⟨g, n * 10 + 4, none⟩ (.int .i64 x4)).setCell ⟨g, n * 10 + 5, none⟩ (.int .i64 x5)).setCell ⟨g, n * 10 + 6, none⟩ (.int .i64 x6)).setCell ⟨g, n * 10 + 7, none⟩ (.int .i64 x7)).frozen? ⟨g, n * 10 + 8, none⟩ = false := (putQ_frozen g _ [.int .i64 x0, .int .i64 x1, .int .i64 x2, .int .i64 x3, .int .i64 x4, .int .i64 x5, .int .i64 x6, .int .i64 x7] X (n * 10)).trans (hfz (n * 10 + 8))
  have u9 : (((((((((X.setCell ⟨g, n * 10, none⟩ (.int .i64 x0)).setCell ⟨g, n * 10 + 1, none⟩ (.int .i64 x1)).setCell ⟨g, n * 10 + 2, none⟩ (.int .i64 x2)).setCell ⟨g, n * 10 + 3, none⟩ (.int .i64 x3)).setCell ⟨g, n * 10 + 4, none⟩ (.int .i64 x4)).setCell ⟨g, n * 10 + 5, none⟩ (.int .i64 x5)).setCell ⟨g, n * 10 + 6, none⟩ (.int .i64 x6)).setCell ⟨g, n * 10 + 7, none⟩ (.int .i64 x7)).setCell ⟨g, n * 10 + 8, none⟩ (.bool x8)).cell? ⟨g, n * 10 + 9, none⟩ = _ := (putQ_next g [.int .i64 x0, .int .i64 x1, .int .i64 x2, .int .i64 x3, .int .i64 x4, .int .i64 x5, .int .i64 x6, .int .i64 x7, .bool x8] X (n * 10) 9 (Nat.le_of_eq rfl)).trans c9
  have v9 : (((((((((X.setCell ⟨g, n * 10, none⟩ (.int .i64 x0)).setCell ⟨g, n * 10 + 1, none⟩ (.int .i64 x1)).setCell ⟨g, n * 10 + 2, none⟩ (.int .i64 x2)).setCell ⟨g, n * 10 + 3, none⟩ (.int .i64 x3)).setCell ⟨g, n * 10 + 4, none⟩ (.int .i64 x4)).setCell ⟨g, n * 10 + 5, none⟩ (.int .i64 x5)).setCell ⟨g, n * 10 + 6, none⟩ (.int .i64 x6)).setCell ⟨g, n * 10 + 7, none⟩ (.int .i64 x7)).setCell ⟨g, n * 10 + 8, none⟩ (.bool x8)).frozen? ⟨g, n * 10 + 9, none⟩ = false := (putQ_frozen g _ [.int .i64 x0, .int .i64 x1, .int .i64 x2, .int .i64 x3, .int .i64 x4, .int .i64 x5, .int .i64 x6, .int .i64 x7, .bool x8] X (n * 10)).trans (hfz (n * 10 + 9))
  clear hP0 hat hfz c0 c1 c2 c3 c4 c5 c6 c7 c8 c9
  go_wp2_with fail
  go_ret2
  obtain ⟨z1, z2⟩ := HZ.out
  refine ⟨_, fv1, ⟨rfl, z1⟩, ?_, ?_⟩
  · refine ((Kp.of_below _ HY.out).trans HK2.out (fun _ _ h => h)).trans z2 (fun b hb h => ?_)
    rcases HSUB.out b h with h1 | h1
    · exact h1
    · have := HY.out.size; omega
  · intro b hb
    rcases HSUB.out b hb with h1 | h1
    · exact .inl h1
    · exact .inr (Nat.le_trans HY.out.size h1)
end Go.Proofs.Ytakkmnhiaddnnaa

/- The arena of bocage/rbtree.node: all calls told by the arena of lists. -/
namespace Go.Proofs.Ytakkmnhiaddnnaa
open Go.RowKit Go.Sort Go.Proofs.Ytakkmnhiaddnnaa.Bo
set_option linter.unusedVariables false

theorem rnroom_any {S : Nat → Prop} {w : World} {base A : Nat} {a : Ag Nd} (h : rnIs w base A a S) : Calls Try.prog 40 #[aP A] w fun e w' => e = .returned (.int .i64 a.room) ∧ w = w' := by
  obtain ⟨pv, fv, rfl, h1⟩ := h
  exact rnroom_core A a.room pv fv w h1.box
theorem rnlen_at {w : World} {base A : Nat} {room : Int} {pv fv : Value} {ps : List (Nd × Bool)} {fs : List Int} (h : rnAt w base A room pv fv ps fs) (hl : ps.length ≤ 1000000) (hl2 : fs.length ≤ 1000000) : Calls Try.prog 43 #[aP A] w fun e w' => e = .returned (.int .i64 ((ps.length : Int) - (fs.length : Int))) ∧ Go.RowKit.Below w.heap.size w w' := by
  obtain ⟨pa, pc, rfl, _⟩ := own_slice h.prow
  obtain ⟨fa, fc, rfl, _⟩ := own_slice h.frow
  exact rnlen_core A ps.length pc fs.length fc pa fa room w h.box hl hl2
theorem rnlen_any {S : Nat → Prop} {w : World} {base A : Nat} {a : Ag Nd} (h : rnIs w base A a S) (hok : a.ok) : Calls Try.prog 43 #[aP A] w fun e w' => e = .returned (.int .i64 a.len) ∧ Go.RowKit.Below w.heap.size w w' := by
  obtain ⟨pv, fv, rfl, h1⟩ := h
  have hl := a.lens hok
  have := rnlen_at h1 (by rw [a.ps_len]; omega) (by omega)
  rw [a.ps_len] at this
  unfold Ag.len
  rw [hok.ever]
  exact this
theorem rnat_nil {S : Nat → Prop} {w : World} {base A : Nat} {a : Ag Nd} (h : rnIs w base A a S) (hok : a.ok) (i : Int) (hi : a.is i = false) : Calls Try.prog 64 #[aP A, .int .i64 i] w fun e w' => e = .returned (.pointer none) ∧ w = w' := by
  obtain ⟨pv, fv, rfl, h1⟩ := h
  have hl := a.lens hok
  exact rnat_no h1 (by rw [a.ps_len]; omega) i (ag_ps_no rnZ a i hi)
/-- Where a thing stands: it is read and written there. -/
theorem rnat_is {S : Nat → Prop} {w : World} {base A : Nat} {a : Ag Nd} (h : rnIs w base A a S) (hok : a.ok) (n : Nat) (hi : a.is (n : Int) = true) :
    ∃ g, (Calls Try.prog 64 #[aP A, .int .i64 (n : Int)] w fun e w' => e = .returned (.pointer (some ⟨g, n * 10, none⟩)) ∧ w = w') ∧ S g ∧ (∀ j u, (rnE.e (a.l.getD n rnZ))[j]? = some u → w.cell? ⟨g, n * 10 + j, none⟩ = some u) ∧ (∀ j, w.frozen? ⟨g, j, none⟩ = false) ∧
      (∀ v : Nd, rnIs (putQ w g (n * 10) (rnE.e v)) base A (a.set n v) S ∧ Kp S w (putQ w g (n * 10) (rnE.e v))) ∧
      (∀ (j : Nat) (u : Value) (v : Nd), j < 9 → (rnE.e (a.l.getD n rnZ)).set j u = rnE.e v → rnIs (w.setCell ⟨g, n * 10 + j, none⟩ u) base A (a.set n v) S ∧ Kp S w (w.setCell ⟨g, n * 10 + j, none⟩ u)) := by
  obtain ⟨pv, fv, rfl, h1⟩ := h
  have hl := a.lens hok
  obtain ⟨_, _, h3, _⟩ := a.is_in n hok hi
  rw [Int.toNat_natCast] at h3
  have hn : n < (a.ps rnZ).length := by rw [a.ps_len]; exact h3
  have hy := ag_ps_yes rnZ a n hn hi
  obtain ⟨g, cap, e1, hgA, hat, hfz⟩ := h1.at n hn
  rw [hy] at hat
  refine ⟨g, rnat_yes h1 (by rw [a.ps_len]; omega) n g cap hn (by rw [hy]) e1, .inr (.inl (by rw [e1]; rfl)), fun j u hu => hat j u ?_, hfz, fun v => ?_, fun j u v hj hv => ?_⟩
  · rw [List.getElem?_append_left (by have := (List.getElem?_eq_some_iff.1 hu).1; exact this)]; exact hu
  · subst e1
    obtain ⟨z1, z2⟩ := h1.put1 n v hn (by rw [hy])
    rw [a.ps_set rnZ n v hok hi] at z1
    exact ⟨⟨_, fv, rfl, z1⟩, z2⟩
  · subst e1
    obtain ⟨z1, z2⟩ := h1.put2 n j u v hn (by rw [hy]) hj (by rw [hy]; exact hv)
    rw [a.ps_set rnZ n v hok hi] at z1
    exact ⟨⟨_, fv, rfl, z1⟩, z2⟩
theorem rnget_yes {S : Nat → Prop} {w : World} {base A : Nat} {a : Ag Nd} (h : rnIs w base A a S) (hok : a.ok) (n : Nat) (hi : a.is (n : Int) = true) (x : Nd) (hx : a.l.getD n rnZ = x) : Calls Try.prog 69 #[aP A, .int .i64 (n : Int)] w fun e w' => e = .returned (.tuple #[.agg #[.int .i64 x.g.ls, .int .i64 x.g.la, .int .i64 x.g.hs, .int .i64 x.g.ha, .int .i64 x.g.v, .int .i64 x.pa, .int .i64 x.c0, .int .i64 x.c1, .bool x.red], .bool true]) ∧ Go.RowKit.Below w.heap.size w w' := by
  obtain ⟨pv, fv, rfl, h1⟩ := h
  have hl := a.lens hok
  obtain ⟨_, _, h3, _⟩ := a.is_in n hok hi
  rw [Int.toNat_natCast] at h3
  have hn : n < (a.ps rnZ).length := by rw [a.ps_len]; exact h3
  have hy := ag_ps_yes rnZ a n hn hi
  obtain ⟨g, cap, e1, hgA, hat, hfz⟩ := h1.at n hn
  rw [hy, hx] at hat
  exact rnget_yes_core A g n x w (fun W hb => rnat_yes (h1.below hb) (by rw [a.ps_len]; omega) n g cap hn (by rw [hy]) e1) (hat 0 _ rfl) (hat 1 _ rfl) (hat 2 _ rfl) (hat 3 _ rfl) (hat 4 _ rfl) (hat 5 _ rfl) (hat 6 _ rfl) (hat 7 _ rfl) (hat 8 _ rfl)
theorem rnget_no {S : Nat → Prop} {w : World} {base A : Nat} {a : Ag Nd} (h : rnIs w base A a S) (hok : a.ok) (i : Int) (hi : a.is i = false) : Calls Try.prog 69 #[aP A, .int .i64 i] w fun e w' => e = .returned (.tuple #[.agg #[.int .i64 0, .int .i64 0, .int .i64 0, .int .i64 0, .int .i64 0, .int .i64 0, .int .i64 0, .int .i64 0, .bool false], .bool false]) ∧ Go.RowKit.Below w.heap.size w w' :=
  rnget_no_core A i w (fun W hb => rnat_nil (h.below hb) hok i hi)
theorem rnfree_no {S : Nat → Prop} {w : World} {base A : Nat} {a : Ag Nd} (h : rnIs w base A a S) (hok : a.ok) (i : Int) (hi : a.is i = false) : Calls Try.prog 92 #[aP A, .int .i64 i] w (rnPost w base A S a (.bool false)) :=
  (rnfree_no_core A i w (rnat_nil h hok i hi)).mono fun e w' ⟨he, hw⟩ => gmpost_same h he (hw ▸ Go.RowKit.Below.refl _ _)
theorem rnfree_yes {S : Nat → Prop} {w : World} {base A : Nat} {a : Ag Nd} (h : rnIs w base A a S) (hok : a.ok) (n : Nat) (hi : a.is (n : Int) = true) : Calls Try.prog 92 #[aP A, .int .i64 (n : Int)] w (rnPost w base A S (a.drop (n : Int)) (.bool true)) := by
  have hl := a.lens hok
  obtain ⟨_, _, h3, _⟩ := a.is_in n hok hi
  rw [Int.toNat_natCast] at h3
  have hn : n < (a.ps rnZ).length := by rw [a.ps_len]; exact h3
  have hy := ag_ps_yes rnZ a n hn hi
  obtain ⟨pv, fv, rfl, hA⟩ := h
  obtain ⟨g, cap, rfl, _⟩ := hA.at n hn
  obtain ⟨fa, fc, rfl, _⟩ := own_slice hA.frow
  refine (rnfree_yes_core A g cap a.free.length fc n base fa a.room (a.ps rnZ) a.free w rfl hn (by rw [a.ps_len]; omega) (by omega) hA (rnat_yes hA (by rw [a.ps_len]; omega) n g cap hn (by rw [hy]) rfl)).mono ?_
  intro e w' hp
  exact gmpost_of hp rfl (a.ps_drop rnZ n hok hi) rfl
theorem rnreset_any {S : Nat → Prop} {w : World} {base A : Nat} {a : Ag Nd} (h : rnIs w base A a S) : Calls Try.prog 68 #[aP A] w (rnPost w base A S (Ag.new a.room) (.tuple #[])) := by
  obtain ⟨pv, fv, rfl, hA⟩ := h
  refine (rnreset_core A pv fv a.room w hA.box).mono ?_
  rintro e w' ⟨rfl, rfl⟩
  refine ⟨FP A (.slice none 0 0) (.slice none 0 0), ⟨rfl, _, _, rfl, ⟨heap_setCell_same _ _ _ _ _ _ (heap_setCell_same _ _ _ _ _ _ hA.box), World.ownsRow_nil _ _ _ _, World.ownsRow_nil _ _ _ _, hA.le, hA.ty⟩⟩, ?_, ?_⟩
  · exact ((Kp.refl _ w).setCell ⟨A, 1, none⟩ (.inl (.inl rfl)) _).setCell ⟨A, 2, none⟩ (.inl (.inl rfl)) _
  · rintro b (rfl | hb | hb)
    · exact .inl (.inl rfl)
    · cases hb
    · cases hb
theorem rnput_full {S : Nat → Prop} {w : World} {base A : Nat} {a : Ag Nd} (h : rnIs w base A a S) (hok : a.ok) (x : Nd) (hr : a.room ≤ a.len) : Calls Try.prog 65 #[aP A, .agg #[.int .i64 x.g.ls, .int .i64 x.g.la, .int .i64 x.g.hs, .int .i64 x.g.ha, .int .i64 x.g.v, .int .i64 x.pa, .int .i64 x.c0, .int .i64 x.c1, .bool x.red]] w (rnPost w base A S a (.tuple #[.int .i64 0, .int .i64 50])) := by
  have hS := h
  have hl := a.lens hok
  obtain ⟨pv, fv, rfl, hA⟩ := h
  have hev := hok.ever
  have hpl := a.ps_len rnZ
  unfold Ag.len at hr
  refine (rnput_full_core A (a.ps rnZ).length a.free.length pv fv a.room x.g.ls x.g.la x.g.hs x.g.ha x.g.v x.pa x.c0 x.c1 x.red w (by omega) (by omega) hA.box (fun W hb => rnlen_at (hA.below hb) (by omega) (by omega)) (by omega)).mono ?_
  rintro e w' ⟨he, hb⟩
  exact gmpost_same hS he hb
theorem rnput_take {S : Nat → Prop} {w : World} {base A : Nat} {a : Ag Nd} (h : rnIs w base A a S) (hok : a.ok) (x : Nd) (fs : List Int) (f : Nat) (hf : a.free = fs ++ [(f : Int)]) (hr : a.len < a.room) : Calls Try.prog 65 #[aP A, .agg #[.int .i64 x.g.ls, .int .i64 x.g.la, .int .i64 x.g.hs, .int .i64 x.g.ha, .int .i64 x.g.v, .int .i64 x.pa, .int .i64 x.c0, .int .i64 x.c1, .bool x.red]] w (rnPost w base A S (a.take fs f x) (.tuple #[.int .i64 (f : Int), .int .i64 0])) := by
  have hl := a.lens hok
  obtain ⟨pv, fv, rfl, hA⟩ := h
  have hev := hok.ever
  have hpl := a.ps_len rnZ
  unfold Ag.len at hr
  obtain ⟨hlt, hps⟩ := a.ps_take rnZ f fs x hok hf
  have hlen : a.free.length = fs.length + 1 := by rw [hf]; simp
  refine (rnput_core A (a.ps rnZ).length a.free.length f base pv fv a.room x.g.ls x.g.la x.g.hs x.g.ha x.g.v x.pa x.c0 x.c1 x.red (a.ps rnZ) fs w (by omega) (by omega) hA.box (fun b hb => (hA.lt b hb).2) (fun W hb => rnlen_at (hA.below hb) (by omega) (by omega)) (by omega) (by omega) (fun W hb => ?_)).mono (fun e w' hp => gmpost_of hp rfl hps rfl)
  have hA' := hA.below hb
  rw [hf] at hA'
  obtain ⟨gf, fc, e1, _⟩ := hA'.frow.form (by simp)
  rw [show (fs ++ [(f : Int)]).length = fs.length + 1 by simp] at e1
  subst e1
  exact rntake_free_core A gf (fs.length + 1) fc base pv a.room f (a.ps rnZ) fs W rfl (by omega) hA'
theorem rnput_grow {S : Nat → Prop} {w : World} {base A : Nat} {a : Ag Nd} (h : rnIs w base A a S) (hok : a.ok) (x : Nd) (hf : a.free = []) (hr : a.len < a.room) : Calls Try.prog 65 #[aP A, .agg #[.int .i64 x.g.ls, .int .i64 x.g.la, .int .i64 x.g.hs, .int .i64 x.g.ha, .int .i64 x.g.v, .int .i64 x.pa, .int .i64 x.c0, .int .i64 x.c1, .bool x.red]] w (rnPost w base A S (a.grow x) (.tuple #[.int .i64 a.ever, .int .i64 0])) := by
  have hl := a.lens hok
  obtain ⟨pv, fv, rfl, hA⟩ := h
  have hev := hok.ever
  have hpl := a.ps_len rnZ
  unfold Ag.len at hr
  have hps := a.ps_grow rnZ x hok hf
  rw [← hpl] at hps
  have hev2 : a.ever = ((a.ps rnZ).length : Int) := by omega
  rw [hev2]
  have hrm := hok.room
  refine (rnput_core A (a.ps rnZ).length a.free.length (a.ps rnZ).length base pv fv a.room x.g.ls x.g.la x.g.hs x.g.ha x.g.v x.pa x.c0 x.c1 x.red ((a.ps rnZ) ++ [(rnZ, false)]) [] w (by omega) (by omega) hA.box (fun b hb => (hA.lt b hb).2) (fun W hb => rnlen_at (hA.below hb) (by omega) (by omega)) (by omega) (by simp) (fun W hb => ?_)).mono (fun e w' hp => gmpost_of hp rfl hps hf.symm)
  have hA' := hA.below hb
  rw [hf] at hA'
  obtain ⟨pa, pc, e1, _⟩ := own_slice hA'.prow
  obtain ⟨fa, fc, e2, _⟩ := own_slice hA'.frow
  subst e1; subst e2
  exact rntake_new_core A (a.ps rnZ).length pc fc base pa fa a.room (a.ps rnZ) W rfl (by omega) hA'
end Go.Proofs.Ytakkmnhiaddnnaa

/- A tree in an arena: hanging, turning, painting. No Go in sight. -/
namespace Go.Proofs.Ytakkmnhiaddnnaa.Bo
/-- What stands where in an arena of nodes. -/
def Ag.look (a : Ag Nd) (i : Int) : Option Nd := if a.is i = true then some (a.l.getD i.toNat ndZ) else none
theorem Ag.look_is (a : Ag Nd) (i : Int) : (∃ n, a.look i = some n) ↔ a.is i = true := by
  unfold Ag.look
  split
  · rename_i h; simp [h]
  · rename_i h; simp [h]
theorem Ag.look_some (a : Ag Nd) (i : Int) (n : Nd) (h : a.look i = some n) : a.is i = true ∧ a.l.getD i.toNat ndZ = n := by
  unfold Ag.look at h
  split at h
  · rename_i k; injection h with h; exact ⟨k, h⟩
  · cases h
theorem Ag.look_none (a : Ag Nd) (i : Int) : a.look i = none ↔ a.is i = false := by
  unfold Ag.look
  split
  · rename_i h; simp [h]
  · rename_i h; simp at h; simp [h]
theorem Ag.is_set {α : Type} (a : Ag α) (n : Nat) (v : α) (i : Int) : (a.set n v).is i = a.is i := rfl
theorem Ag.look_set (a : Ag Nd) (n : Nat) (v : Nd) (hok : a.ok) (hn : a.is (n : Int) = true) : (a.set n v).look = upd a.look (n : Int) v := by
  obtain ⟨_, _, h3, _⟩ := a.is_in n hok hn
  rw [Int.toNat_natCast] at h3
  funext i
  show (if (a.set n v).is i = true then some ((a.set n v).l.getD i.toNat ndZ) else none) = if i = (n : Int) then some v else (if a.is i = true then some (a.l.getD i.toNat ndZ) else none)
  rw [Ag.is_set]
  by_cases hi : i = (n : Int)
  · subst hi
    rw [if_pos hn, if_pos rfl]
    show some ((a.l.set n v).getD _ ndZ) = _
    rw [Int.toNat_natCast, agetD_set_self _ _ _ _ h3]
  · rw [if_neg hi]
    split
    · rename_i h
      have := (a.is_iff i).1 h
      show some ((a.l.set n v).getD _ ndZ) = _
      rw [agetD_set_ne _ _ _ _ _ (by omega)]
    · rfl
/-- The tree's own: the arena, and where the root is. -/
structure Rt where
  ar : Ag Nd
  root : Int
namespace Rt
abbrev look (t : Rt) : Int → Option Nd := t.ar.look
def tw (t : Rt) (i : Int) (h : Nd → Nd) : Rt := if t.ar.is i = true then { t with ar := t.ar.set i.toNat (h (t.ar.l.getD i.toNat ndZ)) } else t
theorem tw_is (t : Rt) (i : Int) (h : Nd → Nd) (j : Int) : (t.tw i h).ar.is j = t.ar.is j := by unfold tw; split <;> rfl
theorem tw_root (t : Rt) (i : Int) (h : Nd → Nd) : (t.tw i h).root = t.root := by unfold tw; split <;> rfl
theorem tw_room (t : Rt) (i : Int) (h : Nd → Nd) : (t.tw i h).ar.room = t.ar.room := by unfold tw; split <;> rfl
theorem tw_len (t : Rt) (i : Int) (h : Nd → Nd) : (t.tw i h).ar.len = t.ar.len := by unfold tw; split <;> rfl
theorem tw_free (t : Rt) (i : Int) (h : Nd → Nd) : (t.tw i h).ar.free = t.ar.free := by unfold tw; split <;> rfl
theorem tw_ok (t : Rt) (i : Int) (h : Nd → Nd) (hok : t.ar.ok) : (t.tw i h).ar.ok := by unfold tw; split; exact t.ar.set_ok _ _ hok; exact hok
theorem tw_look (t : Rt) (i : Int) (h : Nd → Nd) (hok : t.ar.ok) : (t.tw i h).look = Bo.tw t.look i h := by
  unfold tw
  split
  · rename_i k
    have hk := (t.ar.is_iff i).1 k
    obtain ⟨n, rfl⟩ : ∃ n : Nat, i = (n : Int) := ⟨i.toNat, by omega⟩
    rw [Int.toNat_natCast]
    refine (t.ar.look_set n _ hok k).trans (tw_some _ _ _ ?_).symm
    show Ag.look _ _ = _
    unfold Ag.look
    rw [if_pos k, Int.toNat_natCast]
  · rename_i k
    exact (tw_none _ _ ((t.ar.look_none i).2 (by simpa using k))).symm
def pa (t : Rt) (i : Int) : Int := (t.ar.l.getD i.toNat ndZ).pa
def ch (t : Rt) (i : Int) (s : Bool) : Int := (t.ar.l.getD i.toNat ndZ).ch s
def sd (t : Rt) (i : Int) : Bool := t.ar.is (t.pa i) && (t.ch (t.pa i) true == i)
def red (t : Rt) (i : Int) : Bool := t.ar.is i && (t.ar.l.getD i.toNat ndZ).red
/-- The child of p on the side s is j (of none: the root); j's parent is p. -/
def hang (t : Rt) (j p : Int) (s : Bool) : Rt := (if t.ar.is p = true then t.tw p (·.setCh s j) else { t with root := j }).tw j (·.setPa p)
def paint (t : Rt) (i : Int) (b : Bool) : Rt := t.tw i (·.setRed b)
def rot (t : Rt) (i : Int) (s : Bool) : Rt := ((t.hang (t.ch i (!s)) (t.pa i) (t.sd i)).hang i (t.ch i (!s)) s).hang (t.ch (t.ch i (!s)) s) i (!s)
theorem pa_of (t : Rt) (i : Int) (n : Nd) (h : t.look i = some n) : t.pa i = n.pa := by unfold pa; rw [(t.ar.look_some i n h).2]
theorem ch_of (t : Rt) (i : Int) (n : Nd) (s : Bool) (h : t.look i = some n) : t.ch i s = n.ch s := by unfold ch; rw [(t.ar.look_some i n h).2]
theorem red_of (t : Rt) (i : Int) (n : Nd) (h : t.look i = some n) : t.red i = n.red := by unfold red; rw [(t.ar.look_some i n h).1, (t.ar.look_some i n h).2]; rfl
theorem red_no (t : Rt) (i : Int) (h : t.look i = none) : t.red i = false := by unfold red; rw [(t.ar.look_none i).1 h]; rfl
theorem hang_is (t : Rt) (j p : Int) (s : Bool) (i : Int) : (t.hang j p s).ar.is i = t.ar.is i := by
  unfold hang; rw [tw_is]; split; exact tw_is ..; rfl
theorem hang_room (t : Rt) (j p : Int) (s : Bool) : (t.hang j p s).ar.room = t.ar.room := by
  unfold hang; rw [tw_room]; split; exact tw_room ..; rfl
theorem hang_len (t : Rt) (j p : Int) (s : Bool) : (t.hang j p s).ar.len = t.ar.len := by
  unfold hang; rw [tw_len]; split; exact tw_len ..; rfl
theorem hang_free (t : Rt) (j p : Int) (s : Bool) : (t.hang j p s).ar.free = t.ar.free := by
  unfold hang; rw [tw_free]; split; exact tw_free ..; rfl
theorem hang_ok (t : Rt) (j p : Int) (s : Bool) (hok : t.ar.ok) : (t.hang j p s).ar.ok := by
  unfold hang; apply tw_ok; split; exact tw_ok _ _ _ hok; exact hok
theorem hang_look (t : Rt) (j p : Int) (s : Bool) (hok : t.ar.ok) : (t.hang j p s).look = hangf t.look j p s := by
  unfold hang hangf
  split
  · rename_i h
    rw [tw_look _ _ _ (tw_ok _ _ _ hok), tw_look _ _ _ hok]
  · rename_i h
    refine (tw_look ⟨t.ar, j⟩ _ _ hok).trans ?_
    rw [tw_none (f := t.look) _ _ ((t.ar.look_none p).2 (by simpa using h))]
theorem hang_root (t : Rt) (j p : Int) (s : Bool) : (t.hang j p s).root = if t.ar.is p = true then t.root else j := by
  unfold hang; rw [tw_root]; split; exact tw_root ..; rfl
theorem rot_is (t : Rt) (i : Int) (s : Bool) (j : Int) : (t.rot i s).ar.is j = t.ar.is j := by unfold rot; rw [hang_is, hang_is, hang_is]
theorem rot_room (t : Rt) (i : Int) (s : Bool) : (t.rot i s).ar.room = t.ar.room := by unfold rot; rw [hang_room, hang_room, hang_room]
theorem rot_len (t : Rt) (i : Int) (s : Bool) : (t.rot i s).ar.len = t.ar.len := by unfold rot; rw [hang_len, hang_len, hang_len]
theorem rot_ok (t : Rt) (i : Int) (s : Bool) (hok : t.ar.ok) : (t.rot i s).ar.ok := hang_ok _ _ _ _ (hang_ok _ _ _ _ (hang_ok _ _ _ _ hok))
end Rt
/-- The arena holds just that tree. -/
structure Rep (t : Rt) (x : Tr) : Prop where
  ok : t.ar.ok
  root : t.root = x.idx
  rep : RepT t.look x (-1)
  nd : x.ids.Nodup
  all : ∀ k : Nat, t.ar.is (k : Int) = true → k ∈ x.ids
theorem Ag.look_neg (a : Ag Nd) : a.look (-1) = none := by
  rw [Ag.look_none]
  cases h : a.is (-1) with
  | false => rfl
  | true => have := (a.is_iff (-1)).1 h; omega
theorem hangf_other {f : Int → Option Nd} (j p k : Int) (s : Bool) (h1 : k ≠ j) (h2 : k ≠ p) : hangf f j p s k = f k := by
  unfold hangf; rw [tw_ne _ _ _ h1, tw_ne _ _ _ h2]
theorem hangf_p {f : Int → Option Nd} (j p : Int) (s : Bool) (n : Nd) (h1 : p ≠ j) (h : f p = some n) : hangf f j p s p = some (n.setCh s j) := by
  unfold hangf; rw [tw_ne _ _ _ h1, tw_self _ _ _ h]
theorem hangf_j {f : Int → Option Nd} (j p : Int) (s : Bool) (n : Nd) (h1 : j ≠ p) (h : f j = some n) : hangf f j p s j = some (n.setPa p) := by
  unfold hangf; rw [tw_self _ _ n (by rw [tw_ne _ _ _ h1]; exact h)]
/-- A tree that was hung elsewhere. -/
theorem hangf_tree {f : Int → Option Nd} (x : Tr) (p q : Int) (s : Bool) (hr : RepT f x p) (hn : x.ids.Nodup) (hq : ∀ k ∈ x.ids, q ≠ (k : Int)) : RepT (hangf f x.idx q s) x q := by
  refine repT_congr x q (fun k hk => ?_) (repT_move x p q hr hn)
  have h1 := hq k hk
  unfold hangf tw
  rw [if_neg (c := (k : Int) = q) (fun e => h1 e.symm)]
theorem idx_ne (x : Tr) (k : Nat) (h : k ∉ x.ids) : (k : Int) ≠ x.idx := fun e => h (x.idx_mem k e.symm)
theorem cpi_ne (cx : List Fr) (k : Nat) (h : k ∉ cids cx) : (k : Int) ≠ cpi cx := by
  cases cx with
  | nil => show (k : Int) ≠ -1; omega
  | cons y cx =>
    intro e
    have e : (k : Int) = (y.i : Int) := e
    have : k = y.i := by omega
    subst this
    exact h (by simp [cids])
/-- A way down leads elsewhere. -/
theorem hangf_way {f : Int → Option Nd} (cx : List Fr) (h j : Int) (hr : RepC f cx h) (hn : (cids cx).Nodup) (hj : ∀ k ∈ cids cx, (k : Int) ≠ j) (s : Bool) (hs : ∀ y l, cx = y :: l → y.s = s) : RepC (hangf f j (cpi cx) s) cx j := by
  cases cx with
  | nil => trivial
  | cons y cx =>
    obtain ⟨h1, h2, h3⟩ := hr
    have e := hs y cx rfl
    subst e
    simp only [cids, List.cons_append, List.nodup_cons, List.nodup_append, List.mem_append, not_or] at hn
    refine ⟨?_, repT_congr _ _ (fun k hk => ?_) h2, repC_congr _ _ (fun k hk => ?_) h3⟩
    · show hangf f j (y.i : Int) y.s (y.i : Int) = _
      rw [hangf_p _ _ _ _ (hj y.i (by simp [cids])) h1, ndk_setCh]
    · refine hangf_other _ _ _ _ (hj k (by simp [cids, hk])) ?_
      show (k : Int) ≠ (y.i : Int)
      intro e
      have : k = y.i := by omega
      subst this; exact hn.1.1 hk
    · refine hangf_other _ _ _ _ (hj k (by simp [cids, hk])) ?_
      show (k : Int) ≠ (y.i : Int)
      intro e
      have : k = y.i := by omega
      subst this; exact hn.1.2 hk
/-- On which side a node hangs. -/
def csd : List Fr → Bool
  | [] => false
  | y :: _ => y.s
theorem csd_of (cx : List Fr) : ∀ y l, cx = y :: l → y.s = csd cx := by rintro y l rfl; rfl
theorem Rep.parts {t : Rt} {cx : List Fr} {x : Tr} (h : Rep t (plug cx x)) : RepC t.look cx x.idx ∧ RepT t.look x (cpi cx) ∧ (cids cx).Nodup ∧ x.ids.Nodup ∧ ∀ k ∈ x.ids, k ∉ cids cx := by
  have h1 := (rep_plug cx x).1 h.rep
  have h2 := (plug_nodup cx x).1 h.nd
  exact ⟨h1.1, h1.2, h2.1, h2.2.1, h2.2.2⟩
theorem plug_idx (cx : List Fr) (x y : Tr) (h : cx ≠ []) : (plug cx x).idx = (plug cx y).idx := by
  induction cx generalizing x y with
  | nil => exact absurd rfl h
  | cons z cx ih =>
    cases cx with
    | nil => show (Tr.mk ..).idx = (Tr.mk ..).idx; rw [Tr.mk_idx, Tr.mk_idx]
    | cons z2 cx => exact ih _ _ (by simp)
theorem cpi_is {t : Rt} {cx : List Fr} {h : Int} (hr : RepC t.look cx h) : t.ar.is (cpi cx) = !cx.isEmpty := by
  cases cx with
  | nil => exact (t.ar.look_none (-1)).1 t.ar.look_neg
  | cons y cx => exact (t.ar.look_some _ _ hr.1).1
/-- The side is told as it is. -/
theorem Rep.side {t : Rt} {cx : List Fr} {x : Tr} (h : Rep t (plug cx x)) (hx : x ≠ .nil) : t.sd x.idx = csd cx := by
  obtain ⟨h1, h2, h3, h4, h5⟩ := h.parts
  have hp : t.pa x.idx = cpi cx := by
    cases x with
    | nil => exact absurd rfl hx
    | node c l i g r => exact (t.pa_of _ _ h2.1)
  unfold Rt.sd
  rw [hp, cpi_is h1]
  cases cx with
  | nil => rfl
  | cons y cx =>
    show (true && _) = y.s
    rw [Bool.true_and, show cpi (y :: cx) = (y.i : Int) from rfl, t.ch_of _ _ _ h1.1]
    cases hs : y.s with
    | true => simp [ndk, Nd.ch]
    | false =>
      simp [ndk, Nd.ch]
      intro e
      cases x with
      | nil => exact hx rfl
      | node c l i g r =>
        have h6 := h5 i (by simp [Tr.ids])
        exact h6 (by simp [cids, Tr.idx_mem y.o i e])
/-- A node is painted. -/
theorem Rep.paint {t : Rt} {cx : List Fr} {x : Tr} (h : Rep t (plug cx x)) (b : Bool) : Rep (t.paint x.idx b) (plug cx (x.paint b)) := by
  obtain ⟨h1, h2, h3, h4, h5⟩ := h.parts
  have hat := t.tw_look x.idx (·.setRed b) h.ok
  refine ⟨t.tw_ok _ _ h.ok, ?_, ?_, ?_, ?_⟩
  · show (t.tw _ _).root = _
    rw [t.tw_root, h.root]
    cases cx with
    | nil => exact (x.paint_idx b).symm
    | cons y cx => exact plug_idx _ _ _ (by simp)
  · show RepT (t.tw _ _).look _ _
    rw [hat, rep_plug, x.paint_idx]
    refine ⟨repC_congr _ _ (fun k hk => tw_ne _ _ _ (idx_ne x k (fun hx => h5 k hx hk))) h1, ?_⟩
    cases x with
    | nil => trivial
    | node c l i g r =>
      obtain ⟨g1, g2, g3⟩ := h2
      have hn := (Tr.mk_nodup false c l i g r).1 h4
      refine ⟨(tw_self _ _ _ g1).trans rfl, repT_congr _ _ (fun k hk => tw_ne _ _ _ ?_) g2, repT_congr _ _ (fun k hk => tw_ne _ _ _ ?_) g3⟩
      · intro e
        have : k = i := by simp only [Tr.idx] at e; omega
        subst this; exact hn.2.2.1 hk
      · intro e
        have : k = i := by simp only [Tr.idx] at e; omega
        subst this; exact hn.2.2.2.1 hk
  · rw [plug_nodup, x.paint_ids]; exact ⟨h3, h4, h5⟩
  · intro k hk
    have := h.all k (by rw [← hk]; exact (t.tw_is _ _ _).symm)
    rw [plug_mem] at this ⊢
    rw [x.paint_ids]; exact this
end Go.Proofs.Ytakkmnhiaddnnaa.Bo

/- A tree in an arena: turning a node down. No Go in sight. -/
namespace Go.Proofs.Ytakkmnhiaddnnaa.Bo
theorem natne {a b : Nat} (h : a ≠ b) : (a : Int) ≠ (b : Int) := fun e => h (by omega)
theorem Rep.rot {t : Rt} {cx : List Fr} {s ci cu : Bool} {A B C : Tr} {i u : Nat} {gi gu : G5} (h : Rep t (plug cx (Tr.mk s ci A i gi (Tr.mk s cu B u gu C)))) :
    Rep (t.rot i s) (plug cx (Tr.mk s cu (Tr.mk s ci A i gi B) u gu C)) := by
  obtain ⟨h1, h2, h3, h4, h5⟩ := h.parts
  have hsd := h.side (by cases s <;> simp [Tr.mk])
  rw [Tr.mk_idx] at h1 hsd
  obtain ⟨fi, rA, rU⟩ := (repT_mk ..).1 h2
  obtain ⟨fu, rB, rC⟩ := (repT_mk ..).1 rU
  rw [Tr.mk_idx] at fi
  obtain ⟨nA, nU, iA, iU, dA⟩ := (Tr.mk_nodup ..).1 h4
  obtain ⟨nB, nC, uB, uC, dB⟩ := (Tr.mk_nodup ..).1 nU
  simp only [Tr.mk_mem] at h5 iU dA
  have iu : i ≠ u := fun e => iU (.inl e)
  have iB : i ∉ B.ids := fun e => iU (.inr (.inl e))
  have iC : i ∉ C.ids := fun e => iU (.inr (.inr e))
  have xi : i ∉ cids cx := h5 i (.inl rfl)
  have xu : u ∉ cids cx := h5 u (.inr (.inr (.inl rfl)))
  have xA : ∀ k ∈ A.ids, k ∉ cids cx := fun k hk => h5 k (.inr (.inl hk))
  have xB : ∀ k ∈ B.ids, k ∉ cids cx := fun k hk => h5 k (.inr (.inr (.inr (.inl hk))))
  have xC : ∀ k ∈ C.ids, k ∉ cids cx := fun k hk => h5 k (.inr (.inr (.inr (.inr hk))))
  have uA : u ∉ A.ids := fun e => dA u e (.inl rfl)
  have AB : ∀ k ∈ A.ids, k ∉ B.ids := fun k hk e => dA k hk (.inr (.inl e))
  have AC : ∀ k ∈ A.ids, k ∉ C.ids := fun k hk e => dA k hk (.inr (.inr e))
  have e1 : t.ch i (!s) = (u : Int) := by rw [t.ch_of _ _ _ fi, ndk_ch2]
  have e2 : t.ch u s = B.idx := by rw [t.ch_of _ _ _ fu, ndk_ch]
  have e3 : t.pa i = cpi cx := by rw [t.pa_of _ _ fi, ndk_pa]
  have eL : (t.rot i s).look = hangf (hangf (hangf t.look u (cpi cx) (csd cx)) i u s) B.idx i (!s) := by
    unfold Rt.rot
    rw [e1, e2, e3, hsd, Rt.hang_look _ _ _ _ (Rt.hang_ok _ _ _ _ (Rt.hang_ok _ _ _ _ h.ok)), Rt.hang_look _ _ _ _ (Rt.hang_ok _ _ _ _ h.ok), Rt.hang_look _ _ _ _ h.ok]
  have isu : t.ar.is (u : Int) = true := (t.ar.look_some _ _ fu).1
  have isi : t.ar.is (i : Int) = true := (t.ar.look_some _ _ fi).1
  have eR : (t.rot i s).root = if t.ar.is (cpi cx) = true then t.root else (u : Int) := by
    unfold Rt.rot
    rw [e1, e2, e3, hsd, Rt.hang_root, Rt.hang_is, Rt.hang_is, if_pos isi, Rt.hang_root, Rt.hang_is, if_pos isu, Rt.hang_root]
  have jne : ∀ k, k ∈ cids cx → k ≠ i ∧ k ≠ u ∧ k ∉ B.ids := fun k hk => ⟨fun e => xi (e ▸ hk), fun e => xu (e ▸ hk), fun e => xB k e hk⟩
  have c1 := hangf_way cx _ (u : Int) h1 h3 (fun k hk => natne (jne k hk).2.1) (csd cx) (csd_of cx)
  have c2 := repC_congr (f' := hangf (hangf t.look u (cpi cx) (csd cx)) i u s) cx _ (fun k hk => hangf_other _ _ _ _ (natne (jne k hk).1) (natne (jne k hk).2.1)) c1
  have c3 := repC_congr (f' := hangf (hangf (hangf t.look u (cpi cx) (csd cx)) i u s) B.idx i (!s)) cx _ (fun k hk => hangf_other _ _ _ _ (idx_ne B k (jne k hk).2.2) (natne (jne k hk).1)) c2
  have u1 : hangf t.look u (cpi cx) (csd cx) u = some (ndk s gu (cpi cx) B.idx C.idx cu) := by
    rw [hangf_j _ _ _ _ (cpi_ne cx u xu) fu, ndk_setPa]
  have i1 : hangf t.look u (cpi cx) (csd cx) i = some (ndk s gi (cpi cx) A.idx u ci) := by
    rw [hangf_other _ _ _ _ (natne iu) (cpi_ne cx i xi)]; exact fi
  have u2 : hangf (hangf t.look u (cpi cx) (csd cx)) i u s u = some (ndk s gu (cpi cx) i C.idx cu) := by
    rw [hangf_p _ _ _ _ (natne fun e => iu e.symm) u1, ndk_setCh]
  have i2 : hangf (hangf t.look u (cpi cx) (csd cx)) i u s i = some (ndk s gi u A.idx u ci) := by
    rw [hangf_j _ _ _ _ (natne iu) i1, ndk_setPa]
  have u3 : hangf (hangf (hangf t.look u (cpi cx) (csd cx)) i u s) B.idx i (!s) u = some (ndk s gu (cpi cx) i C.idx cu) := by
    rw [hangf_other _ _ _ _ (idx_ne B u uB) (natne fun e => iu e.symm)]; exact u2
  have i3 : hangf (hangf (hangf t.look u (cpi cx) (csd cx)) i u s) B.idx i (!s) i = some (ndk s gi u A.idx B.idx ci) := by
    rw [hangf_p _ _ _ _ (idx_ne B i iB) i2, ndk_setCh2]
  have far2 : ∀ k, k ≠ i → k ≠ u → k ∉ cids cx → hangf (hangf t.look u (cpi cx) (csd cx)) i u s (k : Int) = t.look k := by
    intro k k1 k2 k3
    rw [hangf_other _ _ _ _ (natne k1) (natne k2), hangf_other _ _ _ _ (natne k2) (cpi_ne cx k k3)]
  have far3 : ∀ k, k ≠ i → k ≠ u → k ∉ cids cx → k ∉ B.ids → hangf (hangf (hangf t.look u (cpi cx) (csd cx)) i u s) B.idx i (!s) (k : Int) = t.look k := by
    intro k k1 k2 k3 k4
    rw [hangf_other _ _ _ _ (idx_ne B k k4) (natne k1), far2 k k1 k2 k3]
  have rA3 := repT_congr (f' := hangf (hangf (hangf t.look u (cpi cx) (csd cx)) i u s) B.idx i (!s)) A _ (fun k hk => far3 k (fun e => iA (e ▸ hk)) (fun e => uA (e ▸ hk)) (xA k hk) (AB k hk)) rA
  have rC3 := repT_congr (f' := hangf (hangf (hangf t.look u (cpi cx) (csd cx)) i u s) B.idx i (!s)) C _ (fun k hk => far3 k (fun e => iC (e ▸ hk)) (fun e => uC (e ▸ hk)) (xC k hk) (fun e => dB k e hk)) rC
  have rB2 := repT_congr (f' := hangf (hangf t.look u (cpi cx) (csd cx)) i u s) B _ (fun k hk => far2 k (fun e => iB (e ▸ hk)) (fun e => uB (e ▸ hk)) (xB k hk)) rB
  have rB3 := hangf_tree B u i (!s) rB2 nB (fun k hk => natne fun e => iB (e ▸ hk))
  refine ⟨Rt.rot_ok _ _ _ h.ok, ?_, ?_, ?_, ?_⟩
  · rw [eR, cpi_is h1]
    cases cx with
    | nil => exact (Tr.mk_idx ..).symm
    | cons y cx => exact h.root.trans (plug_idx _ _ _ (by simp))
  · rw [eL, rep_plug, Tr.mk_idx]
    refine ⟨c3, (repT_mk ..).2 ⟨?_, (repT_mk ..).2 ⟨i3, rA3, rB3⟩, rC3⟩⟩
    rw [Tr.mk_idx]; exact u3
  · rw [plug_nodup, Tr.mk_nodup, Tr.mk_nodup]
    simp only [Tr.mk_mem]
    refine ⟨h3, ⟨⟨nA, nB, iA, iB, AB⟩, nC, fun e => ?_, uC, fun k hk => ?_⟩, fun k hk => ?_⟩
    · rcases e with e | e | e
      · exact iu e.symm
      · exact uA e
      · exact uB e
    · rcases hk with rfl | hk | hk
      · exact iC
      · exact AC k hk
      · exact dB k hk
    · rcases hk with rfl | (rfl | hk | hk) | hk
      · exact xu
      · exact xi
      · exact xA k hk
      · exact xB k hk
      · exact xC k hk
  · intro k hk
    rw [Rt.rot_is] at hk
    have := h.all k hk
    simp only [plug_mem, Tr.mk_mem] at this ⊢
    rcases this with k1 | k1 | k1 | k1 | k1 | k1
    · exact .inl k1
    · exact .inr (.inr (.inl (.inl k1)))
    · exact .inr (.inr (.inl (.inr (.inl k1))))
    · exact .inr (.inl k1)
    · exact .inr (.inr (.inl (.inr (.inr k1))))
    · exact .inr (.inr (.inr k1))
end Go.Proofs.Ytakkmnhiaddnnaa.Bo

/- Colours of a tree, and its segments in order. No Go in sight. -/
namespace Go.Proofs.Ytakkmnhiaddnnaa.Bo
/-- A tree in colours, with n black ones on each way; its root is of any colour. -/
def RB : Tr → Nat → Prop
  | .nil, n => n = 0
  | .node true l _ _ r, n => RB l n ∧ RB r n ∧ l.isRed = false ∧ r.isRed = false
  | .node false l _ _ r, n => ∃ m, n = m + 1 ∧ RB l m ∧ RB r m
theorem rb_red (s : Bool) (a : Tr) (i : Nat) (g : G5) (b : Tr) (n : Nat) : RB (Tr.mk s true a i g b) n ↔ RB a n ∧ RB b n ∧ a.isRed = false ∧ b.isRed = false := by
  cases s
  · exact Iff.rfl
  · show (_ ∧ _ ∧ _ ∧ _) ↔ _
    exact ⟨fun ⟨h1, h2, h3, h4⟩ => ⟨h2, h1, h4, h3⟩, fun ⟨h1, h2, h3, h4⟩ => ⟨h2, h1, h4, h3⟩⟩
theorem rb_black (s : Bool) (a : Tr) (i : Nat) (g : G5) (b : Tr) (n : Nat) : RB (Tr.mk s false a i g b) n ↔ ∃ m, n = m + 1 ∧ RB a m ∧ RB b m := by
  cases s
  · exact Iff.rfl
  · show (∃ m, _ ∧ _ ∧ _) ↔ _
    exact ⟨fun ⟨m, h1, h2, h3⟩ => ⟨m, h1, h3, h2⟩, fun ⟨m, h1, h2, h3⟩ => ⟨m, h1, h3, h2⟩⟩
theorem rb_nil (n : Nat) : RB .nil n ↔ n = 0 := Iff.rfl
theorem rb_inj (x : Tr) : ∀ n m, RB x n → RB x m → n = m := by
  induction x with
  | nil => intro n m h k; exact h.trans k.symm
  | node c l i g r ih1 ih2 =>
    intro n m h k
    cases c with
    | true => exact ih1 _ _ h.1 k.1
    | false =>
      obtain ⟨a, rfl, h1, _⟩ := h
      obtain ⟨b, rfl, k1, _⟩ := k
      rw [ih1 _ _ h1 k1]
/-- A red one that is painted black. -/
theorem rb_paint (x : Tr) (n : Nat) (h : RB x n) (hr : x.isRed = true) : RB (x.paint false) (n + 1) := by
  obtain ⟨a, i, g, b, rfl⟩ := x.of_red hr false
  rw [Tr.mk_paint]
  exact (rb_black ..).2 ⟨n, rfl, ((rb_red ..).1 h).1, ((rb_red ..).1 h).2.1⟩
theorem paint_black (x : Tr) (h : x.isRed = false) : x.paint false = x := by
  cases x with
  | nil => rfl
  | node c l i g r => simp only [Tr.isRed] at h; subst h; rfl
theorem paint_isRed (x : Tr) : (x.paint false).isRed = false := by cases x <;> rfl
def crd : List Fr → Bool
  | [] => false
  | y :: _ => y.c
/-- What stands around a tree of n black ones on each way. -/
def RBC : List Fr → Nat → Prop
  | [], _ => True
  | y :: cx, n => RB y.o n ∧ (y.c = true → y.o.isRed = false ∧ crd cx = false ∧ cx ≠ [] ∧ RBC cx n) ∧ (y.c = false → RBC cx (n + 1))
/-- A whole red-black tree. -/
def Rbt (x : Tr) : Prop := (∃ n, RB x n) ∧ x.isRed = false
theorem rb_plug (cx : List Fr) : ∀ (x : Tr) (n : Nat), RBC cx n → RB x n → (x.isRed = true → crd cx = false ∧ cx ≠ []) → Rbt (plug cx x) := by
  induction cx with
  | nil =>
    intro x n _ hx hr
    refine ⟨⟨n, hx⟩, ?_⟩
    cases h : x.isRed with
    | false => exact h
    | true => exact absurd rfl (hr h).2
  | cons y cx ih =>
    rintro x n ⟨h1, h2, h3⟩ hx hr
    show Rbt (plug cx (Tr.mk y.s y.c x y.i y.g y.o))
    cases hc : y.c with
    | true =>
      obtain ⟨k1, k2, k3, k4⟩ := h2 hc
      have hxr : x.isRed = false := by
        cases h : x.isRed with
        | false => rfl
        | true =>
          have := (hr h).1
          rw [show crd (y :: cx) = y.c from rfl, hc] at this
          cases this
      exact ih _ n k4 ((rb_red ..).2 ⟨hx, h1, hxr, k1⟩) (fun _ => ⟨k2, k3⟩)
    | false =>
      exact ih _ (n + 1) (h3 hc) ((rb_black ..).2 ⟨n, rfl, hx, h1⟩) (fun h => by rw [Tr.mk_red] at h; cases h)
theorem rb_unplug (cx : List Fr) : ∀ (x : Tr), Rbt (plug cx x) → ∃ n, RBC cx n ∧ RB x n ∧ (x.isRed = true → crd cx = false ∧ cx ≠ []) := by
  induction cx with
  | nil => rintro x ⟨⟨n, h1⟩, h2⟩; exact ⟨n, trivial, h1, fun h => by rw [show plug [] x = x from rfl] at h2; rw [h] at h2; cases h2⟩
  | cons y cx ih =>
    intro x h
    obtain ⟨n, h1, h2, h3⟩ := ih _ h
    rw [show y.fill x = Tr.mk y.s y.c x y.i y.g y.o from rfl, Tr.mk_red] at h3
    rw [show y.fill x = Tr.mk y.s y.c x y.i y.g y.o from rfl] at h2
    cases hc : y.c with
    | true =>
      rw [hc] at h2
      obtain ⟨k1, k2, k3, k4⟩ := (rb_red ..).1 h2
      refine ⟨n, ⟨k2, fun _ => ⟨k4, (h3 hc).1, (h3 hc).2, h1⟩, fun e => by rw [hc] at e; cases e⟩, k1, fun e => by rw [k3] at e; cases e⟩
    | false =>
      rw [hc] at h2
      obtain ⟨m, rfl, k1, k2⟩ := (rb_black ..).1 h2
      exact ⟨m, ⟨k2, fun e => (by rw [hc] at e; cases e), fun _ => h1⟩, k1, fun _ => ⟨hc, by simp⟩⟩
def cpre : List Fr → List G5
  | [] => []
  | y :: cx => cpre cx ++ if y.s then y.o.ino ++ [y.g] else []
def cpost : List Fr → List G5
  | [] => []
  | y :: cx => (if y.s then [] else y.g :: y.o.ino) ++ cpost cx
theorem ino_plug (cx : List Fr) : ∀ x : Tr, (plug cx x).ino = cpre cx ++ x.ino ++ cpost cx := by
  induction cx with
  | nil => intro x; simp [plug, cpre, cpost]
  | cons y cx ih =>
    intro x
    show (plug cx (y.fill x)).ino = _
    rw [ih]
    obtain ⟨s, c, i, g, o⟩ := y
    cases s <;> simp [Fr.fill, Tr.mk, Tr.ino, cpre, cpost]
theorem ino_plug_eq (cx : List Fr) (x y : Tr) (h : x.ino = y.ino) : (plug cx x).ino = (plug cx y).ino := by rw [ino_plug, ino_plug, h]
theorem ino_rot (s ci cu : Bool) (A B C : Tr) (i u : Nat) (gi gu : G5) : (Tr.mk s cu (Tr.mk s ci A i gi B) u gu C).ino = (Tr.mk s ci A i gi (Tr.mk s cu B u gu C)).ino := by
  cases s <;> simp [Tr.mk, Tr.ino]
theorem ino_col (s c d : Bool) (A B : Tr) (i : Nat) (g : G5) : (Tr.mk s c A i g B).ino = (Tr.mk s d A i g B).ino := by cases s <;> rfl
theorem ino_mk (s c : Bool) (A A' B B' : Tr) (i : Nat) (g : G5) (h1 : A.ino = A'.ino) (h2 : B.ino = B'.ino) : (Tr.mk s c A i g B).ino = (Tr.mk s c A' i g B').ino := by
  cases s <;> simp [Tr.mk, Tr.ino, h1, h2]
theorem ino_len (x : Tr) : x.ino.length = x.ids.length := by
  induction x with
  | nil => rfl
  | node c l i g r ih1 ih2 => simp [Tr.ino, Tr.ids, ih1, ih2]
/-- A node is painted, or has another segment. -/
theorem Rep.turn {t : Rt} {cx : List Fr} {s c c' : Bool} {A B : Tr} {i : Nat} {g g' : G5} (h : Rep t (plug cx (Tr.mk s c A i g B))) (f : Nd → Nd) (hf : ∀ p, f (ndk s g p A.idx B.idx c) = ndk s g' p A.idx B.idx c') : Rep (t.tw i f) (plug cx (Tr.mk s c' A i g' B)) := by
  obtain ⟨h1, h2, h3, h4, h5⟩ := h.parts
  obtain ⟨fi, rA, rB⟩ := (repT_mk ..).1 h2
  obtain ⟨nA, nB, iA, iB, dA⟩ := (Tr.mk_nodup ..).1 h4
  have hat := t.tw_look i f h.ok
  rw [Tr.mk_idx] at h1
  have xi : i ∉ cids cx := h5 i ((Tr.mk_mem ..).2 (.inl rfl))
  refine ⟨t.tw_ok _ _ h.ok, ?_, ?_, ?_, ?_⟩
  · rw [t.tw_root, h.root]
    cases cx with
    | nil => exact (Tr.mk_idx ..).trans (Tr.mk_idx ..).symm
    | cons y cx => exact plug_idx _ _ _ (by simp)
  · rw [hat, rep_plug, Tr.mk_idx]
    refine ⟨repC_congr _ _ (fun k hk => tw_ne _ _ _ (natne fun e => xi (e ▸ hk))) h1, (repT_mk ..).2 ⟨?_, repT_congr _ _ (fun k hk => tw_ne _ _ _ (natne fun e => iA (e ▸ hk))) rA, repT_congr _ _ (fun k hk => tw_ne _ _ _ (natne fun e => iB (e ▸ hk))) rB⟩⟩
    rw [tw_self _ _ _ fi, hf]
  · have hn := h.nd
    simp only [plug_nodup, Tr.mk_nodup, Tr.mk_mem] at hn ⊢
    exact hn
  · intro k hk
    have := h.all k (by rw [← hk]; exact (t.tw_is _ _ _).symm)
    simp only [plug_mem, Tr.mk_mem] at this ⊢
    exact this
end Go.Proofs.Ytakkmnhiaddnnaa.Bo
