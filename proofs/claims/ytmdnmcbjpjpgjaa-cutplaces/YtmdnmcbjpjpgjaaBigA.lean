/- Rows of digits in memory; contracts of digit, more. -/
import Derived.Test.YtmdnmcbjpjpgjaaRows
import Derived.Test.YtmdnmcbjpjpgjaaBigMath
import Derived.WalkKit
import Derived.WalkSpells
import Derived.WalkLawsBesides
import Derived.Lib.Hide
namespace Go.Proofs.Ytmdnmcbjpjpgjaa
open Go.RowKit Go.Proofs.Ytmdnmcbjpjpgjaa.Bo
set_option linter.unusedVariables false

/-- One call behind the other: what was there stays. -/
theorem bt {a b c : World} (h1 : Below a.heap.size a b) (h2 : Below b.heap.size b c) : Below a.heap.size a c := h1.trans (h2.mono h1.size)

/-- The slice v holds the digits xs, at the head of a block, or is empty. -/
def Dg (w : World) (v : Value) (xs : List Nat) : Prop :=
  ∃ (a : Option Addr) (cap : Nat), v = .slice a xs.length cap ∧ xs.length ≤ cap ∧ (0 < xs.length → ∃ g cur, a = some ⟨g, 0, none⟩ ∧ w.heap[g]? = some (.cells cur 3 (0, 0)) ∧ ∀ (j : Nat) (h : j < xs.length), cur[j]? = some (.int .i64 ((xs[j] : Nat) : Int)))
theorem Dg.below {w w' : World} {v : Value} {xs : List Nat} (h : Dg w v xs) (hb : Below w.heap.size w w') : Dg w' v xs := by
  obtain ⟨a, cap, hv, hc, hg⟩ := h
  refine ⟨a, cap, hv, hc, fun hp => ?_⟩
  obtain ⟨g, cur, ha, hgb, hcur⟩ := hg hp
  exact ⟨g, cur, ha, (hb.block g (lt_of_block hgb)).trans hgb, hcur⟩
/-- A store into a block of another make is not seen. -/
theorem Dg.far {w : World} {v : Value} {xs : List Nat} (h : Dg w v xs) {b : Nat} {cs : Array Value} {t : TypeId} (hb : w.heap[b]? = some (.cells cs t (0, 0))) (ht : t ≠ 3) (i : Nat) (u : Value) : Dg (w.setCell ⟨b, i, none⟩ u) v xs := by
  obtain ⟨a, cap, hv, hc, hg⟩ := h
  refine ⟨a, cap, hv, hc, fun hp => ?_⟩
  obtain ⟨g, cur, ha, hgb, hcur⟩ := hg hp
  refine ⟨g, cur, ha, ?_, hcur⟩
  rw [heap_setCell_other _ _ _ _ ?_]
  · exact hgb
  · rintro rfl
    rw [hgb] at hb
    injection hb with hb
    injection hb with _ h2
    exact ht h2.symm

theorem digit_any (v : Value) (xs : List Nat) (i : Nat) (w : World) (h : Dg w v xs) (hl : xs.length ≤ 100000) (hi : i ≤ 1000000) :
    Calls Try.prog 56 #[v, .int .i64 (i : Int)] w fun e w' => e = .returned (.int .i64 ((xs.getD i 0 : Nat) : Int)) ∧ w = w' := by
  obtain ⟨a, cap, rfl, hc, hg⟩ := h
  by_cases hlt : i < xs.length
  · obtain ⟨g, cur, rfl, hgb, hcur⟩ := hg (by omega)
    have hx := (cell_of_row _ _ i _ _ _ hgb).trans (hcur i hlt)
    have e : xs.getD i 0 = xs[i] := by rw [List.getD_eq_getElem?_getD, List.getElem?_eq_getElem hlt]; rfl
    rw [e]
    clear hcur hgb e hg
    go_enter Try.func56, Try.ntmps56
    go_wp2
    go_ret
    exact ⟨rfl, rfl⟩
  · have e : xs.getD i 0 = 0 := by rw [List.getD_eq_getElem?_getD, List.getElem?_eq_none (by omega)]; rfl
    rw [e]
    clear e hg
    go_enter Try.func56, Try.ntmps56
    go_wp2
    go_ret
    exact ⟨rfl, rfl⟩

set_option maxHeartbeats 1000000 in
theorem more_any (v u : Value) (xs ys : List Nat) (w : World) (hx : Dg w v xs) (hy : Dg w u ys) (ox : Ok xs) (oy : Ok ys) (lx : xs.length ≤ 100000) (ly : ys.length ≤ 100000) :
    Calls Try.prog 58 #[v, u] w fun e w' => e = .returned (.bool (decide (val ys < val xs))) ∧ w = w' := by
  have HX := Lib.hid hx
  have HY := Lib.hid hy
  obtain ⟨a, cap, hv, hc, hg⟩ := hx
  obtain ⟨a2, cap2, hu, hc2, hg2⟩ := hy
  clear hg hg2
  generalize hD : decide (val ys < val xs) = D
  have HDD := Lib.hid hD
  clear hD
  subst hv hu
  go_enter Try.func58, Try.ntmps58
  go_wp2
  go_loop [5] (fun i => ∃ k : Int, i = .int .i64 k ∧ -1 ≤ k ∧ k ≤ xs.length + ys.length ∧ val (xs.drop (k + 1).toNat) = val (ys.drop (k + 1).toNat)) (fun i => (intOf i + 1).toNat)
  case atStart => 
    refine ⟨(xs.length : Int) + ys.length, rfl, by omega, by omega, ?_⟩
    rw [List.drop_of_length_le (by omega), List.drop_of_length_le (by omega)]
  case round =>
    obtain ⟨k, rfl, hk1, hk2, heq⟩ := hrel
    by_cases hpos : 0 ≤ k
    · obtain ⟨i, rfl⟩ := Int.eq_ofNat_of_zero_le hpos
      have heq' : val (xs.drop (i + 1)) = val (ys.drop (i + 1)) := heq
      have hvx := val_drop xs i
      have hvy := val_drop ys i
      have t0 : decide ((i : Int) ≥ 0) = true := decide_eq_true (by omega)
      have cx := Lib.hid (digit_any _ xs i w HX.out lx (by omega))
      have cy := Lib.hid (digit_any _ ys i w HY.out ly (by omega))
      have gx : val (xs.drop i) < val (ys.drop i) → Hid (false = D) := fun h => by
        show false = D
        rw [← HDD.out]; symm; exact decide_eq_false (by have := val_lt_down xs ys ox i h; omega)
      have gy : val (ys.drop i) < val (xs.drop i) → Hid (true = D) := fun h => by
        show true = D
        rw [← HDD.out]; symm; exact decide_eq_true (val_lt_down ys xs oy i h)
      generalize xs.getD i 0 = X at *
      generalize ys.getD i 0 = Y at *
      rcases Nat.lt_trichotomy X Y with hlt | hq | hgt
      · have t1 : ((X : Int) != (Y : Int)) = true := by rw [bne_iff_ne]; omega
        have t2 : decide ((Y : Int) < (X : Int)) = false := decide_eq_false (by omega)
        have t3 : decide (Y < X) = false := decide_eq_false (by omega)
        have H := gx (by omega)
        clear gx gy hvx hvy heq heq'
        go_wp2_with fail
        refine cx.out.mono ?_
        rintro e w' ⟨rfl, rfl⟩
        go_wp2_with fail
        refine cy.out.mono ?_
        rintro e w' ⟨rfl, rfl⟩
        go_wp2_with fail
        refine cx.out.mono ?_
        rintro e w' ⟨rfl, rfl⟩
        go_wp2_with fail
        refine cy.out.mono ?_
        rintro e w' ⟨rfl, rfl⟩
        go_wp2_with fail
        go_ret
        exact ⟨congrArg (fun b => Ending.returned (.bool b)) H.out, rfl⟩
      · have t1 : ((X : Int) != (Y : Int)) = false := by rw [bne_eq_false_iff_eq]; omega
        have HE : Hid (val (xs.drop i) = val (ys.drop i)) := by show val (xs.drop i) = val (ys.drop i); omega
        have HQ := Lib.hid hq
        clear gx gy hvx hvy heq heq' hq
        go_wp2_with fail
        refine cx.out.mono ?_
        rintro e w' ⟨rfl, rfl⟩
        go_wp2_with fail
        refine cy.out.mono ?_
        rintro e w' ⟨rfl, rfl⟩
        go_wp2_with fail
        go_round
        case rel => exact ⟨(i : Int) - 1, rfl, by omega, by omega, by rw [show ((i : Int) - 1 + 1).toNat = i from by omega]; exact HE.out⟩
        case measure => simp [intOf]
      · have t1 : ((X : Int) != (Y : Int)) = true := by rw [bne_iff_ne]; omega
        have t2 : decide ((Y : Int) < (X : Int)) = true := decide_eq_true (by omega)
        have t3 : decide (Y < X) = true := decide_eq_true (by omega)
        have H := gy (by omega)
        clear gx gy hvx hvy heq heq'
        go_wp2_with fail
        refine cx.out.mono ?_
        rintro e w' ⟨rfl, rfl⟩
        go_wp2_with fail
        refine cy.out.mono ?_
        rintro e w' ⟨rfl, rfl⟩
        go_wp2_with fail
        refine cx.out.mono ?_
        rintro e w' ⟨rfl, rfl⟩
        go_wp2_with fail
        refine cy.out.mono ?_
        rintro e w' ⟨rfl, rfl⟩
        go_wp2_with fail
        go_ret
        exact ⟨congrArg (fun b => Ending.returned (.bool b)) H.out, rfl⟩
    · obtain rfl : k = -1 := by omega
      have H : Hid (false = D) := by
        show false = D
        rw [← HDD.out]; symm; exact decide_eq_false (by have h0 : val (xs.drop 0) = val (ys.drop 0) := heq; simp at h0; omega)
      clear heq
      go_wp2_with fail
      go_ret
      exact ⟨congrArg (fun b => Ending.returned (.bool b)) H.out, rfl⟩
end Go.Proofs.Ytmdnmcbjpjpgjaa
