/- Contracts of cut, ends, Is. -/
import Derived.Test.YtmdnmcbjpjpgjaaBigA
import Derived.Deep.RegionHeld3
import Derived.BigQuiet
import Derived.Deep.QuietTactic
namespace Go.Proofs.Ytmdnmcbjpjpgjaa
open Go.RowKit Go.Proofs.Ytmdnmcbjpjpgjaa.Bo
set_option linter.unusedVariables false

theorem Dg.cellAt {w : World} {a : Option Addr} {n cap : Nat} {xs : List Nat} (h : Dg w (.slice a n cap) xs) : n = xs.length ∧ n ≤ cap ∧ (0 < n → ∃ g, a = some ⟨g, 0, none⟩ ∧ g < w.heap.size ∧ ∀ (j : Nat) (h : j < xs.length), w.cell? ⟨g, j, none⟩ = some (.int .i64 ((xs[j] : Nat) : Int))) := by
  obtain ⟨a', cap', e, hc, hg⟩ := h
  injection e with e1 e2 e3
  subst e1 e2 e3
  refine ⟨rfl, hc, fun hp => ?_⟩
  obtain ⟨g, cur, ha, hgb, hcur⟩ := hg hp
  exact ⟨g, ha, lt_of_block hgb, fun j hj => (cell_of_row _ _ j _ _ _ hgb).trans (hcur j hj)⟩

def CutPost (a : Option Addr) (cap : Nat) (xs : List Nat) (w : World) (e : Ending) (w' : World) : Prop := ∃ n, e = .returned (.slice a n cap) ∧ n ≤ xs.length ∧ val (xs.take n) = val xs ∧ w = w'

theorem take_zero_last (xs : List Nat) (n : Nat) (h : n + 1 ≤ xs.length) (h0 : xs[n] = 0) : val (xs.take n) = val (xs.take (n + 1)) := by
  rw [val_take_succ xs n (by omega), h0]; simp

def slLen : Value → Nat | .slice _ n _ => n | _ => 0
theorem Dg.take {w : World} {a : Option Addr} {cap : Nat} {xs : List Nat} (h : Dg w (.slice a xs.length cap) xs) (n : Nat) (hn : n ≤ xs.length) : Dg w (.slice a n cap) (xs.take n) := by
  obtain ⟨a', cap', e, hc, hg⟩ := h
  injection e with e1 e2 e3
  subst e1 e3
  have hl : (xs.take n).length = n := by rw [List.length_take, Nat.min_eq_left hn]
  refine ⟨a, cap, by rw [hl], by omega, fun hp => ?_⟩
  obtain ⟨g, cur, ha, hgb, hcur⟩ := hg (by omega)
  exact ⟨g, cur, ha, hgb, fun j hj => by rw [List.getElem_take]; exact hcur j (by omega)⟩
theorem dg_new (w : World) (cs : Array Value) (xs : List Nat) (n : Nat) (hn : xs.length = n) (hcs : cs.toList = xs.map (fun (d : Nat) => Value.int .i64 (d : Int))) :
    Dg (w.alloc (.cells cs 3)) (.slice (some ⟨w.heap.size, 0, none⟩) n n) xs := by
  subst hn
  refine ⟨_, _, rfl, Nat.le_refl _, fun _ => ⟨w.heap.size, cs, rfl, heap_alloc_new _ _, fun j hj => ?_⟩⟩
  have h1 : cs.toList[j]? = some (.int .i64 ((xs[j] : Nat) : Int)) := by rw [hcs]; simp [hj]
  simpa using h1

set_option maxHeartbeats 1000000 in
theorem cut_any (a : Option Addr) (cap : Nat) (xs : List Nat) (w : World) (hx : Dg w (.slice a xs.length cap) xs) (lx : xs.length ≤ 1000) :
    Calls Try.prog 57 #[.slice a xs.length cap] w (CutPost a cap xs w) := by
  obtain ⟨_, hc, hg⟩ := hx.cellAt
  have HG := Lib.hid hg
  clear hg
  go_enter Try.func57, Try.ntmps57
  go_wp2
  go_loop [0] (fun d => ∃ n : Nat, d = .slice a n cap ∧ n ≤ xs.length ∧ val (xs.take n) = val xs) (fun d => slLen d)
  case atStart => exact ⟨xs.length, rfl, Nat.le_refl _, by rw [List.take_length]⟩
  case round =>
    obtain ⟨n, rfl, hn, hval⟩ := hrel
    have HV := Lib.hid hval
    clear hval
    by_cases h0 : 0 < n
    · obtain ⟨g, rfl, hgl, hcell⟩ := HG.out (by omega)
      obtain ⟨m, rfl⟩ : ∃ m, n = m + 1 := ⟨n - 1, by omega⟩
      have hx := hcell m (by omega)
      have HC := Lib.hid hcell
      clear hcell
      by_cases hz : xs[m] = 0
      · have t1 : (((xs[m] : Nat) : Int) == 0) = true := beq_iff_eq.2 (by omega)
        have HZ := Lib.hid hz
        clear hz
        go_wp2
        go_round
        case rel => exact ⟨m, rfl, by omega, by rw [take_zero_last xs m (by omega) HZ.out]; exact HV.out⟩
        case measure => simp [slLen]
      · have t1 : (((xs[m] : Nat) : Int) == 0) = false := beq_eq_false_iff_ne.2 (by omega)
        clear hz
        go_wp2
        go_ret
        exact ⟨m + 1, rfl, hn, HV.out, rfl⟩
    · obtain rfl : n = 0 := by omega
      go_wp2
      go_ret
      exact ⟨0, rfl, hn, HV.out, rfl⟩

def endsL (s : Int) : List Nat := (if s < 0 then 8 else 7) :: [0, 8, 5, 7, 7, 4, 5, 8, 6, 3, 0, 2, 7, 3, 3, 2, 2, 9]
theorem val_ends (s : Int) : val (endsL s) = lim s := by unfold endsL lim; split <;> decide +kernel
theorem ok_ends (s : Int) : Ok (endsL s) := by unfold endsL Ok; split <;> decide
theorem len_ends (s : Int) : (endsL s).length = 19 := by unfold endsL; rfl
def EndsPost (s : Int) (w : World) (e : Ending) (w' : World) : Prop := ∃ v, e = .returned v ∧ Dg w' v (endsL s) ∧ Below w.heap.size w w'

theorem ends_any (s : Int) (w : World) (h1 : -1 ≤ s) (h2 : s ≤ 1) : Calls Try.prog 59 #[.int .i64 s] w (EndsPost s w) := by
  by_cases h : s < 0
  · have t1 : decide (s < 0) = true := decide_eq_true h
    go_enter Try.func59, Try.ntmps59
    go_wp2
    go_ret
    refine ⟨.slice (some ⟨w.heap.size, 0, none⟩) 19 19, rfl, ?_, (Below.refl _ _).alloc (Nat.le_refl _) _⟩
    have hL : endsL s = [8, 0, 8, 5, 7, 7, 4, 5, 8, 6, 3, 0, 2, 7, 3, 3, 2, 2, 9] := by unfold endsL; rw [if_pos h]
    rw [hL]
    exact dg_new w _ _ _ rfl rfl
  · have t1 : decide (s < 0) = false := decide_eq_false h
    go_enter Try.func59, Try.ntmps59
    go_wp2
    go_ret
    refine ⟨.slice (some ⟨w.heap.size, 0, none⟩) 19 19, rfl, ?_, (Below.refl _ _).alloc (Nat.le_refl _) _⟩
    have hL : endsL s = [7, 0, 8, 5, 7, 7, 4, 5, 8, 6, 3, 0, 2, 7, 3, 3, 2, 2, 9] := by unfold endsL; rw [if_neg (by omega)]
    rw [hL]
    exact dg_new w _ _ _ rfl rfl

/-- A whole number as the reference keeps it: its sign, and its digits. -/
def BigAt (w : World) (V : Value) (z : Int) (L : Nat) : Prop :=
  ∃ (s : Int) (v : Value) (xs : List Nat), V = .agg #[.int .i64 s, v] ∧ (s = -1 ∨ s = 0 ∨ s = 1) ∧ Dg w v xs ∧ Ok xs ∧ xs.length ≤ L ∧ z = s * (val xs : Int) ∧ (s = 0 → val xs = 0)
theorem BigAt.below {w w' : World} {V : Value} {z : Int} {L : Nat} (h : BigAt w V z L) (hb : Below w.heap.size w w') : BigAt w' V z L := by
  obtain ⟨s, v, xs, hV, hs, hd, ok, hl, hz, h0⟩ := h
  exact ⟨s, v, xs, hV, hs, hd.below hb, ok, hl, hz, h0⟩

theorem is_any (s : Int) (v : Value) (xs : List Nat) (w : World) (hs : s = -1 ∨ s = 0 ∨ s = 1) (hd : Dg w v xs) (ok : Ok xs) (hl : xs.length ≤ 100000) :
    Calls Try.prog 46 #[.agg #[.int .i64 s, v]] w fun e w' => e = .returned (.bool (!decide (lim s < val xs))) ∧ Below w.heap.size w w' := by
  have HD := Lib.hid (hd.below ((Below.refl _ _).alloc (Nat.le_refl _) (.cells #[.int .i64 s, v] 52)))
  obtain ⟨a, cap, rfl, _, _⟩ := hd
  have hs1 : -1 ≤ s := by omega
  have hs2 : s ≤ 1 := by omega
  clear hs
  have hb0 : (w.alloc (.cells #[.int .i64 s, .slice a xs.length cap] 52)).cell? ⟨w.heap.size, 0, none⟩ = some (.int .i64 s) := by rw [World.cell?_alloc_at _ _ _ _ rfl]; rfl
  have hb1 : (w.alloc (.cells #[.int .i64 s, .slice a xs.length cap] 52)).cell? ⟨w.heap.size, 1, none⟩ = some (.slice a xs.length cap) := by rw [World.cell?_alloc_at _ _ _ _ rfl]; rfl
  have hBx : Below w.heap.size w (w.alloc (.cells #[.int .i64 s, .slice a xs.length cap] 52)) := (Below.refl _ _).alloc (Nat.le_refl _) _
  have hsz : w.heap.size < (w.alloc (.cells #[.int .i64 s, .slice a xs.length cap] 52)).heap.size := by simp
  go_enter Try.func46, Try.ntmps46
  go_wp2_with fail
  generalize w.alloc (.cells #[.int .i64 s, .slice a xs.length cap] 52) = wx at *
  go_region_held3 (fun w' => w'.cell? ⟨w.heap.size, 0, none⟩ = some (.int .i64 s) ∧ w'.cell? ⟨w.heap.size, 1, none⟩ = some (.slice a xs.length cap))
    (first | go_keep | exact ⟨hc0, hc1⟩)
    (first
      | (go_at_call 59; refine (ends_any _ _ hs1 hs2).mono ?_; rintro e w2 ⟨v2, rfl, hd2, hB2'⟩; have hB2 : Below wx.heap.size wx w2 := ((Below.refl _ _).drew).trans hB2'; have hc0 := (hB2.cell (p := ⟨w.heap.size, 0, none⟩) hsz).trans hb0; have hc1 := (hB2.cell (p := ⟨w.heap.size, 1, none⟩) hsz).trans hb1)
      | (go_at_call 58; refine (more_any _ _ xs (endsL s) _ (HD.out.below hB2) hd2 ok (ok_ends s) hl (by rw [len_ends]; omega)).mono ?_; rintro e w3 ⟨rfl, rfl⟩))
  go_wp2_with fail
  go_ret
  exact ⟨by rw [← val_ends s]; exact rfl, bt hBx hB2⟩
end Go.Proofs.Ytmdnmcbjpjpgjaa
