/- What the walk of the law SpanTwo asks of its callees. -/
import Derived.Test.YtkokilbnhhmicaaSpanPartsW
namespace Go.Proofs.Ytkokilbnhhmicaa
open Go.RowKit Go.Sort Go.Proofs.Ytkokilbnhhmicaa.Bo
set_option linter.unusedVariables false

/-- A row of n spans, whichever. -/
def LenPost (P : Nat → Prop) (w : World) (e : Ending) (w' : World) : Prop := ∃ (a : Option Addr) (n cap : Nat), (e = .returned (.slice a n cap) ∧ P n) ∧ Go.RowKit.Below w.heap.size w w'
/-- Two spans, and one more, each in a block. -/
def Tri (b P : Nat) (q r u : S4) (w : World) : Prop := Pair4 b q r w ∧ Box4 w P u
theorem Tri.on {b P : Nat} {q r u : S4} {w w' : World} (h : Tri b P q r u w) (hb : Go.RowKit.Below w.heap.size w w') : Tri b P q r u w' := ⟨h.1.on hb, h.2.on hb⟩
theorem Tri.cells {b P : Nat} {q r u : S4} {w : World} (h : Tri b P q r u w) :
    (w.cell? ⟨b, 0, none⟩ = some (.int .i64 q.ls) ∧ w.cell? ⟨b, 1, none⟩ = some (.int .i64 q.la) ∧ w.cell? ⟨b, 2, none⟩ = some (.int .i64 q.hs) ∧ w.cell? ⟨b, 3, none⟩ = some (.int .i64 q.ha) ∧
      w.cell? ⟨b + 1, 0, none⟩ = some (.int .i64 r.ls) ∧ w.cell? ⟨b + 1, 1, none⟩ = some (.int .i64 r.la) ∧ w.cell? ⟨b + 1, 2, none⟩ = some (.int .i64 r.hs) ∧ w.cell? ⟨b + 1, 3, none⟩ = some (.int .i64 r.ha)) ∧
    w.cell? ⟨P, 0, none⟩ = some (.int .i64 u.ls) ∧ w.cell? ⟨P, 1, none⟩ = some (.int .i64 u.la) ∧ w.cell? ⟨P, 2, none⟩ = some (.int .i64 u.hs) ∧ w.cell? ⟨P, 3, none⟩ = some (.int .i64 u.ha) := ⟨h.1.cells, h.2.cells⟩
theorem Tri.cells0 {b P : Nat} {q r : S4} {w : World} (h : Tri b P q r z4 w) :
    (w.cell? ⟨b, 0, none⟩ = some (.int .i64 q.ls) ∧ w.cell? ⟨b, 1, none⟩ = some (.int .i64 q.la) ∧ w.cell? ⟨b, 2, none⟩ = some (.int .i64 q.hs) ∧ w.cell? ⟨b, 3, none⟩ = some (.int .i64 q.ha) ∧
      w.cell? ⟨b + 1, 0, none⟩ = some (.int .i64 r.ls) ∧ w.cell? ⟨b + 1, 1, none⟩ = some (.int .i64 r.la) ∧ w.cell? ⟨b + 1, 2, none⟩ = some (.int .i64 r.hs) ∧ w.cell? ⟨b + 1, 3, none⟩ = some (.int .i64 r.ha)) ∧
    w.cell? ⟨P, 0, none⟩ = some (.int .i64 0) ∧ w.cell? ⟨P, 1, none⟩ = some (.int .i64 0) ∧ w.cell? ⟨P, 2, none⟩ = some (.int .i64 0) ∧ w.cell? ⟨P, 3, none⟩ = some (.int .i64 0) := h.cells
theorem rminus_two (q r : S4) (a am : Option Addr) (w : World) (hq : q.ok) (hr : r.ok) (h1 : q.right = true) (h2 : r.right = true) (hs : SRow w a [q]) (hm : SRow w am [r]) :
    Calls Try.prog 14 #[.slice a 1 1, .slice am 1 1] w (RowPost (minusL q r) w) := by
  have h := rminus_any a am 1 1 [q] [r] w (by simpa using hq) (by simpa using hr) hs hm (by simp)
  refine h.mono ?_
  rintro e w' ⟨a2, cap2, ps, ⟨rfl, h3, h4, h5, h6, h7⟩, hb⟩
  obtain rfl := minus_eq q r h1 h2 ps h3 h4
  exact ⟨a2, cap2, ⟨rfl, h7⟩, hb⟩
theorem rminus_len (q r : S4) (B : Bool) (a am : Option Addr) (w : World) (hq : q.ok) (hr : r.ok) (h1 : q.right = true) (h2 : r.right = true) (hB : B = (decide (r.lo ≤ q.lo) && decide (q.hi ≤ r.hi))) (hs : SRow w a [q]) (hm : SRow w am [r]) :
    Calls Try.prog 14 #[.slice a 1 1, .slice am 1 1] w (LenPost (fun n => n = 0 ↔ B = true) w) := by
  refine (rminus_two q r a am w hq hr h1 h2 hs hm).mono ?_
  rintro e w' ⟨a2, cap2, ⟨rfl, h7⟩, hb⟩
  refine ⟨a2, _, cap2, ⟨rfl, ?_⟩, hb⟩
  show (minusL q r).length = 0 ↔ B = true
  rw [List.length_eq_zero_iff, minus_none q r h1 h2, hB]
  simp
theorem rmeet_two (q r : S4) (a am : Option Addr) (w : World) (hq : q.ok) (hr : r.ok) (hs : SRow w a [q]) (hm : SRow w am [r]) :
    Calls Try.prog 9 #[.slice a 1 1, .slice am 1 1] w (RowPost (meetL q r) w) := by
  have h := rmeet_any a am 1 1 [q] [r] w (by simpa using hq) (by simpa using hr) hs hm (by simp)
  refine h.mono ?_
  rintro e w' ⟨a2, cap2, ps, ⟨rfl, h3, h4, h5, h6, h7⟩, hb⟩
  obtain rfl := meet_eq q r ps h3 h4
  exact ⟨a2, cap2, ⟨rfl, h7⟩, hb⟩
theorem meet_lap (q r : S4) : (mxk q.lo r.lo < mnk q.hi r.hi ∧ q.right = true ∧ r.right = true) ↔ lapB q r = true := by
  unfold lapB
  constructor
  · rintro ⟨h, h1, h2⟩
    rw [h1, h2]
    have : q.lo < r.hi ∧ r.lo < q.hi := by unfold mxk mnk at h; split at h <;> split at h <;> omega
    simp [this.1, this.2]
  · intro h
    simp at h
    obtain ⟨⟨⟨h1, h2⟩, h3⟩, h4⟩ := h
    have l1 := (sp_of_right q h1).2
    have l2 := (sp_of_right r h2).2
    refine ⟨?_, h1, h2⟩
    unfold mxk mnk
    split <;> split <;> omega
theorem rmeet_yes (q r : S4) (h : lapB q r = true) (a am : Option Addr) (w : World) (hq : q.ok) (hr : r.ok) (hs : SRow w a [q]) (hm : SRow w am [r]) :
    Calls Try.prog 9 #[.slice a 1 1, .slice am 1 1] w (OnePost (meetS q r) w) := by
  obtain ⟨h1, h2, h3⟩ := (meet_lap q r).2 h
  refine (rmeet_two q r a am w hq hr hs hm).mono ?_
  unfold meetL meetS
  rw [if_pos ⟨h2, h3, h1⟩, if_pos h]
  exact fun e w' h => h
theorem rmeet_no (q r : S4) (h : lapB q r = false) (a am : Option Addr) (w : World) (hq : q.ok) (hr : r.ok) (hs : SRow w a [q]) (hm : SRow w am [r]) :
    Calls Try.prog 9 #[.slice a 1 1, .slice am 1 1] w (LenPost (fun n => n = 0) w) := by
  refine (rmeet_two q r a am w hq hr hs hm).mono ?_
  unfold meetL
  rw [if_neg (fun c => by have := (meet_lap q r).1 ⟨c.2.2, c.1, c.2.1⟩; rw [h] at this; cases this)]
  rintro e w' ⟨a2, cap2, ⟨rfl, h7⟩, hb⟩
  exact ⟨a2, _, cap2, ⟨rfl, rfl⟩, hb⟩
theorem rlist_two (q r : S4) (B : Bool) (a : Option Addr) (w : World) (hq : q.ok) (hr : r.ok) (h1 : q.right = true) (h2 : r.right = true) (h : lapB q r = false) (hB : B = (decide (q.hi = r.lo) || decide (r.hi = q.lo))) (hs : SRow w a [q, r]) :
    Calls Try.prog 15 #[.slice a 2 2] w (LenPost (fun n => n = 1 ↔ B = true) w) := by
  refine (rlist_any a 2 [q, r] w (by intro x hx; simp at hx; rcases hx with rfl | rfl <;> assumption) hs (by simp)).mono ?_
  rintro e w' ⟨a2, cap2, ps, ⟨rfl, h3, h4, h5, h6, h7⟩, hb⟩
  refine ⟨a2, _, cap2, ⟨rfl, ?_⟩, hb⟩
  have hno : q.hi ≤ r.lo ∨ r.hi ≤ q.lo := by
    rw [lap_iff q r h1 h2] at h
    simp at h
    have l1 := (sp_of_right q h1).2
    have l2 := (sp_of_right r h2).2
    omega
  show ps.length = 1 ↔ B = true
  rw [touch_iff q r h1 h2 hno ps h3 h4, hB]
  simp
end Go.Proofs.Ytkokilbnhhmicaa
