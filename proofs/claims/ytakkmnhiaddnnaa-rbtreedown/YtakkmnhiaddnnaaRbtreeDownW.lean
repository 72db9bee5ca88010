/- The walk of the law RbtreeDown. -/
import Derived.Test.YtakkmnhiaddnnaaCQ
namespace Go.Proofs.Ytakkmnhiaddnnaa
open Go.RowKit Go.Sort Go.Shelf Go.Proofs.Ytakkmnhiaddnnaa.Bo
set_option linter.unusedVariables false
set_option maxRecDepth 100000
attribute [local go_sem] Oper.semAt_some

theorem ownFrom_box {β : Type} (B b : Nat) (f : β → Value) (t : TypeId) : OwnFrom B (fun (s : β) (W : World) => W.heap[b]? = some (.cells #[f s] t (0, 0))) := fun s W W' row hs hg hr =>
  (hg.block b (lt_of_block hs) (fun e => by
    obtain ⟨_, o, ho, hc⟩ := hr b e.symm
    rw [hs] at ho
    injection ho with ho
    subst ho
    cases hc)).trans hs
/-- Between two rounds: the counter, what has come. -/
def DnI (X : World) (R : List G5) (f : Nat → Int) (pre : List G5) (W : World) : Prop := (W.heap[X.heap.size]? = some (.cells #[.int .i64 (f pre.length)] 3 (0, 0)) ∧ pre <+: R) ∧ Go.RowKit.Below X.heap.size X W
/-- A round that leaves: it was told to stop, or it has met what is not the document's. -/
def DnX (X : World) (R : List G5) (f : Nat → Int) (stop : Int) (id : Nat) (c : Code) (pre : List G5) (W : World) : Prop := (c = .ret ∧ ¬ pre <+: R) ∨ ((c = .exit id ∧ (pre.length : Int) = stop) ∧ DnI X R f pre W)
theorem dnI_own (X : World) (R : List G5) (f : Nat → Int) (B : Nat) (hB : X.heap.size ≤ B) : OwnFrom B (DnI X R f) := by
  intro s W W' row hs hg hr
  exact ⟨⟨ownFrom_box B _ (fun _ : Unit => .int .i64 (f s.length)) _ () W W' row hs.1.1 hg hr, hs.1.2⟩, hs.2.grown hg hs.2.size (fun j e => by have := (hr j e).1; omega)⟩
theorem dnX_own (X : World) (R : List G5) (f : Nat → Int) (stop : Int) (id B : Nat) (hB : X.heap.size ≤ B) (c : Code) : OwnFrom B (DnX X R f stop id c) := by
  intro s W W' row hs hg hr
  rcases hs with hs | ⟨h1, hs⟩
  · exact .inl hs
  · exact .inr ⟨h1, dnI_own X R f B hB s W W' row hs hg hr⟩
theorem prefix_snoc {R pre : List G5} {x : G5} (h : pre <+: R) (hl : pre.length < R.length) : pre ++ [x] <+: R ↔ x = R[pre.length] := by
  obtain ⟨t, rfl⟩ := h
  cases t with
  | nil => simp at hl
  | cons y t =>
    rw [List.getElem_append_right (Nat.le_refl _)]
    simp only [Nat.sub_self, List.getElem_cons_zero]
    constructor
    · rintro ⟨u, hu⟩
      rw [List.append_assoc, List.append_cancel_left_eq] at hu
      simp at hu
      exact hu.1
    · rintro rfl
      exact ⟨t, by simp⟩
theorem kpT_set {n0 b : Nat} {W W1 : World} {cs : Array Value} {u : TypeId} {v : Value} (h : KpT n0 W W1) (hb : W1.heap[b]? = some (.cells cs u (0, 0))) (hn : n0 ≤ b) (hu : ¬ (u = 74 ∨ u = 24)) : KpT n0 W (W1.setCell ⟨b, 0, none⟩ v) :=
  ⟨h.1.setCell (p := ⟨b, 0, none⟩) hn v, fun k cs' t hk ht => by
    have h1 := h.2 k cs' t hk ht
    refine set_far h1 (fun e => hu ?_)
    subst e
    rw [hb] at h1
    injection h1 with h1
    injection h1 with _ h1 _
    exact h1 ▸ ht⟩
theorem cell1 {W : World} {b : Nat} {v : Value} {t : TypeId} (h : W.heap[b]? = some (.cells #[v] t (0, 0))) : W.cell? ⟨b, 0, none⟩ = some v ∧ W.frozen? ⟨b, 0, none⟩ = false := ⟨(cell_of_row _ _ 0 _ _ _ h).trans rfl, frozen_of_row _ _ 0 _ _ h⟩
/-- A range over a function whose loop variable is a segment in a block of its own. -/
theorem wpIn_range_seg {n : Nat} {g : Operand} {p q : Tmp} {assign body : Code} {Q : Exit → Act → World → Prop} {tm0 : Array Value} {ds : List Deferred} {w : World} (h1 : 1 ≤ n) {gf : Nat} {lb : Array Value}
    (hg : ({ tmps := tm0, defers := ds } : Act).eval g = .func (.func gf) #[] lb) (eg : ∀ args w, (callFunc gf args).run Try.prog w = .ok (.enter gf args) w)
    {Kp : World → World → Prop} {S Sp : List G5 → Prop} {N : Nat} {w0 : World} (hseq : SeqStopsK Fence.wide (n - 1) Try.prog gf lb (fun g : G5 => #[vG g]) Kp S Sp N w0)
    (hKt : ∀ {A B C : World}, Kp A B → Kp B C → Kp A C) (hKb : ∀ (W : World) (l : Nat) (o o' : Obj), w.heap.size ≤ l → W.heap[l]? = some o → o.isCells = false → o.isWalk = false → Kp W (W.putObj l o')) (hb0 : Go.RowKit.Below w0.heap.size w0 w)
    (I : List G5 → World → Prop) (Ix : Code → List G5 → World → Prop) (hI : OwnFrom w.heap.size I) (hIx : ∀ c, OwnFrom w.heap.size (Ix c)) (h0 : I [] w)
    (hassign : ∀ (l : Nat) (pre : List G5) (x : G5) (W : World) (K : Act → World → Prop), I pre W → (∀ (Bx : Nat) (W' : World), KeepsFrom w.heap.size W W' → Kp W W' → I pre W' → W'.heap[Bx]? = some (oG x) → K { tmps := (tm0.setIfInBounds p (vG x)).setIfInBounds q (.pointer (some ⟨Bx, 0, none⟩)), defers := [] } W') →
      assign.wpIn (Fence.wide.inRound l) (n - 1 - 1) Try.prog (Exit.then K (fun _ _ _ => False)) { tmps := tm0.setIfInBounds p (vG x), defers := [] } W)
    (hbody : ∀ (l : Nat) (pre : List G5) (x : G5) (Bx : Nat) (W : World), w.heap.size ≤ l → I pre W → W.heap[Bx]? = some (oG x) → pre.length < N → body.wpIn (Fence.wide.inRound l) (n - 1 - 1) Try.prog (ownPostG w.heap.size Kp I Ix (pre ++ [x]) W) { tmps := (tm0.setIfInBounds p (vG x)).setIfInBounds q (.pointer (some ⟨Bx, 0, none⟩)), defers := [] } W)
    (hdone : ∀ (D : Nat) (xs : List G5) (W : World), w.heap.size ≤ D → S xs → I xs W → W.heap[D]? = some (.deferred (some [])) → Q .normal { tmps := tm0, defers := { target := .collected D, args := #[] } :: ds } W)
    (hstop : ∀ (D : Nat) (c : Code) (pre : List G5) (W : World), w.heap.size ≤ D → Sp pre → Ix c pre W → W.heap[D]? = some (.deferred (some [])) → c.wpIn Fence.wide n Try.prog Q { tmps := tm0, defers := { target := .collected D, args := #[] } :: ds } W) :
    (Code.rangeFunc g #[p] assign body).wpIn Fence.wide n Try.prog Q { tmps := tm0, defers := ds } w :=
  wpIn_rangeFunc_ownH rfl h1 hg trivial eg hseq hKt hKb hb0 (fun _ => rfl) I Ix hI hIx h0
    (fun x a' W => ∃ Bx, W.heap[Bx]? = some (oG x) ∧ a' = { tmps := (tm0.setIfInBounds p (vG x)).setIfInBounds q (.pointer (some ⟨Bx, 0, none⟩)), defers := [] })
    (fun x a' _ X Y row hs hg hr => by
      obtain ⟨Bx, h1, h2⟩ := hs
      exact ⟨Bx, (hg.block Bx (lt_of_block h1) (fun e => by obtain ⟨_, o, ho, hc⟩ := hr Bx e.symm; rw [h1] at ho; injection ho with ho; subst ho; cases hc)).trans h1, h2⟩)
    (fun l pre x W K hi hK => by
      have h := hassign l pre x W K hi fun Bx W' k1 k2 k3 k4 => hK _ W' k1 k2 k3 ⟨Bx, k4, rfl⟩
      have e : (#[p].zip #[vG x]).foldl (fun (t : Array Value) (x : Tmp × Value) => t.setIfInBounds x.1 x.2) tm0 = tm0.setIfInBounds p (vG x) := by simp
      rw [← e] at h
      exact h)
    (fun l pre x a' W hl hr hi hx hlt => by obtain ⟨Bx, h4, rfl⟩ := hx; exact hbody l pre x Bx W hl hi h4 hlt)
    hdone hstop
theorem inBlock_exit {id : Nat} {Q : Exit → Act → World → Prop} {a : Act} {W : World} (h : Exit.inBlock id Q .normal a W) : Exit.inBlock id Q (.exit id) a W := by
  have h' : Q .normal a W := h
  show (if id = id then Q .normal a W else Q (.exit id) a W)
  rw [if_pos rfl]
  exact h'
/-- Such a range in a block that is left by its own exit alone: what comes behind is walked once. -/
theorem wpIn_range_seg1 {n id : Nat} {g : Operand} {p q : Tmp} {assign body : Code} {Q : Exit → Act → World → Prop} {tm0 : Array Value} {ds : List Deferred} {w : World} (h1 : 1 ≤ n) {gf : Nat} {lb : Array Value}
    (hg : ({ tmps := tm0, defers := ds } : Act).eval g = .func (.func gf) #[] lb) (eg : ∀ args w, (callFunc gf args).run Try.prog w = .ok (.enter gf args) w)
    {n0 N : Nat} {R : List G5} {w0 : World} (hseq : SeqStopsK Fence.wide (n - 1) Try.prog gf lb (fun g : G5 => #[vG g]) (KpT n0) (fun ys => ys = R) (fun pre => pre <+: R) N w0) (hn0 : n0 ≤ w.heap.size) (hb0 : Go.RowKit.Below w0.heap.size w0 w)
    (X : World) (hX : X.heap.size ≤ w.heap.size) (f : Nat → Int) (stop : Int) (h0 : DnI X R f [] w)
    (hQ : ∀ (a : Act) (W : World), Q .normal a W → (Code.exit id).wpIn Fence.wide n Try.prog Q a W)
    (hassign : ∀ (l : Nat) (pre : List G5) (x : G5) (W : World) (K : Act → World → Prop), DnI X R f pre W → (∀ (Bx : Nat) (W' : World), KeepsFrom w.heap.size W W' → KpT n0 W W' → DnI X R f pre W' → W'.heap[Bx]? = some (oG x) → K { tmps := (tm0.setIfInBounds p (vG x)).setIfInBounds q (.pointer (some ⟨Bx, 0, none⟩)), defers := [] } W') →
      assign.wpIn (Fence.wide.inRound l) (n - 1 - 1) Try.prog (Exit.then K (fun _ _ _ => False)) { tmps := tm0.setIfInBounds p (vG x), defers := [] } W)
    (hbody : ∀ (l : Nat) (pre : List G5) (x : G5) (Bx : Nat) (W : World), w.heap.size ≤ l → DnI X R f pre W → W.heap[Bx]? = some (oG x) → pre.length < N → body.wpIn (Fence.wide.inRound l) (n - 1 - 1) Try.prog (ownPostG w.heap.size (KpT n0) (DnI X R f) (DnX X R f stop id) (pre ++ [x]) W) { tmps := (tm0.setIfInBounds p (vG x)).setIfInBounds q (.pointer (some ⟨Bx, 0, none⟩)), defers := [] } W)
    (hnext : ∀ (D p : Nat) (W : World), w.heap.size ≤ D → p ≤ R.length → p = R.length ∨ (p : Int) = stop → W.heap[X.heap.size]? = some (.cells #[.int .i64 (f p)] 3 (0, 0)) → Go.RowKit.Below X.heap.size X W → W.heap[D]? = some (.deferred (some [])) → Q .normal { tmps := tm0, defers := { target := .collected D, args := #[] } :: ds } W) :
    (Code.rangeFunc g #[p] assign body).wpIn Fence.wide n Try.prog Q { tmps := tm0, defers := ds } w :=
  wpIn_range_seg h1 hg eg hseq KpT.trans (kpT_b hn0) hb0 (DnI X R f) (DnX X R f stop id) (dnI_own X R f _ hX) (dnX_own X R f stop id _ hX) h0 hassign hbody
    (fun D xs W hD hS hI hK => by subst hS; exact hnext D _ W hD (Nat.le_refl _) (.inl rfl) hI.1.1 hI.2 hK)
    (fun D c pre W hD hS hx hK => by
      rcases hx with ⟨_, hbad⟩ | ⟨⟨rfl, hl⟩, hI⟩
      · exact absurd hS hbad
      · exact hQ _ _ (hnext D _ W hD hS.length_le (.inr hl) hI.1.1 hI.2 hK))
set_option maxHeartbeats 8000000 in
theorem rbtreeDown_walk (room : Int) (a : Option Addr) (len cap : Nat) (z : List O6) (stop : Int) (w0 : World) (wr0 : (Lit.int .i64 room).wf = true) (h : IsOps6 w0 a len z) (ws0 : (Lit.int .i64 stop).wf = true) :
    Calls Try.prog 6 #[.int .i64 room, .slice a len cap, .int .i64 stop] w0 fun e w' => e = .returned (.bool true) ∧ Go.RowKit.Below w0.heap.size w0 w' := by
  have mx := mixed
  clear wr0 ws0
  have HAL := Lib.hid ralive_any
  have HB1 : Hid (Go.RowKit.Below w0.heap.size w0 ((w0.alloc (.cells #[.int .i64 stop] 3)).alloc (.cells #[.bool false] 4))) := bt (below_new _ _) (below_new _ _)
  have HSB : Hid (((w0.alloc (.cells #[.int .i64 stop] 3)).alloc (.cells #[.bool false] 4)).heap[w0.heap.size]? = some (.cells #[.int .i64 stop] 3 (0, 0))) := box_on (heap_alloc_new _ _) (below_new _ _)
  have HRB : Hid (((w0.alloc (.cells #[.int .i64 stop] 3)).alloc (.cells #[.bool false] 4)).heap[w0.heap.size + 1]? = some (.cells #[.bool false] 4 (0, 0))) := new_at' _ (by simp)
  by_cases hgood : ¬ ((0 ≤ room ∧ room ≤ 4096) ∧ len ≤ 200)
  · have HM : Hid (∀ W, Calls Try.prog 18 #[.int .i64 room, .slice a len cap] W fun e w' => e = .returned (.tuple #[.pointer none, .slice none 0 0, .bool false]) ∧ Go.RowKit.Below W.heap.size W w') := fun W => by
      by_cases h1 : 0 ≤ room ∧ room ≤ 4096
      · exact rmade_long room a len cap W h1 (by omega)
      · exact rmade_no room a len cap W h1
    clear hgood h HSB
    go_enter Try.func6, Try.ntmps6
    go_wp2_with fail
    generalize (w0.alloc (.cells #[.int .i64 stop] 3)).alloc (.cells #[.bool false] 4) = w at *
    refine (HM.out _).mono ?_
    rintro e y0 ⟨rfl, hb⟩
    have HY := Lib.hid (bt HB1.out (bt hb (below_new y0 (.cells #[.slice none 0 0] 29))))
    have HR1 := Lib.hid (box_on (box_on HRB.out hb) (below_new y0 (.cells #[.slice none 0 0] 29)))
    clear hb
    go_wp2_with fail
    refine (HAL.out _).mono ?_
    rintro e y1 ⟨rfl, hB1⟩
    have HR2 := Lib.hid (box_on HR1.out hB1)
    obtain ⟨r1, r2⟩ := cell1 HR2.out
    have r3 := (cell1 (heap_setCell_same _ _ 0 _ _ (.bool true) HR2.out)).1
    go_wp2_with fail
    refine bodyPost_ret (v := .bool true) (by simp [results, Try.results6, go_sem, r3]) rfl ?_
    exact ⟨rfl, (bt HY.out hB1).setCell (p := ⟨w0.heap.size + 1, 0, none⟩) (by show w0.heap.size ≤ w0.heap.size + 1; omega) _⟩
  have hgood := Classical.not_not.1 hgood
  have HM := Lib.hid (rmade_any room a len cap z _ ⟨h.1, h.2.1, h.2.2.below HB1.out⟩ hgood.1 hgood.2)
  have hzl : (gRun room z).length ≤ 200 := by
    have := gRun_len room z z.length (Nat.le_refl _)
    rw [List.take_length] at this
    have := h.1
    omega
  clear hgood h
  generalize gRun room z = L at *
  refine (callsIn_wide (n := 6)).1 ?_
  refine callsIn_of_wp_marks Try.func6 rfl trivial ?_ rfl
  simp only [Try.ntmps6, List.size_toArray, List.length_cons, List.length_nil, Nat.reduceAdd, Nat.reduceSub, Array.replicate_succ, Array.replicate_zero, List.push_toArray, List.append_toArray, List.nil_append, List.cons_append]
  refine wpIn_wide.2 ?_
  go_wp2_with fail
  have hw0 : w0.heap.size + 1 < ((w0.alloc (.cells #[.int .i64 stop] 3)).alloc (.cells #[.bool false] 4)).heap.size := lt_of_block HRB.out
  generalize (w0.alloc (.cells #[.int .i64 stop] 3)).alloc (.cells #[.bool false] 4) = w at *
  refine HM.out.mono ?_
  rintro e y0 ⟨T, A, la, lc, rfl, hm⟩
  obtain ⟨t, tx, S, hr, hino, hroom⟩ := hm.tk.w.r
  have hids : tx.ids.length = L.length := by rw [← ino_len, hino]
  have hbl := below_new y0 (.cells #[.slice la L.length lc] 29)
  have HBY := Lib.hid (bt HB1.out (bt hm.be hbl))
  have HSY := Lib.hid (box_on (box_on HSB.out hm.be) hbl)
  have HRY := Lib.hid (box_on (box_on HRB.out hm.be) hbl)
  have HTR := Lib.hid (hr.below hbl)
  have HROW := Lib.hid (hm.row.below hbl)
  have HLB := Lib.hid (heap_alloc_new y0 (.cells #[.slice la L.length lc] 29))
  have hyl : w0.heap.size + 1 < y0.heap.size := Nat.lt_of_lt_of_le hw0 hm.be.size
  clear hm hr hbl HM HSB HRB HB1 hroom
  go_upto_region 4 with fail
  generalize hX : y0.alloc (.cells #[.slice la L.length lc] 29) = X at *
  have HXS : Hid (X.heap.size = y0.heap.size + 1) := by show _ = _; rw [← hX]; simp
  clear hX
  have p1 := (cell1 HLB.out).1
  have HNB : Hid (((X.alloc (.cells #[.int .i64 (L.length : Int)] 3)).alloc (oTP T)).heap[X.heap.size]? = some (.cells #[.int .i64 (L.length : Int)] 3 (0, 0))) := box_on (heap_alloc_new _ _) (below_new _ _)
  have HTB : Hid (((X.alloc (.cells #[.int .i64 (L.length : Int)] 3)).alloc (oTP T)).heap[X.heap.size + 1]? = some (oTP T)) := new_at' _ (by simp)
  have HX1 : Hid (Go.RowKit.Below X.heap.size X ((X.alloc (.cells #[.int .i64 (L.length : Int)] 3)).alloc (oTP T))) := bt (below_new _ _) (below_new _ _)
  go_wp2_with (go_at_call 31; refine (rdown_any T _).mono ?_; rintro e w' ⟨rfl, rfl⟩)
  clear p1
  generalize (X.alloc (.cells #[.int .i64 (L.length : Int)] 3)).alloc (oTP T) = W1 at *
  have hW1 : X.heap.size + 1 < W1.heap.size := lt_of_block HTB.out
  have hSX : ∀ b, S b → b < X.heap.size := fun b hb => (HTR.out.is.lt b hb).2
  refine (wpIn_wide (n := 6)).1 ?_
  refine wpIn_range_seg1 (p := 28) (q := 11) (id := 0) (by omega) (gf := 58) (lb := #[.pointer (some ⟨X.heap.size + 1, 0, none⟩)]) rfl (enters_of Try.func58 (by kernel_rfl) rfl)
    (down_stops (6 - 1) (X.heap.size + 1) X.heap.size _ T A t tx S W1 (HTR.out.below HX1.out) hSX HX1.out.size HTB.out) HX1.out.size (Go.RowKit.Below.refl _ _)
    X HX1.out.size (fun k => (L.length : Int) - (k : Int)) stop ⟨⟨by rw [HNB.out]; simp, List.nil_prefix⟩, HX1.out⟩ (fun a W h => wpIn_exit (inBlock_exit h)) ?assign ?body ?next
  case assign =>
    rintro l pre g W K ⟨⟨hn, hp⟩, hB⟩ hK
    gi_wp2
    exact hK W.heap.size _ ((KeepsOthers.alloc _ _).from _) (KpT.of_below (below_new W (oG g)) hB.size) ⟨⟨box_on hn (below_new W (oG g)), hp⟩, hB.alloc hB.size _⟩ (heap_alloc_new W (oG g))
  case body =>
    rintro l pre g Bx W hl ⟨⟨hn, hp⟩, hB⟩ hbx hlt
    rw [hids] at hlt
    obtain ⟨q, hq⟩ : ∃ q, pre.length = q := ⟨_, rfl⟩
    obtain ⟨m, hm⟩ : ∃ m, L.length = m + 1 + q := ⟨L.length - (q + 1), by omega⟩
    have HP := Lib.hid hp
    have HQ := Lib.hid hq
    have HM := Lib.hid hm
    have HPS := Lib.hid (fun hl => prefix_snoc (x := g) hp hl)
    have hn1 : W.heap[X.heap.size]? = some (.cells #[.int .i64 ((m : Int) + 1)] 3 (0, 0)) := by rw [hn, hq, hm]; simp
    have HB := Lib.hid hB
    have HN2 := Lib.hid (heap_setCell_same W X.heap.size 0 _ _ (.int .i64 (m : Int)) hn1)
    have HB2 := Lib.hid (hB.setCell (p := ⟨X.heap.size, 0, none⟩) (Nat.le_refl _) (.int .i64 (m : Int)))
    have hlt0 : y0.heap.size < X.heap.size := lt_of_block HLB.out
    have HL2 : Hid ((W.setCell ⟨X.heap.size, 0, none⟩ (.int .i64 (m : Int))).heap[y0.heap.size]? = some (.cells #[.slice la L.length lc] 29 (0, 0))) := (HB2.out.block _ hlt0).trans HLB.out
    have HS2 : Hid ((W.setCell ⟨X.heap.size, 0, none⟩ (.int .i64 (m : Int))).heap[w0.heap.size]? = some (.cells #[.int .i64 stop] 3 (0, 0))) := (HB2.out.block _ (by omega)).trans HSY.out
    have HG2 : Hid ((W.setCell ⟨X.heap.size, 0, none⟩ (.int .i64 (m : Int))).heap[Bx]? = some (oG g)) := set_far hbx (fun e => by subst e; rw [hn1] at hbx; injection hbx with hbx; injection hbx with _ hbx _; revert hbx; decide)
    have HKP := Lib.hid (kpT_set (n0 := X.heap.size) (v := .int .i64 (m : Int)) (KpT.refl X.heap.size W) hn1 (Nat.le_refl _) (by decide))
    obtain ⟨b, off, rfl, hc⟩ := (HROW.out.below HB2.out) (by omega)
    have hml : m < L.length := by omega
    have HC := Lib.hid (hc m hml)
    have HRV : Hid (∀ hl : pre.length < tx.ino.reverse.length, tx.ino.reverse[pre.length] = L[m]) := fun hl => by
      subst hino
      rw [List.getElem_reverse]
      congr 1
      omega
    have hRl : pre.length < tx.ino.reverse.length := by rw [List.length_reverse, hino]; omega
    have HGD : Hid (g.eqb L[m] = true → pre ++ [g] <+: tx.ino.reverse) := fun e => (HPS.out hRl).2 (((G5.eqb_iff _ _).1 e).trans (HRV.out hRl).symm)
    have HBD : Hid (g.eqb L[m] = false → ¬ pre ++ [g] <+: tx.ino.reverse) := fun e h => by rw [(G5.eqb_iff _ _).2 (((HPS.out hRl).1 h).trans (HRV.out hRl))] at e; cases e
    have HKO : Hid (KeepsOthers W (W.setCell ⟨X.heap.size, 0, none⟩ (.int .i64 (m : Int)))) := KeepsOthers.setCell _ _ _
    have HR2 : Hid ((W.setCell ⟨X.heap.size, 0, none⟩ (.int .i64 (m : Int))).heap[w0.heap.size + 1]? = some (.cells #[.bool false] 4 (0, 0))) := (HB2.out.block _ (by omega)).trans HRY.out
    have HPL : Hid ((pre ++ [g]).length = q + 1) := by show _ = _; rw [List.length_append, hq]; rfl
    obtain ⟨n1, n2⟩ := cell1 hn1
    clear HRV hRl HPS
    have q0 : IntKind.i64.wrap ((m : Int) + 1 - 1) = (m : Int) := by rw [show (m : Int) + 1 - 1 = (m : Int) by omega]; exact IntWalk.i64_in _ (by omega)
    have hmb : m ≤ 200 := by omega
    have hqb : q ≤ 200 := by omega
    clear hn hp hB hbx hq hm hc hn1 HX1 HNB HTB
    generalize L[m] = gm at *
    simp only [List.setIfInBounds_toArray, List.set_cons_zero, List.set_cons_succ]
    gi_wp2
    generalize W.setCell ⟨X.heap.size, 0, none⟩ (.int .i64 (m : Int)) = W2 at *
    have c1 := (cell1 HN2.out).1
    have c2 := (cell1 HL2.out).1
    obtain ⟨d1, d2, d3, d4, d5⟩ := five_cells HG2.out
    obtain ⟨e1, e2, e3, e4, e5⟩ := HC.out
    have c3 := (cell1 HS2.out).1
    have t1 : decide ((m : Int) < 0) = false := decide_eq_false (by omega)
    have i1 : (0 : Int) ≤ (m : Int) := by omega
    have i2 : (m : Int) < (L.length : Int) := by omega
    have ne := neq_seg g gm
    simp only [Nat.zero_add] at d2 d3 d4 d5
    obtain ⟨r1, r2⟩ := cell1 HR2.out
    have q1 : IntKind.i64.wrap ((L.length : Int) - (m : Int)) = (q : Int) + 1 := by rw [show (L.length : Int) - (m : Int) = (q : Int) + 1 by have := HM.out; omega]; exact IntWalk.i64_in _ (by omega)
    have hf : (fun k : Nat => (L.length : Int) - (k : Int)) (pre ++ [g]).length = (m : Int) := by rw [HPL.out]; have := HM.out; simp; omega
    have HDN : Hid (g.eqb gm = true → DnI X tx.ino.reverse (fun k => (L.length : Int) - (k : Int)) (pre ++ [g]) W2.drew) := fun he => ⟨⟨by show W2.heap[X.heap.size]? = some (.cells #[.int .i64 ((fun k : Nat => (L.length : Int) - (k : Int)) (pre ++ [g]).length)] 3 (0, 0)); rw [hf]; exact HN2.out, HGD.out he⟩, HB2.out.drew⟩
    have HKD : Hid (KpT X.heap.size W W2.drew) := ⟨HKP.out.1.drew, HKP.out.2⟩
    clear hf
    gi_region_with_o fail
    all_goals
      cases he : g.eqb gm with
      | false =>
        have HBAD := Lib.hid (HBD.out he)
        clear he
        gi_wp2
        exact ⟨((HKO.out.trans (KeepsOthers.drew _)).trans (KeepsOthers.setCell _ _ _)).from _, .inl ⟨rfl, HBAD.out⟩⟩
      | true =>
        have HDO := Lib.hid (HDN.out he)
        clear he
        by_cases hs : (q : Int) + 1 = stop
        · have HS := Lib.hid hs
          have t2 : ((q : Int) + 1 == stop) = true := beq_iff_eq.2 hs
          clear hs
          gi_wp2
          exact ⟨(HKO.out.trans (KeepsOthers.drew _)).from _, .inr ⟨⟨rfl, by rw [HPL.out]; exact HS.out⟩, HDO.out⟩⟩
        · have t2 : ((q : Int) + 1 == stop) = false := beq_eq_false_iff_ne.2 hs
          clear hs
          gi_wp2
          exact ⟨(HKO.out.trans (KeepsOthers.drew _)).from _, HKD.out, HDO.out⟩
  case next =>
    rintro D p W hD hpl hps hn hB hK
    rw [List.length_reverse, hino] at hpl hps
    obtain ⟨V, hV⟩ : ∃ V, (L.length : Int) - (p : Int) = V := ⟨_, rfl⟩
    have hn1 : W.heap[X.heap.size]? = some (.cells #[.int .i64 V] 3 (0, 0)) := by rw [← hV]; exact hn
    have HB := Lib.hid hB
    have HD := Lib.hid hK
    have hDW : D < W.heap.size := lt_of_block hK
    have hlt0 : y0.heap.size < X.heap.size := lt_of_block HLB.out
    have p1 := (cell1 hn1).1
    have q1 : IntKind.i64.wrap ((L.length : Int) - V) = (p : Int) := by rw [show (L.length : Int) - V = (p : Int) by omega]; exact IntWalk.i64_in _ (by omega)
    have HV : Hid (V ≠ 0 → (p : Int) = stop) := fun h => by rcases hps with rfl | h2; exact absurd hV (by omega); exact h2
    have p2' := (cell1 ((hB.block _ hlt0).trans HLB.out)).1
    have p3' := (cell1 ((hB.block _ (show w0.heap.size < X.heap.size by omega)).trans HSY.out)).1
    clear hn hn1 hB hK HNB HTB HX1 hV hps
    go_upto_region 11 with fail
    go_cut [56] from 47 to 57 (fun sl wx => sl = .bool false ∧ wx = W)
    case first =>
      by_cases hz : V = 0
      · subst hz
        go_wp2_with fail
        go_meet
        exact ⟨rfl, rfl⟩
      · have t5 : (V != 0) = true := by simpa using hz
        have hps := HV.out hz
        have t6 : ((p : Int) != stop) = false := by rw [hps]; exact bne_self_eq_false _
        clear hz hps
        go_wp2_with fail
        go_meet
        exact ⟨rfl, rfl⟩
    case rest =>
    obtain ⟨rfl, hcut2⟩ := hcut
    have hcut3 := hcut2.symm
    subst hcut3
    clear p1 p2' p3' q1
    have HBX := Lib.hid HB.out
    have HLW := Lib.hid ((HB.out.block _ hlt0).trans HLB.out)
    have HSW := Lib.hid ((HB.out.block _ (show w0.heap.size < X.heap.size by omega)).trans HSY.out)
    have HRW := Lib.hid ((HB.out.block _ (show w0.heap.size + 1 < X.heap.size by omega)).trans HRY.out)
    have p2 := (cell1 HLW.out).1
    have p3 := (cell1 HSW.out).1
    have HMB : Hid (((W.alloc (.cells #[.int .i64 0] 3)).alloc (oTP T)).heap[W.heap.size]? = some (.cells #[.int .i64 0] 3 (0, 0))) := box_on (heap_alloc_new _ _) (below_new _ _)
    have HTB2 : Hid (((W.alloc (.cells #[.int .i64 0] 3)).alloc (oTP T)).heap[W.heap.size + 1]? = some (oTP T)) := new_at' _ (by simp)
    have HX2 : Hid (Go.RowKit.Below W.heap.size W ((W.alloc (.cells #[.int .i64 0] 3)).alloc (oTP T))) := bt (below_new _ _) (below_new _ _)
    have HTW := Lib.hid (HTR.out.below HB.out)
    have hWX := HB.out.size
    go_wp2_with (go_at_call 32; refine (rall_any T _).mono ?_; rintro e w' ⟨rfl, rfl⟩)
    clear p2 p3
    generalize (W.alloc (.cells #[.int .i64 0] 3)).alloc (oTP T) = W3 at *
    have hW3 : W.heap.size + 1 < W3.heap.size := lt_of_block HTB2.out
    have hSW : ∀ b, S b → b < W.heap.size := fun b hb => (HTW.out.is.lt b hb).2
    refine (wpIn_wide (n := 6)).1 ?_
    refine wpIn_range_seg1 (p := 59) (q := 13) (id := 2) (by omega) (gf := 60) (lb := #[.pointer (some ⟨W.heap.size + 1, 0, none⟩)]) rfl (enters_of Try.func60 (by kernel_rfl) rfl)
      (all_stops (6 - 1) (W.heap.size + 1) W.heap.size _ T A t tx S W3 (HTW.out.below HX2.out) hSW HX2.out.size HTB2.out) HX2.out.size (Go.RowKit.Below.refl _ _)
      W HX2.out.size (fun k => (k : Int)) stop ⟨⟨HMB.out, List.nil_prefix⟩, HX2.out⟩ (fun a W h => wpIn_exit (inBlock_exit h)) ?assign ?body ?next
    case assign =>
      rintro l pre g Wb K ⟨⟨hn, hp⟩, hB⟩ hK
      gi_wp2
      exact hK Wb.heap.size _ ((KeepsOthers.alloc _ _).from _) (KpT.of_below (below_new Wb (oG g)) hB.size) ⟨⟨box_on hn (below_new Wb (oG g)), hp⟩, hB.alloc hB.size _⟩ (heap_alloc_new Wb (oG g))
    case body =>
      rintro l pre g Bx Wb hl ⟨⟨hn, hp⟩, hB⟩ hbx hlt
      rw [hids] at hlt
      obtain ⟨q, hq⟩ : ∃ q, pre.length = q := ⟨_, rfl⟩
      have HP := Lib.hid hp
      have hRl : pre.length < tx.ino.length := by rw [hino]; omega
      have HPS := Lib.hid (prefix_snoc (x := g) hp hRl)
      have HPL : Hid ((pre ++ [g]).length = q + 1) := by show _ = _; rw [List.length_append, hq]; rfl
      have hn1 : Wb.heap[W.heap.size]? = some (.cells #[.int .i64 (q : Int)] 3 (0, 0)) := by rw [← hq]; exact hn
      have hql : q < L.length := by omega
      have hqb : q ≤ 200 := by omega
      have HBb := Lib.hid hB
      have HN1 := Lib.hid hn1
      have HLb := Lib.hid ((hB.block _ (show y0.heap.size < W.heap.size by omega)).trans HLW.out)
      have HSb := Lib.hid ((hB.block _ (show w0.heap.size < W.heap.size by omega)).trans HSW.out)
      have HRb := Lib.hid ((hB.block _ (show w0.heap.size + 1 < W.heap.size by omega)).trans HRW.out)
      obtain ⟨b, off, rfl, hc⟩ := ((HROW.out.below HBX.out).below hB) (by omega)
      have HC := Lib.hid (hc q hql)
      have HRV : Hid (tx.ino[pre.length] = L[q]) := by subst hino; show _ = _; congr 1
      have HGD : Hid (g.eqb L[q] = true → pre ++ [g] <+: tx.ino) := fun e => HPS.out.2 (((G5.eqb_iff _ _).1 e).trans HRV.out.symm)
      have HBD : Hid (g.eqb L[q] = false → ¬ pre ++ [g] <+: tx.ino) := fun e h => by rw [(G5.eqb_iff _ _).2 ((HPS.out.1 h).trans HRV.out)] at e; cases e
      have HGB := Lib.hid hbx
      clear HRV hRl HPS hn hp hB hq hc hlt
      generalize L[q] = gm at *
      have c1 := (cell1 hn1).1
      have c1f := (cell1 hn1).2
      have c2 := (cell1 HLb.out).1
      have c3 := (cell1 HSb.out).1
      obtain ⟨d1, d2, d3, d4, d5⟩ := five_cells hbx
      obtain ⟨e1, e2, e3, e4, e5⟩ := HC.out
      obtain ⟨r1, r2⟩ := cell1 HRb.out
      have t1 : decide ((L.length : Int) ≤ (q : Int)) = false := decide_eq_false (by omega)
      have t1n : decide (L.length ≤ q) = false := decide_eq_false (by omega)
      have t1p : ¬ L.length ≤ q := by omega
      have i1 : (0 : Int) ≤ (q : Int) := by omega
      have i2 : (q : Int) < (L.length : Int) := by omega
      have ne := neq_seg g gm
      have q1 : IntKind.i64.wrap ((q : Int) + 1) = (q : Int) + 1 := IntWalk.i64_in _ (by omega)
      simp only [Nat.zero_add] at d2 d3 d4 d5
      clear hn1 hbx
      simp only [List.setIfInBounds_toArray, List.set_cons_zero, List.set_cons_succ]
      have HDN : Hid (g.eqb gm = true → DnI W tx.ino (fun k => (k : Int)) (pre ++ [g]) (Wb.drew.setCell ⟨W.heap.size, 0, none⟩ (.int .i64 ((q : Int) + 1)))) := fun he => ⟨⟨by rw [HPL.out]; exact heap_setCell_same Wb.drew W.heap.size 0 _ _ _ HN1.out, HGD.out he⟩, HBb.out.drew.setCell (p := ⟨W.heap.size, 0, none⟩) (Nat.le_refl _) _⟩
      have HKD : Hid (KpT W.heap.size Wb (Wb.drew.setCell ⟨W.heap.size, 0, none⟩ (.int .i64 ((q : Int) + 1)))) := kpT_set (W1 := Wb.drew) ⟨(Go.RowKit.Below.refl _ _).drew, fun _ _ _ h _ => h⟩ HN1.out (Nat.le_refl _) (by decide)
      have HS3 : Hid ((Wb.drew.setCell ⟨W.heap.size, 0, none⟩ (.int .i64 ((q : Int) + 1))).heap[w0.heap.size]? = some (.cells #[.int .i64 stop] 3 (0, 0))) := (HKD.out.1.block _ (show w0.heap.size < W.heap.size by omega)).trans HSb.out
      have HKO : Hid (KeepsOthers Wb (Wb.drew.setCell ⟨W.heap.size, 0, none⟩ (.int .i64 ((q : Int) + 1)))) := (KeepsOthers.drew _).trans (KeepsOthers.setCell _ _ _)
      have k1 := (cell1 HS3.out).1
      have k2 := (cell1 (heap_setCell_same Wb.drew W.heap.size 0 _ _ (.int .i64 ((q : Int) + 1)) HN1.out)).1
      gi_wp2
      gi_region_with_o fail
      all_goals
        cases he : g.eqb gm with
        | false =>
          have HBAD := Lib.hid (HBD.out he)
          clear he k1 k2
          gi_wp2
          exact ⟨((KeepsOthers.drew _).trans (KeepsOthers.setCell _ _ _)).from _, .inl ⟨rfl, HBAD.out⟩⟩
        | true =>
          have HDO := Lib.hid (HDN.out he)
          clear he
          by_cases hs : (q : Int) + 1 = stop
          · have HS := Lib.hid hs
            have t2 : ((q : Int) + 1 == stop) = true := beq_iff_eq.2 hs
            clear hs
            gi_wp2
            exact ⟨HKO.out.from _, .inr ⟨⟨rfl, by rw [HPL.out]; exact HS.out⟩, HDO.out⟩⟩
          · have t2 : ((q : Int) + 1 == stop) = false := beq_eq_false_iff_ne.2 hs
            clear hs
            gi_wp2
            exact ⟨HKO.out.from _, HKD.out, HDO.out⟩
    case next =>
      rintro D2 p2 Wd hD2 hpl2 hps2 hn1 hB hK2
      rw [hino] at hpl2 hps2
      have t4 : ((L.length : Int) == (L.length : Int)) = true := beq_self_eq_true _
      by_cases hs : (p2 : Int) = stop
      · have t2 : ((p2 : Int) == stop) = true := beq_iff_eq.2 hs
        clear hs hps2
        have HBd := Lib.hid hB
        have HNd := Lib.hid hn1
        have HKd := Lib.hid hK2
        clear hn1 hB hK2
        go_wp2_with (go_at_call 10; refine (HAL.out _).mono ?_; rintro e y9 ⟨rfl, hb⟩; have HY9 := Lib.hid (HBd.out.trans (hb.mono HBd.out.size)); have hk9 := box_on HKd.out hb; have HD9 := Lib.hid ((hb.block D (Nat.lt_of_lt_of_le hDW HBd.out.size)).trans ((HBd.out.block D hDW).trans HD.out)); have m1 := (cell1 (box_on HNd.out hb)).1; have m2 := (cell1 ((HY9.out.block _ (show w0.heap.size < W.heap.size by omega)).trans HSW.out)).1; have m3 := (cell1 ((HY9.out.block _ (show y0.heap.size < W.heap.size by omega)).trans HLW.out)).1; have HR9 := Lib.hid ((HY9.out.block _ (show w0.heap.size + 1 < W.heap.size by omega)).trans HRW.out); have m4 := (cell1 HR9.out).1; have m5 := (cell1 HR9.out).2; have HK9 := Lib.hid hk9; clear hb hk9)
        have HKz := Lib.hid ((KeepsOthers.setCell y9 ⟨w0.heap.size + 1, 0, none⟩ (.bool true)).same D2 _ HK9.out rfl)
        have HDz := Lib.hid ((KeepsOthers.setCell y9 ⟨w0.heap.size + 1, 0, none⟩ (.bool true)).same D _ HD9.out rfl)
        have HRz := Lib.hid (heap_setCell_same _ _ 0 _ _ (.bool true) HR9.out)
        have HBz := Lib.hid ((HBY.out.trans ((HBX.out.trans (HY9.out.mono HBX.out.size)).mono HBY.out.size)).setCell (p := ⟨w0.heap.size + 1, 0, none⟩) (by show w0.heap.size ≤ w0.heap.size + 1; omega) (.bool true))
        generalize y9.setCell ⟨w0.heap.size + 1, 0, none⟩ (.bool true) = Z at *
        have hne : D2 ≠ D := by omega
        have HDy : Hid ((Z.putObj D2 (.deferred none)).heap[D]? = some (.deferred (some []))) := (World.putObj_heap_other (fun e => hne e.symm)).trans HDz.out
        have hRz : ((Z.putObj D2 (.deferred none)).putObj D (.deferred none)).heap[w0.heap.size + 1]? = some (.cells #[.bool true] 4 (0, 0)) := (World.putObj_heap_other (by omega)).trans ((World.putObj_heap_other (by omega)).trans HRz.out)
        have hcz := (cell1 hRz).1
        refine ⟨by simp, .inl ⟨_, _, rfl, run_takeDeferred HKz.out, by simp, .inl ⟨_, _, rfl, run_takeDeferred HDy.out, ?_⟩⟩⟩
        refine ⟨.bool true, ?_, rfl, (HBz.out.trans (belowK_b (w := w0) (Nat.le_refl _) _ D2 _ _ (by omega) HKz.out rfl rfl)).trans (belowK_b (w := w0) (Nat.le_refl _) _ D _ _ (by omega) HDy.out rfl rfl)⟩
        simp [results, Try.f6, go_sem, hcz]
      · have hpe : p2 = L.length := hps2.resolve_right hs
        rw [hpe] at hs hn1
        have t2 : ((L.length : Int) == stop) = false := beq_eq_false_iff_ne.2 hs
        clear hs hps2 hpe
        have HBd := Lib.hid hB
        have HNd := Lib.hid hn1
        have HKd := Lib.hid hK2
        clear hn1 hB hK2
        go_wp2_with (go_at_call 10; refine (HAL.out _).mono ?_; rintro e y9 ⟨rfl, hb⟩; have HY9 := Lib.hid (HBd.out.trans (hb.mono HBd.out.size)); have hk9 := box_on HKd.out hb; have HD9 := Lib.hid ((hb.block D (Nat.lt_of_lt_of_le hDW HBd.out.size)).trans ((HBd.out.block D hDW).trans HD.out)); have m1 := (cell1 (box_on HNd.out hb)).1; have m2 := (cell1 ((HY9.out.block _ (show w0.heap.size < W.heap.size by omega)).trans HSW.out)).1; have m3 := (cell1 ((HY9.out.block _ (show y0.heap.size < W.heap.size by omega)).trans HLW.out)).1; have HR9 := Lib.hid ((HY9.out.block _ (show w0.heap.size + 1 < W.heap.size by omega)).trans HRW.out); have m4 := (cell1 HR9.out).1; have m5 := (cell1 HR9.out).2; have HK9 := Lib.hid hk9; clear hb hk9)
        have HKz := Lib.hid ((KeepsOthers.setCell y9 ⟨w0.heap.size + 1, 0, none⟩ (.bool true)).same D2 _ HK9.out rfl)
        have HDz := Lib.hid ((KeepsOthers.setCell y9 ⟨w0.heap.size + 1, 0, none⟩ (.bool true)).same D _ HD9.out rfl)
        have HRz := Lib.hid (heap_setCell_same _ _ 0 _ _ (.bool true) HR9.out)
        have HBz := Lib.hid ((HBY.out.trans ((HBX.out.trans (HY9.out.mono HBX.out.size)).mono HBY.out.size)).setCell (p := ⟨w0.heap.size + 1, 0, none⟩) (by show w0.heap.size ≤ w0.heap.size + 1; omega) (.bool true))
        generalize y9.setCell ⟨w0.heap.size + 1, 0, none⟩ (.bool true) = Z at *
        have hne : D2 ≠ D := by omega
        have HDy : Hid ((Z.putObj D2 (.deferred none)).heap[D]? = some (.deferred (some []))) := (World.putObj_heap_other (fun e => hne e.symm)).trans HDz.out
        have hRz : ((Z.putObj D2 (.deferred none)).putObj D (.deferred none)).heap[w0.heap.size + 1]? = some (.cells #[.bool true] 4 (0, 0)) := (World.putObj_heap_other (by omega)).trans ((World.putObj_heap_other (by omega)).trans HRz.out)
        have hcz := (cell1 hRz).1
        refine ⟨by simp, .inl ⟨_, _, rfl, run_takeDeferred HKz.out, by simp, .inl ⟨_, _, rfl, run_takeDeferred HDy.out, ?_⟩⟩⟩
        refine ⟨.bool true, ?_, rfl, (HBz.out.trans (belowK_b (w := w0) (Nat.le_refl _) _ D2 _ _ (by omega) HKz.out rfl rfl)).trans (belowK_b (w := w0) (Nat.le_refl _) _ D _ _ (by omega) HDy.out rfl rfl)⟩
        simp [results, Try.f6, go_sem, hcz]
end Go.Proofs.Ytakkmnhiaddnnaa
