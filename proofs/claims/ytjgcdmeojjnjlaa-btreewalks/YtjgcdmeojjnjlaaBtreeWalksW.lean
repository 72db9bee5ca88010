/- The walk of the law BtreeWalks. -/
import Derived.Test.YtjgcdmeojjnjlaaCP
namespace Go.Proofs.Ytjgcdmeojjnjlaa
open Go.RowKit Go.Sort Go.Shelf Go.Proofs.Ytjgcdmeojjnjlaa.Bo Go.Proofs.Ytjgcdmeojjnjlaa.Bb Go.Proofs.Ytjgcdmeojjnjlaa.Rf
set_option linter.unusedVariables false
set_option maxRecDepth 100000
attribute [local go_sem] Oper.semAt_some

abbrev iB (v : Int) : Obj := .cells #[.int .i64 v] 3 (0, 0)
abbrev lB (a : Option Addr) (n c : Nat) : Obj := .cells #[.slice a n c] 32 (0, 0)
theorem cell1B {W : World} {b : Nat} {v : Value} {t : TypeId} (h : W.heap[b]? = some (.cells #[v] t (0, 0))) : W.cell? ⟨b, 0, none⟩ = some v ∧ W.frozen? ⟨b, 0, none⟩ = false := ⟨(cell_of_row _ _ 0 _ _ _ h).trans rfl, frozen_of_row _ _ 0 _ _ h⟩
/-- A range over a function whose loop variable is a segment in a block of its own. -/
theorem wpIn_range_segB {n : Nat} {g : Operand} {p q : Tmp} {assign body : Code} {Q : Exit → Act → World → Prop} {tm0 : Array Value} {ds : List Deferred} {w : World} (h1 : 1 ≤ n) {gf : Nat} {lb : Array Value}
    (hg : ({ tmps := tm0, defers := ds } : Act).eval g = .func (.func gf) #[] lb) (eg : ∀ args w, (callFunc gf args).run Try.prog w = .ok (.enter gf args) w)
    {Kp : World → World → Prop} {S Sp : List G5 → Prop} {N : Nat} {w0 : World} (hseq : SeqStopsK Fence.wide (n - 1) Try.prog gf lb (fun g : G5 => #[vG g]) Kp S Sp N w0)
    (hKt : ∀ {A B C : World}, Kp A B → Kp B C → Kp A C) (hKb : ∀ (W : World) (l : Nat) (o o' : Obj), w.heap.size ≤ l → W.heap[l]? = some o → o.isCells = false → o.isWalk = false → Kp W (W.putObj l o')) (hb0 : Go.RowKit.Below w0.heap.size w0 w)
    (I : List G5 → World → Prop) (Ix : Code → List G5 → World → Prop) (hI : OwnFrom w.heap.size I) (hIx : ∀ c, OwnFrom w.heap.size (Ix c)) (h0 : I [] w)
    (hassign : ∀ (l : Nat) (pre : List G5) (x : G5) (W : World) (K : Act → World → Prop), I pre W → (∀ (Bx : Nat) (W' : World), KeepsFrom w.heap.size W W' → Kp W W' → I pre W' → W'.heap[Bx]? = some (oG x) → K { tmps := (tm0.setIfInBounds p (vG x)).setIfInBounds q (.pointer (some ⟨Bx, 0, none⟩)), defers := [] } W') →
      assign.wpIn (Fence.wide.inRound l) (n - 1 - 1) Try.prog (Exit.then K (fun _ _ _ => False)) { tmps := tm0.setIfInBounds p (vG x), defers := [] } W)
    (hbody : ∀ (l : Nat) (pre : List G5) (x : G5) (Bx : Nat) (W : World), w.heap.size ≤ l → I pre W → W.heap[Bx]? = some (oG x) → pre.length < N → body.wpIn (Fence.wide.inRound l) (n - 1 - 1) Try.prog (ownPostG w.heap.size Kp I Ix (pre ++ [x]) W) { tmps := (tm0.setIfInBounds p (vG x)).setIfInBounds q (.pointer (some ⟨Bx, 0, none⟩)), defers := [] } W)
    (hdone : ∀ (D : Nat) (xs : List G5) (W : World), w.heap.size ≤ D → S xs → I xs W → W.heap[D]? = some (.deferred (some [])) → Q .normal { tmps := tm0, defers := { target := .collected D, args := #[] } :: ds } W)
    (hstop : ∀ (D : Nat) (c : Code) (pre : List G5) (W : World), w.heap.size ≤ D → Sp pre → Ix c pre W → W.heap[D]? = some (.deferred (some [])) → c.wpIn Fence.wide n Try.prog Q { tmps := tm0, defers := { target := .collected D, args := #[] } :: ds } W) :
    (Code.rangeFunc g #[p] assign body).wpIn Fence.wide n Try.prog Q { tmps := tm0, defers := ds } w :=
  wpIn_rangeFunc_ownH rfl h1 hg trivial eg hseq hKt hKb hb0 (fun _ => rfl) I Ix hI hIx h0
    (fun x a' W => ∃ Bx, W.heap[Bx]? = some (oG x) ∧ a' = { tmps := (tm0.setIfInBounds p (vG x)).setIfInBounds q (.pointer (some ⟨Bx, 0, none⟩)), defers := [] })
    (fun x a' _ X Y row hs hg hr => by
      obtain ⟨Bx, h1, h2⟩ := hs
      exact ⟨Bx, (hg.block Bx (lt_of_block h1) (fun e => by obtain ⟨_, o, ho, hc⟩ := hr Bx e.symm; rw [h1] at ho; injection ho with ho; subst ho; cases hc)).trans h1, h2⟩)
    (fun l pre x W K hi hK => by
      have h := hassign l pre x W K hi fun Bx W' k1 k2 k3 k4 => hK _ W' k1 k2 k3 ⟨Bx, k4, rfl⟩
      have e : (#[p].zip #[vG x]).foldl (fun (t : Array Value) (x : Tmp × Value) => t.setIfInBounds x.1 x.2) tm0 = tm0.setIfInBounds p (vG x) := by simp
      rw [← e] at h
      exact h)
    (fun l pre x a' W hl hr hi hx hlt => by obtain ⟨Bx, h4, rfl⟩ := hx; exact hbody l pre x Bx W hl hi h4 hlt)
    hdone hstop
theorem inBlock_exitB {id : Nat} {Q : Exit → Act → World → Prop} {a : Act} {W : World} (h : Exit.inBlock id Q .normal a W) : Exit.inBlock id Q (.exit id) a W := by
  have h' : Q .normal a W := h
  show (if id = id then Q .normal a W else Q (.exit id) a W)
  rw [if_pos rfl]
  exact h'
theorem prefix_snocB {R pre : List G5} {x : G5} (h : pre <+: R) (hl : pre.length < R.length) : pre ++ [x] <+: R ↔ x = R[pre.length] := by
  obtain ⟨t, rfl⟩ := h
  cases t with
  | nil => simp at hl
  | cons y t =>
    rw [List.getElem_append_right (Nat.le_refl _)]
    simp only [Nat.sub_self, List.getElem_cons_zero]
    constructor
    · rintro ⟨u, hu⟩
      rw [List.append_assoc, List.append_cancel_left_eq] at hu
      simp at hu
      exact hu.1
    · rintro rfl
      exact ⟨t, by simp⟩
/-- Between two rounds of All: the counters, what has come. -/
def WkI (X : World) (bN bM : Nat) (L pre : List G5) (W : World) : Prop := ((W.heap[bN]? = some (iB (pre.length : Int)) ∧ W.heap[bM]? = some (iB (L.length : Int))) ∧ pre <+: L) ∧ Go.RowKit.Below X.heap.size X W
def WkX (X : World) (bN bM : Nat) (L : List G5) (stop : Int) (id : Nat) (c : Code) (pre : List G5) (W : World) : Prop := (c = .ret ∧ ¬ pre <+: L) ∨ ((c = .exit id ∧ (pre.length : Int) = stop) ∧ WkI X bN bM L pre W)
theorem wkI_own (X : World) (bN bM : Nat) (L : List G5) (B : Nat) (hB : X.heap.size ≤ B) : OwnFrom B (WkI X bN bM L) := fun s W W' row hs hg hr =>
  ⟨⟨⟨own_from_box rfl hs.1.1.1 hg hr, own_from_box rfl hs.1.1.2 hg hr⟩, hs.1.2⟩, hs.2.grown hg hs.2.size (fun j e => by have := (hr j e).1; omega)⟩
theorem wkX_own (X : World) (bN bM : Nat) (L : List G5) (stop : Int) (id B : Nat) (hB : X.heap.size ≤ B) (c : Code) : OwnFrom B (WkX X bN bM L stop id c) := by
  intro s W W' row hs hg hr
  rcases hs with hs | ⟨h1, hs⟩
  · exact .inl hs
  · exact .inr ⟨h1, wkI_own X bN bM L B hB s W W' row hs hg hr⟩
theorem kpS_int {b n0 c : Nat} {W W1 : World} {x : Int} {v : Value} (h : KpS b n0 W W1) (hc : W1.heap[c]? = some (iB x)) (hn : n0 ≤ c) (hbc : b ≠ c) : KpS b n0 W (W1.setCell ⟨c, 0, none⟩ v) := by
  have hk : KpS b n0 W1 (W1.setCell ⟨c, 0, none⟩ v) := ⟨(Go.RowKit.Below.refl _ _).setCell (p := ⟨c, 0, none⟩) hn v, fun k cs t hk ht => set_far hk (fun e => by
      subst e
      rw [hc] at hk
      injection hk with hk
      injection hk with e1 e2 _
      subst e2
      rcases ht with e | e | ⟨e, _⟩
      · revert e; decide
      · revert e; decide
      · revert e; decide), fun k hk => by
      obtain ⟨v', hv, ho⟩ := hk
      refine .inl ⟨v', ?_, ho⟩
      exact (Go.RowKit.Below.heap_setCell W1 ⟨c, 0, none⟩ v b hbc).symm.trans hv⟩
  exact h.trans hk
/-- Between two rounds of Down. -/
def WdI (X W3 : World) (bN bM D : Nat) (L : List G5) (p : Nat) (j : Nat) (V : World) : Prop := ((V.heap[bN]? = some (iB (p : Int)) ∧ V.heap[bM]? = some (iB ((L.length : Int) - (j : Int)))) ∧ V.heap[D]? = some (.deferred (some []))) ∧ Go.RowKit.Below X.heap.size X V ∧ W3.heap.size ≤ V.heap.size
/-- A range by wpIn_rangeM that is left by its own block's exit alone. -/
theorem wpIn_rangeM1 {P : Program} {n id : Nat} {g : Operand} {ps : Array Tmp} {assign body : Code} {Q : Exit → Act → World → Prop} {a : Act} {w : World} {gf : Nat} {lb : Array Value} (hg : a.eval g = .func (.func gf) #[] lb)
    (eg : ∀ args w, (callFunc gf args).run P w = .ok (.enter gf args) w) {encs : Nat → Array Value} {Kp : World → World → Prop} {N : Nat} (hseq : SeqM P gf lb encs Kp N w)
    (hKt : ∀ {X Y Z : World}, Kp X Y → Kp Y Z → Kp X Z) (hKb : ∀ (W : World) (o o' : Obj), W.heap[w.heap.size + 1]? = some o → o.isCells = false → o.isWalk = false → Kp W (W.putObj (w.heap.size + 1) o'))
    (hps : ∀ j, (encs j).size = ps.size) (I : Nat → World → Prop) (St : Nat → Prop) (hIs : ∀ j X, I j X → w.heap.size ≤ X.heap.size) (hI0 : ∀ j X Y, I j X → Go.RowKit.Below w.heap.size X Y → I j Y) (h0 : I 0 w)
    (hround : ∀ (l j : Nat) (W : World) (K : Act → World → Prop), j < N → I j W →
      (∀ a' Y, KeepsFrom w.heap.size W Y → Kp W Y → (∃ Z : Nat → World → Prop, OwnFrom w.heap.size Z ∧ Z j Y ∧ ∀ V, Z j V → body.wpIn (Fence.wide.inRound l) (n - 1 - 1) P (roundM w.heap.size Kp (I (j + 1)) (fun c W => (c = .exit id ∧ St (j + 1)) ∧ I (j + 1) W) V) a' V) → K a' Y) →
      assign.wpIn (Fence.wide.inRound l) (n - 1 - 1) P (Exit.then K (fun _ _ _ => False)) { tmps := (ps.zip (encs j)).foldl (fun t (p, v) => t.setIfInBounds p v) a.tmps, defers := [] } W)
    (hQ : ∀ (a : Act) (W : World), Q .normal a W → (Code.exit id).wpIn Fence.wide n P Q a W)
    (hnext : ∀ (D j : Nat) (W : World), w.heap.size ≤ D → j ≤ N → (j = N ∨ St j) → I j W → W.heap[D]? = some (.deferred (some [])) → Q .normal { a with defers := { target := .collected D, args := #[] } :: a.defers } W) :
    (Code.rangeFunc g ps assign body).wpIn Fence.wide n P Q a w :=
  wpIn_rangeM hg eg hseq hKt hKb (Go.RowKit.Below.refl _ _) hps I (fun c j W => (c = .exit id ∧ St j) ∧ I j W) hIs (fun c j X h => hIs j X h.2) hI0 (fun c j X Y h hb => ⟨h.1, hI0 j X Y h.2 hb⟩) h0 hround
    (fun D W hD hi hK => hnext D N W hD (Nat.le_refl _) (.inl rfl) hi hK)
    (fun D j c W hD hj ⟨⟨hc, hs⟩, hi⟩ hK => by subst hc; exact hQ _ _ (hnext D j W hD hj (.inr hs) hi hK))
/-- Such a range in a block that is left by its own exit alone: what comes behind is walked once. -/
theorem wpIn_range_segB1 {n id : Nat} {g : Operand} {p q : Tmp} {assign body : Code} {Q : Exit → Act → World → Prop} {tm0 : Array Value} {ds : List Deferred} {w : World} (h1 : 1 ≤ n) {gf : Nat} {lb : Array Value}
    (hg : ({ tmps := tm0, defers := ds } : Act).eval g = .func (.func gf) #[] lb) (eg : ∀ args w, (callFunc gf args).run Try.prog w = .ok (.enter gf args) w)
    {bl n0 N : Nat} {L : List G5} (hseq : SeqStopsK Fence.wide (n - 1) Try.prog gf lb (fun g : G5 => #[vG g]) (KpS bl n0) (fun ys => ys = L) (fun pre => pre <+: L) N w) (hn0 : n0 ≤ w.heap.size) (hbl : bl < w.heap.size)
    (X : World) (hX : X.heap.size ≤ w.heap.size) (bN bM : Nat) (stop : Int) (h0 : WkI X bN bM L [] w)
    (hQ : ∀ (a : Act) (W : World), Q .normal a W → (Code.exit id).wpIn Fence.wide n Try.prog Q a W)
    (hassign : ∀ (l : Nat) (pre : List G5) (x : G5) (W : World) (K : Act → World → Prop), WkI X bN bM L pre W → (∀ (Bx : Nat) (W' : World), KeepsFrom w.heap.size W W' → KpS bl n0 W W' → WkI X bN bM L pre W' → W'.heap[Bx]? = some (oG x) → K { tmps := (tm0.setIfInBounds p (vG x)).setIfInBounds q (.pointer (some ⟨Bx, 0, none⟩)), defers := [] } W') →
      assign.wpIn (Fence.wide.inRound l) (n - 1 - 1) Try.prog (Exit.then K (fun _ _ _ => False)) { tmps := tm0.setIfInBounds p (vG x), defers := [] } W)
    (hbody : ∀ (l : Nat) (pre : List G5) (x : G5) (Bx : Nat) (W : World), w.heap.size ≤ l → WkI X bN bM L pre W → W.heap[Bx]? = some (oG x) → pre.length < N → body.wpIn (Fence.wide.inRound l) (n - 1 - 1) Try.prog (ownPostG w.heap.size (KpS bl n0) (WkI X bN bM L) (WkX X bN bM L stop id) (pre ++ [x]) W) { tmps := (tm0.setIfInBounds p (vG x)).setIfInBounds q (.pointer (some ⟨Bx, 0, none⟩)), defers := [] } W)
    (hnext : ∀ (D p : Nat) (W : World), w.heap.size ≤ D → p ≤ L.length → p = L.length ∨ (p : Int) = stop → W.heap[bN]? = some (iB (p : Int)) → W.heap[bM]? = some (iB (L.length : Int)) → Go.RowKit.Below X.heap.size X W → W.heap[D]? = some (.deferred (some [])) → Q .normal { tmps := tm0, defers := { target := .collected D, args := #[] } :: ds } W) :
    (Code.rangeFunc g #[p] assign body).wpIn Fence.wide n Try.prog Q { tmps := tm0, defers := ds } w :=
  wpIn_range_segB h1 hg eg hseq KpS.trans (kpS_b hn0 hbl) (Go.RowKit.Below.refl _ _) (WkI X bN bM L) (WkX X bN bM L stop id) (wkI_own X bN bM L _ hX) (wkX_own X bN bM L stop id _ hX) h0 hassign hbody
    (fun D xs W hD hS hI hK => by subst hS; exact hnext D _ W hD (Nat.le_refl _) (.inl rfl) hI.1.1.1 hI.1.1.2 hI.2 hK)
    (fun D c pre W hD hS hx hK => by
      rcases hx with ⟨_, hbad⟩ | ⟨⟨rfl, hl⟩, hI⟩
      · exact absurd hS hbad
      · exact hQ _ _ (hnext D _ W hD hS.length_le (.inr hl) hI.1.1.1 hI.1.1.2 hI.2 hK))
theorem twoB_alloc {X W : World} {bL : Nat} {v : Value} (h : W.cell? ⟨bL, 0, none⟩ = some v ∧ Go.RowKit.Below X.heap.size X W) (o : Obj) : (W.alloc o).cell? ⟨bL, 0, none⟩ = some v ∧ Go.RowKit.Below X.heap.size X (W.alloc o) :=
  ⟨((Go.RowKit.Below.refl W.heap.size W).alloc (Nat.le_refl _) o).cell (p := ⟨bL, 0, none⟩) (World.block_lt_of_cell? W _ h.1) |>.trans h.1, h.2.alloc h.2.size o⟩
theorem twoB_drew {X W : World} {bL : Nat} {v : Value} (h : W.cell? ⟨bL, 0, none⟩ = some v ∧ Go.RowKit.Below X.heap.size X W) : W.drew.cell? ⟨bL, 0, none⟩ = some v ∧ Go.RowKit.Below X.heap.size X W.drew := ⟨h.1, h.2.drew⟩
theorem twoB_put {X W : World} {bL : Nat} {v : Value} (h : W.cell? ⟨bL, 0, none⟩ = some v ∧ Go.RowKit.Below X.heap.size X W) (c : Nat) (hb : bL < X.heap.size) (hc : X.heap.size ≤ c) (u : Value) : (W.setCell ⟨c, 0, none⟩ u).cell? ⟨bL, 0, none⟩ = some v ∧ Go.RowKit.Below X.heap.size X (W.setCell ⟨c, 0, none⟩ u) :=
  ⟨(World.cell?_setCell_far _ _ _ _ (by dsimp only; omega)).trans h.1, h.2.setCell (p := ⟨c, 0, none⟩) hc u⟩
set_option maxHeartbeats 8000000 in
theorem btreeWalks_walk (dg room : Int) (a : Option Addr) (len cap : Nat) (z : List O6) (stop : Int) (w0 : World) (h : IsOps6 w0 a len z) (ws0 : (Lit.int .i64 stop).wf = true) :
    Calls Try.prog 6 #[seV dg room, .slice a len cap, .int .i64 stop] w0 fun e w' => e = .returned (.bool true) ∧ Go.RowKit.Below w0.heap.size w0 w' := by
  have mx := mixed
  clear ws0
  have HAL := Lib.hid balive_any
  have hb1 := below_new w0 (seO dg room)
  have hb2 := below_new (w0.alloc (seO dg room)) (iB stop)
  have hb3 := below_new ((w0.alloc (seO dg room)).alloc (iB stop)) (boO false)
  have hx0 := heap_alloc_new w0 (seO dg room)
  have hx1 := heap_alloc_new (w0.alloc (seO dg room)) (iB stop)
  have hx2 := heap_alloc_new ((w0.alloc (seO dg room)).alloc (iB stop)) (boO false)
  rw [World.size_alloc] at hx1 hx2
  rw [World.size_alloc] at hx2
  have HB1 := Lib.hid (bt hb1 (bt hb2 hb3))
  have HSE := Lib.hid (box_on (box_on hx0 hb2) hb3)
  have HSB := Lib.hid (box_on hx1 hb3)
  have HRB := Lib.hid hx2
  obtain ⟨se1, se2⟩ := seO_cells HSE.out
  clear hb1 hb2 hb3 hx0 hx1 hx2
  by_cases hgood : ¬ (((2 ≤ dg ∧ dg ≤ 64) ∧ 0 ≤ room ∧ room ≤ 4096) ∧ len ≤ 200)
  · have HM : Hid (∀ W, Calls Try.prog 22 #[seV dg room, .slice a len cap] W fun e w' => e = .returned (.tuple #[.pointer none, .slice none 0 0, .bool false]) ∧ Go.RowKit.Below W.heap.size W w') := fun W => by
      by_cases h1 : (2 ≤ dg ∧ dg ≤ 64) ∧ 0 ≤ room ∧ room ≤ 4096
      · obtain ⟨d, rfl⟩ : ∃ d : Nat, dg = (d : Int) := ⟨dg.toNat, by omega⟩
        exact bmade_long d room a len cap W ⟨by omega, by omega⟩ h1.2 (by omega)
      · exact bmade_no dg room a len cap W h1
    clear hgood h HSB
    go_enter Try.func6, Try.ntmps6
    go_upto_region 1 with fail
    generalize ((w0.alloc (seO dg room)).alloc (iB stop)).alloc (boO false) = w at *
    go_wp2_with fail
    refine (HM.out _).mono ?_
    rintro e y0 ⟨rfl, hb⟩
    have HY := Lib.hid (bt HB1.out (bt hb (below_new y0 (lB none 0 0))))
    have HR1 := Lib.hid (box_on (box_on HRB.out hb) (below_new y0 (lB none 0 0)))
    clear hb se1 se2
    go_wp2_with fail
    refine (HAL.out _).mono ?_
    rintro e y1 ⟨rfl, hB1⟩
    have HR2 := Lib.hid (box_on HR1.out hB1)
    obtain ⟨r1, r2⟩ := cell1B HR2.out
    have r3 := (cell1B (heap_setCell_same _ _ 0 _ _ (.bool true) HR2.out)).1
    go_wp2_with fail
    refine bodyPost_ret (v := .bool true) (by simp [results, Try.results6, go_sem, r3]) rfl ?_
    exact ⟨rfl, (bt HY.out hB1).setCell (p := ⟨w0.heap.size + 1 + 1, 0, none⟩) (by show w0.heap.size ≤ w0.heap.size + 1 + 1; omega) _⟩
  have hgood := Classical.not_not.1 hgood
  obtain ⟨d, rfl⟩ : ∃ d : Nat, dg = (d : Int) := ⟨dg.toNat, by omega⟩
  have HM := Lib.hid (bmade_any d room a len cap z _ ⟨h.1, h.2.1, h.2.2.below HB1.out⟩ ⟨by omega, by omega⟩ hgood.1.2 hgood.2)
  have hzl : (gRunB room z).length ≤ 200 := by
    have := gRunB_len room z z.length (Nat.le_refl _)
    rw [List.take_length] at this
    have := h.1
    omega
  clear hgood h
  generalize gRunB room z = L at *
  refine (callsIn_wide (n := 6)).1 ?_
  refine callsIn_of_wp_marks Try.func6 rfl trivial ?_ rfl
  simp only [Try.ntmps6, List.size_toArray, List.length_cons, List.length_nil, Nat.reduceAdd, Nat.reduceSub, Array.replicate_succ, Array.replicate_zero, List.push_toArray, List.append_toArray, List.nil_append, List.cons_append]
  refine wpIn_wide.2 ?_
  go_upto_region 1 with fail
  have hw0 : w0.heap.size + 1 + 1 < (((w0.alloc (seO (d : Int) room)).alloc (iB stop)).alloc (boO false)).heap.size := lt_of_block HRB.out
  generalize ((w0.alloc (seO (d : Int) room)).alloc (iB stop)).alloc (boO false) = w at *
  go_wp2_with fail
  refine HM.out.mono ?_
  rintro e y0 ⟨T, A, la, lc, rfl, hm⟩
  obtain ⟨⟨t, ta, S0, hr, hok, hroom, _⟩, _⟩ := hm.tk
  have hbl := below_new y0 (lB la L.length lc)
  have HBY := Lib.hid (bt HB1.out (bt hm.be hbl))
  have HSY := Lib.hid (box_on (box_on HSB.out hm.be) hbl)
  have HRY := Lib.hid (box_on (box_on HRB.out hm.be) hbl)
  have HTR := Lib.hid (hr.below hbl)
  have HOK := Lib.hid hok
  have HTL : Hid (∀ b, btS T t ta S0 b → b < y0.heap.size) := fun b hb => (BtIs.lt ⟨ta, S0, rfl, hr⟩ b hb).2
  have HROW := Lib.hid (hm.row.below hbl)
  have HLB := Lib.hid (heap_alloc_new y0 (lB la L.length lc))
  have hyl : w0.heap.size + 1 + 1 < y0.heap.size := Nat.lt_of_lt_of_le hw0 hm.be.size
  clear hm hr hok hbl HM HSB HRB HB1 hroom HSE se1 se2
  go_upto_region 4 with fail
  generalize hX : y0.alloc (lB la L.length lc) = X at *
  have HXS : Hid (X.heap.size = y0.heap.size + 1) := by show _ = _; rw [← hX]; simp
  clear hX
  have p1 := (cell1B HLB.out).1
  go_cut [10, 11] from 10 to 25 (fun s10 s11 wx => ∃ bN bM : Nat, s10 = .pointer (some ⟨bN, 0, none⟩) ∧ s11 = .pointer (some ⟨bM, 0, none⟩) ∧ (wx.heap[bN]? = some (iB 0) ∧ wx.heap[bM]? = some (iB (L.length : Int))) ∧ (X.heap.size ≤ bN ∧ X.heap.size ≤ bM ∧ bN ≠ bM) ∧ Go.RowKit.Below X.heap.size X wx)
  case first =>
    have hyx : y0.heap.size < X.heap.size := by have := HXS.out; omega
    have hS0 : X.cell? ⟨y0.heap.size, 0, none⟩ = some (.slice la L.length lc) ∧ Go.RowKit.Below X.heap.size X X := ⟨p1, Go.RowKit.Below.refl _ _⟩
    go_region_held3 (fun w' => w'.cell? ⟨y0.heap.size, 0, none⟩ = some (.slice la L.length lc) ∧ Go.RowKit.Below X.heap.size X w')
      (with_reducible first | exact twoB_drew hS0 | exact twoB_drew (twoB_alloc hS0 _) | exact twoB_drew (twoB_alloc (twoB_alloc hS0 _) _) | exact twoB_drew (twoB_put (twoB_alloc (twoB_alloc hS0 _) _) _ hyx (by simp) _) | exact twoB_drew (twoB_put (twoB_put (twoB_alloc (twoB_alloc hS0 _) _) _ hyx (by simp) _) _ hyx (by simp) _))
      (fail)
    · go_wp2_with fail
      go_meet
      exact ⟨_, _, rfl, rfl, ⟨box_on (heap_alloc_new X (iB 0)) ((below_new (X.alloc (iB 0)) (iB (L.length : Int))).drew), new_at' _ (by simp)⟩, ⟨Nat.le_refl _, by omega, by omega⟩, (bt (below_new X (iB 0)) (below_new (X.alloc (iB 0)) (iB (L.length : Int)))).drew⟩
    · go_wp2_with fail
      go_meet
      exact ⟨_, _, rfl, rfl, ⟨new_at' _ (by simp), box_on (heap_alloc_new X (iB (L.length : Int))) ((below_new (X.alloc (iB (L.length : Int))) (iB 0)).drew)⟩, ⟨by omega, Nat.le_refl _, by omega⟩, (bt (below_new X (iB (L.length : Int))) (below_new (X.alloc (iB (L.length : Int))) (iB 0))).drew⟩
  case rest =>
  obtain ⟨bN, bM, rfl, rfl, ⟨hn, hmm⟩, ⟨l1, l2, l3⟩, hbw⟩ := hcut
  clear p1
  have HX1 := Lib.hid (bt hbw (below_new wc (oBP T)))
  have HN1 := Lib.hid (box_on hn (below_new wc (oBP T)))
  have HM1 := Lib.hid (box_on hmm (below_new wc (oBP T)))
  have HTB := Lib.hid (heap_alloc_new wc (oBP T))
  have hXwc := hbw.size
  clear hn hmm hbw
  go_wp2_with (go_at_call 34; refine (ball_any T _).mono ?_; rintro e w' ⟨rfl, rfl⟩)
  generalize wc.alloc (oBP T) = W1 at *
  have hW1 : wc.heap.size < W1.heap.size := lt_of_block HTB.out
  have hbNl : bN < W1.heap.size := lt_of_block HN1.out
  have hyx : y0.heap.size < X.heap.size := by have := HXS.out; omega
  have hSX : ∀ b, btS T t ta S0 b → b < X.heap.size := fun b hb => by have := HTL.out b hb; omega
  have HSW := Lib.hid ((HX1.out.block _ (show w0.heap.size + 1 < X.heap.size by omega)).trans HSY.out)
  refine (wpIn_wide (n := 6)).1 ?_
  refine wpIn_range_segB1 (p := 28) (q := 12) (id := 0) (by omega) (gf := 63) (lb := #[.pointer (some ⟨wc.heap.size, 0, none⟩)]) rfl (enters_of Try.func63 (by kernel_rfl) rfl)
    (ball_stops (6 - 1) wc.heap.size (w0.heap.size + 1) X.heap.size _ T A d W1 (HTR.out.kp (kp_of_belowB HX1.out) (fun b hb hge => by have := hSX b hb; omega)) HOK.out hSX HX1.out.size HTB.out (by omega) (fun k hk => by
      obtain ⟨v, hv, _⟩ := hk
      rw [HSW.out] at hv
      injection hv with hv
      injection hv with _ hv _
      exact absurd hv (by decide))) HX1.out.size (by omega)
    X HX1.out.size bN bM stop ⟨⟨⟨HN1.out, HM1.out⟩, List.nil_prefix⟩, HX1.out⟩ (fun a W h => wpIn_exit (inBlock_exitB h)) ?assign ?body ?next
  case assign =>
    rintro l pre g W K ⟨⟨⟨hn, hmm⟩, hp⟩, hB⟩ hK
    gi_wp2
    exact hK W.heap.size _ ((KeepsOthers.alloc _ _).from _) (KpS.of_below (below_new W (oG g)) hB.size (by have := hB.size; omega)) ⟨⟨⟨box_on hn (below_new W (oG g)), box_on hmm (below_new W (oG g))⟩, hp⟩, hB.alloc hB.size _⟩ (heap_alloc_new W (oG g))
  case body =>
    rintro l pre g Bx Wb hl ⟨⟨⟨hn, hmm⟩, hp⟩, hB⟩ hbx hlt
    obtain ⟨q, hq⟩ : ∃ q, pre.length = q := ⟨_, rfl⟩
    have HP := Lib.hid hp
    have HPS := Lib.hid (prefix_snocB (x := g) hp hlt)
    have HPL : Hid ((pre ++ [g]).length = q + 1) := by show _ = _; rw [List.length_append, hq]; rfl
    have hn1 : Wb.heap[bN]? = some (iB (q : Int)) := by rw [← hq]; exact hn
    have hql : q < L.length := by omega
    have hqb : q ≤ 200 := by omega
    have HBb := Lib.hid hB
    have HN1 := Lib.hid hn1
    have HMM := Lib.hid hmm
    have HLb := Lib.hid ((hB.block _ hyx).trans HLB.out)
    have HSb := Lib.hid ((hB.block _ (show w0.heap.size + 1 < X.heap.size by omega)).trans HSY.out)
    have HRb := Lib.hid ((hB.block _ (show w0.heap.size + 1 + 1 < X.heap.size by omega)).trans HRY.out)
    obtain ⟨b, off, rfl, hc⟩ := (HROW.out.below hB) (by omega)
    have HC := Lib.hid (hc q hql)
    have HRV : Hid (L[pre.length] = L[q]) := by show _ = _; congr 1
    have HGD : Hid (g.eqb L[q] = true → pre ++ [g] <+: L) := fun e => HPS.out.2 (((G5.eqb_iff _ _).1 e).trans HRV.out.symm)
    have HBD : Hid (g.eqb L[q] = false → ¬ pre ++ [g] <+: L) := fun e h => by rw [(G5.eqb_iff _ _).2 ((HPS.out.1 h).trans HRV.out)] at e; cases e
    have HGB := Lib.hid hbx
    clear HRV HPS hn hmm hp hB hq hc hlt
    generalize L[q] = gm at *
    have c1 := (cell1B hn1).1
    have c1f := (cell1B hn1).2
    have c2 := (cell1B HLb.out).1
    have c3 := (cell1B HSb.out).1
    obtain ⟨d1, d2, d3, d4, d5⟩ := five_cells hbx
    obtain ⟨e1, e2, e3, e4, e5⟩ := HC.out
    obtain ⟨r1, r2⟩ := cell1B HRb.out
    have t1 : decide ((L.length : Int) ≤ (q : Int)) = false := decide_eq_false (by omega)
    have t1n : decide (L.length ≤ q) = false := decide_eq_false (by omega)
    have t1p : ¬ L.length ≤ q := by omega
    have i1 : (0 : Int) ≤ (q : Int) := by omega
    have i2 : (q : Int) < (L.length : Int) := by omega
    have ne := neq_seg g gm
    have q1 : IntKind.i64.wrap ((q : Int) + 1) = (q : Int) + 1 := IntWalk.i64_in _ (by omega)
    simp only [Nat.zero_add] at d2 d3 d4 d5
    clear hn1 hbx
    simp only [List.setIfInBounds_toArray, List.set_cons_zero, List.set_cons_succ]
    have HDN : Hid (g.eqb gm = true → WkI X bN bM L (pre ++ [g]) (Wb.drew.setCell ⟨bN, 0, none⟩ (.int .i64 ((q : Int) + 1)))) := fun he => ⟨⟨⟨by rw [HPL.out]; exact heap_setCell_same Wb.drew bN 0 _ _ _ HN1.out, set_far (W := Wb.drew) HMM.out (by omega)⟩, HGD.out he⟩, HBb.out.drew.setCell (p := ⟨bN, 0, none⟩) l1 _⟩
    have HKD : Hid (KpS (w0.heap.size + 1) X.heap.size Wb (Wb.drew.setCell ⟨bN, 0, none⟩ (.int .i64 ((q : Int) + 1)))) := kpS_int (W1 := Wb.drew) (x := (q : Int)) ⟨(Go.RowKit.Below.refl _ _).drew, fun _ _ _ h _ => h, fun _ h => .inl h⟩ HN1.out l1 (by omega)
    have HS3 : Hid ((Wb.drew.setCell ⟨bN, 0, none⟩ (.int .i64 ((q : Int) + 1))).heap[w0.heap.size + 1]? = some (iB stop)) := (HKD.out.1.block _ (show w0.heap.size + 1 < X.heap.size by omega)).trans HSb.out
    have HKO : Hid (KeepsOthers Wb (Wb.drew.setCell ⟨bN, 0, none⟩ (.int .i64 ((q : Int) + 1)))) := (KeepsOthers.drew _).trans (KeepsOthers.setCell _ _ _)
    have k1 := (cell1B HS3.out).1
    have k2 := (cell1B (heap_setCell_same Wb.drew bN 0 _ _ (.int .i64 ((q : Int) + 1)) HN1.out)).1
    gi_wp2
    gi_region_with_o fail
    all_goals
      cases he : g.eqb gm with
      | false =>
        have HBAD := Lib.hid (HBD.out he)
        clear he k1 k2
        gi_wp2
        exact ⟨((KeepsOthers.drew _).trans (KeepsOthers.setCell _ _ _)).from _, .inl ⟨rfl, HBAD.out⟩⟩
      | true =>
        have HDO := Lib.hid (HDN.out he)
        clear he
        by_cases hs : (q : Int) + 1 = stop
        · have HS := Lib.hid hs
          have t2 : ((q : Int) + 1 == stop) = true := beq_iff_eq.2 hs
          clear hs
          gi_wp2
          exact ⟨HKO.out.from _, .inr ⟨⟨rfl, by rw [HPL.out]; exact HS.out⟩, HDO.out⟩⟩
        · have t2 : ((q : Int) + 1 == stop) = false := beq_eq_false_iff_ne.2 hs
          clear hs
          gi_wp2
          exact ⟨HKO.out.from _, HKD.out, HDO.out⟩
  case next =>
    rintro D p W hD hpl hps hn hmm hB hK
    have HB := Lib.hid hB
    have HD := Lib.hid hK
    have hDW : D < W.heap.size := lt_of_block hK
    have hXW := hB.size
    have hsz := hW1
    have HTB2 := Lib.hid (heap_alloc_new W (oBP T))
    have hbb := below_new W (oBP T)
    have HN3 := Lib.hid (box_on hn hbb)
    have HM3 := Lib.hid (box_on hmm hbb)
    have HB3 := Lib.hid (bt hB hbb)
    have HD3 := Lib.hid (box_on hK hbb)
    have hbNW : bN < W.heap.size := lt_of_block hn
    have hbMW : bM < W.heap.size := lt_of_block hmm
    clear hn hmm hB hK hbb HN1 HM1 HTB HX1 HSW
    go_wp2_with (go_at_call 35; refine (bdown_any T _).mono ?_; rintro e w' ⟨rfl, rfl⟩)
    generalize W.alloc (oBP T) = W3 at *
    have hW3 : W.heap.size < W3.heap.size := lt_of_block HTB2.out
    refine (wpIn_wide (n := 6)).1 ?_
    refine wpIn_rangeM1 (id := 2) (gf := 65) (lb := #[.pointer (some ⟨W.heap.size, 0, none⟩)]) rfl (enters_of Try.func65 (by kernel_rfl) rfl)
      (bdown_seq W.heap.size X.heap.size _ T A d W3 (HTR.out.kp (kp_of_belowB HB3.out) (fun b hb hge => by have := hSX b hb; omega)) HOK.out hSX HB3.out.size HTB2.out) KpF.trans
      (fun V o o' hV k1 k2 => ⟨belowK_b (n₀ := X.heap.size) (w := W3) HB3.out.size V (W3.heap.size + 1) o o' (by omega) hV k1 k2, fun k hk _ => World.putObj_heap_other (by omega)⟩) (fun _ => rfl)
      (WdI X W3 bN bM D L p) (fun j => (j : Int) = stop) (fun j V h => h.2.2)
      (fun j V Y h hb => ⟨⟨⟨(hb.block bN (by omega)).trans h.1.1.1, (hb.block bM (by omega)).trans h.1.1.2⟩, (hb.block D (by omega)).trans h.1.2⟩, h.2.1.trans (hb.mono HB3.out.size), Nat.le_trans h.2.2 hb.size⟩)
      ⟨⟨⟨HN3.out, by rw [HM3.out]; simp⟩, HD3.out⟩, HB3.out, Nat.le_refl _⟩ ?round (fun a W h => wpIn_exit (inBlock_exitB h)) ?next2
    case round =>
      rintro lr j Wr K hj hI hK
      obtain ⟨m, hm⟩ : ∃ m, L.length = m + 1 + j := ⟨L.length - (j + 1), by omega⟩
      have hml : m < L.length := by omega
      have hg : L.reverse.getD j Bo.g0 = L[m] := by
        rw [List.getD_eq_getElem?_getD, List.getElem?_eq_getElem (by rw [List.length_reverse]; exact hj)]
        simp only [Option.getD_some, List.getElem_reverse]
        congr 1
        omega
      simp only [hg]
      have HI := Lib.hid hI
      have HM := Lib.hid hm
      have HCm : Hid (∀ V, Go.RowKit.Below X.heap.size X V → ∃ b off, la = some ⟨b, off, none⟩ ∧ Cells5 V b (off + m * 5) L[m]) := fun V hV => by
        obtain ⟨b, off, e, hc⟩ := (HROW.out.below hV) (by omega)
        exact ⟨b, off, e, hc m hml⟩
      clear hg hI
      generalize L[m] = g at *
      gi_wp2
      have hb6 := below_new Wr (oG g)
      have hWr : W3.heap.size ≤ Wr.heap.size := HI.out.2.2
      have hX3 := HB3.out.size
      have hI0 : ∀ (V Y : World), WdI X W3 bN bM D L p j V → Go.RowKit.Below W3.heap.size V Y → WdI X W3 bN bM D L p j Y := fun V Y h hb => ⟨⟨⟨(hb.block bN (by omega)).trans h.1.1.1, (hb.block bM (by omega)).trans h.1.1.2⟩, (hb.block D (by omega)).trans h.1.2⟩, h.2.1.trans (hb.mono HB3.out.size), Nat.le_trans h.2.2 hb.size⟩
      refine hK _ _ ((KeepsOthers.alloc _ _).from _) (KpF.of_below hb6 (by omega)) ⟨fun _ V => (WdI X W3 bN bM D L p j V ∧ V.heap[Wr.heap.size]? = some (oG g)) ∧ Wr.heap.size < V.heap.size, ?_, ⟨⟨hI0 _ _ HI.out (hb6.mono hWr), heap_alloc_new Wr (oG g)⟩, by simp⟩, ?_⟩
      · exact fun s V V' row hs hg hr => ⟨⟨hI0 _ _ hs.1.1 (grown_below hg (fun r e => (hr r e).1) hs.1.1.2.2), own_from_box rfl hs.1.2 hg hr⟩, Nat.lt_of_lt_of_le hs.2 hg.size⟩
      rintro V ⟨⟨⟨⟨⟨hn, hmm⟩, hd⟩, hB, hs⟩, hbx⟩, hWV⟩
      clear hb6 HI hI0
      generalize Wr.heap.size = Bx at *
      have hm1 : V.heap[bM]? = some (iB ((m : Int) + 1)) := by rw [hmm, hm]; simp
      have HM2 := Lib.hid (heap_setCell_same V bM 0 _ _ (.int .i64 (m : Int)) hm1)
      have HB2 := Lib.hid (hB.setCell (p := ⟨bM, 0, none⟩) l2 (.int .i64 (m : Int)))
      have HN2 : Hid ((V.setCell ⟨bM, 0, none⟩ (.int .i64 (m : Int))).heap[bN]? = some (iB (p : Int))) := set_far hn (by omega)
      have HD2 : Hid ((V.setCell ⟨bM, 0, none⟩ (.int .i64 (m : Int))).heap[D]? = some (.deferred (some []))) := set_far hd (by intro e; subst e; rw [hd] at hm1; cases hm1)
      have HL2 : Hid ((V.setCell ⟨bM, 0, none⟩ (.int .i64 (m : Int))).heap[y0.heap.size]? = some (lB la L.length lc)) := (HB2.out.block _ hyx).trans HLB.out
      have HS2 : Hid ((V.setCell ⟨bM, 0, none⟩ (.int .i64 (m : Int))).heap[w0.heap.size + 1]? = some (iB stop)) := (HB2.out.block _ (by omega)).trans HSY.out
      have HG2 : Hid ((V.setCell ⟨bM, 0, none⟩ (.int .i64 (m : Int))).heap[Bx]? = some (oG g)) := set_far hbx (by omega)
      obtain ⟨b, off, rfl, hC⟩ := HCm.out _ HB2.out
      have HC := Lib.hid hC
      have HKO : Hid (KeepsOthers V (V.setCell ⟨bM, 0, none⟩ (.int .i64 (m : Int)))) := KeepsOthers.setCell _ _ _
      have HKP : Hid (KpF X.heap.size (W3.heap.size + 2) V (V.setCell ⟨bM, 0, none⟩ (.int .i64 (m : Int)))) := ⟨(Go.RowKit.Below.refl _ _).setCell (p := ⟨bM, 0, none⟩) l2 _, fun k hk _ => Go.RowKit.Below.heap_setCell V ⟨bM, 0, none⟩ _ k (by dsimp only; omega)⟩
      have HSZ : Hid (W3.heap.size ≤ (V.setCell ⟨bM, 0, none⟩ (.int .i64 (m : Int))).heap.size) := by show _ ≤ _; exact Nat.le_trans hs HKO.out.size
      obtain ⟨n1, n2⟩ := cell1B hm1
      have q0 : IntKind.i64.wrap ((m : Int) + 1 - 1) = (m : Int) := by rw [show (m : Int) + 1 - 1 = (m : Int) by omega]; exact IntWalk.i64_in _ (by omega)
      have hmb : m ≤ 200 := by omega
      have hqb : j ≤ 200 := by omega
      have he : g.eqb g = true := (G5.eqb_iff _ _).2 rfl
      clear hn hmm hd hB hs hbx hm hm1 hC HCm
      gi_wp2
      generalize V.setCell ⟨bM, 0, none⟩ (.int .i64 (m : Int)) = V2 at *
      have c1 := (cell1B HM2.out).1
      have c2 := (cell1B HL2.out).1
      obtain ⟨d1, d2, d3, d4, d5⟩ := five_cells HG2.out
      obtain ⟨e1, e2, e3, e4, e5⟩ := HC.out
      have c3 := (cell1B HS2.out).1
      have t1 : decide ((m : Int) < 0) = false := decide_eq_false (by omega)
      have i1 : (0 : Int) ≤ (m : Int) := by omega
      have i2 : (m : Int) < (L.length : Int) := by omega
      have ne := neq_seg g g
      simp only [Nat.zero_add] at d2 d3 d4 d5
      have q1 : IntKind.i64.wrap ((L.length : Int) - (m : Int)) = (j : Int) + 1 := by rw [show (L.length : Int) - (m : Int) = (j : Int) + 1 by have := HM.out; omega]; exact IntWalk.i64_in _ (by omega)
      have HDN : Hid (WdI X W3 bN bM D L p (j + 1) V2.drew) := ⟨⟨⟨HN2.out, by show V2.heap[bM]? = _; rw [HM2.out]; have := HM.out; rw [show (L.length : Int) - ((j + 1 : Nat) : Int) = (m : Int) by omega]; rfl⟩, HD2.out⟩, HB2.out.drew, HSZ.out⟩
      have HKD : Hid (KpF X.heap.size (W3.heap.size + 2) V V2.drew) := ⟨HKP.out.1.drew, HKP.out.2⟩
      gi_region_with_o fail
      all_goals
        by_cases hs : (j : Int) + 1 = stop
        · have HS := Lib.hid hs
          have t2 : ((j : Int) + 1 == stop) = true := beq_iff_eq.2 hs
          clear hs
          gi_wp2
          exact ⟨(HKO.out.trans (KeepsOthers.drew _)).from _, HKD.out, ⟨rfl, by have := HS.out; push_cast; exact this⟩, HDN.out⟩
        · have t2 : ((j : Int) + 1 == stop) = false := beq_eq_false_iff_ne.2 hs
          clear hs
          gi_wp2
          exact ⟨(HKO.out.trans (KeepsOthers.drew _)).from _, HKD.out, HDN.out⟩
    case next2 =>
      rintro D2 q V hD2 hql hqs ⟨⟨⟨hn, hmm⟩, hd⟩, hB, hs⟩ hK2
      obtain ⟨PV, hPV⟩ : ∃ PV : Int, PV = (p : Int) := ⟨_, rfl⟩
      obtain ⟨V0, hV0⟩ : ∃ V0 : Int, V0 = (L.length : Int) - (q : Int) := ⟨_, rfl⟩
      have HNd : Hid (V.heap[bN]? = some (iB PV)) := by rw [hPV]; exact hn
      have HMd : Hid (V.heap[bM]? = some (iB V0)) := by rw [hV0]; exact hmm
      have HBd := Lib.hid hB
      have HDd := Lib.hid hd
      have HKd := Lib.hid hK2
      have hA : PV = (L.length : Int) ∨ ((PV == (L.length : Int)) = false ∧ (PV == stop) = true) := by
        by_cases e : PV = (L.length : Int)
        · exact .inl e
        · refine .inr ⟨beq_eq_false_iff_ne.2 e, beq_iff_eq.2 ?_⟩
          rcases hps with h | h
          · exact absurd (by rw [hPV, h]) e
          · rw [hPV]; exact h
      have hBB : V0 = 0 ∨ ∃ QV : Int, (V0 == 0) = false ∧ IntKind.i64.wrap ((L.length : Int) - V0) = QV ∧ (QV == stop) = true := by
        by_cases e : V0 = 0
        · exact .inl e
        · refine .inr ⟨(q : Int), beq_eq_false_iff_ne.2 e, by rw [show (L.length : Int) - V0 = (q : Int) by omega]; exact IntWalk.i64_in _ (by omega), beq_iff_eq.2 ?_⟩
          rcases hqs with h | h
          · exact absurd (by omega) e
          · exact h
      clear hn hmm hd hB hK2 hPV hV0 hps hqs HB HD HN3 HM3 HD3 HB3 HTB2
      have t4 : ((L.length : Int) == (L.length : Int)) = true := beq_self_eq_true _
      rcases hA with rfl | ⟨t1, t2⟩
      · rcases hBB with rfl | ⟨QV, t5, q5, t6⟩
        · skip
          go_wp2_with (go_at_call 9; refine (HAL.out _).mono ?_; rintro e y9 ⟨rfl, hb⟩; have HY9 := Lib.hid (HBd.out.trans (hb.mono HBd.out.size)); have HK9 := Lib.hid (box_on HKd.out hb); have HD9 := Lib.hid (box_on HDd.out hb); have m1 := (cell1B (box_on HNd.out hb)).1; have m6 := (cell1B (box_on HMd.out hb)).1; have m2 := (cell1B ((HY9.out.block _ (show w0.heap.size + 1 < X.heap.size by omega)).trans HSY.out)).1; have m3 := (cell1B ((HY9.out.block _ hyx).trans HLB.out)).1; have HR9 := Lib.hid ((HY9.out.block _ (show w0.heap.size + 1 + 1 < X.heap.size by omega)).trans HRY.out); have m4 := (cell1B HR9.out).1; have m5 := (cell1B HR9.out).2; clear hb)
          have HKz := Lib.hid ((KeepsOthers.setCell y9 ⟨w0.heap.size + 1 + 1, 0, none⟩ (.bool true)).same D2 _ HK9.out rfl)
          have HDz := Lib.hid ((KeepsOthers.setCell y9 ⟨w0.heap.size + 1 + 1, 0, none⟩ (.bool true)).same D _ HD9.out rfl)
          have HRz := Lib.hid (heap_setCell_same _ _ 0 _ _ (.bool true) HR9.out)
          have HBz := Lib.hid ((HBY.out.trans (HY9.out.mono HBY.out.size)).setCell (p := ⟨w0.heap.size + 1 + 1, 0, none⟩) (by show w0.heap.size ≤ w0.heap.size + 1 + 1; omega) (.bool true))
          generalize y9.setCell ⟨w0.heap.size + 1 + 1, 0, none⟩ (.bool true) = Z at *
          have HDy : Hid ((Z.putObj D2 (.deferred none)).heap[D]? = some (.deferred (some []))) := (World.putObj_heap_other (by omega)).trans HDz.out
          have hRz : ((Z.putObj D2 (.deferred none)).putObj D (.deferred none)).heap[w0.heap.size + 1 + 1]? = some (.cells #[.bool true] 4 (0, 0)) := (World.putObj_heap_other (by omega)).trans ((World.putObj_heap_other (by omega)).trans HRz.out)
          have hcz := (cell1B hRz).1
          refine ⟨by simp, .inl ⟨_, _, rfl, run_takeDeferred HKz.out, by simp, .inl ⟨_, _, rfl, run_takeDeferred HDy.out, ?_⟩⟩⟩
          refine ⟨.bool true, ?_, rfl, (HBz.out.trans (belowK_b (w := w0) (Nat.le_refl _) _ D2 _ _ (by omega) HKz.out rfl rfl)).trans (belowK_b (w := w0) (Nat.le_refl _) _ D _ _ (by omega) HDy.out rfl rfl)⟩
          simp [results, Try.f6, go_sem, hcz]
        · skip
          go_wp2_with (go_at_call 9; refine (HAL.out _).mono ?_; rintro e y9 ⟨rfl, hb⟩; have HY9 := Lib.hid (HBd.out.trans (hb.mono HBd.out.size)); have HK9 := Lib.hid (box_on HKd.out hb); have HD9 := Lib.hid (box_on HDd.out hb); have m1 := (cell1B (box_on HNd.out hb)).1; have m6 := (cell1B (box_on HMd.out hb)).1; have m2 := (cell1B ((HY9.out.block _ (show w0.heap.size + 1 < X.heap.size by omega)).trans HSY.out)).1; have m3 := (cell1B ((HY9.out.block _ hyx).trans HLB.out)).1; have HR9 := Lib.hid ((HY9.out.block _ (show w0.heap.size + 1 + 1 < X.heap.size by omega)).trans HRY.out); have m4 := (cell1B HR9.out).1; have m5 := (cell1B HR9.out).2; clear hb)
          have HKz := Lib.hid ((KeepsOthers.setCell y9 ⟨w0.heap.size + 1 + 1, 0, none⟩ (.bool true)).same D2 _ HK9.out rfl)
          have HDz := Lib.hid ((KeepsOthers.setCell y9 ⟨w0.heap.size + 1 + 1, 0, none⟩ (.bool true)).same D _ HD9.out rfl)
          have HRz := Lib.hid (heap_setCell_same _ _ 0 _ _ (.bool true) HR9.out)
          have HBz := Lib.hid ((HBY.out.trans (HY9.out.mono HBY.out.size)).setCell (p := ⟨w0.heap.size + 1 + 1, 0, none⟩) (by show w0.heap.size ≤ w0.heap.size + 1 + 1; omega) (.bool true))
          generalize y9.setCell ⟨w0.heap.size + 1 + 1, 0, none⟩ (.bool true) = Z at *
          have HDy : Hid ((Z.putObj D2 (.deferred none)).heap[D]? = some (.deferred (some []))) := (World.putObj_heap_other (by omega)).trans HDz.out
          have hRz : ((Z.putObj D2 (.deferred none)).putObj D (.deferred none)).heap[w0.heap.size + 1 + 1]? = some (.cells #[.bool true] 4 (0, 0)) := (World.putObj_heap_other (by omega)).trans ((World.putObj_heap_other (by omega)).trans HRz.out)
          have hcz := (cell1B hRz).1
          refine ⟨by simp, .inl ⟨_, _, rfl, run_takeDeferred HKz.out, by simp, .inl ⟨_, _, rfl, run_takeDeferred HDy.out, ?_⟩⟩⟩
          refine ⟨.bool true, ?_, rfl, (HBz.out.trans (belowK_b (w := w0) (Nat.le_refl _) _ D2 _ _ (by omega) HKz.out rfl rfl)).trans (belowK_b (w := w0) (Nat.le_refl _) _ D _ _ (by omega) HDy.out rfl rfl)⟩
          simp [results, Try.f6, go_sem, hcz]
      · rcases hBB with rfl | ⟨QV, t5, q5, t6⟩
        · skip
          go_wp2_with (go_at_call 9; refine (HAL.out _).mono ?_; rintro e y9 ⟨rfl, hb⟩; have HY9 := Lib.hid (HBd.out.trans (hb.mono HBd.out.size)); have HK9 := Lib.hid (box_on HKd.out hb); have HD9 := Lib.hid (box_on HDd.out hb); have m1 := (cell1B (box_on HNd.out hb)).1; have m6 := (cell1B (box_on HMd.out hb)).1; have m2 := (cell1B ((HY9.out.block _ (show w0.heap.size + 1 < X.heap.size by omega)).trans HSY.out)).1; have m3 := (cell1B ((HY9.out.block _ hyx).trans HLB.out)).1; have HR9 := Lib.hid ((HY9.out.block _ (show w0.heap.size + 1 + 1 < X.heap.size by omega)).trans HRY.out); have m4 := (cell1B HR9.out).1; have m5 := (cell1B HR9.out).2; clear hb)
          have HKz := Lib.hid ((KeepsOthers.setCell y9 ⟨w0.heap.size + 1 + 1, 0, none⟩ (.bool true)).same D2 _ HK9.out rfl)
          have HDz := Lib.hid ((KeepsOthers.setCell y9 ⟨w0.heap.size + 1 + 1, 0, none⟩ (.bool true)).same D _ HD9.out rfl)
          have HRz := Lib.hid (heap_setCell_same _ _ 0 _ _ (.bool true) HR9.out)
          have HBz := Lib.hid ((HBY.out.trans (HY9.out.mono HBY.out.size)).setCell (p := ⟨w0.heap.size + 1 + 1, 0, none⟩) (by show w0.heap.size ≤ w0.heap.size + 1 + 1; omega) (.bool true))
          generalize y9.setCell ⟨w0.heap.size + 1 + 1, 0, none⟩ (.bool true) = Z at *
          have HDy : Hid ((Z.putObj D2 (.deferred none)).heap[D]? = some (.deferred (some []))) := (World.putObj_heap_other (by omega)).trans HDz.out
          have hRz : ((Z.putObj D2 (.deferred none)).putObj D (.deferred none)).heap[w0.heap.size + 1 + 1]? = some (.cells #[.bool true] 4 (0, 0)) := (World.putObj_heap_other (by omega)).trans ((World.putObj_heap_other (by omega)).trans HRz.out)
          have hcz := (cell1B hRz).1
          refine ⟨by simp, .inl ⟨_, _, rfl, run_takeDeferred HKz.out, by simp, .inl ⟨_, _, rfl, run_takeDeferred HDy.out, ?_⟩⟩⟩
          refine ⟨.bool true, ?_, rfl, (HBz.out.trans (belowK_b (w := w0) (Nat.le_refl _) _ D2 _ _ (by omega) HKz.out rfl rfl)).trans (belowK_b (w := w0) (Nat.le_refl _) _ D _ _ (by omega) HDy.out rfl rfl)⟩
          simp [results, Try.f6, go_sem, hcz]
        · skip
          go_wp2_with (go_at_call 9; refine (HAL.out _).mono ?_; rintro e y9 ⟨rfl, hb⟩; have HY9 := Lib.hid (HBd.out.trans (hb.mono HBd.out.size)); have HK9 := Lib.hid (box_on HKd.out hb); have HD9 := Lib.hid (box_on HDd.out hb); have m1 := (cell1B (box_on HNd.out hb)).1; have m6 := (cell1B (box_on HMd.out hb)).1; have m2 := (cell1B ((HY9.out.block _ (show w0.heap.size + 1 < X.heap.size by omega)).trans HSY.out)).1; have m3 := (cell1B ((HY9.out.block _ hyx).trans HLB.out)).1; have HR9 := Lib.hid ((HY9.out.block _ (show w0.heap.size + 1 + 1 < X.heap.size by omega)).trans HRY.out); have m4 := (cell1B HR9.out).1; have m5 := (cell1B HR9.out).2; clear hb)
          have HKz := Lib.hid ((KeepsOthers.setCell y9 ⟨w0.heap.size + 1 + 1, 0, none⟩ (.bool true)).same D2 _ HK9.out rfl)
          have HDz := Lib.hid ((KeepsOthers.setCell y9 ⟨w0.heap.size + 1 + 1, 0, none⟩ (.bool true)).same D _ HD9.out rfl)
          have HRz := Lib.hid (heap_setCell_same _ _ 0 _ _ (.bool true) HR9.out)
          have HBz := Lib.hid ((HBY.out.trans (HY9.out.mono HBY.out.size)).setCell (p := ⟨w0.heap.size + 1 + 1, 0, none⟩) (by show w0.heap.size ≤ w0.heap.size + 1 + 1; omega) (.bool true))
          generalize y9.setCell ⟨w0.heap.size + 1 + 1, 0, none⟩ (.bool true) = Z at *
          have HDy : Hid ((Z.putObj D2 (.deferred none)).heap[D]? = some (.deferred (some []))) := (World.putObj_heap_other (by omega)).trans HDz.out
          have hRz : ((Z.putObj D2 (.deferred none)).putObj D (.deferred none)).heap[w0.heap.size + 1 + 1]? = some (.cells #[.bool true] 4 (0, 0)) := (World.putObj_heap_other (by omega)).trans ((World.putObj_heap_other (by omega)).trans HRz.out)
          have hcz := (cell1B hRz).1
          refine ⟨by simp, .inl ⟨_, _, rfl, run_takeDeferred HKz.out, by simp, .inl ⟨_, _, rfl, run_takeDeferred HDy.out, ?_⟩⟩⟩
          refine ⟨.bool true, ?_, rfl, (HBz.out.trans (belowK_b (w := w0) (Nat.le_refl _) _ D2 _ _ (by omega) HKz.out rfl rfl)).trans (belowK_b (w := w0) (Nat.le_refl _) _ D _ _ (by omega) HDy.out rfl rfl)⟩
          simp [results, Try.f6, go_sem, hcz]
end Go.Proofs.Ytjgcdmeojjnjlaa
