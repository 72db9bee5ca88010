/- A part of the proof: contracts of the functions that the statements reach. -/
import Derived.Test.YthojkbmffiibdaaDoorRows
import Derived.Test.YthojkbmffiibdaaDoorBA
import Derived.Test.YthojkbmffiibdaaDoorBB
import Derived.Test.YthojkbmffiibdaaDoorBC
import Derived.Test.YthojkbmffiibdaaDoorBD
import Derived.Test.YthojkbmffiibdaaDoorBE
import Derived.Test.YthojkbmffiibdaaDoorBF

/- Contracts of package bound's functions: kindBeside, Low, High, Text. -/
namespace Go.Proofs.YthojkbmffiibdaaDoor
open Go.RowKit Go.Sort Go.Proofs.YthojkbmffiibdaaDoor.Bo
set_option linter.unusedVariables false

def kb (r : Bool) : Int := if r = true then 1 else 2
theorem kb_any (r : Bool) (w : World) : Calls Tryd.prog 67 #[.bool r] w fun e w' => e = .returned (.int .i64 (kb r)) ∧ Go.RowKit.Below w.heap.size w w' := by
  cases r with
  | true =>
    go_enter Tryd.func67, Tryd.ntmps67
    go_wp2
    go_ret
    exact ⟨rfl, Go.RowKit.Below.refl _ _⟩
  | false =>
    go_enter Tryd.func67, Tryd.ntmps67
    go_wp2
    go_ret
    exact ⟨rfl, Go.RowKit.Below.refl _ _⟩
/-- A cut in its block, and a bound's result. -/
structure Lw2 (w : World) (s a : Int) (W : World) : Prop where
  c : W.heap[w.heap.size]? = some (.cells #[.int .i64 s, .int .i64 a] 25)
  r : W.heap[w.heap.size + 1]? = some (bB 0 0)
  be : Go.RowKit.Below w.heap.size w W
theorem Lw2.new (w : World) (s a : Int) : Lw2 w s a ((w.alloc (.cells #[.int .i64 s, .int .i64 a] 25)).alloc (bB 0 0)) := ⟨box_on (heap_alloc_new w _) (below_new _ _), new_at _ (by simp), bt (below_new w _) (below_new _ _)⟩
theorem Lw2.on {w : World} {s a : Int} {W W' : World} (h : Lw2 w s a W) (hb : Go.RowKit.Below W.heap.size W W') : Lw2 w s a W' := ⟨box_on h.c hb, box_on h.r hb, bt h.be hb⟩
theorem Lw2.put {w : World} {s a : Int} {W : World} (h : Lw2 w s a W) (x y : Int) : Lw2 w x y ((W.setCell ⟨w.heap.size, 0, none⟩ (.int .i64 x)).setCell ⟨w.heap.size, 1, none⟩ (.int .i64 y)) :=
  ⟨put_same _ _ h.c, put_far (c := w.heap.size) h.r (by omega) _ _, (h.be.setCell (p := ⟨w.heap.size, 0, none⟩) (Nat.le_refl _) _).setCell (p := ⟨w.heap.size, 1, none⟩) (Nat.le_refl _) _⟩
theorem Lw2.fin {w : World} {s a : Int} {W : World} (h : Lw2 w s a W) (p q : Int) :
    (W.cell? ⟨w.heap.size + 1, 0, none⟩ = some (.int .i64 0) ∧ W.cell? ⟨w.heap.size + 1, 1, none⟩ = some (.int .i64 0) ∧ W.frozen? ⟨w.heap.size + 1, 0, none⟩ = false ∧ W.frozen? ⟨w.heap.size + 1, 1, none⟩ = false) ∧
    (((W.setCell ⟨w.heap.size + 1, 0, none⟩ (.int .i64 p)).setCell ⟨w.heap.size + 1, 1, none⟩ (.int .i64 q)).cell? ⟨w.heap.size + 1, 0, none⟩ = some (.int .i64 p) ∧ ((W.setCell ⟨w.heap.size + 1, 0, none⟩ (.int .i64 p)).setCell ⟨w.heap.size + 1, 1, none⟩ (.int .i64 q)).cell? ⟨w.heap.size + 1, 1, none⟩ = some (.int .i64 q)) ∧
    Go.RowKit.Below w.heap.size w ((W.setCell ⟨w.heap.size + 1, 0, none⟩ (.int .i64 p)).setCell ⟨w.heap.size + 1, 1, none⟩ (.int .i64 q)) :=
  have h2 := two_cells (put_same (.int .i64 p) (.int .i64 q) h.r)
  have h3 : w.heap.size ≤ w.heap.size + 1 := by omega
  ⟨two_cells h.r, ⟨h2.1, h2.2.1⟩, (h.be.setCell (p := ⟨w.heap.size + 1, 0, none⟩) h3 _).setCell (p := ⟨w.heap.size + 1, 1, none⟩) h3 _⟩
set_option maxRecDepth 100000 in
set_option maxHeartbeats 2000000 in
theorem lowb_core (s a x y p q : Int) (w : World) (HC : Hid (∀ W, Calls Tryd.prog 37 #[.agg #[.int .i64 s, .int .i64 a]] W fun e w' => e = .returned (.agg #[.int .i64 x, .int .i64 y]) ∧ Go.RowKit.Below W.heap.size W w'))
    (HF : Hid (∀ W, Calls Tryd.prog 29 #[] W fun e w' => e = .returned (.agg #[.int .i64 (-1), .int .i64 0]) ∧ Go.RowKit.Below W.heap.size W w')) (HL : Hid (∀ W, Calls Tryd.prog 32 #[] W fun e w' => e = .returned (.agg #[.int .i64 1, .int .i64 0]) ∧ Go.RowKit.Below W.heap.size W w'))
    (hpq : (x = -1 ∧ y = 0 ∧ p = 0 ∧ q = 0) ∨ (x = 1 ∧ y = 0 ∧ p = 1 ∧ q = 9223372036854775807) ∨ (x = 0 ∧ p = 2 ∧ q = y)) :
    Calls Tryd.prog 12 #[.agg #[.int .i64 s, .int .i64 a]] w fun e w' => e = .returned (.agg #[.int .i64 p, .int .i64 q]) ∧ Go.RowKit.Below w.heap.size w w' := by
  have mx := mixed
  have eqc := eql_cut
  have HX := Lib.hid (Lw2.new w s a)
  go_enter Tryd.func12, Tryd.ntmps12
  go_upto_region 1 with fail
  generalize ((w.alloc (.cells #[.int .i64 s, .int .i64 a] 25)).alloc (bB 0 0)) = X at *
  obtain ⟨l1, l2, l3, l4⟩ := two_cells HX.out.c
  go_wp2_with fail
  clear l1 l2 l3 l4
  refine (HC.out _).mono ?_
  rintro e y1 ⟨rfl, hB1⟩
  have HX1 := Lib.hid (HX.out.on hB1)
  have HX2 := Lib.hid (HX1.out.put x y)
  obtain ⟨l1, l2, l3, l4⟩ := two_cells HX1.out.c
  clear hB1 HX HC
  go_upto_region 2 with fail
  clear l1 l2 l3 l4 HX1
  generalize ((y1.setCell ⟨w.heap.size, 0, none⟩ (.int .i64 x)).setCell ⟨w.heap.size, 1, none⟩ (.int .i64 y)) = X2 at *
  obtain ⟨p1, p2⟩ := cut_regrown HX2.out.c
  refine wp_region_quiet_below (by assumption) (by kernel_rfl) ?_
  repeat (go_big_quiet_step (first | (go_at_call 29; exact Calls.regrown_of (HF.out _))))
  refine wpQuiet_nil ?_
  intro _ hw'
  obtain ⟨⟨nq, osq⟩, hw''⟩ := hw'
  subst hw''
  have HX3 := Lib.hid (HX2.out.on (below_regrown X2 nq osq))
  clear p1 p2 HX2 HF
  generalize grow (redrawn X2 nq) osq = X3 at *
  rcases hpq with ⟨rfl, rfl, rfl, rfl⟩ | hpq | hpq
  · obtain ⟨⟨d1, d2, d3, d4⟩, ⟨f1, f2⟩, hL⟩ := HX3.out.fin 0 0
    go_wp2_with fail
    refine bodyPost_ret (v := .agg #[.int .i64 0, .int .i64 0]) (by simp [results, Tryd.results12, go_sem, f1, f2]) rfl ?_
    exact ⟨rfl, hL⟩
  · obtain ⟨rfl, rfl, rfl, rfl⟩ := hpq
    obtain ⟨p1, p2⟩ := cut_regrown HX3.out.c
    go_upto_region 4 with fail
    refine wp_region_quiet_below (by assumption) (by kernel_rfl) ?_
    repeat (go_big_quiet_step (first | (go_at_call 32; exact Calls.regrown_of (HL.out _))))
    refine wpQuiet_nil ?_
    intro _ hw'
    obtain ⟨⟨nq, osq⟩, hw''⟩ := hw'
    subst hw''
    have HX4 := Lib.hid (HX3.out.on (below_regrown X3 nq osq))
    clear p1 p2 HX3 HL
    generalize grow (redrawn X3 nq) osq = X4 at *
    obtain ⟨l1, l2, _, _⟩ := two_cells HX4.out.c
    obtain ⟨⟨d1, d2, d3, d4⟩, ⟨f1, f2⟩, hL⟩ := HX4.out.fin 1 9223372036854775807
    go_wp2_with fail
    refine bodyPost_ret (v := .agg #[.int .i64 1, .int .i64 9223372036854775807]) (by simp [results, Tryd.results12, go_sem, f1, f2]) rfl ?_
    exact ⟨rfl, hL⟩
  · obtain ⟨rfl, rfl, rfl⟩ := hpq
    have t1 : ((0 : Int) == -1 && q == 0) = false := rfl
    have t2 : ((0 : Int) == 1 && q == 0) = false := rfl
    rw [t1]
    obtain ⟨p1, p2⟩ := cut_regrown HX3.out.c
    go_upto_region 4 with fail
    refine wp_region_quiet_below (by assumption) (by kernel_rfl) ?_
    repeat (go_big_quiet_step (first | (go_at_call 32; exact Calls.regrown_of (HL.out _))))
    refine wpQuiet_nil ?_
    intro _ hw'
    obtain ⟨⟨nq, osq⟩, hw''⟩ := hw'
    subst hw''
    have HX4 := Lib.hid (HX3.out.on (below_regrown X3 nq osq))
    clear p1 p2 HX3 HL
    generalize grow (redrawn X3 nq) osq = X4 at *
    obtain ⟨l1, l2, _, _⟩ := two_cells HX4.out.c
    obtain ⟨⟨d1, d2, d3, d4⟩, ⟨f1, f2⟩, hL⟩ := HX4.out.fin 2 q
    go_wp2_with fail
    refine bodyPost_ret (v := .agg #[.int .i64 2, .int .i64 q]) (by simp [results, Tryd.results12, go_sem, f1, f2]) rfl ?_
    exact ⟨rfl, hL⟩
theorem lowb_any (s a : Int) (w : World) (ha : I64 a) : Calls Tryd.prog 12 #[.agg #[.int .i64 s, .int .i64 a]] w fun e w' => e = .returned (.agg #[.int .i64 (lowB (key s a)).1, .int .i64 (lowB (key s a)).2]) ∧ Go.RowKit.Below w.heap.size w w' := by
  refine lowb_core s a _ _ _ _ w (fun W => canon_b s a ha W) (fun W => first_b W) (fun W => last_b W) ?_
  have hk := key_ky s a ha
  generalize key s a = k at *
  unfold lowB
  rcases ky_cases k hk with ⟨rfl, h1, h2⟩ | ⟨rfl, h1, h2⟩ | ⟨g1, g2, h1, h2⟩
  · exact .inl ⟨h1, h2, by rw [if_pos rfl], by rw [if_pos rfl]⟩
  · exact .inr (.inl ⟨h1, h2, by rw [if_neg (by decide), if_pos rfl], by rw [if_neg (by decide), if_pos rfl]⟩)
  · refine .inr (.inr ⟨h1, ?_, ?_⟩)
    · rw [if_neg (by unfold lo64; omega), if_neg (by unfold hi64; omega)]
    · rw [if_neg (by unfold lo64; omega), if_neg (by unfold hi64; omega), h2]
set_option maxRecDepth 100000 in
set_option maxHeartbeats 2000000 in
theorem highb_core (s a z p q : Int) (B : Bool) (w : World) (HC : Hid (∀ W, Calls Tryd.prog 39 #[.agg #[.int .i64 s, .int .i64 a]] W fun e w' => e = .returned (.tuple #[.int .i64 z, .bool B]) ∧ Go.RowKit.Below W.heap.size W w'))
    (hpq : (B = true ∧ p = 1 ∧ q = z) ∨ (B = false ∧ p = 0 ∧ q = 0)) :
    Calls Tryd.prog 14 #[.agg #[.int .i64 s, .int .i64 a]] w fun e w' => e = .returned (.agg #[.int .i64 p, .int .i64 q]) ∧ Go.RowKit.Below w.heap.size w w' := by
  have HX := Lib.hid (Lw2.new w s a)
  go_enter Tryd.func14, Tryd.ntmps14
  go_upto_region 1 with fail
  generalize ((w.alloc (.cells #[.int .i64 s, .int .i64 a] 25)).alloc (bB 0 0)) = X at *
  obtain ⟨l1, l2, l3, l4⟩ := two_cells HX.out.c
  go_wp2_with fail
  clear l1 l2 l3 l4
  refine (HC.out _).mono ?_
  rintro e y1 ⟨rfl, hB1⟩
  have HX1 := Lib.hid (HX.out.on hB1)
  obtain ⟨⟨d1, d2, d3, d4⟩, ⟨f1, f2⟩, hL⟩ := HX1.out.fin p q
  clear hB1 HX HC HX1
  rcases hpq with ⟨rfl, rfl, rfl⟩ | ⟨rfl, rfl, rfl⟩
  all_goals
    go_wp2_with fail
    refine bodyPost_ret (v := .agg #[.int .i64 _, .int .i64 _]) (by simp [results, Tryd.results14, go_sem, f1, f2]; exact ⟨rfl, rfl⟩) rfl ?_
    exact ⟨rfl, hL⟩
theorem highb_any (s a : Int) (w : World) (ha : I64 a) : Calls Tryd.prog 14 #[.agg #[.int .i64 s, .int .i64 a]] w fun e w' => e = .returned (.agg #[.int .i64 (highB (key s a)).1, .int .i64 (highB (key s a)).2]) ∧ Go.RowKit.Below w.heap.size w w' := by
  refine highb_core s a _ _ _ _ w (fun W => next_b s a W ha) ?_
  unfold highB
  by_cases h : nxb (key s a) = true
  · exact .inl ⟨h, by rw [if_pos h], by rw [if_pos h]⟩
  · exact .inr ⟨by simpa using h, by rw [if_neg h], by rw [if_neg h]⟩

set_option maxRecDepth 100000 in
set_option maxHeartbeats 2000000 in
theorem btext_core (q : S4) (R B : Bool) (O K H T : ByteArray) (w : World) (hK : K.size ≤ 100) (hH : H.size ≤ 100)
    (HR : Hid (∀ W, Calls Tryd.prog 52 #[.agg #[.int .i64 q.ls, .int .i64 q.la, .int .i64 q.hs, .int .i64 q.ha]] W fun e w' => e = .returned (.bool R) ∧ Go.RowKit.Below W.heap.size W w'))
    (HF : Hid (∀ W, Calls Tryd.prog 29 #[] W fun e w' => e = .returned (.agg #[.int .i64 (-1), .int .i64 0]) ∧ Go.RowKit.Below W.heap.size W w'))
    (HK : Hid (∀ W, Calls Tryd.prog 53 #[.agg #[.int .i64 q.ls, .int .i64 q.la]] W fun e w' => e = .returned (.string K) ∧ Go.RowKit.Below W.heap.size W w'))
    (HH : Hid (∀ W, Calls Tryd.prog 53 #[.agg #[.int .i64 q.hs, .int .i64 q.ha]] W fun e w' => e = .returned (.string H) ∧ Go.RowKit.Below W.heap.size W w'))
    (t0 : (q.ls == -1 && q.la == 0) = B) (hO : O = if B = true then ⟨#[40]⟩ else ⟨#[91]⟩)
    (HT : Hid ((R = false → T = ⟨#[]⟩) ∧ (R = true → T = O ++ K ++ ⟨#[44]⟩ ++ H ++ ⟨#[41]⟩))) :
    Calls Tryd.prog 23 #[vS q] w fun e w' => e = .returned (.string T) ∧ Go.RowKit.Below w.heap.size w w' := by
  have mx := mixed
  have eqc := eql_cut
  have HQ : Hid (Box4 (w.alloc (.cells #[.int .i64 q.ls, .int .i64 q.la, .int .i64 q.hs, .int .i64 q.ha] 27)) w.heap.size q) := heap_alloc_new _ _
  have hL := below_new w (.cells #[.int .i64 q.ls, .int .i64 q.la, .int .i64 q.hs, .int .i64 q.ha] 27)
  have s91 : O.size = 1 := by rw [hO]; cases B <;> rfl
  have s44 : (⟨#[44]⟩ : ByteArray).size = 1 := rfl
  have s41 : (⟨#[41]⟩ : ByteArray).size = 1 := rfl
  have b1 : ∀ W : World, (Op.stringOp .add O K).run Tryd.prog W = .ok (.string (O ++ K)) W := fun W => run_string_add_sum W _ _ (by omega)
  have b2 : ∀ W : World, (Op.stringOp .add (O ++ K) ⟨#[44]⟩).run Tryd.prog W = .ok (.string (O ++ K ++ ⟨#[44]⟩)) W := fun W => run_string_add_sum W _ _ (by rw [ByteArray.size_append]; omega)
  have b3 : ∀ W : World, (Op.stringOp .add (O ++ K ++ ⟨#[44]⟩) H).run Tryd.prog W = .ok (.string (O ++ K ++ ⟨#[44]⟩ ++ H)) W := fun W => run_string_add_sum W _ _ (by rw [ByteArray.size_append, ByteArray.size_append]; omega)
  have b4 : ∀ W : World, (Op.stringOp .add (O ++ K ++ ⟨#[44]⟩ ++ H) ⟨#[41]⟩).run Tryd.prog W = .ok (.string (O ++ K ++ ⟨#[44]⟩ ++ H ++ ⟨#[41]⟩)) W := fun W => run_string_add_sum W _ _ (by rw [ByteArray.size_append, ByteArray.size_append, ByteArray.size_append]; omega)
  have HO1 : Hid (B = true → (⟨#[40]⟩ : ByteArray) = O) := fun h => by rw [hO, if_pos h]
  have HO2 : Hid (B = false → (⟨#[91]⟩ : ByteArray) = O) := fun h => by rw [hO, if_neg (by rw [h]; decide)]
  clear s91 s44 s41 hO
  obtain ⟨c1, c2, c3, c4⟩ := HQ.out.cells
  go_enter Tryd.func23, Tryd.ntmps23
  go_wp2_with fail
  generalize w.alloc (.cells #[.int .i64 q.ls, .int .i64 q.la, .int .i64 q.hs, .int .i64 q.ha] 27) = X at *
  clear c1 c2 c3 c4
  refine (HR.out _).mono ?_
  rintro e y1 ⟨rfl, hB1⟩
  have HQ1 := Lib.hid (HQ.out.on hB1)
  have hL1 := bt hL hB1
  clear HQ hL hB1 HR
  cases R with
  | false =>
    go_wp2_with fail
    go_ret
    refine ⟨?_, hL1⟩
    rw [HT.out.1 (by trivial)]
    rfl
  | true =>
    go_upto_region 4 with fail
    obtain ⟨p1, p2, p3, p4⟩ := HQ1.out.re
    refine wp_region_quiet_below (by assumption) (by kernel_rfl) ?_
    repeat (go_big_quiet_step (first | (go_at_call 29; exact Calls.regrown_of (HF.out _))))
    refine wpQuiet_nil ?_
    intro _ hw'
    obtain ⟨⟨nq, osq⟩, hw''⟩ := hw'
    subst hw''
    have HQ2 := Lib.hid (HQ1.out.on (below_regrown y1 nq osq))
    have hL2 := bt hL1 (below_regrown y1 nq osq)
    clear p1 p2 p3 p4 HQ1 hL1 HF
    generalize grow (redrawn y1 nq) osq = y2 at *
    obtain ⟨c1, c2, c3, c4⟩ := HQ2.out.cells
    cases B with
    | true =>
      go_upto_region 6 with fail
      rw [HO1.out rfl]
      go_region_held3 (fun w' => w'.cell? ⟨w.heap.size, 0, none⟩ = some (.int .i64 q.ls) ∧ w'.cell? ⟨w.heap.size, 1, none⟩ = some (.int .i64 q.la) ∧ w'.cell? ⟨w.heap.size, 2, none⟩ = some (.int .i64 q.hs) ∧ w'.cell? ⟨w.heap.size, 3, none⟩ = some (.int .i64 q.ha))
        (with_reducible (focus (refine (HQ2.out.on ?_).cells; (repeat (first | assumption | exact Go.RowKit.Below.refl _ _ | refine Go.RowKit.Below.drew ?_)); done)))
        (first
          | (go_at_call 53; (with_reducible refine (HK.out _).mono ?_); rintro e Y1 ⟨rfl, hB1⟩; have hT1 : Go.RowKit.Below y2.heap.size y2 Y1 := bt (by with_reducible repeat (first | exact Go.RowKit.Below.refl _ _ | refine Go.RowKit.Below.drew ?_)) hB1; clear hB1)
          | (go_at_call 53; (with_reducible refine (HH.out _).mono ?_); rintro e Y2 ⟨rfl, hB2⟩; have hT2 : Go.RowKit.Below y2.heap.size y2 Y2 := bt (by with_reducible repeat (first | exact hT1 | refine Go.RowKit.Below.drew ?_)) hB2; clear hB2))
      all_goals
        go_wp2_with fail
        go_ret
        refine ⟨?_, bt hL2 hT2⟩
        rw [HT.out.2 (by trivial)]
        rfl
    | false =>
      go_upto_region 6 with fail
      rw [HO2.out rfl]
      go_region_held3 (fun w' => w'.cell? ⟨w.heap.size, 0, none⟩ = some (.int .i64 q.ls) ∧ w'.cell? ⟨w.heap.size, 1, none⟩ = some (.int .i64 q.la) ∧ w'.cell? ⟨w.heap.size, 2, none⟩ = some (.int .i64 q.hs) ∧ w'.cell? ⟨w.heap.size, 3, none⟩ = some (.int .i64 q.ha))
        (with_reducible (focus (refine (HQ2.out.on ?_).cells; (repeat (first | assumption | exact Go.RowKit.Below.refl _ _ | refine Go.RowKit.Below.drew ?_)); done)))
        (first
          | (go_at_call 53; (with_reducible refine (HK.out _).mono ?_); rintro e Y1 ⟨rfl, hB1⟩; have hT1 : Go.RowKit.Below y2.heap.size y2 Y1 := bt (by with_reducible repeat (first | exact Go.RowKit.Below.refl _ _ | refine Go.RowKit.Below.drew ?_)) hB1; clear hB1)
          | (go_at_call 53; (with_reducible refine (HH.out _).mono ?_); rintro e Y2 ⟨rfl, hB2⟩; have hT2 : Go.RowKit.Below y2.heap.size y2 Y2 := bt (by with_reducible repeat (first | exact hT1 | refine Go.RowKit.Below.drew ?_)) hB2; clear hB2))
      all_goals
        go_wp2_with fail
        go_ret
        refine ⟨?_, bt hL2 hT2⟩
        rw [HT.out.2 (by trivial)]
        rfl
theorem ctext_b (s a : Int) (W : World) (ha : I64 a) : Calls Tryd.prog 53 #[.agg #[.int .i64 s, .int .i64 a]] W fun e w' => e = .returned (.string ⟨(ktext (key s a)).toArray⟩) ∧ Go.RowKit.Below W.heap.size W w' := (ctext_any s a W ha).mono fun _ _ h => h
theorem btext_any (q : S4) (w : World) (hq : q.ok) : Calls Tryd.prog 23 #[vS q] w fun e w' => e = .returned (.string ⟨(btext q).toArray⟩) ∧ Go.RowKit.Below w.heap.size w w' := by
  have l1 := (ktext_len q.lo (q.ky_lo hq)).2
  have l2 := (ktext_len q.hi (q.ky_hi hq)).2
  refine btext_core q q.right (q.ls == -1 && q.la == 0) _ ⟨(ktext q.lo).toArray⟩ ⟨(ktext q.hi).toArray⟩ ⟨(btext q).toArray⟩ w (by simp [ByteArray.size]; omega) (by simp [ByteArray.size]; omega) (fun W => sright_any q W hq) (fun W => first_b W) (fun W => ctext_b _ _ W hq.1) (fun W => ctext_b _ _ W hq.2) rfl rfl ⟨fun h => ?_, fun h => ?_⟩
  · unfold btext; rw [if_neg (by rw [h]; decide)]
  · have hk := q.ky_lo hq
    have h2 : sd q.lo = q.ls ∧ pa q.lo = q.la := by unfold S4.right S4.lowR at h; simp at h; exact ⟨h.1.1.1, h.1.1.2⟩
    have e : (q.ls == -1 && q.la == 0) = decide (q.lo = lo64) := by
      rw [← h2.1, ← h2.2]
      have := cut_key q.lo lo64 hk (by unfold Ky; decide)
      rw [sd_lo, pa_lo] at this
      exact this
    rw [e]
    unfold btext
    rw [if_pos h]
    by_cases h3 : q.lo = lo64
    · rw [if_pos (decide_eq_true h3), if_pos h3]
      apply ByteArray.ext
      simp
    · rw [if_neg h3, if_neg (by simp [h3])]
      apply ByteArray.ext
      simp
end Go.Proofs.YthojkbmffiibdaaDoor

/- Contracts of the reference's readers of intervals: is, blanks, end. -/
namespace Go.Proofs.YthojkbmffiibdaaDoor
open Go.RowKit Go.Sort Go.Proofs.YthojkbmffiibdaaDoor.Bo
set_option linter.unusedVariables false

theorem ext_list (s : ByteArray) (i j : Nat) : (s.extract i j).data.toList = (s.data.toList.drop i).take (j - i) := by
  simp [ByteArray.data_extract, List.extract]
theorem size_list (s : ByteArray) : s.data.toList.length = s.size := by simp

set_option maxRecDepth 100000 in
set_option maxHeartbeats 1000000 in
theorem ris_any (s : ByteArray) (i : Nat) (v : ByteArray) (w : World) (hi : i ≤ s.size) (hs : s.size ≤ 100000) (hv : v.size ≤ 100) :
    Calls Tryd.prog 63 #[.string s, .int .i64 (i : Int), .string v] w fun e w' => e = .returned (.bool (hd (s.data.toList.drop i) v.data.toList)) ∧ Go.RowKit.Below w.heap.size w w' := by
  by_cases hlen : v.size ≤ s.size - i
  · have t1 : decide ((v.size : Int) ≤ (s.size : Int) - (i : Int)) = true := decide_eq_true (by omega)
    have t2 : ((s.extract i (i + v.size)).toList == v.toList) = hd (s.data.toList.drop i) v.data.toList := by
      rw [ByteArray.toList_eq, ByteArray.toList_eq, ext_list]
      unfold hd
      rw [show i + v.size - i = v.data.toList.length from by rw [size_list]; omega]
      by_cases h : (s.data.toList.drop i).take v.data.toList.length = v.data.toList
      · rw [decide_eq_true h, h]; exact beq_self_eq_true _
      · rw [decide_eq_false h]; exact beq_eq_false_iff_ne.2 h
    have HT := Lib.hid t2
    have b1 : (0 : Int) ≤ (i : Int) := by omega
    have b2 : (i : Int) ≤ (i : Int) + (v.size : Int) := by omega
    have b3 : (i : Int) + (v.size : Int) ≤ (s.size : Int) := by omega
    have b4 : ((i : Int) + (v.size : Int)).toNat = i + v.size := by omega
    go_enter Tryd.func63, Tryd.ntmps63
    go_wp2_with fail
    go_ret
    refine ⟨?_, Go.RowKit.Below.refl _ _⟩
    first | (rw [← HT.out]; rfl) | (rw [← HT.out])
  · have t1 : decide ((v.size : Int) ≤ (s.size : Int) - (i : Int)) = false := decide_eq_false (by omega)
    have HT : Hid (hd (s.data.toList.drop i) v.data.toList = false) := by
      show _ = _
      unfold hd
      refine decide_eq_false fun h => ?_
      have := congrArg List.length h
      rw [List.length_take, List.length_drop, size_list, size_list] at this
      omega
    go_enter Tryd.func63, Tryd.ntmps63
    go_wp2_with fail
    go_ret
    refine ⟨?_, Go.RowKit.Below.refl _ _⟩
    rw [HT.out]; rfl
theorem hd_blank (l : List UInt8) (j : Nat) (h : hd (l.drop j) [32] = true) : bk true (l.drop j) = 1 + bk true (l.drop (j + 1)) := by
  obtain ⟨t, e⟩ := (hd_iff _ _).1 h
  rw [← List.drop_drop, e]
  show bk true (32 :: t) = 1 + bk true t
  unfold bk
  rw [if_pos rfl, if_pos rfl, List.takeWhile_cons, if_pos (by decide), List.length_cons]
  omega
theorem hd_noblank (r : List UInt8) (h : hd r [32] = false) : bk true r = 0 := by
  cases r with
  | nil => rfl
  | cons c t =>
    rw [hd_cons] at h
    exact bk_none true c t (of_decide_eq_false h)

set_option maxRecDepth 100000 in
set_option maxHeartbeats 1000000 in
theorem rblanks_any (s : ByteArray) (i : Nat) (loose : Bool) (w : World) (hi : i ≤ s.size) (hs : s.size ≤ 100000) :
    Calls Tryd.prog 64 #[.string s, .int .i64 (i : Int), .bool loose] w fun e w' => e = .returned (.int .i64 ((i + bk loose (s.data.toList.drop i) : Nat) : Int)) ∧ Go.RowKit.Below w.heap.size w w' := by
  cases loose with
  | false =>
    go_enter Tryd.func64, Tryd.ntmps64
    go_wp2_with fail
    go_loopw [1] (fun i' wr => i' = .int .i64 (i : Int) ∧ Go.RowKit.Below w.heap.size w wr) (fun _ _ => 0)
    case atStart => exact ⟨rfl, Go.RowKit.Below.refl _ _⟩
    case round =>
      obtain ⟨rfl, hBr⟩ := hrel
      go_wp2_with fail
      go_ret
      exact ⟨rfl, hBr⟩
  | true =>
    have HIS := Lib.hid (fun j (hj : j ≤ s.size) W => ris_any s j ⟨#[32]⟩ W hj hs (by decide))
    have HI := Lib.hid hi
    have HS := Lib.hid hs
    go_enter Tryd.func64, Tryd.ntmps64
    go_wp2_with fail
    go_loopw [1] (fun i' wr => ∃ j : Nat, i' = .int .i64 (j : Int) ∧ j ≤ s.size ∧ i + bk true (s.data.toList.drop i) = j + bk true (s.data.toList.drop j) ∧ Go.RowKit.Below w.heap.size w wr) (fun i' _ => s.size - (intOf i').toNat)
    case atStart => exact ⟨i, rfl, hi, rfl, Go.RowKit.Below.refl _ _⟩
    case round =>
      obtain ⟨j, rfl, hj, he, hBr⟩ := hrel
      have HE := Lib.hid he
      have HIJ := Lib.hid (fun W => HIS.out j hj W)
      have hs' := HS.out
      obtain ⟨B, hB⟩ : ∃ B, hd (s.data.toList.drop j) [32] = B := ⟨_, rfl⟩
      have HB := Lib.hid hB
      have e0 : hd (s.data.toList.drop j) (⟨#[32]⟩ : ByteArray).data.toList = B := hB
      rw [e0] at HIJ
      clear he e0 hB
      go_wp2_with fail
      refine (HIJ.out _).mono ?_
      rintro e y ⟨rfl, hB1⟩
      cases B with
      | true =>
        have hlt : j < s.size := by
          have := hd_len _ _ HB.out
          rw [List.length_drop, size_list] at this
          simp at this
          omega
        go_wp2_with fail
        go_roundw
        case rel => exact ⟨j + 1, by go_num, by omega, by rw [HE.out, hd_blank _ _ HB.out]; omega, bt hBr hB1⟩
        case measure => simp [intOf]; omega
      | false =>
        go_wp2_with fail
        go_ret
        refine ⟨?_, bt hBr hB1⟩
        rw [HE.out, hd_noblank _ HB.out]
        rfl

/-- What an end is told as: a bound, and a place, or below 0. -/
def enV (i : Nat) : Option (Option Int × Nat) → Value
  | none => .tuple #[.agg #[.int .i64 0, .int .i64 0], .int .i64 (-1)]
  | some (none, n) => .tuple #[.agg #[.int .i64 0, .int .i64 0], .int .i64 ((i + n : Nat) : Int)]
  | some (some z, n) => .tuple #[.agg #[.int .i64 1, .int .i64 z], .int .i64 ((i + n : Nat) : Int)]

set_option maxRecDepth 100000 in
set_option maxHeartbeats 2000000 in
theorem rend_any (s : ByteArray) (i : Nat) (v : ByteArray) (loose : Bool) (w : World) (hi : i ≤ s.size) (hs : s.size ≤ 10000) (hv : v.size = 4) :
    Calls Tryd.prog 65 #[.string s, .int .i64 (i : Int), .string v, .bool loose] w fun e w' => e = .returned (enV i (en loose v.data.toList (s.data.toList.drop i))) ∧ Go.RowKit.Below w.heap.size w w' := by
  have HIS := Lib.hid (fun W => ris_any s i v W hi (by omega) (by omega))
  have hb0 : (w.alloc (.cells #[.int .i64 0, .int .i64 0] 23)).heap[w.heap.size]? = some (.cells #[.int .i64 0, .int .i64 0] 23 (0, 0)) := heap_alloc_new _ _
  have hL0 := below_new0 w (.cells #[.int .i64 0, .int .i64 0] 23)
  obtain ⟨B, hB⟩ : ∃ B, hd (s.data.toList.drop i) v.data.toList = B := ⟨_, rfl⟩
  rw [hB] at HIS
  have HB := Lib.hid hB
  have b1 : (0 : Int) ≤ (i : Int) := by omega
  have b2 : (i : Int) ≤ (s.size : Int) := by omega
  have hx : (s.extract i s.size).data.toList = s.data.toList.drop i := by
    rw [ext_list, List.take_of_length_le (by rw [List.length_drop, size_list]; omega)]
  have HX := Lib.hid hx
  have HRA := Lib.hid (fun W => rread_any (s.extract i s.size) W (by simp; omega))
  have HRC := Lib.hid (fun W => rcread_any (s.extract i s.size) W (by simp; omega))
  rw [hx] at HRA HRC
  clear hx hB
  obtain ⟨EV, hEV⟩ : ∃ EV, EV = enV i (en loose v.data.toList (s.data.toList.drop i)) := ⟨_, rfl⟩
  rw [← hEV]
  have HEV := Lib.hid hEV
  clear hEV
  go_enter Tryd.func65, Tryd.ntmps65
  go_wp2_with fail
  generalize w.alloc (.cells #[.int .i64 0, .int .i64 0] 23) = X at *
  refine (HIS.out _).mono ?_
  rintro e y1 ⟨rfl, hB1⟩
  have hb1 := box_on hb0 hB1
  have hL1 := bt hL0 hB1
  cases B with
  | true =>
    obtain ⟨p1, p2, p3, p4⟩ := two_cells hb1
    obtain ⟨q1, q2, _, _⟩ := two_cells (two_put (p := .int .i64 0) (q := .int .i64 0) hb1)
    have hL2 := (hL1.setCell (p := ⟨w.heap.size, 0, none⟩) (Nat.le_refl _) (.int .i64 0)).setCell (p := ⟨w.heap.size, 1, none⟩) (Nat.le_refl _) (.int .i64 0)
    clear hb0 hb1
    go_wp2_with fail
    refine bodyPost_ret (v := .tuple #[.agg #[.int .i64 0, .int .i64 0], .int .i64 ((i : Int) + 4)]) (by simp [results, Tryd.results65, go_sem, q1, q2]) rfl ?_
    refine ⟨?_, hL2⟩
    rw [HEV.out]
    unfold en
    rw [HB.out, if_pos rfl]
    rfl
  | false =>
    cases loose with
    | true =>
      go_wp2_with fail
      refine (HRA.out _).mono ?_
      rintro e y2 ⟨rfl, hB2⟩
      have hb2 := box_on hb1 hB2
      have hL2 := bt hL1 hB2
      have HBD := Lib.hid (rdAll_bounds (s.data.toList.drop i)).2
      rw [List.length_drop, size_list] at HBD
      have HEN : Hid (EV = enV i (if (rdAll (s.data.toList.drop i)).2 = 0 then none else some (some (rdAll (s.data.toList.drop i)).1, (rdAll (s.data.toList.drop i)).2))) := by
        show _ = _
        rw [HEV.out]
        unfold en
        rw [HB.out, if_neg (by decide), if_pos rfl]
      clear HEV
      generalize rdAll (s.data.toList.drop i) = R at *
      obtain ⟨z, m⟩ := R
      have hm : m ≤ s.size - i := HBD.out
      clear HBD hb0 hb1
      obtain ⟨p1, p2, p3, p4⟩ := two_cells hb2
      by_cases hz : m = 0
      · subst hz
        obtain ⟨q1, q2, _, _⟩ := two_cells (two_put (p := .int .i64 0) (q := .int .i64 0) hb2)
        have hL3 := (hL2.setCell (p := ⟨w.heap.size, 0, none⟩) (Nat.le_refl _) (.int .i64 0)).setCell (p := ⟨w.heap.size, 1, none⟩) (Nat.le_refl _) (.int .i64 0)
        clear hb2
        go_wp2_with fail
        refine bodyPost_ret (v := .tuple #[.agg #[.int .i64 0, .int .i64 0], .int .i64 (-1)]) (by simp [results, Tryd.results65, go_sem, q1, q2]) rfl ?_
        refine ⟨?_, hL3⟩
        rw [HEN.out]; rfl
      · have tz : ((m : Int) == 0) = false := by simpa using hz
        obtain ⟨q1, q2, _, _⟩ := two_cells (two_put (p := .int .i64 1) (q := .int .i64 z) hb2)
        have hL3 := (hL2.setCell (p := ⟨w.heap.size, 0, none⟩) (Nat.le_refl _) (.int .i64 1)).setCell (p := ⟨w.heap.size, 1, none⟩) (Nat.le_refl _) (.int .i64 z)
        have HZ := Lib.hid hz
        clear hb2
        go_wp2_with fail
        refine bodyPost_ret (v := .tuple #[.agg #[.int .i64 1, .int .i64 z], .int .i64 ((i : Int) + (m : Int))]) (by simp [results, Tryd.results65, go_sem, q1, q2]) rfl ?_
        refine ⟨?_, hL3⟩
        rw [HEN.out, if_neg HZ.out]
        rfl
    | false =>
      go_wp2_with fail
      refine (HRC.out _).mono ?_
      rintro e y2 ⟨rfl, hB2⟩
      have HBD : Hid ((rdCut (s.data.toList.drop i)).2 ≤ s.size - i) := by
        show _ ≤ _
        have := size_list s
        rcases rdCut_is (s.data.toList.drop i) with h | h
        · omega
        · have h2 := h.2.2.2
          rw [List.length_drop] at h2
          omega
      have HEN : Hid (EV = enV i (if (rdCut (s.data.toList.drop i)).2 = 0 ∨ sd (rdCut (s.data.toList.drop i)).1 ≠ 0 then none else some (some (pa (rdCut (s.data.toList.drop i)).1), (rdCut (s.data.toList.drop i)).2))) := by
        show _ = _
        rw [HEV.out]
        unfold en
        rw [HB.out, if_neg (by decide), if_neg (by decide)]
      clear HEV
      generalize rdCut (s.data.toList.drop i) = R at *
      obtain ⟨k, m⟩ := R
      have hm : m ≤ s.size - i := HBD.out
      dsimp only at HEN ⊢
      generalize sd k = x at *
      generalize pa k = z at *
      have hA2 := bt hB2 (below_new0 y2 (.cells #[.int .i64 x, .int .i64 z] 25))
      have hc2 : (y2.alloc (.cells #[.int .i64 x, .int .i64 z] 25)).heap[y2.heap.size]? = some (.cells #[.int .i64 x, .int .i64 z] 25 (0, 0)) := heap_alloc_new _ _
      have hb2 := box_on hb1 hA2
      have hL2 := bt hL1 hA2
      clear HBD hb0 hb1 hB2 hA2
      obtain ⟨p1, p2, p3, p4⟩ := two_cells hb2
      obtain ⟨r1, r2, _, _⟩ := two_cells hc2
      by_cases hz : m = 0
      · subst hz
        obtain ⟨q1, q2, _, _⟩ := two_cells (two_put (p := .int .i64 0) (q := .int .i64 0) hb2)
        have hL3 := (hL2.setCell (p := ⟨w.heap.size, 0, none⟩) (Nat.le_refl _) (.int .i64 0)).setCell (p := ⟨w.heap.size, 1, none⟩) (Nat.le_refl _) (.int .i64 0)
        clear hb2 hc2
        go_wp2_with fail
        refine bodyPost_ret (v := .tuple #[.agg #[.int .i64 0, .int .i64 0], .int .i64 (-1)]) (by simp [results, Tryd.results65, go_sem, q1, q2]) rfl ?_
        refine ⟨?_, hL3⟩
        rw [HEN.out, if_pos (Or.inl (by trivial))]; rfl
      · have tz : ((m : Int) == 0) = false := by simpa using hz
        have HZ := Lib.hid hz
        by_cases hx : x = 0
        · subst hx
          obtain ⟨q1, q2, _, _⟩ := two_cells (two_put (p := .int .i64 1) (q := .int .i64 z) hb2)
          have hL3 := (hL2.setCell (p := ⟨w.heap.size, 0, none⟩) (Nat.le_refl _) (.int .i64 1)).setCell (p := ⟨w.heap.size, 1, none⟩) (Nat.le_refl _) (.int .i64 z)
          clear hb2 hc2
          go_wp2_with fail
          refine bodyPost_ret (v := .tuple #[.agg #[.int .i64 1, .int .i64 z], .int .i64 ((i : Int) + (m : Int))]) (by simp [results, Tryd.results65, go_sem, q1, q2]) rfl ?_
          refine ⟨?_, hL3⟩
          rw [HEN.out, if_neg (by intro h; rcases h with h | h; exact HZ.out h; exact h rfl)]
          rfl
        · have tx : (x != 0) = true := bne_iff_ne.2 hx
          have HX' := Lib.hid hx
          obtain ⟨q1, q2, _, _⟩ := two_cells (two_put (p := .int .i64 0) (q := .int .i64 0) hb2)
          have hL3 := (hL2.setCell (p := ⟨w.heap.size, 0, none⟩) (Nat.le_refl _) (.int .i64 0)).setCell (p := ⟨w.heap.size, 1, none⟩) (Nat.le_refl _) (.int .i64 0)
          clear hb2 hc2
          go_wp2_with fail
          refine bodyPost_ret (v := .tuple #[.agg #[.int .i64 0, .int .i64 0], .int .i64 (-1)]) (by simp [results, Tryd.results65, go_sem, q1, q2]) rfl ?_
          refine ⟨?_, hL3⟩
          rw [HEN.out, if_pos (Or.inr HX'.out)]; rfl
end Go.Proofs.YthojkbmffiibdaaDoor

/- What the reference's read answers, step by step. -/
namespace Go.Proofs.YthojkbmffiibdaaDoor
open Go.RowKit Go.Sort Go.Proofs.YthojkbmffiibdaaDoor.Bo
set_option linter.unusedVariables false

/-- What a reader tells: a span, a place, and an error. -/
def rdV (x : S4 × Nat × Int) : Value := .tuple #[vS x.1, .int .i64 (x.2.1 : Int), .int .i64 x.2.2]
theorem rdB_no (l : List UInt8) (L : Bool) (h : (hd l [40] || hd l [91]) = false) : rdB l L = ((⟨0, 0, 0, 0⟩ : S4), 0, 40) := by unfold rdB; rw [if_neg (by rw [h]; decide)]
theorem rdB_yes (l : List UInt8) (L : Bool) (a1 : Nat) (h : (hd l [40] || hd l [91]) = true) (ha : 1 + bk L (l.drop 1) = a1) : rdB l L = rdC l L a1 := by unfold rdB; rw [if_pos h, ha]
theorem rdC_no (l : List UInt8) (L : Bool) (a1 : Nat) (h : en1 L (hd l [40]) (l.drop a1) = none) : rdC l L a1 = ((⟨0, 0, 0, 0⟩ : S4), a1, 40) := by unfold rdC; rw [h]
theorem rdC_yes (l : List UInt8) (L : Bool) (a1 a2 n : Nat) (b : Option Int) (h : en1 L (hd l [40]) (l.drop a1) = some (b, n)) (ha : a1 + n + bk L (l.drop (a1 + n)) = a2) : rdC l L a1 = rdD l L a2 b := by unfold rdC; rw [h, ← ha]
theorem rdD_no (l : List UInt8) (L : Bool) (a2 : Nat) (b : Option Int) (h : hd (l.drop a2) [44] = false) : rdD l L a2 b = ((⟨0, 0, 0, 0⟩ : S4), a2, 40) := by unfold rdD; rw [if_neg (by rw [h]; decide)]
theorem rdD_yes (l : List UInt8) (L : Bool) (a2 a3 : Nat) (b : Option Int) (h : hd (l.drop a2) [44] = true) (ha : a2 + 1 + bk L (l.drop (a2 + 1)) = a3) : rdD l L a2 b = rdE l L a3 b := by unfold rdD; rw [if_pos h, ha]
theorem rdE_no (l : List UInt8) (L : Bool) (a3 : Nat) (b : Option Int) (h : en L pinf (l.drop a3) = none) : rdE l L a3 b = ((⟨0, 0, 0, 0⟩ : S4), a3, 40) := by unfold rdE; rw [h]
/-- The end of it: a bound, and what stands behind it. -/
def rdF (L O C D : Bool) (a3 a4 : Nat) (b c : Option Int) : S4 × Nat × Int :=
  if (C || D) = true then (if lowE b O < highE c C then (sp (lowE b O, highE c C), a4 + 1, 0) else ((⟨0, 0, 0, 0⟩ : S4), a3, 30)) else ((⟨0, 0, 0, 0⟩ : S4), a4, 40)
theorem rdE_yes (l : List UInt8) (L : Bool) (a3 a4 m : Nat) (b c : Option Int) (h : en L pinf (l.drop a3) = some (c, m)) (ha : a3 + m + bk L (l.drop (a3 + m)) = a4) :
    rdE l L a3 b = rdF L (hd l [40]) (L && hd (l.drop a4) [93]) (hd (l.drop a4) [41]) a3 a4 b c := by
  unfold rdE rdF
  rw [h]
  dsimp only
  rw [ha]
theorem rdF_no (L O C D : Bool) (a3 a4 : Nat) (b c : Option Int) (h : (C || D) = false) : rdF L O C D a3 a4 b c = ((⟨0, 0, 0, 0⟩ : S4), a4, 40) := by unfold rdF; rw [if_neg (by rw [h]; decide)]
/-- A bound's kind, and its number, as they are written. -/
def bkind (b : Option Int) (op : Bool) : Int := match b with | none => 0 | some _ => if op = true then 1 else 2
def bnum (b : Option Int) : Int := match b with | none => 0 | some z => z
theorem lowE_K (b : Option Int) (op : Bool) : lowE b op = lowK (bkind b op) (bnum b) := by
  cases b with
  | none => rfl
  | some z => cases op <;> rfl
theorem highE_K (b : Option Int) (cl : Bool) : highE b cl = highK (bkind b (!cl)) (bnum b) := by
  cases b with
  | none => rfl
  | some z => cases cl <;> rfl
theorem bkind_ok (b : Option Int) (op : Bool) : kindB (bkind b op) = true := by
  cases b with
  | none => rfl
  | some z => cases op <;> rfl
theorem rdF_yes (L O C D : Bool) (a3 a4 : Nat) (b c : Option Int) (h : (C || D) = true) :
    rdF L O C D a3 a4 b c = if bdE (bkind b O) (bnum b) (bkind c (!C)) (bnum c) = 0 then (bdS (bkind b O) (bnum b) (bkind c (!C)) (bnum c), a4 + 1, 0) else ((⟨0, 0, 0, 0⟩ : S4), a3, bdE (bkind b O) (bnum b) (bkind c (!C)) (bnum c)) := by
  unfold rdF bdE bdS
  rw [if_pos h, bkind_ok, bkind_ok, lowE_K, highE_K]
  show _ = if (if true = true then ofE _ _ else 40) = 0 then ((if true = true then ofS _ _ else _), _, _) else (_, _, (if true = true then ofE _ _ else 40))
  rw [if_pos rfl, if_pos rfl]
  generalize lowK (bkind b O) (bnum b) = k
  generalize highK (bkind c (!C)) (bnum c) = h2
  unfold ofE ofS
  by_cases hk : k < h2
  · rw [if_pos hk, if_pos hk, if_pos hk, if_pos rfl]
  · rw [if_neg hk, if_neg hk, if_neg (by decide)]
theorem bnum_i64 (L : Bool) (inf r : List UInt8) (b : Option Int) (n : Nat) (h : en L inf r = some (b, n)) : I64 (bnum b) := by
  cases b with
  | none => exact ⟨by decide, by decide⟩
  | some z => exact en_i64 L inf r z n h
theorem en_none_hd (r : List UInt8) (n : Nat) (h : en false ninf r = some (none, n)) : hd r ninf = true := by
  rcases en_is _ _ _ _ h with h | ⟨k, h, _⟩
  · exact h.2.2
  · cases h
theorem en_some_hd (r : List UInt8) (n : Nat) (z : Int) (h : en false ninf r = some (some z, n)) : hd r ninf = false := by
  rcases en_is _ _ _ _ h with ⟨h, _⟩ | ⟨k, _, _, _, _, _, h⟩
  · cases h
  · exact h
theorem en_no_hd (r : List UInt8) (h : en false ninf r = none) : hd r ninf = false := by
  cases e : hd r ninf with
  | false => rfl
  | true => unfold en at h; rw [e, if_pos rfl] at h; cases h
/-- The two blocks: the result's, and that of no span. -/
structure Rd2 (w W : World) : Prop where
  re : Box4 W w.heap.size z4
  no : Box4 W (w.heap.size + 1) z4
  be : Go.RowKit.Below w.heap.size w W
theorem Rd2.on {w W W' : World} (h : Rd2 w W) (hb : Go.RowKit.Below W.heap.size W W') : Rd2 w W' := ⟨h.re.on hb, h.no.on hb, bt h.be hb⟩
theorem Rd2.new (w : World) : Rd2 w ((w.alloc (.cells #[.int .i64 0, .int .i64 0, .int .i64 0, .int .i64 0] 27)).alloc (.cells #[.int .i64 0, .int .i64 0, .int .i64 0, .int .i64 0] 27)) := ⟨box_on (heap_alloc_new w _) (below_new _ _), new_at _ (by simp), bt (below_new _ _) (below_new _ _)⟩
theorem Rd2.put {w W : World} (h : Rd2 w W) (N : Nat) (hN : w.heap.size + 2 ≤ N) (v : Value) : Rd2 w (W.setCell ⟨N, 0, none⟩ v) := by
  refine ⟨?_, ?_, h.be.setCell (by show w.heap.size ≤ N; omega) v⟩
  · unfold Box4; rw [heap_setCell_other _ _ _ _ (by simp; omega)]; exact h.re
  · unfold Box4; rw [heap_setCell_other _ _ _ _ (by simp; omega)]; exact h.no
theorem Rd2.lt {w W : World} (h : Rd2 w W) : w.heap.size + 2 ≤ W.heap.size := lt_of_block h.no
theorem kind_put {W : World} {N : Nat} {k a : Int} (h : W.heap[N]? = some (bB k a)) (k' : Int) : (W.setCell ⟨N, 0, none⟩ (.int .i64 k')).heap[N]? = some (bB k' a) := heap_setCell_same _ _ _ _ _ _ h
theorem kind_far {W : World} {N M : Nat} {o : Obj} (h : W.heap[M]? = some o) (hne : M ≠ N) (v : Value) : (W.setCell ⟨N, 0, none⟩ v).heap[M]? = some o := by
  rw [heap_setCell_other _ _ _ _ (by simpa using hne)]; exact h
end Go.Proofs.YthojkbmffiibdaaDoor
