/- A part of the proof: contracts of the functions that the statements reach. -/
import Derived.Test.YtdebmokpdchgpaaRows
import Derived.Test.YtdebmokpdchgpaaBA
import Derived.Test.YtdebmokpdchgpaaBB
import Derived.Test.YtdebmokpdchgpaaBC
import Derived.Test.YtdebmokpdchgpaaBD
import Derived.Test.YtdebmokpdchgpaaBE
import Derived.Lib.SmallJoins
import Derived.Deep.SlicePairs
import Derived.Deep.Strs
import Derived.OpenShut
import Derived.ChangeOld
import Derived.SizedLaws
import Derived.Deep.LoopGhost

/- Contract of the laws' does. -/
namespace Go.Proofs.Ytdebmokpdchgpaa
open Go.RowKit Go.Sort Go.Proofs.Ytdebmokpdchgpaa.Bo
set_option linter.unusedVariables false

/-- The blocks of does: the call, the result, the answer in the making. -/
structure Dz (w : World) (k i v : Int) (x0 x1 x2 x3 : Value) (W : World) : Prop where
  op : W.heap[w.heap.size]? = some (.cells #[.int .i64 k, .int .i64 i, .int .i64 v] 35 (0, 0))
  rs : W.heap[w.heap.size + 1]? = some (.cells #[.int .i64 0, .int .i64 0, .bool false, .int .i64 0] 37 (0, 0))
  ax : W.heap[w.heap.size + 1 + 1]? = some (.cells #[x0, x1, x2, x3] 37 (0, 0))
theorem dz_new (w : World) (k i v : Int) : Dz w k i v (.int .i64 0) (.int .i64 0) (.bool false) (.int .i64 0) (((w.alloc (opB k i v)).alloc anZ).alloc anZ) :=
  ⟨box_on (box_on (heap_alloc_new w _) (below_new _ _)) (below_new _ _), box_on (new_at' _ (by simp)) (below_new _ _), new_at' _ (by simp)⟩
theorem dz_below (w : World) (k i v : Int) : Go.RowKit.Below w.heap.size w (((w.alloc (opB k i v)).alloc anZ).alloc anZ) := bt (bt (below_new _ _) (below_new _ _)) (below_new _ _)
theorem Dz.kp {w W W' : World} {k i v : Int} {x0 x1 x2 x3 : Value} {S : Nat → Prop} (h : Dz w k i v x0 x1 x2 x3 W) (hk : Kp S W W') (hS : ∀ b, S b → b < w.heap.size) : Dz w k i v x0 x1 x2 x3 W' :=
  ⟨hk.at h.op (fun e => by have := hS _ e; omega), hk.at h.rs (fun e => by have := hS _ e; omega), hk.at h.ax (fun e => by have := hS _ e; omega)⟩
theorem Dz.put0 {w W : World} {k i v : Int} {x0 x1 x2 x3 : Value} (h : Dz w k i v x0 x1 x2 x3 W) (u : Value) : Dz w k i v u x1 x2 x3 (W.setCell ⟨w.heap.size + 1 + 1, 0, none⟩ u) := ⟨set_far h.op (by omega), set_far h.rs (by omega), heap_setCell_same _ _ _ _ _ _ h.ax⟩
theorem Dz.put1 {w W : World} {k i v : Int} {x0 x1 x2 x3 : Value} (h : Dz w k i v x0 x1 x2 x3 W) (u : Value) : Dz w k i v x0 u x2 x3 (W.setCell ⟨w.heap.size + 1 + 1, 1, none⟩ u) := ⟨set_far h.op (by omega), set_far h.rs (by omega), heap_setCell_same _ _ _ _ _ _ h.ax⟩
theorem Dz.put2 {w W : World} {k i v : Int} {x0 x1 x2 x3 : Value} (h : Dz w k i v x0 x1 x2 x3 W) (u : Value) : Dz w k i v x0 x1 u x3 (W.setCell ⟨w.heap.size + 1 + 1, 2, none⟩ u) := ⟨set_far h.op (by omega), set_far h.rs (by omega), heap_setCell_same _ _ _ _ _ _ h.ax⟩
theorem Dz.put3 {w W : World} {k i v : Int} {x0 x1 x2 x3 : Value} (h : Dz w k i v x0 x1 x2 x3 W) (u : Value) : Dz w k i v x0 x1 x2 u (W.setCell ⟨w.heap.size + 1 + 1, 3, none⟩ u) := ⟨set_far h.op (by omega), set_far h.rs (by omega), heap_setCell_same _ _ _ _ _ _ h.ax⟩
/-- What does touches of its own. -/
def OwnD (w : World) : Nat → Prop := fun b => b = w.heap.size + 1 ∨ b = w.heap.size + 1 + 1
theorem does_end {w W0 w1 X : World} {base A : Nat} {S S' : Nat → Prop} {a' : Ar} {ans : Value} (hS : ∀ b, S b → b < w.heap.size) (h0 : Go.RowKit.Below w.heap.size w W0) (hsz : W0.heap.size = w.heap.size + 3) (hA : AIs w1 base A a' S') (hK : Kp S W0 w1) (hsub : ∀ b, S' b → S b ∨ W0.heap.size ≤ b) (hX : Kp (OwnD w) w1 X) : MPost w base A S a' ans (.returned ans) X := by
  refine ⟨S', ⟨rfl, hA.kp hX (fun b hb => ?_)⟩, ?_, ?_⟩
  · rintro (rfl | rfl)
    · rcases hsub _ hb with h | h
      · have := hS _ h; omega
      · omega
    · rcases hsub _ hb with h | h
      · have := hS _ h; omega
      · omega
  · exact ((Kp.of_below S h0).trans hK (fun _ _ h => h)).trans hX (fun n hn h => by rcases h with rfl | rfl <;> omega)
  · intro b hb
    rcases hsub _ hb with h | h
    · exact .inl h
    · right; omega
theorem own1 (w w1 : World) (j : Nat) (u : Value) : Kp (OwnD w) w1 (w1.setCell ⟨w.heap.size + 1 + 1, j, none⟩ u) := (Kp.refl _ _).setCell ⟨w.heap.size + 1 + 1, j, none⟩ (.inl (.inr rfl)) _
theorem own2 {w w1 X : World} (h : Kp (OwnD w) w1 X) (j : Nat) (u : Value) : Kp (OwnD w) w1 (X.setCell ⟨w.heap.size + 1 + 1, j, none⟩ u) := h.setCell ⟨w.heap.size + 1 + 1, j, none⟩ (.inl (.inr rfl)) _
theorem own4 {w w1 X : World} (h : Kp (OwnD w) w1 X) (y0 y1 y2 y3 : Value) : Kp (OwnD w) w1 (set4 X (w.heap.size + 1) y0 y1 y2 y3) :=
  (((h.setCell ⟨w.heap.size + 1, 0, none⟩ (.inl (.inl rfl)) _).setCell ⟨w.heap.size + 1, 1, none⟩ (.inl (.inl rfl)) _).setCell ⟨w.heap.size + 1, 2, none⟩ (.inl (.inl rfl)) _).setCell ⟨w.heap.size + 1, 3, none⟩ (.inl (.inl rfl)) _
set_option maxRecDepth 100000 in
set_option maxHeartbeats 2000000 in
theorem does0 (A base : Nat) (S : Nat → Prop) (i v : Int) (I E : Int) (a' : Ar) (w : World) (hS : ∀ b, S b → b < w.heap.size) (HP : Hid (∀ W, Go.RowKit.Below w.heap.size w W → Calls Try.prog 18 #[aP A, .int .i64 v] W (MPost W base A S a' (.tuple #[.int .i64 I, .int .i64 E])))) :
    Calls Try.prog 14 #[aP A, opV 0 i v] w (MPost w base A S a' (.agg #[.int .i64 I, .int .i64 0, .bool false, .int .i64 E])) := by
  have HZ0 := Lib.hid (dz_new w 0 i v)
  have HB0 := Lib.hid (dz_below w 0 i v)
  have HSZ : Hid ((((w.alloc (opB 0 i v)).alloc anZ).alloc anZ).heap.size = w.heap.size + 3) := by show _ = _; simp
  have HS := Lib.hid hS
  clear hS
  go_enter Try.func14, Try.ntmps14
  go_upto_region 2 with fail
  generalize ((w.alloc (opB 0 i v)).alloc anZ).alloc anZ = X0 at *
  obtain ⟨o1, o2, o3⟩ := three_cells HZ0.out.op
  go_wp2_with fail
  refine (HP.out X0 HB0.out).mono ?_
  rintro e w1 ⟨S', ⟨rfl, hA⟩, hK, hsub⟩
  have HA := Lib.hid hA
  have HK := Lib.hid hK
  have HSUB := Lib.hid hsub
  clear hA hK hsub
  have HZ1 := Lib.hid (HZ0.out.kp HK.out HS.out)
  clear o1 o2 o3 HP
  obtain ⟨⟨m00, m01, m02, m03⟩, n00, n01, n02, n03⟩ := four_cells HZ1.out.ax
  have HY0 := Lib.hid (HZ1.out.put0 (.int .i64 I))
  obtain ⟨⟨m10, m11, m12, m13⟩, n10, n11, n12, n13⟩ := four_cells HY0.out.ax
  have HY1 := Lib.hid (HY0.out.put3 (.int .i64 E))
  have HKX : Hid (Kp (OwnD w) w1 ((w1.setCell ⟨w.heap.size + 1 + 1, 0, none⟩ (.int .i64 I)).setCell ⟨w.heap.size + 1 + 1, 3, none⟩ (.int .i64 E))) := (own2 (own1 w w1 0 (.int .i64 I)) 3 (.int .i64 E))
  go_upto_region 13 with fail
  generalize ((w1.setCell ⟨w.heap.size + 1 + 1, 0, none⟩ (.int .i64 I)).setCell ⟨w.heap.size + 1 + 1, 3, none⟩ (.int .i64 E)) = X at *
  clear m00 m01 m02 m03 n00 n01 n02 n03
  clear m10 m11 m12 m13 n10 n11 n12 n13
  obtain ⟨⟨a1, a2, a3, a4⟩, _⟩ := four_cells HY1.out.ax
  obtain ⟨⟨b1, b2, b3, b4⟩, b5, b6, b7, b8⟩ := four_cells HY1.out.rs
  obtain ⟨⟨f1, f2, f3, f4⟩, _⟩ := four_cells (four_put HY1.out.rs (.int .i64 I) (.int .i64 0) (.bool false) (.int .i64 E))
  have HKY := Lib.hid (own4 HKX.out (.int .i64 I) (.int .i64 0) (.bool false) (.int .i64 E))
  go_wp2_with fail
  refine bodyPost_ret (v := .agg #[.int .i64 I, .int .i64 0, .bool false, .int .i64 E]) (by simp [results, Try.results14, go_sem, f1, f2, f3, f4]) rfl ?_
  exact does_end HS.out HB0.out HSZ.out HA.out HK.out HSUB.out HKY.out
set_option maxRecDepth 100000 in
set_option maxHeartbeats 2000000 in
theorem does1 (A base : Nat) (S : Nat → Prop) (i v : Int) (V : Int) (B : Bool) (a' : Ar) (w : World) (hS : ∀ b, S b → b < w.heap.size) (HP : Hid (∀ W, Go.RowKit.Below w.heap.size w W → Calls Try.prog 19 #[aP A, .int .i64 i] W (MPost W base A S a' (.tuple #[.int .i64 V, .bool B])))) :
    Calls Try.prog 14 #[aP A, opV 1 i v] w (MPost w base A S a' (.agg #[.int .i64 0, .int .i64 V, .bool B, .int .i64 0])) := by
  have HZ0 := Lib.hid (dz_new w 1 i v)
  have HB0 := Lib.hid (dz_below w 1 i v)
  have HSZ : Hid ((((w.alloc (opB 1 i v)).alloc anZ).alloc anZ).heap.size = w.heap.size + 3) := by show _ = _; simp
  have HS := Lib.hid hS
  clear hS
  go_enter Try.func14, Try.ntmps14
  go_upto_region 2 with fail
  generalize ((w.alloc (opB 1 i v)).alloc anZ).alloc anZ = X0 at *
  obtain ⟨o1, o2, o3⟩ := three_cells HZ0.out.op
  go_wp2_with fail
  refine (HP.out X0 HB0.out).mono ?_
  rintro e w1 ⟨S', ⟨rfl, hA⟩, hK, hsub⟩
  have HA := Lib.hid hA
  have HK := Lib.hid hK
  have HSUB := Lib.hid hsub
  clear hA hK hsub
  have HZ1 := Lib.hid (HZ0.out.kp HK.out HS.out)
  clear o1 o2 o3 HP
  obtain ⟨⟨m00, m01, m02, m03⟩, n00, n01, n02, n03⟩ := four_cells HZ1.out.ax
  have HY0 := Lib.hid (HZ1.out.put1 (.int .i64 V))
  obtain ⟨⟨m10, m11, m12, m13⟩, n10, n11, n12, n13⟩ := four_cells HY0.out.ax
  have HY1 := Lib.hid (HY0.out.put2 (.bool B))
  have HKX : Hid (Kp (OwnD w) w1 ((w1.setCell ⟨w.heap.size + 1 + 1, 1, none⟩ (.int .i64 V)).setCell ⟨w.heap.size + 1 + 1, 2, none⟩ (.bool B))) := (own2 (own1 w w1 1 (.int .i64 V)) 2 (.bool B))
  go_upto_region 13 with fail
  generalize ((w1.setCell ⟨w.heap.size + 1 + 1, 1, none⟩ (.int .i64 V)).setCell ⟨w.heap.size + 1 + 1, 2, none⟩ (.bool B)) = X at *
  clear m00 m01 m02 m03 n00 n01 n02 n03
  clear m10 m11 m12 m13 n10 n11 n12 n13
  obtain ⟨⟨a1, a2, a3, a4⟩, _⟩ := four_cells HY1.out.ax
  obtain ⟨⟨b1, b2, b3, b4⟩, b5, b6, b7, b8⟩ := four_cells HY1.out.rs
  obtain ⟨⟨f1, f2, f3, f4⟩, _⟩ := four_cells (four_put HY1.out.rs (.int .i64 0) (.int .i64 V) (.bool B) (.int .i64 0))
  have HKY := Lib.hid (own4 HKX.out (.int .i64 0) (.int .i64 V) (.bool B) (.int .i64 0))
  go_wp2_with fail
  refine bodyPost_ret (v := .agg #[.int .i64 0, .int .i64 V, .bool B, .int .i64 0]) (by simp [results, Try.results14, go_sem, f1, f2, f3, f4]) rfl ?_
  exact does_end HS.out HB0.out HSZ.out HA.out HK.out HSUB.out HKY.out
set_option maxRecDepth 100000 in
set_option maxHeartbeats 2000000 in
theorem does2 (A base : Nat) (S : Nat → Prop) (i v : Int) (B : Bool) (a' : Ar) (w : World) (hS : ∀ b, S b → b < w.heap.size) (HP : Hid (∀ W, Go.RowKit.Below w.heap.size w W → Calls Try.prog 25 #[aP A, .int .i64 i, .int .i64 v] W (MPost W base A S a' (.bool B)))) :
    Calls Try.prog 14 #[aP A, opV 2 i v] w (MPost w base A S a' (.agg #[.int .i64 0, .int .i64 0, .bool B, .int .i64 0])) := by
  have HZ0 := Lib.hid (dz_new w 2 i v)
  have HB0 := Lib.hid (dz_below w 2 i v)
  have HSZ : Hid ((((w.alloc (opB 2 i v)).alloc anZ).alloc anZ).heap.size = w.heap.size + 3) := by show _ = _; simp
  have HS := Lib.hid hS
  clear hS
  go_enter Try.func14, Try.ntmps14
  go_upto_region 2 with fail
  generalize ((w.alloc (opB 2 i v)).alloc anZ).alloc anZ = X0 at *
  obtain ⟨o1, o2, o3⟩ := three_cells HZ0.out.op
  go_wp2_with fail
  refine (HP.out X0 HB0.out).mono ?_
  rintro e w1 ⟨S', ⟨rfl, hA⟩, hK, hsub⟩
  have HA := Lib.hid hA
  have HK := Lib.hid hK
  have HSUB := Lib.hid hsub
  clear hA hK hsub
  have HZ1 := Lib.hid (HZ0.out.kp HK.out HS.out)
  clear o1 o2 o3 HP
  obtain ⟨⟨m00, m01, m02, m03⟩, n00, n01, n02, n03⟩ := four_cells HZ1.out.ax
  have HY0 := Lib.hid (HZ1.out.put2 (.bool B))
  have HKX : Hid (Kp (OwnD w) w1 (w1.setCell ⟨w.heap.size + 1 + 1, 2, none⟩ (.bool B))) := (own1 w w1 2 (.bool B))
  go_upto_region 13 with fail
  generalize (w1.setCell ⟨w.heap.size + 1 + 1, 2, none⟩ (.bool B)) = X at *
  clear m00 m01 m02 m03 n00 n01 n02 n03
  obtain ⟨⟨a1, a2, a3, a4⟩, _⟩ := four_cells HY0.out.ax
  obtain ⟨⟨b1, b2, b3, b4⟩, b5, b6, b7, b8⟩ := four_cells HY0.out.rs
  obtain ⟨⟨f1, f2, f3, f4⟩, _⟩ := four_cells (four_put HY0.out.rs (.int .i64 0) (.int .i64 0) (.bool B) (.int .i64 0))
  have HKY := Lib.hid (own4 HKX.out (.int .i64 0) (.int .i64 0) (.bool B) (.int .i64 0))
  go_wp2_with fail
  refine bodyPost_ret (v := .agg #[.int .i64 0, .int .i64 0, .bool B, .int .i64 0]) (by simp [results, Try.results14, go_sem, f1, f2, f3, f4]) rfl ?_
  exact does_end HS.out HB0.out HSZ.out HA.out HK.out HSUB.out HKY.out
set_option maxRecDepth 100000 in
set_option maxHeartbeats 2000000 in
theorem does3 (A base : Nat) (S : Nat → Prop) (i v : Int) (B : Bool) (a' : Ar) (w : World) (hS : ∀ b, S b → b < w.heap.size) (HP : Hid (∀ W, Go.RowKit.Below w.heap.size w W → Calls Try.prog 23 #[aP A, .int .i64 i] W (MPost W base A S a' (.bool B)))) :
    Calls Try.prog 14 #[aP A, opV 3 i v] w (MPost w base A S a' (.agg #[.int .i64 0, .int .i64 0, .bool B, .int .i64 0])) := by
  have HZ0 := Lib.hid (dz_new w 3 i v)
  have HB0 := Lib.hid (dz_below w 3 i v)
  have HSZ : Hid ((((w.alloc (opB 3 i v)).alloc anZ).alloc anZ).heap.size = w.heap.size + 3) := by show _ = _; simp
  have HS := Lib.hid hS
  clear hS
  go_enter Try.func14, Try.ntmps14
  go_upto_region 2 with fail
  generalize ((w.alloc (opB 3 i v)).alloc anZ).alloc anZ = X0 at *
  obtain ⟨o1, o2, o3⟩ := three_cells HZ0.out.op
  go_wp2_with fail
  refine (HP.out X0 HB0.out).mono ?_
  rintro e w1 ⟨S', ⟨rfl, hA⟩, hK, hsub⟩
  have HA := Lib.hid hA
  have HK := Lib.hid hK
  have HSUB := Lib.hid hsub
  clear hA hK hsub
  have HZ1 := Lib.hid (HZ0.out.kp HK.out HS.out)
  clear o1 o2 o3 HP
  obtain ⟨⟨m00, m01, m02, m03⟩, n00, n01, n02, n03⟩ := four_cells HZ1.out.ax
  have HY0 := Lib.hid (HZ1.out.put2 (.bool B))
  have HKX : Hid (Kp (OwnD w) w1 (w1.setCell ⟨w.heap.size + 1 + 1, 2, none⟩ (.bool B))) := (own1 w w1 2 (.bool B))
  go_upto_region 13 with fail
  generalize (w1.setCell ⟨w.heap.size + 1 + 1, 2, none⟩ (.bool B)) = X at *
  clear m00 m01 m02 m03 n00 n01 n02 n03
  obtain ⟨⟨a1, a2, a3, a4⟩, _⟩ := four_cells HY0.out.ax
  obtain ⟨⟨b1, b2, b3, b4⟩, b5, b6, b7, b8⟩ := four_cells HY0.out.rs
  obtain ⟨⟨f1, f2, f3, f4⟩, _⟩ := four_cells (four_put HY0.out.rs (.int .i64 0) (.int .i64 0) (.bool B) (.int .i64 0))
  have HKY := Lib.hid (own4 HKX.out (.int .i64 0) (.int .i64 0) (.bool B) (.int .i64 0))
  go_wp2_with fail
  refine bodyPost_ret (v := .agg #[.int .i64 0, .int .i64 0, .bool B, .int .i64 0]) (by simp [results, Try.results14, go_sem, f1, f2, f3, f4]) rfl ?_
  exact does_end HS.out HB0.out HSZ.out HA.out HK.out HSUB.out HKY.out
set_option maxRecDepth 100000 in
set_option maxHeartbeats 2000000 in
theorem does4 (A base : Nat) (S : Nat → Prop) (i v : Int) (a' : Ar) (w : World) (hS : ∀ b, S b → b < w.heap.size) (HP : Hid (∀ W, Go.RowKit.Below w.heap.size w W → Calls Try.prog 26 #[aP A] W (MPost W base A S a' (.tuple #[])))) :
    Calls Try.prog 14 #[aP A, opV 4 i v] w (MPost w base A S a' (.agg #[.int .i64 0, .int .i64 0, .bool false, .int .i64 0])) := by
  have HZ0 := Lib.hid (dz_new w 4 i v)
  have HB0 := Lib.hid (dz_below w 4 i v)
  have HSZ : Hid ((((w.alloc (opB 4 i v)).alloc anZ).alloc anZ).heap.size = w.heap.size + 3) := by show _ = _; simp
  have HS := Lib.hid hS
  clear hS
  go_enter Try.func14, Try.ntmps14
  go_upto_region 2 with fail
  generalize ((w.alloc (opB 4 i v)).alloc anZ).alloc anZ = X0 at *
  obtain ⟨o1, o2, o3⟩ := three_cells HZ0.out.op
  go_wp2_with fail
  refine (HP.out X0 HB0.out).mono ?_
  rintro e w1 ⟨S', ⟨rfl, hA⟩, hK, hsub⟩
  have HA := Lib.hid hA
  have HK := Lib.hid hK
  have HSUB := Lib.hid hsub
  clear hA hK hsub
  have HZ1 := Lib.hid (HZ0.out.kp HK.out HS.out)
  clear o1 o2 o3 HP
  have HKX : Hid (Kp (OwnD w) w1 w1) := (Kp.refl _ w1)
  go_upto_region 13 with fail
  obtain ⟨⟨a1, a2, a3, a4⟩, _⟩ := four_cells HZ1.out.ax
  obtain ⟨⟨b1, b2, b3, b4⟩, b5, b6, b7, b8⟩ := four_cells HZ1.out.rs
  obtain ⟨⟨f1, f2, f3, f4⟩, _⟩ := four_cells (four_put HZ1.out.rs (.int .i64 0) (.int .i64 0) (.bool false) (.int .i64 0))
  have HKY := Lib.hid (own4 HKX.out (.int .i64 0) (.int .i64 0) (.bool false) (.int .i64 0))
  go_wp2_with fail
  refine bodyPost_ret (v := .agg #[.int .i64 0, .int .i64 0, .bool false, .int .i64 0]) (by simp [results, Try.results14, go_sem, f1, f2, f3, f4]) rfl ?_
  exact does_end HS.out HB0.out HSZ.out HA.out HK.out HSUB.out HKY.out
set_option maxRecDepth 100000 in
set_option maxHeartbeats 2000000 in
theorem doesx (A base : Nat) (S : Nat → Prop) (k i v : Int) (a' : Ar) (w : World) (HA : Hid (AIs w base A a' S)) (h0 : k ≠ 0) (h1 : k ≠ 1) (h2 : k ≠ 2) (h3 : k ≠ 3) (h4 : k ≠ 4) :
    Calls Try.prog 14 #[aP A, opV k i v] w (MPost w base A S a' (.agg #[.int .i64 0, .int .i64 0, .bool false, .int .i64 0])) := by
  have t0 : (k == 0) = false := beq_eq_false_iff_ne.2 h0
  have t1 : (k == 1) = false := beq_eq_false_iff_ne.2 h1
  have t2 : (k == 2) = false := beq_eq_false_iff_ne.2 h2
  have t3 : (k == 3) = false := beq_eq_false_iff_ne.2 h3
  have t4 : (k == 4) = false := beq_eq_false_iff_ne.2 h4
  clear h0 h1 h2 h3 h4
  have HZ0 := Lib.hid (dz_new w k i v)
  have HB0 := Lib.hid (dz_below w k i v)
  have HSZ : Hid ((((w.alloc (opB k i v)).alloc anZ).alloc anZ).heap.size = w.heap.size + 3) := by show _ = _; simp
  go_enter Try.func14, Try.ntmps14
  go_upto_region 2 with fail
  generalize ((w.alloc (opB k i v)).alloc anZ).alloc anZ = X0 at *
  obtain ⟨o1, o2, o3⟩ := three_cells HZ0.out.op
  obtain ⟨⟨a1, a2, a3, a4⟩, _⟩ := four_cells HZ0.out.ax
  obtain ⟨⟨b1, b2, b3, b4⟩, b5, b6, b7, b8⟩ := four_cells HZ0.out.rs
  obtain ⟨⟨f1, f2, f3, f4⟩, _⟩ := four_cells (four_put HZ0.out.rs (.int .i64 0) (.int .i64 0) (.bool false) (.int .i64 0))
  have HKY := Lib.hid (own4 (Kp.refl (OwnD w) X0) (.int .i64 0) (.int .i64 0) (.bool false) (.int .i64 0))
  go_wp2_with fail
  refine bodyPost_ret (v := .agg #[.int .i64 0, .int .i64 0, .bool false, .int .i64 0]) (by simp [results, Try.results14, go_sem, f1, f2, f3, f4]) rfl ?_
  exact does_end (fun b hb => (HA.out.lt b hb).2) HB0.out HSZ.out (HA.out.below HB0.out) (Kp.refl S X0) (fun b hb => .inl hb) HKY.out
/-- A call on the program's arena is answered as the document says. -/
theorem does_any {S : Nat → Prop} {w : World} {base A : Nat} {a : Ar} (h : AIs w base A a S) (hok : a.ok) (hl : a.l.length ≤ 999999) (hl2 : a.free.length ≤ 999999) (k i v : Int) :
    Calls Try.prog 14 #[aP A, opV k i v] w (MPost w base A S (a.does k i v).1 (anV (a.does k i v).2)) := by
  have hS : ∀ b, S b → b < w.heap.size := fun b hb => (h.lt b hb).2
  unfold Ar.does
  by_cases h0 : k = 0
  · rw [if_pos h0]; subst h0
    have e : anV (a.put v).2 = .agg #[.int .i64 (a.put v).2.i, .int .i64 0, .bool false, .int .i64 (a.put v).2.e] := by
      unfold Ar.put; split
      · rfl
      · split <;> rfl
    rw [e]
    exact does0 A base S i v _ _ _ w hS (fun W hb => aput_any (h.below hb) hok hl hl2 v)
  rw [if_neg h0]
  by_cases h4 : k = 4
  · rw [if_pos h4]; subst h4
    exact does4 A base S i v _ w hS (fun W hb => areset_any (h.below hb))
  rw [if_neg h4]
  by_cases hx : k < 0 ∨ 4 < k
  · rw [if_pos (hx.imp id .inl)]
    exact doesx A base S k i v a w h h0 (by omega) (by omega) (by omega) h4
  have hk : k = 1 ∨ k = 2 ∨ k = 3 := by omega
  cases hi : a.is i with
  | false =>
    rw [if_pos (.inr (.inr rfl))]
    rcases hk with rfl | rfl | rfl
    · refine does1 A base S i v 0 false a w hS (fun W hb => (aget_any (h.below hb) hok (by omega) i).mono ?_)
      rw [hi, if_neg (by simp)]
      rintro e w' ⟨rfl, rfl⟩
      exact mpost_same (h.below hb) rfl (Go.RowKit.Below.refl _ _)
    · exact does2 A base S i v false a w hS (fun W hb => aset_no (h.below hb) hok (by omega) i v hi)
    · exact does3 A base S i v false a w hS (fun W hb => afree_no (h.below hb) hok (by omega) i hi)
  | true =>
    rw [if_neg (by rintro (c | c | c); exact hx (.inl c); exact hx (.inr c); cases c)]
    rcases hk with rfl | rfl | rfl
    · rw [if_pos rfl]
      refine does1 A base S i v (a.l.getD i.toNat 0) true a w hS (fun W hb => (aget_any (h.below hb) hok (by omega) i).mono ?_)
      rw [hi, if_pos rfl]
      rintro e w' ⟨rfl, rfl⟩
      exact mpost_same (h.below hb) rfl (Go.RowKit.Below.refl _ _)
    · rw [if_neg (by decide), if_pos rfl]
      exact does2 A base S i v true _ w hS (fun W hb => aset_yes (h.below hb) hok (by omega) i v hi)
    · rw [if_neg (by decide), if_neg (by decide)]
      exact does3 A base S i v true _ w hS (fun W hb => afree_yes (h.below hb) hok (by omega) (by omega) i hi)
end Go.Proofs.Ytdebmokpdchgpaa

/- The laws' alive. -/
namespace Go.Proofs.Ytdebmokpdchgpaa
open Go.RowKit Go.Sort Go.Proofs.Ytdebmokpdchgpaa.Bo
set_option linter.unusedVariables false

theorem aput_eq {S : Nat → Prop} {w : World} {base A : Nat} {a : Ar} (a' : Ar) (i e : Int) (h : AIs w base A a S) (hok : a.ok) (hl : a.l.length ≤ 999999) (hl2 : a.free.length ≤ 999999) (v : Int) (he : a.put v = (a', ⟨i, 0, false, e⟩)) :
    Calls Try.prog 18 #[aP A, .int .i64 v] w (MPost w base A S a' (.tuple #[.int .i64 i, .int .i64 e])) := by
  have := aput_any h hok hl hl2 v
  rw [he] at this
  exact this
theorem afree_eq {S : Nat → Prop} {w : World} {base A : Nat} {a : Ar} (a' : Ar) (h : AIs w base A a S) (hok : a.ok) (hl : a.l.length ≤ 999999) (hl2 : a.free.length ≤ 999999) (i : Int) (hi : a.is i = true) (he : { a with free := a.free ++ [i] } = a') :
    Calls Try.prog 23 #[aP A, .int .i64 i] w (MPost w base A S a' (.bool true)) := by
  subst he
  exact afree_yes h hok (by omega) (by omega) i hi
theorem aget_eq {S : Nat → Prop} {w : World} {base A : Nat} {a : Ar} (v : Int) (b : Bool) (h : AIs w base A a S) (hok : a.ok) (hl : a.l.length ≤ 999999) (i : Int) (hb : a.is i = b) (hv : (if a.is i = true then a.l.getD i.toNat 0 else 0) = v) :
    Calls Try.prog 19 #[aP A, .int .i64 i] w fun e w' => e = .returned (.tuple #[.int .i64 v, .bool b]) ∧ w = w' := by
  have := aget_any h hok (by omega) i
  rw [hv, hb] at this
  exact this
theorem alen_eq {S : Nat → Prop} {w : World} {base A : Nat} {a : Ar} (n : Int) (h : AIs w base A a S) (hok : a.ok) (hl : a.l.length ≤ 999999) (hl2 : a.free.length ≤ 999999) (hn : a.len = n) : Calls Try.prog 22 #[aP A] w fun e w' => e = .returned (.int .i64 n) ∧ Go.RowKit.Below w.heap.size w w' := by
  subst hn
  exact alen_any h hok (by omega) (by omega)
/-- A step on an arena of the call's own. -/
theorem AIs.step {S : Nat → Prop} {w0 w w' : World} {A : Nat} {a : Ar} (h : AIs w w0.heap.size A a S) (hb : Go.RowKit.Below w0.heap.size w0 w) (hk : Kp S w w') : Go.RowKit.Below w0.heap.size w0 w' :=
  hb.trans (hk.to_below _ hb.size (fun b hb' => (h.lt b hb').1))
theorem i64_small (z : Int) (h : -1000 ≤ z ∧ z ≤ 1000) : I64 z := by unfold I64; omega
set_option maxRecDepth 100000 in
set_option maxHeartbeats 2000000 in
theorem aralive_any (w : World) : Calls Try.prog 10 #[] w fun e w' => e = .returned (.bool true) ∧ Go.RowKit.Below w.heap.size w w' := by
  have k0 : (Ar.new 3).ok := Ar.new_ok 3 (by decide)
  have e1 : (Ar.new 3).put 5 = (⟨3, 1, [], [5]⟩, ⟨0, 0, false, 0⟩) := by kernel_rfl
  have k1 : (⟨3, 1, [], [5]⟩ : Ar).ok := by have := Ar.put_ok _ 5 k0 (i64_small _ (by decide)); rw [e1] at this; exact this
  have e2 : (⟨3, 1, [], [5]⟩ : Ar).put 6 = (⟨3, 2, [], [5, 6]⟩, ⟨1, 0, false, 0⟩) := by kernel_rfl
  have k2 : (⟨3, 2, [], [5, 6]⟩ : Ar).ok := by have := Ar.put_ok _ 6 k1 (i64_small _ (by decide)); rw [e2] at this; exact this
  have i2 : (⟨3, 2, [], [5, 6]⟩ : Ar).is 0 = true := by decide +kernel
  have k3 : (⟨3, 2, [0], [5, 6]⟩ : Ar).ok := by
    have := Ar.does_ok _ 3 0 0 k2 (i64_small _ (by decide))
    rw [show Ar.does ⟨3, 2, [], [5, 6]⟩ 3 0 0 = (⟨3, 2, [0], [5, 6]⟩, ⟨0, 0, true, 0⟩) by kernel_rfl] at this
    exact this
  have e4 : (⟨3, 2, [0], [5, 6]⟩ : Ar).put 7 = (⟨3, 2, [], [7, 6]⟩, ⟨0, 0, false, 0⟩) := by kernel_rfl
  have k4 : (⟨3, 2, [], [7, 6]⟩ : Ar).ok := by have := Ar.put_ok _ 7 k3 (i64_small _ (by decide)); rw [e4] at this; exact this
  have e5 : (⟨3, 2, [], [7, 6]⟩ : Ar).put 8 = (⟨3, 3, [], [7, 6, 8]⟩, ⟨2, 0, false, 0⟩) := by kernel_rfl
  have k5 : (⟨3, 3, [], [7, 6, 8]⟩ : Ar).ok := by have := Ar.put_ok _ 8 k4 (i64_small _ (by decide)); rw [e5] at this; exact this
  have e6 : (⟨3, 3, [], [7, 6, 8]⟩ : Ar).put 9 = (⟨3, 3, [], [7, 6, 8]⟩, ⟨0, 0, false, 50⟩) := by kernel_rfl
  have i6 : (⟨3, 3, [], [7, 6, 8]⟩ : Ar).is 0 = true := by decide +kernel
  have j6 : (⟨3, 3, [], [7, 6, 8]⟩ : Ar).is 3 = false := by decide +kernel
  have l6 : (⟨3, 3, [], [7, 6, 8]⟩ : Ar).len = 3 := by decide +kernel
  have HN := Lib.hid (anew_ok 3 w (by decide))
  have H1 : Hid (∀ (W : World) (S : Nat → Prop), AIs W w.heap.size w.heap.size (Ar.new 3) S → Calls Try.prog 18 #[aP w.heap.size, .int .i64 5] W (MPost W w.heap.size w.heap.size S ⟨3, 1, [], [5]⟩ (.tuple #[.int .i64 0, .int .i64 0]))) := fun W S h => aput_eq _ 0 0 h k0 (by decide) (by decide) 5 e1
  have H2 : Hid (∀ (W : World) (S : Nat → Prop), AIs W w.heap.size w.heap.size ⟨3, 1, [], [5]⟩ S → Calls Try.prog 18 #[aP w.heap.size, .int .i64 6] W (MPost W w.heap.size w.heap.size S ⟨3, 2, [], [5, 6]⟩ (.tuple #[.int .i64 1, .int .i64 0]))) := fun W S h => aput_eq _ 1 0 h k1 (by decide) (by decide) 6 e2
  have H3 : Hid (∀ (W : World) (S : Nat → Prop), AIs W w.heap.size w.heap.size ⟨3, 2, [], [5, 6]⟩ S → Calls Try.prog 23 #[aP w.heap.size, .int .i64 0] W (MPost W w.heap.size w.heap.size S ⟨3, 2, [0], [5, 6]⟩ (.bool true))) := fun W S h => afree_eq _ h k2 (by decide) (by decide) 0 i2 rfl
  have H4 : Hid (∀ (W : World) (S : Nat → Prop), AIs W w.heap.size w.heap.size ⟨3, 2, [0], [5, 6]⟩ S → Calls Try.prog 18 #[aP w.heap.size, .int .i64 7] W (MPost W w.heap.size w.heap.size S ⟨3, 2, [], [7, 6]⟩ (.tuple #[.int .i64 0, .int .i64 0]))) := fun W S h => aput_eq _ 0 0 h k3 (by decide) (by decide) 7 e4
  have H5 : Hid (∀ (W : World) (S : Nat → Prop), AIs W w.heap.size w.heap.size ⟨3, 2, [], [7, 6]⟩ S → Calls Try.prog 18 #[aP w.heap.size, .int .i64 8] W (MPost W w.heap.size w.heap.size S ⟨3, 3, [], [7, 6, 8]⟩ (.tuple #[.int .i64 2, .int .i64 0]))) := fun W S h => aput_eq _ 2 0 h k4 (by decide) (by decide) 8 e5
  have H6 : Hid (∀ (W : World) (S : Nat → Prop), AIs W w.heap.size w.heap.size ⟨3, 3, [], [7, 6, 8]⟩ S → Calls Try.prog 18 #[aP w.heap.size, .int .i64 9] W (MPost W w.heap.size w.heap.size S ⟨3, 3, [], [7, 6, 8]⟩ (.tuple #[.int .i64 0, .int .i64 50]))) := fun W S h => aput_eq _ 0 50 h k5 (by decide) (by decide) 9 e6
  have H7 : Hid (∀ (W : World) (S : Nat → Prop), AIs W w.heap.size w.heap.size ⟨3, 3, [], [7, 6, 8]⟩ S → Calls Try.prog 19 #[aP w.heap.size, .int .i64 0] W fun e w' => e = .returned (.tuple #[.int .i64 7, .bool true]) ∧ W = w') := fun W S h => aget_eq 7 true h k5 (by decide) 0 i6 (by rw [i6]; rfl)
  have H8 : Hid (∀ (W : World) (S : Nat → Prop), AIs W w.heap.size w.heap.size ⟨3, 3, [], [7, 6, 8]⟩ S → Calls Try.prog 22 #[aP w.heap.size] W fun e w' => e = .returned (.int .i64 3) ∧ Go.RowKit.Below W.heap.size W w') := fun W S h => alen_eq 3 h k5 (by decide) (by decide) l6
  have H9 : Hid (∀ (W : World) (S : Nat → Prop), AIs W w.heap.size w.heap.size ⟨3, 3, [], [7, 6, 8]⟩ S → Calls Try.prog 16 #[aP w.heap.size, .int .i64 3] W fun e w' => e = .returned (.pointer none) ∧ W = w') := fun W S h => aat_nil h k5 (by decide) 3 j6
  have HA0 := Lib.hid (ais_new 3 w)
  have HB0 := Lib.hid (below_new w (aZ 3))
  clear k0 e1 k1 e2 k2 i2 k3 e4 k4 e5 k5 e6 i6 j6 l6
  go_enter Try.func10, Try.ntmps10
  go_wp2_with fail
  refine HN.out.mono ?_
  rintro e w0 ⟨rfl, rfl⟩
  go_wp2_with fail
  generalize w.alloc (aZ 3) = W0 at *
  refine (H1.out W0 _ HA0.out).mono ?_
  rintro e w1 ⟨S1, ⟨rfl, hA⟩, hk, _⟩
  have HB1 := Lib.hid (HA0.out.step HB0.out hk)
  have HA1 := Lib.hid hA
  clear hA hk HA0 HB0
  go_wp2_with fail
  refine (H2.out w1 _ HA1.out).mono ?_
  rintro e w2 ⟨S2, ⟨rfl, hA⟩, hk, _⟩
  have HB2 := Lib.hid (HA1.out.step HB1.out hk)
  have HA2 := Lib.hid hA
  clear hA hk HA1 HB1
  go_wp2_with fail
  refine (H3.out w2 _ HA2.out).mono ?_
  rintro e w3 ⟨S3, ⟨rfl, hA⟩, hk, _⟩
  have HB3 := Lib.hid (HA2.out.step HB2.out hk)
  have HA3 := Lib.hid hA
  clear hA hk HA2 HB2
  go_wp2_with fail
  refine (H4.out w3 _ HA3.out).mono ?_
  rintro e w4 ⟨S4, ⟨rfl, hA⟩, hk, _⟩
  have HB4 := Lib.hid (HA3.out.step HB3.out hk)
  have HA4 := Lib.hid hA
  clear hA hk HA3 HB3
  go_wp2_with fail
  refine (H5.out w4 _ HA4.out).mono ?_
  rintro e w5 ⟨S5, ⟨rfl, hA⟩, hk, _⟩
  have HB5 := Lib.hid (HA4.out.step HB4.out hk)
  have HA5 := Lib.hid hA
  clear hA hk HA4 HB4
  go_wp2_with fail
  refine (H6.out w5 _ HA5.out).mono ?_
  rintro e w6 ⟨S6, ⟨rfl, hA⟩, hk, _⟩
  have HB6 := Lib.hid (HA5.out.step HB5.out hk)
  have HA6 := Lib.hid hA
  clear hA hk HA5 HB5
  go_wp2_with fail
  refine (H7.out w6 _ HA6.out).mono ?_
  rintro e w7 ⟨rfl, rfl⟩
  go_wp2_with fail
  refine (H8.out w6 _ HA6.out).mono ?_
  rintro e w7 ⟨rfl, hb⟩
  have HB7 := Lib.hid (bt HB6.out (hb.mono (Nat.le_refl _)))
  have HA7 := Lib.hid (HA6.out.below hb)
  clear hb HA6 HB6
  go_wp2_with fail
  refine (H9.out w7 _ HA7.out).mono ?_
  rintro e w8 ⟨rfl, rfl⟩
  go_wp2_with fail
  go_ret
  exact ⟨rfl, HB7.out⟩
end Go.Proofs.Ytdebmokpdchgpaa

/- Calls of the document's arena as arguments: one by value, a slice of them. -/
namespace Go.Proofs.Ytdebmokpdchgpaa
open Go.ChangeShapes Go.WideShapes Go.ChangeAt Go.RowKit Go.Sort Go.Joins Go.Proofs.Ytdebmokpdchgpaa.Bo
set_option linter.unusedVariables false

/-- A call: its kind, a place, a number. -/
structure O3 where
  k : Int
  i : Int
  v : Int
def O3.ok (o : O3) : Prop := I64 o.k ∧ I64 o.i ∧ I64 o.v
abbrev vO (o : O3) : Value := .agg #[.int .i64 o.k, .int .i64 o.i, .int .i64 o.v]
def Cells3 (w : World) (b x : Nat) (o : O3) : Prop := w.cell? ⟨b, x, none⟩ = some (.int .i64 o.k) ∧ w.cell? ⟨b, x + 1, none⟩ = some (.int .i64 o.i) ∧ w.cell? ⟨b, x + 2, none⟩ = some (.int .i64 o.v)
theorem Cells3.below {w w' : World} {b x : Nat} {o : O3} (h : Cells3 w b x o) (hb : Go.RowKit.Below w.heap.size w w') : Cells3 w' b x o :=
  ⟨(hb.cell (World.block_lt_of_cell? w _ h.1)).trans h.1, (hb.cell (World.block_lt_of_cell? w _ h.2.1)).trans h.2.1, (hb.cell (World.block_lt_of_cell? w _ h.2.2)).trans h.2.2⟩
/-- A slice of calls that holds l. -/
def ORow (w : World) (a : Option Addr) (l : List O3) : Prop := 0 < l.length → ∃ b off, a = some ⟨b, off, none⟩ ∧ ∀ (j : Nat) (h : j < l.length), Cells3 w b (off + j * 3) l[j]
theorem ORow.below {w w' : World} {a : Option Addr} {l : List O3} (h : ORow w a l) (hb : Go.RowKit.Below w.heap.size w w') : ORow w' a l := by
  intro hp
  obtain ⟨b, off, e, hc⟩ := h hp
  exact ⟨b, off, e, fun j hj => (hc j hj).below hb⟩
set_option maxRecDepth 100000 in
theorem trod_op {H : Type} {enc : TypeId × Value → H} {w : World} {base : Nat} {spare : Nat → Bool} {held : Bool} {n : Nat} {cs : List Value} {y : DataW H × List MemPlace} (h : DataW.trod enc Try.prog w base spare held n 35 cs = some y) :
    ∃ o : O3, cs = [.int .i64 o.k, .int .i64 o.i, .int .i64 o.v] ∧ o.ok := by
  obtain ⟨y0, y1, y2, n', hx, hlen, h0, h1, h2⟩ := Go.Deep.trod_struct3 Try.underlying35 h
  rw [show Try.prog.cellsOf 35 = 3 by kernel_rfl] at hlen
  obtain ⟨k, ek, _, wk⟩ := DataW.trod_int Try.underlying3 h0
  obtain ⟨i, ei, _, wi⟩ := DataW.trod_int Try.underlying3 h1
  obtain ⟨v, ev, _, wv⟩ := DataW.trod_int Try.underlying2 h2
  match cs, hlen with
  | [v0, v1, v2], _ =>
    rw [show Try.prog.cellsOf 3 = 1 by kernel_rfl] at ek ei
    rw [show Try.prog.cellsOf 2 = 1 by kernel_rfl] at ev
    simp at ek ei ev
    exact ⟨⟨k, i, v⟩, by rw [ek, ei, ev], i64_of_wf2 wk, i64_of_wf2 wi, i64_of_wf2 wv⟩
set_option maxRecDepth 100000 in
/-- A call by value. -/
theorem open_op {H : Type} {enc : TypeId × Value → H} {w : World} {base : Nat} {spare : Nat → Bool} {held : Bool} {r : Reach} {b0 : Nat} {v : Value} {d : DataW H} {p : List MemPlace} (hv : Value.okWide Try.prog w r b0 35 v) (h : DataW.Trod enc Try.prog w base spare held 35 v d p) :
    ∃ o : O3, v = vO o ∧ o.ok := by
  obtain ⟨cs, rfl, hsz⟩ := okWide_struct Try.underlying35 hv
  obtain ⟨fuel, hf⟩ := h
  obtain ⟨o, e, ok⟩ := trod_op hf
  refine ⟨o, ?_, ok⟩
  have e2 : cs.toList = [.int .i64 o.k, .int .i64 o.i, .int .i64 o.v] := by simpa [Value.cells] using e
  have : cs = #[.int .i64 o.k, .int .i64 o.i, .int .i64 o.v] := by rw [← Array.toArray_toList (xs := cs), e2]
  rw [this]
/-- A slice of calls. -/
def IsOps (w : World) (a : Option Addr) (len : Nat) (l : List O3) : Prop := len = l.length ∧ (∀ q ∈ l, q.ok) ∧ ORow w a l
theorem isOps_nil (w : World) : IsOps w none 0 [] := ⟨rfl, by simp, fun h => by simp at h⟩
theorem isOps_of (w : World) (x : Addr) (len m : Nat) (hlm : len ≤ m) (hi : ∀ i, i < m → ∃ o : O3, (∀ j u, [Value.int .i64 o.k, .int .i64 o.i, .int .i64 o.v][j]? = some u → w.cell? (x.add (i * 3 + j)) = some u) ∧ o.ok) : ∃ l, IsOps w (some x) len l := by
  have h' : ∀ i, ∃ o : O3, i < m → (∀ j u, [Value.int .i64 o.k, .int .i64 o.i, .int .i64 o.v][j]? = some u → w.cell? (x.add (i * 3 + j)) = some u) ∧ o.ok := by
    intro i
    by_cases h : i < m
    · obtain ⟨o, h1⟩ := hi i h
      exact ⟨o, fun _ => h1⟩
    · exact ⟨⟨0, 0, 0⟩, fun h2 => absurd h2 h⟩
  obtain ⟨f, hf⟩ := Classical.axiomOfChoice h'
  refine ⟨(List.range len).map f, by simp, ?_, ?_⟩
  · intro c hc
    obtain ⟨i, hi2, rfl⟩ := List.mem_map.1 hc
    exact (hf i (by have := List.mem_range.1 hi2; omega)).2
  · intro hp
    have hp' : 0 < len := by simpa using hp
    obtain ⟨b, off, spot⟩ := x
    have hspot : spot = none := by simpa [Addr.add] using World.cell?_spot ((hf 0 (by omega)).1 0 _ rfl)
    subst hspot
    refine ⟨b, off, rfl, fun j hj => ?_⟩
    have hj' : j < len := by simpa using hj
    have h1 := (hf j (by omega)).1
    simp only [List.getElem_map, List.getElem_range]
    have g0 := h1 0 _ rfl
    have g1 := h1 1 _ rfl
    have g2 := h1 2 _ rfl
    rw [Addr.add_lit] at g0 g1 g2
    exact ⟨g0, by rw [Nat.add_assoc]; exact g1, by rw [Nat.add_assoc]; exact g2⟩
set_option maxRecDepth 100000 in
theorem open_ops {H : Type} {enc : TypeId × Value → H} {w : World} {base : Nat} {spare : Nat → Bool} {held : Bool} {a : Option Addr} {len cap : Nat} {d : DataW H} {p : List MemPlace} (h : DataW.Trod enc Try.prog w base spare held 22 (.slice a len cap) d p) : ∃ l, IsOps w a len l := by
  obtain ⟨fuel, hf⟩ := h
  rcases Go.Deep.open_slice Try.underlying22 hf with ⟨hcs, _⟩ | ⟨x, l, c, m, n, D, Pl, hcs, _, hl, hm, hmm, _, hc⟩
  · simp [Value.cells] at hcs
    obtain ⟨rfl, rfl, rfl⟩ := hcs
    exact ⟨[], isOps_nil w⟩
  · simp [Value.cells] at hcs
    obtain ⟨rfl, rfl, rfl⟩ := hcs
    have hlm : len ≤ m := by rw [hmm]; split <;> omega
    refine isOps_of w x _ m hlm fun i hi => ?_
    obtain ⟨cs', h1, h2⟩ := hc i hi
    obtain ⟨o, e, ok⟩ := trod_op h2
    rw [show Try.prog.cellsOf 35 = 3 by kernel_rfl] at h1
    obtain ⟨_, hlen, hcell⟩ := World.cells?_some h1
    refine ⟨o, fun j u hu => ?_, ok⟩
    rw [e] at hlen hcell
    have hj : j < 3 := by
      rcases Nat.lt_or_ge j 3 with h | h
      · exact h
      · rw [List.getElem?_eq_none (by simpa using h)] at hu; cases hu
    have e0 := hcell j hj
    rw [Go.Deep.add_add] at e0
    rw [e0, hu]
/-- The datum of a slice of calls: as long as the slice. -/
theorem datum_ops {H : Type} {enc : TypeId × Value → H} {w : World} {base : Nat} {spare : Nat → Bool} {held : Bool} {a : Option Addr} {len cap : Nat} {d : DataW H} {p : List MemPlace} (h : DataW.Trod enc Try.prog w base spare held 22 (.slice a len cap) d p) : len = 0 ∨ ∃ es sp, d = .slice es sp ∧ es.length = len := by
  obtain ⟨fuel, hf⟩ := h
  rcases Go.Deep.open_slice Try.underlying22 hf with ⟨hcs, _⟩ | ⟨x, l, c, m, n, D, Pl, hcs, _, hl, hm, hmm, hx, hc⟩
  · simp [Value.cells] at hcs
    exact .inl hcs.2.1
  · simp [Value.cells] at hcs
    obtain ⟨rfl, rfl, rfl⟩ := hcs
    simp only [Prod.mk.injEq] at hx
    exact .inr ⟨_, _, hx.1, by simp⟩
theorem bytes_op : Try.prog.bytesOf 35 = 24 := by kernel_rfl
/-- No slice of calls that comes in is longer than its bytes allow. -/
theorem short_ops {H : Type} {enc : TypeId × Value → H} {w : World} {base : Nat} {spare : Nat → Bool} {held : Bool} {a : Option Addr} {len cap : Nat} {d : DataW H} {p : List MemPlace} {ts : List TypeId} {ds : List (DataW H)} {j : Nat} (h : DataW.Trod enc Try.prog w base spare held 22 (.slice a len cap) d p)
    (hsz : (DataW.weightsEach Try.prog ts ds).all (· ≤ reachBytes) = true) (ht : ts[j]? = some 22) (hd : ds[j]? = some d) : len * 24 ≤ 140737488351232 := by
  rcases datum_ops h with rfl | ⟨es, sp, rfl, rfl⟩
  · omega
  · have := sized_slice hsz ht hd Try.underlying22
    rw [bytes_op] at this
    simp only [reachBytes] at this
    omega
end Go.Proofs.Ytdebmokpdchgpaa

/- Scripts of calls on the document's arena; what holds of an arena behind any script. -/
namespace Go.Proofs.Ytdebmokpdchgpaa
open Go.RowKit Go.Sort Go.Proofs.Ytdebmokpdchgpaa.Bo
set_option linter.unusedVariables false

structure AG (a : Ar) (room : Int) : Prop where
  ok : a.ok
  rm : a.room = room
  le : a.ever ≤ room
theorem AG.new (room : Int) (h : 0 ≤ room ∧ room ≤ 65536) : AG (Ar.new room) room := ⟨Ar.new_ok room h, rfl, h.1⟩
theorem AG.does {a : Ar} {room : Int} (h : AG a room) (k i v : Int) (hv : I64 v) : AG (a.does k i v).1 room := by
  have hr := h.ok.room
  have h2 := a.does_le k i v hr.1 (by rw [h.rm]; exact h.le)
  exact ⟨a.does_ok k i v h.ok hv, h2.2.trans h.rm, by rw [← h.rm]; exact h2.1⟩
theorem AG.put {a : Ar} {room : Int} (h : AG a room) (v : Int) (hv : I64 v) : AG (a.put v).1 room := by
  have h2 := a.put_le v (by rw [h.rm]; exact h.le)
  exact ⟨a.put_ok v h.ok hv, h2.2.trans h.rm, by rw [← h.rm]; exact h2.1⟩
theorem AG.len {a : Ar} {room : Int} (h : AG a room) : a.l.length ≤ 65536 ∧ a.free.length ≤ 65536 := by
  have h1 := h.ok.ever
  have h2 := h.ok.room
  have h3 := h.le
  have h4 := h.rm
  have h5 := nodup_len a.l.length a.free h.ok.once (fun i hi => by have := h.ok.free i hi; omega)
  omega
theorem AG.len2 {a : Ar} {room : Int} (h : AG a room) : 0 ≤ a.len ∧ a.len ≤ room := by
  have h1 := h.ok.ever
  have h3 := h.ok.fits
  have h4 := h.rm
  have h5 := nodup_len a.l.length a.free h.ok.once (fun i hi => by have := h.ok.free i hi; omega)
  unfold Ar.len
  omega
theorem does_g {S : Nat → Prop} {w : World} {base A : Nat} {a : Ar} {room : Int} (h : AIs w base A a S) (hg : AG a room) (k i v : Int) :
    Calls Try.prog 14 #[aP A, opV k i v] w (MPost w base A S (a.does k i v).1 (anV (a.does k i v).2)) :=
  does_any h hg.ok (by have := hg.len; omega) (by have := hg.len; omega) k i v
theorem aput_g {S : Nat → Prop} {w : World} {base A : Nat} {a : Ar} {room : Int} (h : AIs w base A a S) (hg : AG a room) (v : Int) :
    Calls Try.prog 18 #[aP A, .int .i64 v] w (MPost w base A S (a.put v).1 (.tuple #[.int .i64 (a.put v).2.i, .int .i64 (a.put v).2.e])) :=
  aput_any h hg.ok (by have := hg.len; omega) (by have := hg.len; omega) v
theorem alen_g {S : Nat → Prop} {w : World} {base A : Nat} {a : Ar} {room : Int} (h : AIs w base A a S) (hg : AG a room) : Calls Try.prog 22 #[aP A] w fun e w' => e = .returned (.int .i64 a.len) ∧ Go.RowKit.Below w.heap.size w w' :=
  alen_any h hg.ok (by have := hg.len; omega) (by have := hg.len; omega)
/-- An arena of the call's own. -/
def ASt (w : World) (A : Nat) (a : Ar) (W : World) : Prop := ∃ S, AIs W w.heap.size A a S ∧ Go.RowKit.Below w.heap.size w W
theorem ASt.below {w : World} {A : Nat} {a : Ar} {W W' : World} (h : ASt w A a W) (hb : Go.RowKit.Below W.heap.size W W') : ASt w A a W' := by
  obtain ⟨S, h1, h2⟩ := h
  exact ⟨S, h1.below hb, bt h2 hb⟩
theorem ASt.bel {w : World} {A : Nat} {a : Ar} {W : World} (h : ASt w A a W) : Go.RowKit.Below w.heap.size w W := by
  obtain ⟨S, h1, h2⟩ := h; exact h2
/-- What a call on an arena of the caller's own leaves. -/
def SPost (w : World) (A : Nat) (a' : Ar) (ans : Value) (e : Ending) (w' : World) : Prop := e = .returned ans ∧ ASt w A a' w'
theorem spost_of {w W : World} {A : Nat} {S : Nat → Prop} {a a' : Ar} {ans : Value} {e : Ending} {w' : World} (h : AIs W w.heap.size A a S) (hb : Go.RowKit.Below w.heap.size w W) (hp : MPost W w.heap.size A S a' ans e w') : SPost w A a' ans e w' := by
  obtain ⟨S', ⟨he, hA⟩, hk, hs⟩ := hp
  exact ⟨he, S', hA, h.step hb hk⟩
theorem does_s {w W : World} {A : Nat} {a : Ar} {room : Int} (h : ASt w A a W) (hg : AG a room) (k i v : Int) : Calls Try.prog 14 #[aP A, opV k i v] W (SPost w A (a.does k i v).1 (anV (a.does k i v).2)) := by
  obtain ⟨S, h1, h2⟩ := h
  exact (does_g h1 hg k i v).mono fun e w' hp => spost_of h1 h2 hp
theorem aput_s {w W : World} {A : Nat} {a : Ar} {room : Int} (h : ASt w A a W) (hg : AG a room) (v : Int) : Calls Try.prog 18 #[aP A, .int .i64 v] W (SPost w A (a.put v).1 (.tuple #[.int .i64 (a.put v).2.i, .int .i64 (a.put v).2.e])) := by
  obtain ⟨S, h1, h2⟩ := h
  exact (aput_g h1 hg v).mono fun e w' hp => spost_of h1 h2 hp
theorem alen_s {w W : World} {A : Nat} {a : Ar} {room : Int} (h : ASt w A a W) (hg : AG a room) : Calls Try.prog 22 #[aP A] W fun e w' => e = .returned (.int .i64 a.len) ∧ Go.RowKit.Below W.heap.size W w' := by
  obtain ⟨S, h1, h2⟩ := h
  exact alen_g h1 hg
theorem aget_s {w W : World} {A : Nat} {a : Ar} {room : Int} (h : ASt w A a W) (hg : AG a room) (i v : Int) (b : Bool) (hb : a.is i = b) (hv : (if a.is i = true then a.l.getD i.toNat 0 else 0) = v) : Calls Try.prog 19 #[aP A, .int .i64 i] W fun e w' => e = .returned (.tuple #[.int .i64 v, .bool b]) ∧ W = w' := by
  obtain ⟨S, h1, h2⟩ := h
  exact aget_eq v b h1 hg.ok (by have := hg.len; omega) i hb hv
/-- Blocks of no type of an arena's are as they were. -/
def Other (W w' : World) : Prop := ∀ (b : Nat) (cs : Array Value) (t : TypeId), W.heap[b]? = some (.cells cs t (0, 0)) → t ≠ 62 → t ≠ 66 → t ≠ 3 → w'.heap[b]? = some (.cells cs t (0, 0))
theorem other_of {S : Nat → Prop} {W w' : World} {base A : Nat} {a : Ar} (h : AIs W base A a S) (hk : Kp S W w') : Other W w' := fun b cs t hb h1 h2 h3 =>
  hk.at hb (fun hS => by rcases h.type b hS hb with e | e | e; exact h1 e; exact h2 e; exact h3 e)
def SPostO (w W : World) (A : Nat) (a' : Ar) (ans : Value) (e : Ending) (w' : World) : Prop := (e = .returned ans ∧ ASt w A a' w') ∧ Other W w'
theorem does_o {w W : World} {A : Nat} {a : Ar} {room : Int} (h : ASt w A a W) (hg : AG a room) (k i v : Int) : Calls Try.prog 14 #[aP A, opV k i v] W (SPostO w W A (a.does k i v).1 (anV (a.does k i v).2)) := by
  obtain ⟨S, h1, h2⟩ := h
  exact (does_g h1 hg k i v).mono fun e w' hp => by
    have hp' := hp
    obtain ⟨S', _, hk, _⟩ := hp'
    exact ⟨spost_of h1 h2 hp, other_of h1 hk⟩
theorem ast_new (room : Int) (w : World) : ASt w w.heap.size (Ar.new room) (w.alloc (aZ room)) := ⟨_, ais_new room w, below_new _ _⟩
/-- Behind a script. -/
def arun (a : Ar) (os : List O3) : Ar := os.foldl (fun a o => (a.does o.k o.i o.v).1) a
theorem arun_nil (a : Ar) : arun a [] = a := rfl
theorem arun_snoc (a : Ar) (os : List O3) (o : O3) : arun a (os ++ [o]) = ((arun a os).does o.k o.i o.v).1 := by unfold arun; rw [List.foldl_append]; rfl
theorem arun_step (a : Ar) (z : List O3) (j : Nat) (h : j < z.length) : arun a (z.take (j + 1)) = ((arun a (z.take j)).does z[j].k z[j].i z[j].v).1 := by
  rw [List.take_succ_eq_append_getElem h, arun_snoc]
theorem arun_ag {room : Int} (hr : 0 ≤ room ∧ room ≤ 65536) (z : List O3) (hz : ∀ o ∈ z, o.ok) : ∀ j, j ≤ z.length → AG (arun (Ar.new room) (z.take j)) room := by
  intro j
  induction j with
  | zero => intro _; exact AG.new room hr
  | succ j ih =>
    intro hj
    rw [arun_step _ _ _ (by omega)]
    exact (ih (by omega)).does _ _ _ (hz _ (List.getElem_mem _)).2.2
theorem arun_len (a : Ar) (z : List O3) : ∀ j, j ≤ z.length → (arun a (z.take j)).l.length ≤ a.l.length + j ∧ (arun a (z.take j)).free.length ≤ a.free.length + j := by
  intro j
  induction j with
  | zero => intro _; exact ⟨Nat.le_refl _, Nat.le_refl _⟩
  | succ j ih =>
    intro hj
    rw [arun_step _ _ _ (by omega)]
    have h1 := Ar.does_len (arun a (z.take j)) z[j].k z[j].i z[j].v
    have h2 := ih (by omega)
    omega
end Go.Proofs.Ytdebmokpdchgpaa
