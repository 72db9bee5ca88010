/- The walk of the law ArenaLast. -/
import Derived.Test.YtdebmokpdchgpaaBF
import Derived.Test.YtdebmokpdchgpaaSatRowsW
namespace Go.Proofs.Ytdebmokpdchgpaa
open Go.RowKit Go.Sort Go.Proofs.Ytdebmokpdchgpaa.Bo
set_option linter.unusedVariables false

/-- An arena of the call's own, and beside it a row of numbers. -/
def LastSt (w : World) (A : Nat) (room : Int) (a : Ar) (v : Value) (fs : List Int) (W : World) : Prop :=
  ∃ S, AIs W w.heap.size A a S ∧ Go.RowKit.Below w.heap.size w W ∧ (AG a room ∧ a.ever = room) ∧ W.ownsRow w.heap.size 3 1 v fs.length (fs.map nv) ∧ ∀ b, v.ownBlock = some b → ¬ S b
theorem LastSt.bel {w : World} {A : Nat} {room : Int} {a : Ar} {v : Value} {fs : List Int} {W : World} (h : LastSt w A room a v fs W) : Go.RowKit.Below w.heap.size w W := by
  obtain ⟨S, _, h2, _⟩ := h; exact h2
theorem LastSt.ast {w : World} {A : Nat} {room : Int} {a : Ar} {v : Value} {fs : List Int} {W : World} (h : LastSt w A room a v fs W) : ASt w A a W := by
  obtain ⟨S, h1, h2, _⟩ := h; exact ⟨S, h1, h2⟩
theorem LastSt.ag {w : World} {A : Nat} {room : Int} {a : Ar} {v : Value} {fs : List Int} {W : World} (h : LastSt w A room a v fs W) : AG a room ∧ a.ever = room := by
  obtain ⟨S, _, _, h3, _⟩ := h; exact h3
theorem LastSt.row {w : World} {A : Nat} {room : Int} {a : Ar} {v : Value} {fs : List Int} {W : World} (h : LastSt w A room a v fs W) : W.ownsRow w.heap.size 3 1 v fs.length (fs.map nv) := by
  obtain ⟨S, _, _, _, h3, _⟩ := h; exact h3
/-- A call on the arena leaves the row as it was. -/
theorem last_post {w : World} {A : Nat} {room : Int} {a a' : Ar} {v : Value} {fs : List Int} {W : World} {S : Nat → Prop} {ans : Value} {e : Ending} {w' : World} (h1 : AIs W w.heap.size A a S) (h2 : Go.RowKit.Below w.heap.size w W) (h4 : W.ownsRow w.heap.size 3 1 v fs.length (fs.map nv)) (h5 : ∀ b, v.ownBlock = some b → ¬ S b)
    (hg : AG a' room ∧ a'.ever = room) (hp : MPost W w.heap.size A S a' ans e w') : e = .returned ans ∧ LastSt w A room a' v fs w' := by
  obtain ⟨S', ⟨he, hA⟩, hk, hs⟩ := hp
  refine ⟨he, S', hA, h1.step h2 hk, hg, own_kp h4 hk h5, fun b hb hS => ?_⟩
  rcases hs b hS with h | h
  · exact h5 b hb h
  · have := (h4.lt b hb).2; omega
theorem last_free_no {w : World} {A : Nat} {room : Int} {a : Ar} {v : Value} {fs : List Int} {W : World} (h : LastSt w A room a v fs W) (i : Int) (hi : a.is i = false) :
    Calls Try.prog 23 #[aP A, .int .i64 i] W fun e w' => e = .returned (.bool false) ∧ LastSt w A room a v fs w' := by
  obtain ⟨S, h1, h2, h3, h4, h5⟩ := h
  exact (afree_no h1 h3.1.ok (by have := h3.1.len; omega) i hi).mono fun e w' hp => last_post h1 h2 h4 h5 h3 hp
theorem last_free_yes {w : World} {A : Nat} {room : Int} {a : Ar} {v : Value} {fs : List Int} {W : World} (h : LastSt w A room a v fs W) (i : Int) (hi : a.is i = true) :
    Calls Try.prog 23 #[aP A, .int .i64 i] W fun e w' => e = .returned (.bool true) ∧ LastSt w A room { a with free := a.free ++ [i] } v fs w' := by
  obtain ⟨S, h1, h2, h3, h4, h5⟩ := h
  have hd : a.does 3 i 0 = ({ a with free := a.free ++ [i] }, ⟨0, 0, true, 0⟩) := by
    unfold Ar.does
    rw [if_neg (by decide), if_neg (by decide), if_neg (by rw [hi]; simp), if_neg (by decide), if_neg (by decide)]
  have hg := h3.1.does 3 i 0 (i64_small _ (by decide))
  rw [hd] at hg
  exact (afree_yes h1 h3.1.ok (by have := h3.1.len; omega) (by have := h3.1.len; omega) i hi).mono fun e w' hp => last_post h1 h2 h4 h5 ⟨hg, h3.2⟩ hp
theorem last_put {w : World} {A : Nat} {room : Int} {a : Ar} {v : Value} {fs gs : List Int} {W : World} (h : LastSt w A room a v fs W) (u i : Int) (hu : I64 u) (hf : a.free = gs ++ [i]) :
    Calls Try.prog 18 #[aP A, .int .i64 u] W fun e w' => e = .returned (.tuple #[.int .i64 i, .int .i64 0]) ∧ LastSt w A room { a with free := gs, l := a.l.set i.toNat u } v fs w' := by
  obtain ⟨S, h1, h2, h3, h4, h5⟩ := h
  have he := Ar.put_last a u i gs hf (by unfold Ar.len; rw [h3.2, h3.1.rm, hf]; simp; omega)
  have hg := h3.1.put u hu
  rw [he] at hg
  have hp0 := aput_any h1 h3.1.ok (by have := h3.1.len; omega) (by have := h3.1.len; omega) u
  rw [he] at hp0
  exact hp0.mono fun e w' hp => last_post h1 h2 h4 h5 ⟨hg, h3.2⟩ hp
/-- The row grows. -/
theorem last_grow {w : World} {A : Nat} {room : Int} {a : Ar} {v v' : Value} {fs fs' : List Int} {W W' : World} (h : LastSt w A room a v fs W) (hg : W.grownBy W' v.ownBlock) (hown : W'.ownsRow w.heap.size 3 1 v' fs'.length (fs'.map nv)) (hat : ∀ b, v'.ownBlock = some b → v.ownBlock = some b ∨ b = W.heap.size) : LastSt w A room a v' fs' W' := by
  obtain ⟨S, h1, h2, h3, h4, h5⟩ := h
  have hk : Kp (fun b => v.ownBlock = some b) W W' := (Kp.refl _ W).grown hg (fun k hk => .inl hk)
  refine ⟨S, h1.kp hk (fun b hb hv => h5 b hv hb), h2.grown hg h2.size (fun k hk => (h4.lt k hk).1), h3, hown, fun b hb hS => ?_⟩
  rcases hat b hb with h | h
  · exact h5 b h hS
  · have := (h1.lt b hS).2; omega
theorem LastSt.below {w : World} {A : Nat} {room : Int} {a : Ar} {v : Value} {fs : List Int} {W W' : World} (h : LastSt w A room a v fs W) (hb : Go.RowKit.Below W.heap.size W W') : LastSt w A room a v fs W' := by
  obtain ⟨S, h1, h2, h3, h4, h5⟩ := h
  exact ⟨S, h1.below hb, bt h2 hb, h3, own_kp h4 (Kp.of_below (fun _ => False) hb) (fun _ _ => id), h5⟩
/-- As many puts as there is room for. -/
def Fill (a : Ar) (room : Int) (j : Nat) : Prop := AG a room ∧ a.free = [] ∧ a.ever = (j : Int)
theorem fill_put {a : Ar} {room : Int} {j : Nat} (h : Fill a room j) (hj : (j : Int) < room) : Fill (a.put 1).1 room (j + 1) := by
  obtain ⟨h1, h2, h3⟩ := h
  have hg := h1.put 1 (i64_small _ (by decide))
  have e : a.put 1 = ({ a with ever := a.ever + 1, l := a.l ++ [1] }, ⟨a.ever, 0, false, 0⟩) := by
    unfold Ar.put
    rw [if_neg (by rw [h1.rm, h2, h3]; simp; omega), if_neg (by rw [h2]; simp)]
  rw [e] at hg ⊢
  exact ⟨hg, h2, by show a.ever + 1 = _; rw [h3]; omega⟩
set_option maxRecDepth 100000 in
set_option maxHeartbeats 4000000 in
theorem arenaLast_walk (room : Int) (a : Option Addr) (len cap : Nat) (z0 : List Int) (w : World) (wr0 : (Lit.int .i64 room).wf = true) (h : IsRow .i64 w a len cap z0) :
    Calls Try.prog 9 #[.int .i64 room, .slice a len cap] w fun e w' => e = .returned (.bool true) ∧ Go.RowKit.Below w.heap.size w w' := by
  obtain ⟨z, rfl, hz, hr, _⟩ := row_of_is h
  clear wr0 h
  obtain ⟨i0, hi, hz0, hz1, hz2⟩ := info_parts Try.infoInt
  have HAL := Lib.hid aralive_any
  have HZ := Lib.hid hz
  have HR := Lib.hid hr
  clear hz hr
  by_cases h0 : ¬ (0 ≤ room ∧ room ≤ 65536)
  · have HN := Lib.hid (anew_no room w h0)
    clear h0
    go_enter Try.func9, Try.ntmps9
    go_wp2_with fail
    refine HN.out.mono ?_
    rintro e y0 ⟨rfl, rfl⟩
    go_wp2_with fail
    refine (HAL.out _).mono ?_
    rintro e y1 ⟨rfl, hB1⟩
    go_wp2_with fail
    go_ret
    exact ⟨rfl, hB1⟩
  have h1 := Classical.not_not.1 h0
  clear h0
  have HN := Lib.hid (anew_ok room w h1)
  by_cases h2 : 100 < room
  · have t1 : decide (100 < room) = true := decide_eq_true h2
    clear h1 h2
    go_enter Try.func9, Try.ntmps9
    go_wp2_with fail
    refine HN.out.mono ?_
    rintro e y0 ⟨rfl, rfl⟩
    go_wp2_with fail
    refine (HAL.out _).mono ?_
    rintro e y1 ⟨rfl, hB1⟩
    go_wp2_with fail
    go_ret
    exact ⟨rfl, bt (below_new _ _) hB1⟩
  have t1 : decide (100 < room) = false := decide_eq_false h2
  by_cases h3 : 100 < z.length
  · have t2 : decide ((100 : Int) < (z.length : Int)) = true := decide_eq_true (by omega)
    have t3 : decide (100 < z.length) = true := decide_eq_true (by omega)
    go_enter Try.func9, Try.ntmps9
    go_wp2_with fail
    refine HN.out.mono ?_
    rintro e y0 ⟨rfl, rfl⟩
    go_wp2_with fail
    refine (HAL.out _).mono ?_
    rintro e y1 ⟨rfl, hB1⟩
    go_wp2_with fail
    go_ret
    exact ⟨rfl, bt (below_new _ _) hB1⟩
  have t2 : decide ((100 : Int) < (z.length : Int)) = false := decide_eq_false (by omega)
  have t3 : decide (100 < z.length) = false := decide_eq_false (by omega)
  have HST := Lib.hid (ast_new room w)
  go_enter Try.func9, Try.ntmps9
  go_wp2_with fail
  refine HN.out.mono ?_
  rintro e y0 ⟨rfl, rfl⟩
  clear HN
  generalize w.alloc (aZ room) = y0 at *
  go_wp2_with fail
  clear t1 t2 t3
  go_loopw [35] (fun k wr => ∃ (j : Nat) (a2 : Ar), k = .int .i64 (j : Int) ∧ (j : Int) ≤ room ∧ ASt w w.heap.size a2 wr ∧ Fill a2 room j) (fun k _ => room.toNat - (intOf k).toNat)
  case atStart => exact ⟨0, Ar.new room, rfl, h1.1, HST.out, AG.new room h1, rfl, rfl⟩
  case round =>
    clear HST
    obtain ⟨j, a2, rfl, hj, hst, hfl⟩ := hrel
    have HS := Lib.hid hst
    have HF := Lib.hid hfl
    clear hst hfl
    by_cases hlt : (j : Int) < room
    · have t1 : decide ((j : Int) < room) = true := decide_eq_true hlt
      have HF2 := Lib.hid (fill_put HF.out hlt)
      have HPT := Lib.hid (aput_s HS.out HF.out.1 1)
      go_wp2_with fail
      refine HPT.out.mono ?_
      rintro e y1 ⟨rfl, hst⟩
      go_wp2_with fail
      go_roundw
      case rel => exact ⟨j + 1, _, by go_num, by omega, hst, HF2.out⟩
      case measure => simp [intOf]; omega
    · have t1 : decide ((j : Int) < room) = false := decide_eq_false hlt
      have hjr : (j : Int) = room := by omega
      have HLS : Hid (LastSt w w.heap.size room a2 (.slice none 0 0) [] wr) := by
        obtain ⟨S, s1, s2⟩ := HS.out
        exact ⟨S, s1, s2, ⟨HF.out.1, by rw [HF.out.2.2]; exact hjr⟩, World.ownsRow_nil _ _ _ _, fun b hb => by cases hb⟩
      have HFR := Lib.hid HF.out.2.1
      clear HF HS hjr
      go_wp2_with fail
      clear t1
      go_loopw [7, 42] (fun v k wr2 => ∃ (i : Nat) (a3 : Ar), k = .int .i64 (i : Int) ∧ i ≤ z.length ∧ LastSt w w.heap.size room a3 v a3.free wr2) (fun _ k _ => z.length - (intOf k).toNat)
      case atStart => exact ⟨0, a2, rfl, Nat.zero_le _, by rw [HFR.out]; exact HLS.out⟩
      case round =>
        clear HLS HFR
        obtain ⟨i, a3, rfl, hi2, hst⟩ := hrel
        have HS := Lib.hid hst
        obtain ⟨va, vc, hv, _, _⟩ := own_slice hst.row
        subst hv
        clear hst
        by_cases hlt2 : i < z.length
        · obtain ⟨b, off, rfl, hc⟩ := (HR.out.below HS.out.bel) (by omega)
          have c1 := hc i hlt2
          have ti0 : (0 : Int) ≤ (i : Int) := by omega
          have ti1 : (i : Int) < (z.length : Int) := by omega
          clear hc
          generalize z[i] = o at *
          cases ho : a3.is o with
          | false =>
            have HFN := Lib.hid (last_free_no HS.out o ho)
            clear ho
            go_wp2_with fail
            refine HFN.out.mono ?_
            rintro e y1 ⟨rfl, hst⟩
            go_wp2_with fail
            go_roundw
            case rel => exact ⟨i + 1, a3, by go_num, by omega, hst⟩
            case measure => simp [intOf]; omega
          | true =>
            have HFY := Lib.hid (last_free_yes HS.out o ho)
            have hfl := HS.out.ag.1.len.2
            clear ho
            go_wp2_with fail
            refine HFY.out.mono ?_
            rintro e y1 ⟨rfl, hst⟩
            have HS1 := Lib.hid hst
            have HS2 := Lib.hid (hst.below (below_new y1 (.cells #[.int .i64 o] 3)))
            have hbl : w.heap.size ≤ (y1.alloc (.cells #[.int .i64 o] 3)).heap.size := HS2.out.bel.size
            clear hst c1
            go_upto_region 14 with (at_builtin; refine wpList_append_lies _ rfl _ _ 28 rfl w.heap.size 3 i0 _ 1 8 Try.underlying28 hi hz0 hz1 hz2 rfl (by omega) _ a3.free.length (a3.free.map nv) (by rfl) HS2.out.row ⟨y1.heap.size, 0, none⟩ 1 1 [.int .i64 o] (by rfl) rfl (World.news_of_block (heap_alloc_new y1 _)) (by simp [Value.oneCell']) (by omega) (by unfold maxLen; omega) (by omega) hbl _ rfl ?_; intro g2 cap2 w1 hown1 hgrow1 hat1 hlt1; have HO1 := Lib.hid hown1; have HG1 := Lib.hid hgrow1; have HT1 := Lib.hid hat1; clear hown1 hgrow1 hat1)
            have HS3 : Hid (LastSt w w.heap.size room { a3 with free := a3.free ++ [o] } (.slice (some ⟨g2, 0, none⟩) (a3.free.length + 1) cap2) (a3.free ++ [o]) w1) := by
              refine last_grow HS2.out HG1.out ?_ (fun b hb => ?_)
              · have h := HO1.out
                rw [List.map_append, List.length_append]
                exact h
              · have e : g2 = b := by simpa [Value.ownBlock] using hb
                subst e
                exact HT1.out
            go_wp2_with fail
            go_roundw
            case rel => exact ⟨i + 1, _, by go_num, by omega, HS3.out⟩
            case measure => simp [intOf]; omega
        · have HFL := Lib.hid HS.out.ag.1.len.2
          have hfl := HS.out.ag.1.len.2
          obtain ⟨fs, hfs⟩ : ∃ fs, a3.free = fs := ⟨_, rfl⟩
          have HFS := Lib.hid hfs
          have HS5 : Hid (LastSt w w.heap.size room a3 (.slice va fs.length vc) fs wr) := by have := HS.out; rw [hfs] at this; exact this
          rw [hfs] at hfl
          rw [hfs]
          clear HS HFL hfs HR
          obtain rfl : i = z.length := by omega
          go_wp2_with fail
          go_loopw [10] (fun k wr3 => ∃ (q : Int) (m : Nat) (a4 : Ar), k = .int .i64 q ∧ q + 1 = (m : Int) ∧ m ≤ fs.length ∧ LastSt w w.heap.size room a4 (.slice va fs.length vc) fs wr3 ∧ a4.free = fs.take m) (fun k _ => (intOf k + 1).toNat)
          case atStart => exact ⟨_, fs.length, a3, rfl, by omega, Nat.le_refl _, HS5.out, by rw [HFS.out, List.take_length]⟩
          case round =>
            clear HS5 HFS
            obtain ⟨q, m, a4, rfl, hq, hm, hst, hfr⟩ := hrel
            have HS := Lib.hid hst
            have HFR := Lib.hid hfr
            clear hst hfr
            cases m with
            | zero =>
              obtain rfl : q = -1 := by omega
              have HLN : Hid (a4.len = room) := by
                show _ = _
                unfold Ar.len
                rw [HS.out.ag.2, HFR.out]; simp
              have HLE := Lib.hid (fun W (h : ASt w w.heap.size a4 W) => alen_s h HS.out.ag.1)
              rw [HLN.out] at HLE
              have t4 : (room == room) = true := beq_self_eq_true _
              go_wp2_with fail
              refine (HAL.out _).mono ?_
              rintro e y3 ⟨rfl, hb3⟩
              have HS3 := Lib.hid (HS.out.ast.below hb3)
              clear hb3
              go_wp2_with fail
              refine (HLE.out _ HS3.out).mono ?_
              rintro e y4 ⟨rfl, hb4⟩
              go_wp2_with fail
              go_ret
              exact ⟨rfl, bt HS3.out.bel hb4⟩
            | succ m =>
              obtain rfl : q = (m : Int) := by omega
              have hmm : m < fs.length := by omega
              have HTK := Lib.hid (HFR.out.trans (List.take_succ_eq_append_getElem hmm))
              have HPT := Lib.hid (last_put HS.out 2 fs[m] (i64_small _ (by decide)) HTK.out)
              obtain ⟨g, e0, _, hcm, _⟩ := own_at HS.out.row rfl m hmm
              subst e0
              clear HTK HFR
              have t1 : decide ((0 : Int) ≤ (m : Int)) = true := decide_eq_true (by omega)
              have ti0 : (0 : Int) ≤ (m : Int) := by omega
              have ti1 : (m : Int) < (fs.length : Int) := by omega
              clear hcm
              go_wp2_with fail
              refine HPT.out.mono ?_
              rintro e y1 ⟨rfl, hst⟩
              have HS1 := Lib.hid hst
              obtain ⟨g', e0, _, hcm, _⟩ := own_at hst.row rfl m hmm
              injection e0 with e0
              injection e0 with e0
              subst e0
              clear hst
              have t2 : (fs[m] != fs[m]) = false := bne_self_eq_false _
              clear HS HPT
              go_wp2_with fail
              go_roundw
              case rel => exact ⟨(m : Int) - 1, m, _, by go_num, by omega, by omega, HS1.out, rfl⟩
              case measure => simp [intOf] <;> omega
end Go.Proofs.Ytdebmokpdchgpaa
