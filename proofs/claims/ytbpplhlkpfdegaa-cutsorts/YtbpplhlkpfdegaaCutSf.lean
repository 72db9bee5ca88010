/- slices.SortFunc by cut.Compare over a row of cuts. -/
import Derived.Test.YtbpplhlkpfdegaaSortLay
import Derived.Test.YtbpplhlkpfdegaaCutCp
namespace Go.Proofs.Ytbpplhlkpfdegaa
open Go.RowKit Go.Sort Go.Shelf Go.Proofs.Ytbpplhlkpfdegaa.Bo
set_option linter.unusedVariables false

/-- A key, with the word that it is one. -/
abbrev KY := {k : Int // Ky k}
instance : Inhabited KY := ⟨⟨0, by decide, by decide⟩⟩
def encK (x : KY) : List Value := [.int .i64 (sd x.1), .int .i64 (pa x.1)]
def cfK (x y : KY) : Int := kcmp x.1 y.1
theorem ltK (x y : KY) : ltOf cfK x y = decide (x.1 < y.1) := by
  unfold ltOf cfK kcmp
  by_cases h : x.1 < y.1
  · simp [h]
  · by_cases h2 : y.1 < x.1 <;> simp [h, h2]
theorem swoK : SWO (ltOf cfK) where
  irrefl x := by rw [ltK]; simp
  trans x y z h1 h2 := by rw [ltK] at *; simp at *; omega
  ntrans x y z h1 h2 := by rw [ltK] at *; simp at *; omega

theorem cmpLaysK (blk off size : Nat) (w : World) : CmpLays Try.prog 6 #[] encK 2 cfK blk off size w := by
  intro m os dk _ x y
  have h := compare_any (sd x.1) (pa x.1) (sd y.1) (pa y.1) (sortWorldK encK 2 w blk off m dk os) (pa_i64 _ x.2) (pa_i64 _ y.2)
  rw [key_back _ x.2, key_back _ y.2] at h
  exact h.mono fun _ _ h => ⟨h.1, h.2.grown⟩

/-- The row as the sort's kit holds it. -/
theorem holds_row {w : World} {g cap : Nat} {ks : List Int} (h : RowAt w g cap ks) (d : Array KY) (hd : d.toList.map (·.1) = ks) : HoldsK encK 2 w g 0 d := by
  have hl : d.size = ks.length := by rw [← hd]; simp
  intro j hj
  rw [size_flatK] at hj
  rw [get_flatK _ _ _ _ hj]
  have hq : j / 2 < ks.length := by omega
  have hc := h.2.2 (j / 2) hq
  have e : (d[j / 2]!).1 = ks[j / 2] := by
    rw [getElem!_pos d (j / 2) (by omega)]
    have : (d.toList.map (·.1))[j / 2]'(by simp; omega) = ks[j / 2] := by simp only [hd]
    simpa using this
  refine ⟨?_, h.1.free _⟩
  rcases Nat.mod_two_eq_zero_or_one j with e2 | e2
  · rw [e2, show 0 + j = j / 2 * 2 by omega, hc.1, ← e]; rfl
  · rw [e2, show 0 + j = j / 2 * 2 + 1 by omega, hc.2, ← e]; rfl
theorem row_holds {w : World} {g cap : Nat} {ks : List Int} (d : Array KY) (hd : d.toList.map (·.1) = ks) (hb : Blk w g cap) (hl : ks.length ≤ cap) (h : HoldsK encK 2 w g 0 d) : RowAt w g cap ks := by
  have hs : d.size = ks.length := by rw [← hd]; simp
  refine ⟨hb, hl, fun j hj => ?_⟩
  have e : (d[j]!).1 = ks[j] := by
    rw [getElem!_pos d j (by omega)]
    have : (d.toList.map (·.1))[j]'(by simp; omega) = ks[j] := by simp only [hd]
    simpa using this
  have c0 := (h.cell (i := j) (c := 0) (by omega) (by omega)).1
  have c1 := (h.cell (i := j) (c := 1) (by omega) (by omega)).1
  rw [Nat.zero_add, Nat.add_zero] at c0
  rw [Nat.zero_add] at c1
  rw [c0, c1, ← e]
  exact ⟨rfl, rfl⟩
theorem blk_sorted {w : World} {g cap : Nat} (h : Blk w g cap) (m : Nat) (d : Array KY) (os : Array Obj) : Blk (sortWorldK encK 2 w g 0 m d os) g cap := by
  obtain ⟨cur, h1, h2⟩ := h
  refine ⟨putCells id 0 (flatK encK 2 d) cur, ?_, by simp [putCells, h2]⟩
  unfold sortWorldK putRowK putRow mapBlock grow
  rw [Array.getElem?_append_left (by simp; exact lt_of_block h1)]
  simp only [Array.getElem?_modify, if_true, heap_ahead, h1]
  rfl
theorem below_sorted {w : World} {B g : Nat} (hB : B ≤ g) (hg : g < w.heap.size) (m : Nat) (d : Array KY) (os : Array Obj) : Go.RowKit.Below B w (sortWorldK encK 2 w g 0 m d os) := by
  refine ⟨rfl, rfl, rfl, ?_, fun k hk => ?_⟩
  · unfold sortWorldK; rw [size_grow]; simp [putRowK]
  · unfold sortWorldK putRowK putRow mapBlock grow
    rw [Array.getElem?_append_left (by simp; omega)]
    simp only [Array.getElem?_modify, heap_ahead]
    rw [if_neg (by omega)]

theorem sortfunc_any (B g cap : Nat) (ks : List Int) (w : World) (hB : B ≤ g) (hrow : RowAt w g cap ks) (hky : ∀ k ∈ ks, Ky k) (hn : ks.length ≤ 100000) :
    Calls Try.prog 20 #[.slice (some ⟨g, 0, none⟩) ks.length cap, .func (.func 6) #[] #[]] w fun e w' =>
      (e = .returned (.tuple #[]) ∧ ∃ ls : List Int, ls.length = ks.length ∧ ls.Pairwise (· ≤ ·) ∧ (∀ x, x ∈ ls ↔ x ∈ ks) ∧ RowAt w' g cap ls) ∧ Go.RowKit.Below B w w' := by
  have eg : ∀ args w, (callFunc 6 args).run Try.prog w = .ok (.enter 6 args) w := enters_of Try.func6 (by kernel_rfl) rfl
  obtain ⟨d, hd⟩ : ∃ d : Array KY, d.toList.map (·.1) = ks := ⟨(ks.attachWith Ky hky).toArray, by simp⟩
  have hs : d.size = ks.length := by rw [← hd]; simp
  have hH := holds_row hrow d hd
  have h := AnyQ.slices_SortFunc sortCut 2 (fun w => Try.isAgg27 w) (fun w => Try.sizeOf27 w) encK (fun _ => rfl) (fun x v hv => by simp [encK] at hv; rcases hv with rfl | rfl <;> rfl) cfK swoK 6 #[] g 0 cap d w eg (cmpLaysK g 0 d.size w) hH hrow.1.lt (by omega)
  rw [hs] at h
  refine h.mono ?_
  rintro e w' ⟨he, d', n, os, hp, hst, rfl⟩
  have hs' : d'.size = d.size := hp.1
  have hperm : d'.toList.Perm d.toList := by
    have := hp.2.2
    rw [← hs, Array.extract_size] at this
    rwa [show d'.extract 0 d.size = d' from by rw [← hs', Array.extract_size]] at this
  refine ⟨⟨he, d'.toList.map (·.1), by simp; omega, ?_, fun x => ?_, ?_⟩, below_sorted hB hrow.1.lt n d' os⟩
  · rw [List.pairwise_map, List.pairwise_iff_getElem]
    intro i j hi hj hij
    have hi' : i < d'.size := by simpa using hi
    have hj' : j < d'.size := by simpa using hj
    have := hst i j (Nat.zero_le _) hij (by omega)
    rw [ltK, getElem!_pos d' i hi', getElem!_pos d' j hj'] at this
    simp at this
    simpa using this
  · rw [← hd]
    exact (hperm.map (·.1)).mem_iff
  · refine row_holds d' rfl (blk_sorted hrow.1 n d' os) (by simp; have := hrow.2.1; omega) ?_
    exact holdsK_sortWorldK_c encK 2 w g 0 d d' n os hH hrow.1.lt hs'
end Go.Proofs.Ytbpplhlkpfdegaa
