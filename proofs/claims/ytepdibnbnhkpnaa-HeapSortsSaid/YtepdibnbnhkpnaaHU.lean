/-
  The program's heap: Sorted.
-/
import Derived.Test.YtepdibnbnhkpnaaHT
import Derived.Test.YtepdibnbnhkpnaaHZ
namespace Go.Proofs.Ytepdibnbnhkpnaa
open Go.RowKit Go.Shelf Go.Sort
set_option linter.unusedSimpArgs false
set_option linter.unusedVariables false

/-- The cells of a row of items, as the library's sort counts them. -/
theorem itc_cell (A : List It) (j : Nat) (hj : j < A.length * 3) : (itc A)[j]? = some ((itl (A.toArray[j / 3]!))[j % 3]!) := by
  have hk : j / 3 < A.length := by omega
  obtain ⟨h0, h1, h2⟩ := itc_at A (j / 3) hk
  have e : A.toArray[j / 3]! = ita A (j / 3) := by
    rw [ita_get hk, getElem!_pos A.toArray (j / 3) (by simpa using hk)]
    simp
  rw [e]
  rcases (show j % 3 = 0 ∨ j % 3 = 1 ∨ j % 3 = 2 by omega) with h | h | h
  · rw [show j = j / 3 * 3 by omega, h0, show j / 3 * 3 / 3 = j / 3 by omega, show j / 3 * 3 % 3 = 0 by omega]; rfl
  · rw [show j = j / 3 * 3 + 1 by omega, h1, show (j / 3 * 3 + 1) / 3 = j / 3 by omega, show (j / 3 * 3 + 1) % 3 = 1 by omega]; rfl
  · rw [show j = j / 3 * 3 + 2 by omega, h2, show (j / 3 * 3 + 2) / 3 = j / 3 by omega, show (j / 3 * 3 + 2) % 3 = 2 by omega]; rfl
theorem holds_of {w : World} {B n c g : Nat} {A : List It} (h : w.ownsRow B 24 3 (.slice (some ⟨g, 0, none⟩) n c) n (itc A)) : HoldsK itl 3 w g 0 A.toArray := by
  have hn : n = A.length := by have := h.1; rw [itc_len] at this; omega
  obtain ⟨cur, hX, hz, -, ht⟩ := own_row h
  intro j hj
  rw [size_flatK] at hj
  have hj3 : j < A.length * 3 := by simpa using hj
  have hcl : cur.toList.length = cur.size := Array.length_toList
  rw [get_flatK _ _ _ _ hj]
  refine ⟨?_, frozen_of_row w g _ _ 24 hX⟩
  rw [Nat.zero_add, cell_of_row w g _ _ 24 (0, 0) hX]
  have h2 := itc_cell A j hj3
  rw [← ht, List.getElem?_take_of_lt (by omega), Array.getElem?_toList] at h2
  exact h2
theorem holds_cs {w : World} {g : Nat} {M : List It} (hg : g < w.heap.size) (h : HoldsK itl 3 w g 0 M.toArray) : Cs w (some ⟨g, 0, none⟩) (itc M) := fun j v hj => by
  have hl : j < M.length * 3 := by
    have := (List.getElem?_eq_some_iff.1 hj).1
    rwa [itc_len] at this
  refine ⟨g, 0, rfl, hg, ?_⟩
  have h2 := (h j (by rw [size_flatK]; simpa using hl)).1
  rw [h2, get_flatK _ _ _ _ (by simpa using hl)]
  rw [itc_cell M j hl] at hj
  exact hj
theorem gd_grow {W V : World} (h : Gd W V) : ∃ q os, V = grow (W.drewN q) os := by
  refine ⟨V.drawn - W.drawn, V.heap.extract W.heap.size V.heap.size, ?_⟩
  obtain ⟨⟨h1, h2, h3, h4, h5⟩, h6⟩ := h
  have hd : W.drawn + (V.drawn - W.drawn) = V.drawn := by omega
  have hh : W.heap ++ V.heap.extract W.heap.size V.heap.size = V.heap := by
    apply Array.ext_getElem?
    intro i
    by_cases hi : i < W.heap.size
    · rw [Array.getElem?_append_left hi, h5 i hi]
    · rw [Array.getElem?_append_right (by omega), Array.getElem?_extract]
      by_cases h7 : i - W.heap.size < min V.heap.size V.heap.size - W.heap.size
      · rw [if_pos h7, show W.heap.size + (i - W.heap.size) = i by omega]
      · rw [if_neg h7]
        rw [Array.getElem?_eq_none (by omega)]
  unfold grow World.drewN
  cases V
  simp only at *
  subst h1 h2 h3
  rw [hd, hh]
theorem sort_below {w : World} {g n B : Nat} {dk : Array It} {os : Array Obj} (hB : B ≤ g) (hw : B ≤ w.heap.size) : Below B w (sortWorldK itl 3 w g 0 n dk os) := by
  have hs : (putRowK itl 3 (Sort.ahead w n) g 0 dk).heap.size = w.heap.size := by rw [size_putRowK]; rfl
  refine ⟨rfl, rfl, rfl, by unfold sortWorldK; rw [size_grow, hs]; omega, fun k hk => ?_⟩
  show ((putRowK itl 3 (Sort.ahead w n) g 0 dk).heap ++ os)[k]? = w.heap[k]?
  rw [Array.getElem?_append_left (by omega)]
  show (w.heap.modify g _)[k]? = w.heap[k]?
  rw [Array.getElem?_modify, if_neg (by omega)]
theorem lt_cp (x y : It) : ltOf cpIt x y = bf x y := cpIt_lt x y
theorem swo_cp : SWO (ltOf cpIt) where
  irrefl x := by rw [lt_cp]; exact bf_irr x
  trans x y z h1 h2 := by rw [lt_cp] at *; exact bf_trans h1 h2
  ntrans x y z h1 h2 := by rw [lt_cp] at *; exact bf_ntr h1 h2
theorem sort_is {A M : List It} (hp : A.Perm M) (hs : M.Pairwise fun a b => bf a b = true) : A.mergeSort (fun x y => !(ltOf cpIt) y x) = M := by
  refine List.Perm.eq_of_pairwise (le := fun x y => (!(ltOf cpIt) y x) = true) (fun a b _ _ h1 h2 => ?_) (List.pairwise_mergeSort (fun a b c h1 h2 => ?_) (fun a b => ?_) A) ?_ ((List.mergeSort_perm _ _).trans hp)
  · simp only [lt_cp, Bool.not_eq_true'] at h1 h2
    by_cases e : a = b
    · exact e
    · rw [bf_tot e h2] at h1; cases h1
  · simp only [lt_cp, Bool.not_eq_true'] at h1 h2 ⊢
    exact bf_ntr h2 h1
  · simp only [lt_cp]
    cases h : bf b a with
    | false => rfl
    | true => rw [bf_asym h]; rfl
  · exact hs.imp fun h => by rw [lt_cp, bf_asym h]; rfl
theorem cmp_lays (blk off size : Nat) (w : World) : CmpLays Try.prog 25 #[] itl 3 cpIt blk off size w := fun m os dk hs x y =>
  (cmp_it x y _).mono fun e w' q => ⟨q.1, gd_grow q.2⟩
set_option maxRecDepth 100000 in
set_option maxHeartbeats 4000000 in
theorem sort_any {w : World} {B n c g : Nat} {A M : List It} (h : w.ownsRow B 24 3 (.slice (some ⟨g, 0, none⟩) n c) n (itc A)) (hB : B ≤ w.heap.size) (hBg : B ≤ g) (hp : A.Perm M) (hs : M.Pairwise fun a b => bf a b = true) (hl : A.length ≤ 100000) :
    Calls Try.prog 29 #[.slice (some ⟨g, 0, none⟩) n c, .func (.func 25) #[] #[]] w fun e w' => e = .returned (.tuple #[]) ∧ Cs w' (some ⟨g, 0, none⟩) (itc M) ∧ Below B w w' := by
  have hn : A.toArray.size = n := by have := h.1; rw [itc_len] at this; simp; omega
  have hg : g < w.heap.size := (h.lt g rfl).2
  have hH := holds_of h
  have eg : ∀ args W, (callFunc 25 args).run Try.prog W = .ok (.enter 25 args) W := enters_of Try.func25 (by kernel_rfl) rfl
  have hcon := AnyQ.slices_SortFunc_total sortI 3 Try.isAgg24 Try.sizeOf24 itl (fun _ => rfl) (fun x v hv => itc_one [x] v (by simpa [itc] using hv)) cpIt swo_cp 25 #[] g 0 c A.toArray w eg (cmp_lays g 0 A.toArray.size w) hH hg (by rw [hn]; have := h.1; rw [itc_len] at this; omega) (fun x y h1 h2 => by
    rw [lt_cp] at h1 h2
    by_cases e : x = y
    · exact e
    · rw [bf_tot e h1] at h2; cases h2)
  rw [List.toList_toArray, sort_is hp hs, hn] at hcon
  change Calls Try.prog 29 _ _ _ at hcon
  refine hcon.mono ?_
  rintro e w' ⟨rfl, m, os, rfl⟩
  refine ⟨rfl, holds_cs ?_ ?_, sort_below hBg hB⟩
  · exact lt_sortWorldK itl 3 w g 0 m M.toArray os hg
  · exact holdsK_sortWorldK itl 3 w g 0 m A.toArray M.toArray os hg hH (by simp [hp.length_eq])
theorem sort_none (p : Option Addr) (c : Nat) (fv : Value) (w : World) : Calls Try.prog 29 #[.slice p 0 c, fv] w fun e w' => e = .returned (.tuple #[]) ∧ w' = w :=
  AnyF.slices_SortFunc_none sortI p c fv w
end Go.Proofs.Ytepdibnbnhkpnaa
