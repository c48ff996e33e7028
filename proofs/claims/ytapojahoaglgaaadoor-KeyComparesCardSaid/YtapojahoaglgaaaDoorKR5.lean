/-
  The contracts of the reference's Has and Distinct.
-/
import Derived.Test.YtapojahoaglgaaaDoorKR4
namespace Go.Proofs.YtapojahoaglgaaaDoor
open Go.RowKit

/-- Is a key in a list? -/
def hasL (k : List Int) (Ks : List (List Int)) : Bool := Ks.any (· == k)
theorem idxL_has' (k : List Int) : ∀ (Ks : List (List Int)) (i : Nat), 0 ≤ idxL k Ks i ↔ hasL k Ks = true
  | [], i => by simp [idxL, hasL]
  | x :: r, i => by
    have ih := idxL_has' k r (i + 1)
    by_cases h : x = k
    · have e : idxL k (x :: r) i = (i : Int) := if_pos h
      rw [e]
      simp [hasL, h]
    · have e : idxL k (x :: r) i = idxL k r (i + 1) := if_neg h
      rw [e, ih]
      simp [hasL, h]
theorem idxL_has (k : List Int) (Ks : List (List Int)) (i : Nat) : decide (0 ≤ idxL k Ks i) = hasL k Ks := by
  rw [Bool.eq_iff_iff, decide_eq_true_iff]
  exact idxL_has' k Ks i
/-- Has no key twice? The first i keys are looked through. -/
def distL (Ks : List (List Int)) (i : Nat) : Bool := (List.range i).all fun j => !hasL (Ks.getD j []) (Ks.take j)

set_option maxRecDepth 100000 in
set_option maxHeartbeats 4000000 in
theorem refhas_any (al : Option Addr) (c : Nat) (Ks : List (List Int)) (k : List Int) (w : World) (hk : k.length = 32) (hR : Rk w al Ks) (hl : Ks.length ≤ 1000) :
    Calls Tryd.prog 18 #[.slice al Ks.length c, .agg (w8s k)] w fun e w' => e = .returned (.bool (hasL k Ks)) ∧ Below w.heap.size w w' := by
  have hh := idxL_has k Ks 0
  have h3 : Below w.heap.size w (w.alloc (.cells (w8s k) 25)) := (Below.refl _ w).alloc (by simp) _
  have CI := refindex_any al c Ks k (w.alloc (.cells (w8s k) 25)) hk (hR.below h3) hl
  have h1 : Ab (w.alloc (.cells (w8s k) 25)) w.heap.size 25 k := heap_alloc_last w _
  have hsk : (w8s k).size = 32 := by simp [hk]
  generalize idxL k Ks 0 = q at *
  generalize hasL k Ks = hb at *
  go_enter Tryd.func18, Tryd.ntmps18
  go_upto_region 1 with fail
  generalize w.alloc (.cells (w8s k) 25) = W at *
  apply wp_region_lit
  refine wpList_plain rfl (fun K hK => ?_)
  go_simp
  apply hK
  clear hK K
  apply wpList_load_row (ty := 25) (x := .tmp 3) (g := w.heap.size) (t := 25) (cs := w8s k) (fr := (0, 0)) (d := .array 32 5)
  case hgd => rfl
  case ho => rfl
  case hx => kernel_rfl
  case hg => exact h1
  case hu => kernel_rfl
  case hd => rfl
  case hi => rw [hsk]; kernel_rfl
  refine wpList_plain rfl (fun K hK => ?_)
  go_simp
  refine CI.mono ?_
  rintro e w2 ⟨rfl, hb2⟩
  apply hK
  clear hK K CI
  have hbb := h3.trans (hb2.mono h3.size)
  have HH := Lib.hid hh
  clear hh
  go_wp2_with fail
  go_ret
  exact ⟨by rw [← HH.out]; rfl, hbb⟩
end Go.Proofs.YtapojahoaglgaaaDoor
