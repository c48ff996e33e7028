/-
  Rows of keys; the contract of the reference's Index.
-/
import Derived.Test.YtapojahoaglgaaaDoorKR3
namespace Go.Proofs.YtapojahoaglgaaaDoor
open Go.RowKit

/-- Keys lie in a row. -/
def Rk (w : World) (al : Option Addr) (Ks : List (List Int)) : Prop :=
  ∀ i, i < Ks.length → ∃ b off, al = some ⟨b, off, none⟩ ∧ b < w.heap.size ∧ w.rangeAt b (off + i * 32) ((Ks.getD i []).map (Value.int .u8)) ∧ (Ks.getD i []).length = 32
theorem Rk.below {w w' : World} {al : Option Addr} {Ks : List (List Int)} (h : Rk w al Ks) (hb : Below w.heap.size w w') : Rk w' al Ks := fun i hi => by
  obtain ⟨b, off, e, hlt, hr, hl⟩ := h i hi
  refine ⟨b, off, e, by have := hb.size; omega, fun j v hv => ?_, hl⟩
  rw [hb.cell (p := ⟨b, off + i * 32 + j, none⟩) hlt]
  exact hr j v hv
/-- The first place of a key from i on; -1 if it is not there. -/
def idxL (k : List Int) : List (List Int) → Nat → Int
  | [], _ => -1
  | x :: r, i => if x = k then (i : Int) else idxL k r (i + 1)
theorem idxL_at (k : List Int) (Ks : List (List Int)) (i : Nat) (h : i < Ks.length) : idxL k (Ks.drop i) i = if Ks.getD i [] = k then (i : Int) else idxL k (Ks.drop (i + 1)) (i + 1) := by
  rw [List.drop_eq_getElem_cons h]
  have : Ks.getD i [] = Ks[i] := by simp [List.getD, List.getElem?_eq_getElem h]
  rw [this]
  rfl

set_option maxRecDepth 100000 in
set_option maxHeartbeats 4000000 in
theorem refindex_any (al : Option Addr) (c : Nat) (Ks : List (List Int)) (k : List Int) (w : World) (hk : k.length = 32) (hR : Rk w al Ks) (hl : Ks.length ≤ 1000) :
    Calls Tryd.prog 27 #[.slice al Ks.length c, .agg (w8s k)] w fun e w' => e = .returned (.int .i64 (idxL k Ks 0)) ∧ Below w.heap.size w w' := by
  go_enter Tryd.func27, Tryd.ntmps27
  go_upto_region 1 with fail
  have h1 : Ab (w.alloc (.cells (w8s k) 25)) w.heap.size 25 k := heap_alloc_last w _
  have h3 : Below w.heap.size w (w.alloc (.cells (w8s k) 25)) := (Below.refl _ w).alloc (by simp) _
  generalize w.alloc (.cells (w8s k) 25) = W at *
  have H1 := Lib.hid h1
  have H3 := Lib.hid h3
  have HK := Lib.hid hk
  have HR := Lib.hid hR
  clear h1 h3 hk hR
  generalize hn : Ks.length = n at *
  have HN := Lib.hid hn
  clear hn
  go_wp2_with fail
  go_loopg [9] n (fun g s9 wx => ∃ i : Nat, i ≤ n ∧ s9 = .int .i64 i ∧ Ab wx w.heap.size 25 k ∧ Below w.heap.size w wx ∧ Hid (idxL k Ks 0 = idxL k (Ks.drop i) i) ∧ n - i = g)
  case atStart => exact ⟨0, by omega, by go_num, H1.out, H3.out, Lib.hid rfl, rfl⟩
  case round =>
    clear H1 H3 W
    obtain ⟨i, hi, rfl, hA, hW, hc, hgk⟩ := hrel
    by_cases hlt : i < n
    · obtain ⟨b, off, rfl, hb, hr, hx⟩ := HR.out i (by rw [HN.out]; exact hlt)
      have hrw : wr.rangeAt b (off + i * 32) ((Ks.getD i []).map (Value.int .u8)) := fun j v hv => (hW.cell (p := ⟨b, off + i * 32 + j, none⟩) hb).trans (hr j v hv)
      have hcc := hc.out.trans (idxL_at k Ks i (by rw [HN.out]; exact hlt))
      have hsz := hW.size
      generalize Ks.getD i [] = x at *
      go_upto_region 3 with fail
      have hsx : (w8s x).size = 32 := by simp [hx]
      have hsk : (w8s k).size = 32 := by simp [HK.out]
      apply wp_region_lit
      refine wpList_plain rfl (fun K hK => ?_)
      go_simp
      apply hK
      clear hK K
      refine wpList_plain rfl (fun K hK => ?_)
      go_simp
      apply hK
      clear hK K
      apply wpList_load_mid (ty := 25) (x := .tmp 12) (b := b) (o := off + i * 32) (cs := x.map (Value.int .u8)) (d := .array 32 5)
      case hgd => rfl
      case ho => rfl
      case hx => kernel_rfl
      case hc => exact hrw
      case hu => kernel_rfl
      case hd => rfl
      case hi => rw [List.length_map, hx]; kernel_rfl
      refine run_to rfl (some 6) rfl (.pointer (some ⟨wr.heap.size, 0, none⟩)) (wr.alloc (.cells (w8s (List.replicate 32 0)) 25)) (by kernel_rfl) ?_
      refine run_to rfl (some 5) rfl (.int .i64 i) (wr.alloc (.cells (w8s (List.replicate 32 0)) 25)) (by kernel_rfl) ?_
      apply wpList_store_new (w := wr) (ty := 25) (x := .tmp 6) (y := .tmp 13) (c := w8s (List.replicate 32 0)) (c' := w8s x)
      case hgd => rfl
      case ho => rfl
      case hx => kernel_rfl
      case hy => kernel_rfl
      case hi => rw [hsx]; kernel_rfl
      case hz => rw [hsx]; rfl
      case h1 => exact one_w8s _
      apply wpList_nil
      have hN : Ab (wr.alloc (.cells (w8s x) 25)) wr.heap.size 25 x := heap_alloc_last _ _
      have hA2 := hA.alloc (.cells (w8s x) 25)
      have hW2 := hW.alloc hW.size (.cells (w8s x) 25)
      generalize wr.alloc (.cells (w8s x) 25) = V at *
      generalize wr.heap.size = gx at *
      clear hA hW hrw wr
      go_upto_region 4 with fail
      apply wp_region_lit
      apply wpList_load_row (ty := 25) (x := .tmp 6) (g := gx) (t := 25) (cs := w8s x) (fr := (0, 0)) (d := .array 32 5)
      case hgd => rfl
      case ho => rfl
      case hx => kernel_rfl
      case hg => exact hN
      case hu => kernel_rfl
      case hd => rfl
      case hi => rw [hsx]; kernel_rfl
      apply wpList_load_row (ty := 25) (x := .tmp 3) (g := w.heap.size) (t := 25) (cs := w8s k) (fr := (0, 0)) (d := .array 32 5)
      case hgd => rfl
      case ho => rfl
      case hx => kernel_rfl
      case hg => exact hA2
      case hu => kernel_rfl
      case hd => rfl
      case hi => rw [hsk]; kernel_rfl
      have hke := key_cmp x k hx HK.out V
      have hkg : Tryd.prog.eqGuardType Tryd.prog.depth 25 = false := by kernel_rfl
      by_cases hxk : x = k
      · rw [if_pos hxk] at hcc
        have hb1 : (x == k) = true := by simpa using hxk
        rw [hb1] at hke
        have HC := Lib.hid hcc
        have HW2 := Lib.hid hW2
        clear hcc hW2 hb1 hxk
        go_wp2_with fail
        go_ret
        exact ⟨by rw [HC.out]; rfl, HW2.out⟩
      · rw [if_neg hxk] at hcc
        have hb1 : (x == k) = false := by simpa using hxk
        rw [hb1] at hke
        have HC := Lib.hid hcc
        have HW2 := Lib.hid hW2
        have HA2 := Lib.hid hA2
        clear hcc hW2 hb1 hxk hA2 hN
        go_wp2_with fail
        go_roundg (n - (i + 1))
        case measure => omega
        case rel => exact ⟨i + 1, by omega, by go_num, HA2.out, HW2.out, HC, rfl⟩
    · have kc := hc.out
      rw [List.drop_eq_nil_of_le (by rw [HN.out]; omega)] at kc
      have KC := Lib.hid kc
      clear kc hc
      go_wp2_with fail
      go_ret
      exact ⟨by rw [KC.out]; rfl, hW⟩
end Go.Proofs.YtapojahoaglgaaaDoor
