/-
  The contracts of the code's Has and Of.
-/
import Derived.Test.YtapojahoaglgaaaDoorKM1
namespace Go.Proofs.YtapojahoaglgaaaDoor
open Go.RowKit

theorem hasL_at (k : List Int) (Ks : List (List Int)) (i : Nat) (h : i < Ks.length) : hasL k (Ks.drop i) = ((Ks.getD i [] == k) || hasL k (Ks.drop (i + 1))) := by
  rw [List.drop_eq_getElem_cons h]
  have : Ks.getD i [] = Ks[i] := by simp [List.getD, List.getElem?_eq_getElem h]
  rw [this]
  rfl

set_option maxRecDepth 100000 in
set_option maxHeartbeats 4000000 in
theorem has_any (al : Option Addr) (c : Nat) (Ks : List (List Int)) (k : List Int) (w : World) (hk : k.length = 32) (hR : Rk w al Ks) (hl : Ks.length ≤ 1000) :
    Calls Tryd.prog 17 #[.slice al Ks.length c, .agg (w8s k)] w fun e w' => e = .returned (.bool (hasL k Ks)) ∧ Below w.heap.size w w' := by
  go_enter Tryd.func17, Tryd.ntmps17
  go_upto_region 1 with fail
  have h1 : Ab (w.alloc (.cells (w8s k) 25)) w.heap.size 25 k := heap_alloc_last w _
  have h3 : Below w.heap.size w (w.alloc (.cells (w8s k) 25)) := (Below.refl _ w).alloc (by simp) _
  generalize w.alloc (.cells (w8s k) 25) = W at *
  have H1 := Lib.hid h1
  have H3 := Lib.hid h3
  have HK := Lib.hid hk
  have HR := Lib.hid hR
  clear h1 h3 hk hR
  generalize hn : Ks.length = n at *
  have HN := Lib.hid hn
  clear hn
  go_wp2_with fail
  go_loopg [9] n (fun g s9 wx => ∃ i : Nat, i ≤ n ∧ s9 = .int .i64 i ∧ Ab wx w.heap.size 25 k ∧ Below w.heap.size w wx ∧ Hid (hasL k Ks = hasL k (Ks.drop i)) ∧ n - i = g)
  case atStart => exact ⟨0, by omega, by go_num, H1.out, H3.out, Lib.hid rfl, rfl⟩
  case round =>
    clear H1 H3 W
    obtain ⟨i, hi, rfl, hA, hW, hc, hgk⟩ := hrel
    by_cases hlt : i < n
    · obtain ⟨b, off, rfl, hb, hr, hx⟩ := HR.out i (by rw [HN.out]; exact hlt)
      have hrw : wr.rangeAt b (off + i * 32) ((Ks.getD i []).map (Value.int .u8)) := fun j v hv => (hW.cell (p := ⟨b, off + i * 32 + j, none⟩) hb).trans (hr j v hv)
      have hcc := hc.out.trans (hasL_at k Ks i (by rw [HN.out]; exact hlt))
      have hsz := hW.size
      generalize Ks.getD i [] = x at *
      go_upto_region 3 with fail
      have hsx : (w8s x).size = 32 := by simp [hx]
      have hsk : (w8s k).size = 32 := by simp [HK.out]
      apply wp_region_lit
      refine wpList_plain rfl (fun K hK => ?_)
      go_simp
      apply hK
      clear hK K
      apply wpList_load_mid (ty := 25) (x := .tmp 11) (b := b) (o := off + i * 32) (cs := x.map (Value.int .u8)) (d := .array 32 5)
      case hgd => rfl
      case ho => rfl
      case hx => kernel_rfl
      case hc => exact hrw
      case hu => kernel_rfl
      case hd => rfl
      case hi => rw [List.length_map, hx]; kernel_rfl
      refine run_to rfl (some 6) rfl (.pointer (some ⟨wr.heap.size, 0, none⟩)) (wr.alloc (.cells (w8s (List.replicate 32 0)) 25)) (by kernel_rfl) ?_
      apply wpList_store_new (w := wr) (ty := 25) (x := .tmp 6) (y := .tmp 12) (c := w8s (List.replicate 32 0)) (c' := w8s x)
      case hgd => rfl
      case ho => rfl
      case hx => kernel_rfl
      case hy => kernel_rfl
      case hi => rw [hsx]; kernel_rfl
      case hz => rw [hsx]; rfl
      case h1 => exact one_w8s _
      apply wpList_nil
      have hN : Ab (wr.alloc (.cells (w8s x) 25)) wr.heap.size 25 x := heap_alloc_last _ _
      have hA2 := hA.alloc (.cells (w8s x) 25)
      have hW2 := hW.alloc hW.size (.cells (w8s x) 25)
      generalize wr.alloc (.cells (w8s x) 25) = V at *
      generalize wr.heap.size = gx at *
      clear hA hW hrw wr
      go_upto_region 4 with fail
      apply wp_region_lit
      apply wpList_load_row (ty := 25) (x := .tmp 6) (g := gx) (t := 25) (cs := w8s x) (fr := (0, 0)) (d := .array 32 5)
      case hgd => rfl
      case ho => rfl
      case hx => kernel_rfl
      case hg => exact hN
      case hu => kernel_rfl
      case hd => rfl
      case hi => rw [hsx]; kernel_rfl
      apply wpList_load_row (ty := 25) (x := .tmp 3) (g := w.heap.size) (t := 25) (cs := w8s k) (fr := (0, 0)) (d := .array 32 5)
      case hgd => rfl
      case ho => rfl
      case hx => kernel_rfl
      case hg => exact hA2
      case hu => kernel_rfl
      case hd => rfl
      case hi => rw [hsk]; kernel_rfl
      have hke := key_cmp x k hx HK.out V
      have hkg : Tryd.prog.eqGuardType Tryd.prog.depth 25 = false := by kernel_rfl
      cases hb1 : (x == k)
      · rw [hb1] at hke hcc
        have HC : Hid (hasL k Ks = hasL k (Ks.drop (i + 1))) := Lib.hid (hcc.trans (Bool.false_or _))
        have HW2 := Lib.hid hW2
        have HA2 := Lib.hid hA2
        clear hcc hW2 hb1 hA2 hN
        go_wp2_with fail
        go_roundg (n - (i + 1))
        case measure => omega
        case rel => exact ⟨i + 1, by omega, by go_num, HA2.out, HW2.out, HC, rfl⟩
      · rw [hb1] at hke hcc
        have HC : Hid (hasL k Ks = true) := Lib.hid (hcc.trans (Bool.true_or _))
        have HW2 := Lib.hid hW2
        clear hcc hW2 hb1
        go_wp2_with fail
        go_ret
        exact ⟨by rw [HC.out]; rfl, HW2.out⟩
    · have kc := hc.out
      rw [List.drop_eq_nil_of_le (by rw [HN.out]; omega)] at kc
      have KC := Lib.hid kc
      clear kc hc
      go_wp2_with fail
      go_ret
      exact ⟨by rw [KC.out]; rfl, hW⟩

set_option maxRecDepth 100000 in
set_option maxHeartbeats 4000000 in
theorem of_any (L : List Int) (a : Option Addr) (c : Nat) (w : World) (hG : Glob w) (hS : Sl w a c L) (hc : L.length ≤ c) (h8 : ∀ x, x ∈ L → W8 x) (hn : L.length ≤ 400000) :
    Calls Tryd.prog 8 #[.slice a L.length c] w fun e w' => e = .returned (.agg (w8s (shaL L))) ∧ Below w.heap.size w w' := by
  have hg2 := hG.size
  have hb0 : Below w.heap.size w (w.alloc (.cells (w8s (List.replicate 32 0)) 25)) := (Below.refl _ w).alloc (by simp) _
  have hA0 : Ab (w.alloc (.cells (w8s (List.replicate 32 0)) 25)) w.heap.size 25 (List.replicate 32 0) := heap_alloc_last w _
  have hs0 : (w.alloc (.cells (w8s (List.replicate 32 0)) 25)).heap.size = w.heap.size + 1 := by simp
  have hS0 := sl_below hS hb0
  have CS := fsum_any L a c (w.alloc (.cells (w8s (List.replicate 32 0)) 25)) (hG.below hg2 hb0) hS0 (fun hL => hS.off (by rw [hs0]; omega) hL) hc h8 hn
  have hq : (shaL L).length = 32 := shaL_len L
  obtain ⟨S, hSS⟩ : ∃ S, S = shaL L := ⟨_, rfl⟩
  rw [← hSS] at CS hq ⊢
  have hsS : (w8s S).size = 32 := by simp [hq]
  clear hSS hS hS0 hG
  go_enter Tryd.func8, Tryd.ntmps8
  go_upto_region 1 with fail
  change Code.wp _ _ _ _ (w.alloc (.cells (w8s (List.replicate 32 0)) 25))
  generalize w.alloc (.cells (w8s (List.replicate 32 0)) 25) = W at *
  apply wp_region_lit
  refine wpList_plain rfl (fun K hK => ?_)
  go_simp
  apply hK
  clear hK K
  refine wpList_plain rfl (fun K hK => ?_)
  go_simp
  refine CS.mono ?_
  rintro e w1 ⟨rfl, hb1⟩
  apply hK
  clear hK K CS
  have hA1 := hA0.below (by omega) hb1
  have hb2 := hb0.trans (hb1.mono hb0.size)
  apply wpList_store_at (ty := 25) (x := .tmp 2) (y := .tmp 4) (g := w.heap.size) (c := w8s (List.replicate 32 0)) (c' := w8s S)
  case hgd => rfl
  case ho => rfl
  case hx => kernel_rfl
  case hy => kernel_rfl
  case hg => exact hA1
  case hi => rw [hsS]; kernel_rfl
  case hz => rw [hsS]; rfl
  case h1 => exact one_w8s _
  apply wpList_nil
  have hA9 : Ab (w1.setRow w.heap.size (w8s S)) w.heap.size 25 S := setRow_heap _ _ _ _ _ _ hA1
  have hb9 := belowRow hb2 (Nat.le_refl w.heap.size) (w8s S)
  generalize w1.setRow w.heap.size (w8s S) = V9 at *
  clear hA0 hb0 hs0 hA1 hb2 hb1
  go_wp2_with fail
  refine bodyPost_ret (v := .agg (w8s S)) ?_ rfl ⟨rfl, hb9⟩
  refine results_cell_row (fn := Tryd.f8) (p := 2) (ty := 25) rfl _ _ w.heap.size 25 (w8s S) (0, 0) (.array 32 5) rfl hA9 ?_ rfl ?_
  · kernel_rfl
  · rw [hsS]; kernel_rfl
end Go.Proofs.YtapojahoaglgaaaDoor
