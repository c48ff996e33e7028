/-
  The contract of the reference's Parse.
-/
import Derived.Test.YtapojahoaglgaaaDoorKC6
namespace Go.Proofs.YtapojahoaglgaaaDoor
open Go.RowKit

set_option maxRecDepth 100000 in
set_option maxHeartbeats 4000000 in
theorem refpar_any (s : ByteArray) (w : World) (hs : s.size ≤ 1000) : Calls Tryd.prog 15 #[.string s] w (ParB s w) := by
  have HL : Hid ((nums s).length = s.size) := Lib.hid (nums_len s)
  have hA0 : Ab (w.alloc (.cells (w8s (List.replicate 32 0)) 25)) w.heap.size 25 (List.replicate 32 0) := heap_alloc_last w _
  have hb0 : Below w.heap.size w (w.alloc (.cells (w8s (List.replicate 32 0)) 25)) := (Below.refl _ w).alloc (by simp) _
  have hs0 : (w.alloc (.cells (w8s (List.replicate 32 0)) 25)).heap.size = w.heap.size + 1 := by simp
  have CU := unhex_any s (w.alloc (.cells (w8s (List.replicate 32 0)) 25)) hs
  go_enter Tryd.func15, Tryd.ntmps15
  go_upto_region 1 with fail
  change Code.wp _ _ _ _ (w.alloc (.cells (w8s (List.replicate 32 0)) 25))
  generalize w.alloc (.cells (w8s (List.replicate 32 0)) 25) = W0 at *
  have HA0 := Lib.hid hA0
  have HB0 := Lib.hid hb0
  have HS0 := Lib.hid hs0
  clear hA0 hb0 hs0
  go_upto_region 2 with (go_at_call 26; refine CU.mono ?_; rintro e w1 ⟨v, ok, rfl, hb1, hB, hN⟩)
  have hA1 := HA0.out.below (by rw [HS0.out]; omega) hb1
  have hb2 := HB0.out.trans (hb1.mono (by rw [HS0.out]; omega))
  have HA1 := Lib.hid hA1
  have HB2 := Lib.hid hb2
  have HB1 := Lib.hid hb1
  clear hA1 hb2 hb1 CU
  cases hu : unhexL (nums s) with
  | none =>
    have hok := hN hu
    have hP := par_none (nums s) hu
    have HP := Lib.hid hP
    clear hN hB hP hu
    subst hok
    go_upto_region 3 with fail
    apply wp_region_lit
    refine run_to rfl (some 20) rfl (.agg (w8s (List.replicate 32 0))) w1 (by kernel_rfl) ?_
    apply wpList_store_at (ty := 25) (x := .tmp 2) (y := .tmp 20) (g := w.heap.size) (c := w8s (List.replicate 32 0)) (c' := w8s (List.replicate 32 0))
    case hgd => rfl
    case ho => rfl
    case hx => kernel_rfl
    case hy => kernel_rfl
    case hg => exact HA1.out
    case hi => kernel_rfl
    case hz => rfl
    case h1 => exact one_w8s _
    have hA9 : Ab (w1.setRow w.heap.size (w8s (List.replicate 32 0))) w.heap.size 25 (List.replicate 32 0) := setRow_heap _ _ _ _ _ _ HA1.out
    have hb9 := belowRow HB2.out (Nat.le_refl w.heap.size) (w8s (List.replicate 32 0))
    generalize w1.setRow w.heap.size (w8s (List.replicate 32 0)) = V9 at *
    simp only [Act.put, List.setIfInBounds_toArray, List.set_cons_succ, List.set_cons_zero]
    go_wp2_with fail
    exact bodyPost_ret (results_key (e := 5) (by kernel_rfl) (by kernel_rfl) (by kernel_rfl) hA9 (by kernel_rfl) (by kernel_rfl)) rfl ⟨by rw [HP.out.1, HP.out.2], hb9⟩
  | some B =>
    obtain ⟨hok, hO⟩ := hB B hu
    subst hok
    obtain ⟨a4, c4, rfl, hS, hc4⟩ := hO.sl
    have hul := unhexL_len (nums s) B hu
    by_cases hBl : B.length = 32
    · have hP := par_some (nums s) B hu (by omega)
      have HP := Lib.hid hP
      have HBL := Lib.hid hBl
      have HS := Lib.hid hS
      have hz : ((B.length : Nat) : Int) = 32 := by omega
      rw [hBl] at hc4
      have hsB : (w8s B).size = 32 := by simp [hBl]
      clear hN hB hP hu hul hO hS
      rw [hBl]
      go_upto_region 4 with fail
      have hA2 := HA1.out.alloc (.cells (w8s (List.replicate 32 0)) 25)
      have hK2 : Ab (w1.alloc (.cells (w8s (List.replicate 32 0)) 25)) w1.heap.size 25 (List.replicate 32 0) := heap_alloc_last _ _
      have hS2 : Sl (w1.alloc (.cells (w8s (List.replicate 32 0)) 25)) a4 c4 B := sl_below HS.out ((Below.refl _ w1).alloc (Nat.le_refl _) _)
      have hb3 := HB2.out.alloc HB2.out.size (.cells (w8s (List.replicate 32 0)) 25)
      have ho4 : Off a4 w1.heap.size := HS.out.off (Nat.le_refl _) (by intro h; rw [h] at hz; simp at hz)
      have hg1 : w.heap.size < w1.heap.size := HA1.out.lt
      apply wp_region_lit
      refine run_to rfl (some 6) rfl (.pointer (some ⟨w1.heap.size, 0, none⟩)) (w1.alloc (.cells (w8s (List.replicate 32 0)) 25)) (by kernel_rfl) ?_
      apply wpList_nil
      simp only [Act.put, List.setIfInBounds_toArray, List.set_cons_succ, List.set_cons_zero]
      generalize w1.alloc (.cells (w8s (List.replicate 32 0)) 25) = W at *
      generalize w1.heap.size = g1 at *
      have HA2 := Lib.hid hA2
      have HK2 := Lib.hid hK2
      have HS2 := Lib.hid hS2
      have HB3 := Lib.hid hb3
      have HO4 := Lib.hid ho4
      clear hA2 hK2 hS2 hb3 ho4 HA1 HB2 HB1 HS hz hBl HA0 HB0 HS0
      go_wp2_with fail
      go_loopg [21] 32 (fun g s21 wx => ∃ i : Nat, i ≤ 32 ∧ s21 = .int .i64 i ∧ Ab wx w.heap.size 25 (List.replicate 32 0) ∧ Ab wx g1 25 (B.take i ++ List.replicate (32 - i) 0) ∧ Sl wx a4 c4 B ∧ Below w.heap.size w wx ∧ 32 - i = g)
      case atStart => exact ⟨0, by omega, by go_num, HA2.out, by simpa using HK2.out, HS2.out, HB3.out, rfl⟩
      case round =>
        clear HA2 HK2 HS2 HB3
        obtain ⟨i, hi, rfl, hA, hK, hS, hb, hgk⟩ := hrel
        by_cases hlt : i < 32
        · obtain ⟨b, off, rfl, hbl, xc⟩ := sl_at hS (k := i) (by rw [HBL.out]; exact hlt)
          have hne : b ≠ g1 := HO4.out ⟨b, off, none⟩ rfl
          have xk := hK.cell i (by rw [List.length_append, List.length_take, HBL.out, List.length_replicate]; omega)
          have xf := hK.frozen i
          have hK3 := hK.set i (B.getD i 0)
          have hfill := fill_next (B.take i) (B.getD i 0) (32 - i) (32 - (i + 1)) (by omega)
          have htl : (B.take i).length = i := by rw [List.length_take, HBL.out]; omega
          have htn : B.take i ++ [B.getD i 0] = B.take (i + 1) := by
            rw [List.take_succ_eq_append_getElem (by rw [HBL.out]; exact hlt), getD_lt B i 0 (by rw [HBL.out]; exact hlt)]
          rw [htl, htn] at hfill
          rw [hfill] at hK3
          have hA3 := hA.far ⟨g1, i, none⟩ (by simp; omega) (.int .u8 (B.getD i 0))
          have hS3 := (But.setCell (g := g1) wr i (.int .u8 (B.getD i 0))).sl hS HO4.out
          have hb3 : Below w.heap.size w (wr.setCell ⟨g1, i, none⟩ (.int .u8 (B.getD i 0))) := hb.setCell (by simp; omega) _
          have HA3 := Lib.hid hA3
          have HK3 := Lib.hid hK3
          have HS3 := Lib.hid hS3
          have HB3 := Lib.hid hb3
          clear hA3 hK3 hS3 hb3 hfill htl htn hA hK hS hb
          generalize (B.take i ++ List.replicate (32 - i) 0).getD i 0 = z0 at *
          generalize B.getD i 0 = z1 at *
          go_wp2_with fail
          go_roundg (32 - (i + 1))
          case measure => omega
          case rel => exact ⟨i + 1, by omega, by go_num, HA3.out, HK3.out, HS3.out, HB3.out, rfl⟩
        · obtain rfl : i = 32 := by omega
          have hKB : Ab wr g1 25 B := by
            rw [List.take_of_length_le (by rw [HBL.out]; omega)] at hK
            simpa using hK
          have HA := Lib.hid hA
          have HK := Lib.hid hKB
          have HB := Lib.hid hb
          clear hA hK hKB hS hb
          go_upto_region 10 with fail
          apply wp_region_lit
          apply wpList_load_row (ty := 25) (x := .tmp 6) (g := g1) (t := 25) (cs := w8s B) (fr := (0, 0)) (d := .array 32 5)
          case hgd => rfl
          case ho => rfl
          case hx => kernel_rfl
          case hg => exact HK.out
          case hu => kernel_rfl
          case hd => rfl
          case hi => rw [hsB]; kernel_rfl
          apply wpList_store_at (ty := 25) (x := .tmp 2) (y := .tmp 31) (g := w.heap.size) (c := w8s (List.replicate 32 0)) (c' := w8s B)
          case hgd => rfl
          case ho => rfl
          case hx => kernel_rfl
          case hy => kernel_rfl
          case hg => exact HA.out
          case hi => rw [hsB]; kernel_rfl
          case hz => rw [hsB]; rfl
          case h1 => exact one_w8s _
          have hA9 : Ab (wr.setRow w.heap.size (w8s B)) w.heap.size 25 B := setRow_heap _ _ _ _ _ _ HA.out
          have hb9 := belowRow HB.out (Nat.le_refl w.heap.size) (w8s B)
          generalize wr.setRow w.heap.size (w8s B) = V9 at *
          simp only [Act.put, List.setIfInBounds_toArray, List.set_cons_succ, List.set_cons_zero]
          go_wp2_with fail
          exact bodyPost_ret (results_key (e := 5) (by kernel_rfl) (by kernel_rfl) (by kernel_rfl) hA9 (by kernel_rfl) (by rw [HBL.out]; kernel_rfl)) rfl ⟨by rw [HP.out.1, HP.out.2], hb9⟩
    · have hP := par_len (nums s) (by omega)
      have HP := Lib.hid hP
      have hz : ¬ ((B.length : Nat) : Int) = 32 := by omega
      clear hN hB hP hu hul hO hS
      go_upto_region 3 with fail
      apply wp_region_lit
      refine run_to rfl (some 20) rfl (.agg (w8s (List.replicate 32 0))) w1 (by kernel_rfl) ?_
      apply wpList_store_at (ty := 25) (x := .tmp 2) (y := .tmp 20) (g := w.heap.size) (c := w8s (List.replicate 32 0)) (c' := w8s (List.replicate 32 0))
      case hgd => rfl
      case ho => rfl
      case hx => kernel_rfl
      case hy => kernel_rfl
      case hg => exact HA1.out
      case hi => kernel_rfl
      case hz => rfl
      case h1 => exact one_w8s _
      have hA9 : Ab (w1.setRow w.heap.size (w8s (List.replicate 32 0))) w.heap.size 25 (List.replicate 32 0) := setRow_heap _ _ _ _ _ _ HA1.out
      have hb9 := belowRow HB2.out (Nat.le_refl w.heap.size) (w8s (List.replicate 32 0))
      generalize w1.setRow w.heap.size (w8s (List.replicate 32 0)) = V9 at *
      simp only [Act.put, List.setIfInBounds_toArray, List.set_cons_succ, List.set_cons_zero]
      go_wp2_with fail
      exact bodyPost_ret (results_key (e := 5) (by kernel_rfl) (by kernel_rfl) (by kernel_rfl) hA9 (by kernel_rfl) (by kernel_rfl)) rfl ⟨by rw [HP.out.1, HP.out.2], hb9⟩
end Go.Proofs.YtapojahoaglgaaaDoor
