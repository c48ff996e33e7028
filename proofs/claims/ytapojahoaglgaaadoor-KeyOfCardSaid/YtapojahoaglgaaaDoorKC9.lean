/-
  The contract of the code's Distinct.
-/
import Derived.Test.YtapojahoaglgaaaDoorKC8
namespace Go.Proofs.YtapojahoaglgaaaDoor
open Go.RowKit

theorem take_next (Ks : List (List Int)) (i : Nat) (h : i < Ks.length) : Ks.take (i + 1) = Ks.take i ++ [Ks.getD i []] := by
  rw [List.take_succ_eq_append_getElem h]
  have : Ks.getD i [] = Ks[i] := by simp [List.getD, List.getElem?_eq_getElem h]
  rw [this]
theorem Rk.all {w : World} {al : Option Addr} {Ks : List (List Int)} (h : Rk w al Ks) : ∀ k ∈ Ks, k.length = 32 := fun k hk => by
  obtain ⟨i, hi, rfl⟩ := List.getElem_of_mem hk
  obtain ⟨-, -, -, -, -, hl⟩ := h i hi
  have : Ks.getD i [] = Ks[i] := by simp [List.getD, List.getElem?_eq_getElem hi]
  rwa [this] at hl
theorem run_makeMap_n (n : Int) (w : World) : (Instr.makeMap 52 (some (.int .i64 n))).run Tryd.prog w = .ok (.map (some w.heap.size)) (w.alloc (.map #[] 0)) := by
  have hu : (Go.underlying 52).run Tryd.prog w = .ok (.map 25 4) w := run_underlying (by kernel_rfl) w
  simp [Instr.makeMap, hu, asInt, asIntOf, Result.andThen, go_sem]

set_option maxRecDepth 100000 in
set_option maxHeartbeats 4000000 in
theorem dist_any (al : Option Addr) (c : Nat) (Ks : List (List Int)) (w : World) (hR : Rk w al Ks) (hl : Ks.length ≤ 1000) :
    Calls Tryd.prog 19 #[.slice al Ks.length c] w fun e w' => e = .returned (.bool (distL Ks Ks.length)) ∧ Below w.heap.size w w' := by
  have HA := Lib.hid hR.all
  have HR := Lib.hid hR
  have HD := Lib.hid (fun i hi => distL_no Ks i Ks.length hi)
  have HD2 := Lib.hid (distL_next Ks)
  have HTN := Lib.hid (take_next Ks)
  clear hR
  have hM0 : Mp (w.alloc (.map #[] 0)) w.heap.size [] := ⟨#[], 0, heap_alloc_new w _, rfl⟩
  have hb0 : Below w.heap.size w (w.alloc (.map #[] 0)) := (Below.refl _ w).alloc (by simp) _
  have hs0 : (w.alloc (.map #[] 0)).heap.size = w.heap.size + 1 := by simp
  have hmk := fun n => run_makeMap_n n w
  generalize hn : Ks.length = n at *
  have HN := Lib.hid hn
  clear hn
  go_enter Tryd.func19, Tryd.ntmps19
  go_upto_region 2 with fail
  generalize w.alloc (.map #[] 0) = W at *
  have HM0 := Lib.hid hM0
  have HB0 := Lib.hid hb0
  have HS0 := Lib.hid hs0
  clear hM0 hb0 hs0 hmk
  go_wp2_with fail
  go_loopg [11] n (fun g s11 wx => ∃ i : Nat, i ≤ n ∧ s11 = .int .i64 i ∧ Mp wx w.heap.size (Ks.take i) ∧ w.heap.size + 1 ≤ wx.heap.size ∧ Below w.heap.size w wx ∧ Hid (distL Ks i = true) ∧ n - i = g)
  case atStart => exact ⟨0, by omega, by go_num, HM0.out, by rw [HS0.out]; exact Nat.le_refl _, HB0.out, Lib.hid rfl, rfl⟩
  case round =>
    clear HM0 HB0 HS0 W
    obtain ⟨i, hi, rfl, hM, hsz1, hW, hd, hgk⟩ := hrel
    by_cases hlt : i < n
    · obtain ⟨b, off, rfl, hb, hr, hx⟩ := HR.out i (by rw [HN.out]; exact hlt)
      have hrw : wr.rangeAt b (off + i * 32) ((Ks.getD i []).map (Value.int .u8)) := fun j v hv => (hW.cell (p := ⟨b, off + i * 32 + j, none⟩) hb).trans (hr j v hv)
      have HDi := Lib.hid (HD.out i hlt)
      have HDn := Lib.hid (HD2.out i hd.out)
      have HTi := Lib.hid (HTN.out i hlt)
      have HAi : Hid (∀ k ∈ Ks.take i, k.length = 32) := Lib.hid (fun k hk => HA.out k (List.mem_of_mem_take hk))
      generalize Ks.getD i [] = x at *
      generalize Ks.take i = Kt at *
      have hsx : (w8s x).size = 32 := by simp [hx]
      go_upto_region 4 with fail
      apply wp_region_lit
      refine wpList_plain rfl (fun K hK => ?_)
      go_simp
      apply hK
      clear hK K
      apply wpList_load_mid (ty := 25) (x := .tmp 13) (b := b) (o := off + i * 32) (cs := x.map (Value.int .u8)) (d := .array 32 5)
      case hgd => rfl
      case ho => rfl
      case hx => kernel_rfl
      case hc => exact hrw
      case hu => kernel_rfl
      case hd => rfl
      case hi => rw [List.length_map, hx]; kernel_rfl
      refine run_to rfl (some 5) rfl (.pointer (some ⟨wr.heap.size, 0, none⟩)) (wr.alloc (.cells (w8s (List.replicate 32 0)) 25)) (by kernel_rfl) ?_
      apply wpList_store_new (w := wr) (ty := 25) (x := .tmp 5) (y := .tmp 14) (c := w8s (List.replicate 32 0)) (c' := w8s x)
      case hgd => rfl
      case ho => rfl
      case hx => kernel_rfl
      case hy => kernel_rfl
      case hi => rw [hsx]; kernel_rfl
      case hz => rw [hsx]; rfl
      case h1 => exact one_w8s _
      apply wpList_nil
      have hN : Ab (wr.alloc (.cells (w8s x) 25)) wr.heap.size 25 x := heap_alloc_last _ _
      have hM2 := hM.below (by omega) ((Below.refl wr.heap.size wr).alloc (Nat.le_refl _) (.cells (w8s x) 25))
      have hW2 := hW.alloc hW.size (.cells (w8s x) 25)
      have hsz2 : w.heap.size + 1 ≤ (wr.alloc (.cells (w8s x) 25)).heap.size := by simp; omega
      generalize wr.alloc (.cells (w8s x) 25) = V at *
      generalize wr.heap.size = gx at *
      clear hM hW hrw wr
      have hlk := map_look hM2 HAi.out x hx
      go_upto_region 5 with fail
      apply wp_region_lit
      refine wpList_plain rfl (fun K hK => ?_)
      go_simp
      apply hK
      clear hK K
      apply wpList_load_row (ty := 25) (x := .tmp 5) (g := gx) (t := 25) (cs := w8s x) (fr := (0, 0)) (d := .array 32 5)
      case hgd => rfl
      case ho => rfl
      case hx => kernel_rfl
      case hg => exact hN
      case hu => kernel_rfl
      case hd => rfl
      case hi => rw [hsx]; kernel_rfl
      cases ht : hasL x Kt
      · rw [ht] at hlk
        obtain ⟨w2, hput, hM3, hs3, hg3⟩ := map_put hM2 HAi.out x hx ht
        have HDD := Lib.hid (HDn.out ht)
        have hW3 := hW2.grown hg3 (by omega) (fun k hk => by cases hk; exact Nat.le_refl _)
        rw [← HTi.out] at hM3
        have HM3 := Lib.hid hM3
        have HW3 := Lib.hid hW3
        have HS3 : Hid (w.heap.size + 1 ≤ w2.heap.size) := Lib.hid (by omega)
        clear hM2 hM3 hW3 hs3 hg3 ht HDn HDi
        go_upto_region 7 with fail
        apply wp_region_lit
        refine wpList_plain rfl (fun K hK => ?_)
        go_simp
        apply hK
        clear hK K
        apply wpList_load_row (ty := 25) (x := .tmp 5) (g := gx) (t := 25) (cs := w8s x) (fr := (0, 0)) (d := .array 32 5)
        case hgd => rfl
        case ho => rfl
        case hx => kernel_rfl
        case hg => exact hN
        case hu => kernel_rfl
        case hd => rfl
        case hi => rw [hsx]; kernel_rfl
        go_wp2_with fail
        go_roundg (n - (i + 1))
        case measure => omega
        case rel => exact ⟨i + 1, by omega, by go_num, HM3.out, HS3.out, HW3.out, HDD, rfl⟩
      · rw [ht] at hlk
        have HDD := Lib.hid (HDi.out ht)
        have HW2 := Lib.hid hW2
        clear hM2 ht HDn HDi hW2
        go_wp2_with fail
        go_ret
        exact ⟨by rw [HDD.out]; rfl, HW2.out⟩
    · obtain rfl : i = n := by omega
      go_wp2_with fail
      go_ret
      exact ⟨by rw [hd.out]; rfl, hW⟩
end Go.Proofs.YtapojahoaglgaaaDoor
