/-
  The contract of the reference's Distinct.
-/
import Derived.Test.YtapojahoaglgaaaDoorKR6
namespace Go.Proofs.YtapojahoaglgaaaDoor
open Go.RowKit

set_option maxRecDepth 100000 in
set_option maxHeartbeats 4000000 in
theorem refdist_any (al : Option Addr) (c : Nat) (Ks : List (List Int)) (w : World) (hc : Ks.length ≤ c) (hR : Rk w al Ks) (hl : Ks.length ≤ 1000) :
    Calls Tryd.prog 20 #[.slice al Ks.length c] w fun e w' => e = .returned (.bool (distL Ks Ks.length)) ∧ Below w.heap.size w w' := by
  have HR := Lib.hid hR
  have HD := Lib.hid (fun i hi => distL_no Ks i Ks.length hi)
  have HD2 := Lib.hid (distL_next Ks)
  have HL2 : Hid (∀ i, i ≤ Ks.length → (Ks.take i).length = i) := Lib.hid (fun i hi => by simp; omega)
  clear hR
  generalize hn : Ks.length = n at *
  have HN := Lib.hid hn
  clear hn
  go_enter Tryd.func20, Tryd.ntmps20
  go_wp2_with fail
  go_loopg [7] n (fun g s7 wx => ∃ i : Nat, i ≤ n ∧ s7 = .int .i64 i ∧ Below w.heap.size w wx ∧ Hid (distL Ks i = true) ∧ n - i = g)
  case atStart => exact ⟨0, by omega, by go_num, Below.refl _ _, Lib.hid rfl, rfl⟩
  case round =>
    obtain ⟨i, hi, rfl, hW, hd, hgk⟩ := hrel
    by_cases hlt : i < n
    · have hRr := HR.out.below hW
      obtain ⟨b, off, rfl, hb, hrw, hx⟩ := hRr i (by rw [HN.out]; exact hlt)
      have HRT := Lib.hid (hRr.take i)
      have HDi := Lib.hid (HD.out i hlt)
      have HDn := Lib.hid (HD2.out i hd.out)
      have HLi := Lib.hid (HL2.out i hi)
      generalize Ks.getD i [] = x at *
      generalize Ks.take i = Kt at *
      clear hRr
      have hsx : (w8s x).size = 32 := by simp [hx]
      go_upto_region 3 with fail
      apply wp_region_lit
      refine wpList_plain rfl (fun K hK => ?_)
      go_simp
      apply hK
      clear hK K
      refine wpList_plain rfl (fun K hK => ?_)
      go_simp
      apply hK
      clear hK K
      apply wpList_load_mid (ty := 25) (x := .tmp 10) (b := b) (o := off + i * 32) (cs := x.map (Value.int .u8)) (d := .array 32 5)
      case hgd => rfl
      case ho => rfl
      case hx => kernel_rfl
      case hc => exact hrw
      case hu => kernel_rfl
      case hd => rfl
      case hi => rw [List.length_map, hx]; kernel_rfl
      refine run_to rfl (some 4) rfl (.pointer (some ⟨wr.heap.size, 0, none⟩)) (wr.alloc (.cells (w8s (List.replicate 32 0)) 25)) (by kernel_rfl) ?_
      refine run_to rfl (some 3) rfl (.int .i64 i) (wr.alloc (.cells (w8s (List.replicate 32 0)) 25)) (by kernel_rfl) ?_
      apply wpList_store_new (w := wr) (ty := 25) (x := .tmp 4) (y := .tmp 11) (c := w8s (List.replicate 32 0)) (c' := w8s x)
      case hgd => rfl
      case ho => rfl
      case hx => kernel_rfl
      case hy => kernel_rfl
      case hi => rw [hsx]; kernel_rfl
      case hz => rw [hsx]; rfl
      case h1 => exact one_w8s _
      apply wpList_nil
      have hN : Ab (wr.alloc (.cells (w8s x) 25)) wr.heap.size 25 x := heap_alloc_last _ _
      have hRn := HRT.out.below ((Below.refl _ wr).alloc (Nat.le_refl _) (.cells (w8s x) 25))
      have hW2 := hW.alloc hW.size (.cells (w8s x) 25)
      have hgx : w.heap.size ≤ wr.heap.size := hW.size
      generalize wr.alloc (.cells (w8s x) 25) = V at *
      generalize wr.heap.size = gx at *
      clear hW hrw
      go_upto_region 4 with fail
      refine wp_region_class (C := fun w' => Ab w' gx 25 x ∧ Rk w' (some ⟨b, off, none⟩) Kt ∧ Below w.heap.size w w') (by kernel_rfl) (by kernel_rfl) ⟨hN, hRn, hW2.drew⟩ ?_
      refine wpQ_val rfl (.slice (some ⟨b, off, none⟩) n c) (fun w' _ => by kernel_rfl) ?_
      refine wpQ_val rfl (.int .i64 i) (fun w' _ => by kernel_rfl) ?_
      refine wpQ_slice_to rfl 36 (.tmp 12) (.tmp 13) rfl (.slice (some ⟨b, off, none⟩) n c) (.int .i64 i) (.slice (some ⟨b, off, none⟩) i c) (by kernel_rfl) (by kernel_rfl) (fun w' _ => keys_to (some ⟨b, off, none⟩) n c i w' (by omega)) ?_
      refine wpQ_load rfl 25 (.tmp 4) rfl ⟨gx, 0, none⟩ (.agg (w8s x)) (by kernel_rfl) (fun w' hC => run_loadAt_mid w' gx 0 25 (x.map (Value.int .u8)) (.array 32 5) hC.1.range (by kernel_rfl) rfl (by rw [List.length_map, hx]; kernel_rfl)) ?_
      refine wpQ_call rfl 18 #[.slice (some ⟨b, off, none⟩) i c, .agg (w8s x)] (.bool (hasL x Kt)) (fun w' _ => by kernel_rfl)
        (fun w' hC => by
          have := refhas_any (some ⟨b, off, none⟩) c Kt x w' hx hC.2.1 (by rw [HLi.out]; omega)
          rw [HLi.out] at this
          exact this.mono fun e w'' ⟨he, hb⟩ => ⟨he, hC.1.below hC.1.lt hb, hC.2.1.below hb, hC.2.2.trans (hb.mono hC.2.2.size)⟩) ?_
      refine wpQuiet_nil ?_
      intro w' hC
      simp only [Act.put, List.setIfInBounds_toArray, List.set_cons_succ, List.set_cons_zero]
      have HW3 := Lib.hid hC.2.2
      clear hC hN hRn hW2
      generalize hasL x Kt = t at *
      cases t
      · have e := HDn.out rfl
        have HE := Lib.hid e
        clear e
        go_wp2_with fail
        go_roundg (n - (i + 1))
        case measure => omega
        case rel => exact ⟨i + 1, by omega, by go_num, HW3.out, HE, rfl⟩
      · have e := HDi.out rfl
        have HE := Lib.hid e
        clear e
        go_wp2_with fail
        go_ret
        exact ⟨by rw [HE.out]; rfl, HW3.out⟩
    · obtain rfl : i = n := by omega
      go_wp2_with fail
      go_ret
      exact ⟨by rw [hd.out]; rfl, hW⟩
end Go.Proofs.YtapojahoaglgaaaDoor
