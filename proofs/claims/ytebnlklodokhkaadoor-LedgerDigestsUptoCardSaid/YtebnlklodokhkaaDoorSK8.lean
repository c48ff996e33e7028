/-
  The contracts of the function Sum, and of the method Sum at a nil receiver.
-/
import Derived.Test.YtebnlklodokhkaaDoorSK7
namespace Go.Proofs.YtebnlklodokhkaaDoor
set_option maxRecDepth 100000
open Go.RowKit

/-- A slice that reads lies below the heap's end. -/
theorem Sl.off {w : World} {a : Option Addr} {c g : Nat} {L : List Int} (h : Sl w a c L) (hg : w.heap.size ≤ g) (hL : L ≠ []) : Off a g := by
  intro x hx
  obtain ⟨b, off, e, hb, -⟩ := sl_at h (k := 0) (List.length_pos_iff.2 hL)
  rw [e] at hx
  cases hx
  simp
  omega
theorem shaL_len (L : List Int) : (shaL L).length = 32 := outs_len _ _

set_option maxRecDepth 100000 in
set_option maxHeartbeats 8000000 in
theorem fsum_any (L : List Int) (a : Option Addr) (c : Nat) (w : World) (hG : Glob w) (hS : Sl w a c L) (ho : L ≠ [] → Off a (w.heap.size + 1)) (hc : L.length ≤ c) (h8 : ∀ x, x ∈ L → W8 x) (hn : L.length ≤ 400000) :
    Calls Tryd.prog 38 #[.slice a L.length c] w fun e w' => e = .returned (.agg (w8s (shaL L))) ∧ Below w.heap.size w w' := by
  have hg2 := hG.size
  go_enter Tryd.func38, Tryd.ntmps38
  go_upto_region 1 with fail
  have hb0 : Below w.heap.size w (w.alloc (.cells (w8s (List.replicate 32 0)) 32)) := (Below.refl _ _).alloc (by simp) _
  have hA0 : Ab (w.alloc (.cells (w8s (List.replicate 32 0)) 32)) w.heap.size 32 (List.replicate 32 0) := heap_alloc_last _ _
  have hs0 : (w.alloc (.cells (w8s (List.replicate 32 0)) 32)).heap.size = w.heap.size + 1 := by simp
  change Code.wp _ _ _ _ (w.alloc (.cells (w8s (List.replicate 32 0)) 32))
  generalize w.alloc (.cells (w8s (List.replicate 32 0)) 32) = W at *
  have hGW := hG.below hg2 hb0
  have hN := DM.new W
  have hbN : Below W.heap.size W (W.alloc (.cells (digs h0s z64 0).toArray 103)) := (Below.refl _ _).alloc (Nat.le_refl _) _
  have cN := new_any W hGW
  rw [hs0] at hN
  generalize W.alloc (.cells (digs h0s z64 0).toArray 103) = V at *
  have hSV : Sl V a c L := sl_below hS (hb0.trans (hbN.mono (by omega)))
  have hGV := hGW.below (by omega) hbN
  have cW := write_any (w.heap.size + 1) [] L a c V hGV (by omega) hN hSV ho hc h8 (by simp; omega)
  have hZV := hA0.below (by omega) hbN
  have HB0 := Lib.hid hb0
  have HBN := Lib.hid hbN
  have HZV := Lib.hid hZV
  have HGV := Lib.hid hGV
  have HS0 := Lib.hid hs0
  rw [hs0] at cN
  clear hb0 hA0 hGW hN hbN hSV hGV hZV h8 hS hG hs0
  generalize hLL : L.length = n at *
  have HLL := Lib.hid hLL
  clear hLL
  go_upto_region 3 with (first
    | (go_at_call 58; refine cN.mono ?_; rintro e w1 ⟨rfl, rfl⟩)
    | (go_at_call 59; refine cW.mono ?_; rintro e w2 ⟨rfl, hM2, hb2⟩))
  have hb3 : Below w.heap.size w w2 := (HB0.out.trans (HBN.out.mono (by rw [HS0.out]; omega))).trans (hb2.below (by omega))
  have hZ2 : Ab w2 w.heap.size 32 (List.replicate 32 0) := by
    have h := HZV.out
    unfold Ab at h ⊢
    rw [hb2.2 _ HZV.out.lt (by omega)]
    exact h
  have hG2 := hb2.glob (by omega) HGV.out
  rw [List.nil_append] at hM2
  have cS := sum_any (w.heap.size + 1) L w2 hG2 (by omega) hM2 (by rw [HLL.out]; omega)
  have hlt := hZ2.lt
  have hq32 : (w8s (shaL L)).size = 32 := by simp [shaL_len]
  apply wp_region_lit
  refine wpList_plain rfl (fun K hK => ?_)
  go_simp
  apply hK
  clear hK K
  refine wpList_plain rfl (fun K hK => ?_)
  go_simp
  refine cS.mono ?_
  rintro e w3 ⟨rfl, hb4⟩
  apply hK
  clear hK K
  have hZ3 := hZ2.below hlt hb4
  have hb5 := hb3.trans (hb4.mono (by omega))
  apply wpList_store_at (ty := 32) (x := .tmp 2) (y := .tmp 9) (g := w.heap.size) (c := w8s (List.replicate 32 0)) (c' := w8s (shaL L))
  case hgd => rfl
  case ho => rfl
  case hx => kernel_rfl
  case hy => kernel_rfl
  case hg => exact hZ3
  case hi => rw [hq32]; kernel_rfl
  case hz => rw [hq32]; rfl
  case h1 => exact one_w8s _
  apply wpList_nil
  go_wp2_with fail
  refine bodyPost_ret (v := .agg (w8s (shaL L))) ?_ rfl ⟨rfl, belowRow hb5 (Nat.le_refl _) _⟩
  refine results_cell_row (fn := Tryd.f38) (p := 2) (ty := 32) rfl _ _ w.heap.size 32 (w8s (shaL L)) (0, 0) (.array 32 5) rfl (setRow_heap _ _ _ _ _ _ hZ3) ?_ rfl ?_
  · kernel_rfl
  · rw [hq32]; kernel_rfl

set_option maxRecDepth 100000 in
theorem sum_nil (w : World) : Calls Tryd.prog 60 #[.pointer none] w fun e w' => e = .returned (.agg (w8s (List.replicate 32 0))) ∧ Below w.heap.size w w' := by
  go_enter Tryd.func60, Tryd.ntmps60
  go_upto_region 2 with fail
  have hA0 : Ab (w.alloc (.cells (w8s (List.replicate 32 0)) 32)) w.heap.size 32 (List.replicate 32 0) := heap_alloc_last _ _
  have hb0 : Below w.heap.size w (w.alloc (.cells (w8s (List.replicate 32 0)) 32)) := (Below.refl _ _).alloc (by simp) _
  change Code.wp _ _ _ _ (w.alloc (.cells (w8s (List.replicate 32 0)) 32))
  generalize w.alloc (.cells (w8s (List.replicate 32 0)) 32) = W at *
  apply wp_region_lit
  refine run_to rfl (some 10) rfl (.agg (w8s (List.replicate 32 0))) W (by kernel_rfl) ?_
  apply wpList_store_at (ty := 32) (x := .tmp 2) (y := .tmp 10) (g := w.heap.size) (c := w8s (List.replicate 32 0)) (c' := w8s (List.replicate 32 0))
  case hgd => rfl
  case ho => rfl
  case hx => kernel_rfl
  case hy => kernel_rfl
  case hg => exact hA0
  case hi => kernel_rfl
  case hz => rfl
  case h1 => exact one_w8s _
  apply wpList_nil
  go_wp2_with fail
  refine bodyPost_ret (v := .agg (w8s (List.replicate 32 0))) ?_ rfl ⟨rfl, belowRow hb0 (Nat.le_refl _) _⟩
  refine results_cell_row (fn := Tryd.f60) (p := 2) (ty := 32) rfl _ _ w.heap.size 32 (w8s (List.replicate 32 0)) (0, 0) (.array 32 5) rfl (setRow_heap _ _ _ _ _ _ hA0) ?_ rfl ?_
  · kernel_rfl
  · kernel_rfl
end Go.Proofs.YtebnlklodokhkaaDoor
