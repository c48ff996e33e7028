/-
  The walk of KeyOf.
-/
import Derived.Test.YtapojahoaglgaaaDoorKN1
namespace Go.Proofs.YtapojahoaglgaaaDoor
open Go.RowKit

set_option maxRecDepth 100000 in
set_option maxHeartbeats 4000000 in
theorem of_core (a : Option Addr) (c : Nat) (L : List Int) (w : World) (hc : L.length ≤ c) (hS : Sl w a c L) (h8 : ∀ x, x ∈ L → W8 x) (hG : Glob w) :
    Calls Tryd.prog 3 #[.slice a L.length c] w fun e w' => e = .returned (.bool true) ∧ Below w.heap.size w w' := by
  have hg2 := hG.size
  by_cases hbig : 300 < L.length
  · have hd : decide (300 < (L.length : Int)) = true := decide_eq_true (by omega)
    have CK := known_true w hG
    clear hG hS h8 hc
    generalize L.length = n at *
    go_enter Tryd.func3, Tryd.ntmps3
    go_wp2_with (go_at_call 7; refine CK.mono ?_; rintro e w1 ⟨rfl, hb1⟩)
    go_ret
    exact ⟨rfl, hb1⟩
  · have hd : decide (300 < (L.length : Int)) = false := decide_eq_false (by omega)
    have C1 := of_any L a c w hG hS hc h8 (by omega)
    have hS2 := fun w1 (hb : Below w.heap.size w w1) => ref_sha a c L w1 (sl_below hS hb) h8 (by omega)
    have hG2 := fun w1 (hb : Below w.heap.size w w1) => known_true w1 (hG.below hg2 hb)
    have hSl : (shaL L).length = 32 := shaL_len L
    obtain ⟨S, hSS⟩ : ∃ S, S = shaL L := ⟨_, rfl⟩
    rw [← hSS] at C1 hSl
    simp only [← hSS] at hS2
    clear hSS hG hS h8 hc hbig
    generalize L.length = n at *
    go_enter Tryd.func3, Tryd.ntmps3
    go_upto_region 3 with fail
    apply wp_region_lit
    refine gw_val (by kernel_rfl) (some 7) rfl (.slice a n c) (by kernel_rfl) ?_
    refine gw_call (by kernel_rfl) (some 8) rfl 8 #[.slice a n c] (.agg (w8s S)) (Below w.heap.size w) (by kernel_rfl) C1 (fun w1 hb1 => ?_)
    refine gw_val (by kernel_rfl) (some 9) rfl (.slice a n c) (by kernel_rfl) ?_
    simp only [Act.put, List.setIfInBounds_toArray, List.set_cons_succ, List.set_cons_zero]
    refine gw_call (by kernel_rfl) (some 10) rfl 9 #[.slice a n c] (.agg (w8s S)) (Below w1.heap.size w1) (by kernel_rfl) (hS2 w1 hb1) (fun w2 hb2 => ?_)
    have hb3 := hb1.trans (hb2.mono hb1.size)
    refine gw_val (by kernel_rfl) (some 11) rfl (.bool (S == S)) (eq_key rfl S S hSl hSl (by kernel_rfl) (by kernel_rfl) _) ?_
    rw [beq_self_eq_true]
    simp only [Act.put, List.setIfInBounds_toArray, List.set_cons_succ, List.set_cons_zero]
    refine gw_val (by kernel_rfl) (some 12) rfl (.bool true) (by kernel_rfl) ?_
    refine gw_call (by kernel_rfl) (some 13) rfl 7 #[] (.bool true) (Below w2.heap.size w2) (by kernel_rfl) (hG2 w2 hb3) (fun w3 hb4 => ?_)
    have hb5 := hb3.trans (hb4.mono hb3.size)
    refine gw_val (by kernel_rfl) (some 14) rfl (.bool true) (by kernel_rfl) ?_
    refine gw_val (by kernel_rfl) (some 2) rfl (.bool true) (by kernel_rfl) ?_
    apply wpList_nil
    simp only [Act.put, List.setIfInBounds_toArray, List.set_cons_succ, List.set_cons_zero]
    have HW := Lib.hid hb5
    clear hb1 hb2 hb3 hb4 hb5 hS2 hG2
    go_wp2_with fail
    go_ret
    exact ⟨rfl, HW.out⟩
end Go.Proofs.YtapojahoaglgaaaDoor
