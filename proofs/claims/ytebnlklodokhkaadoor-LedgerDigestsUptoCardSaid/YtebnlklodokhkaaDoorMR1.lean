/-
  The contracts of the reference's half, Leaf and Inner.
-/
import Derived.Test.YtebnlklodokhkaaDoorKG
import Derived.Test.YtebnlklodokhkaaDoorMAr
import Derived.Deep.RegionHeld3
namespace Go.Proofs.YtebnlklodokhkaaDoor
open Go.RowKit

set_option maxRecDepth 100000 in
set_option maxHeartbeats 1000000 in
theorem half_any (n : Nat) (w : World) (hn : n ≤ 1000000) : Calls Tryd.prog 45 #[.int .i64 n] w fun e w' => e = .returned (.int .i64 (halfN n)) ∧ w = w' := by
  go_enter Tryd.func45, Tryd.ntmps45
  go_wp2_with fail
  go_loopg [3] n (fun g s3 wx => ∃ k : Nat, s3 = .int .i64 k ∧ 0 < k ∧ k ≤ 1000000 ∧ Hid (halfGo g k n = halfN n) ∧ n ≤ k + g ∧ w = wx)
  case atStart => exact ⟨1, by go_num, by omega, by omega, Lib.hid rfl, by omega, rfl⟩
  case round =>
    obtain ⟨k, rfl, h0, h1, hh, hg, rfl⟩ := hrel
    by_cases hlt : k < n - k
    · obtain ⟨f, rfl⟩ : ∃ f, gk = f + 1 := ⟨gk - 1, by omega⟩
      have hd : decide ((k : Int) < (n : Int) - (k : Int)) = true := decide_eq_true (by omega)
      have hx := hh.out
      rw [halfGo, if_pos hlt] at hx
      have HX := Lib.hid hx
      clear hx hh
      go_wp2_with fail
      go_roundg f
      case measure => omega
      case rel => exact ⟨2 * k, by congr 1; omega, by omega, by omega, HX, by omega, rfl⟩
    · have hd : decide ((k : Int) < (n : Int) - (k : Int)) = false := decide_eq_false (by omega)
      have hx : k = halfN n := by
        have := hh.out
        cases gk with
        | zero => exact this
        | succ f => rwa [halfGo, if_neg hlt] at this
      have HX := Lib.hid hx
      clear hx hh
      go_wp2_with fail
      go_ret
      exact ⟨by rw [← HX.out]; rfl, rfl⟩

theorem own_byte (w : World) (x : Int) : (w.alloc (.cells #[.int .u8 x] 5)).ownsRow w.heap.size 5 1 (.slice (some ⟨w.heap.size, 0, none⟩) 1 1) 1 ([x].map (Value.int .u8)) :=
  ⟨rfl, .inr ⟨w.heap.size, 1, #[.int .u8 x], rfl, Nat.le_refl _, heap_alloc_last w _, by omega, by simp [maxLen], rfl, rfl⟩⟩

set_option maxRecDepth 100000 in
set_option maxHeartbeats 4000000 in
theorem leaf_any (a : Option Addr) (c : Nat) (B : List Int) (w : World) (hS : Sl w a c B) (h8 : ∀ x, x ∈ B → W8 x) (hn : B.length ≤ 300000) :
    Calls Tryd.prog 44 #[.slice a B.length c] w fun e w' => e = .returned (.agg (w8s (leafL B))) ∧ Below w.heap.size w w' := by
  obtain ⟨i0, hi, hz0, hz1, hz2⟩ := info_parts info5
  have hb0 : Below w.heap.size w (w.alloc (.cells (w8s (List.replicate 32 0)) 32)) := (Below.refl _ w).alloc (by simp) _
  have hA0 : Ab (w.alloc (.cells (w8s (List.replicate 32 0)) 32)) w.heap.size 32 (List.replicate 32 0) := heap_alloc_last w _
  have hs0 : (w.alloc (.cells (w8s (List.replicate 32 0)) 32)).heap.size = w.heap.size + 1 := by simp
  have hS0 := sl_below hS hb0
  obtain ⟨S, hSS⟩ : ∃ S, S = leafL B := ⟨_, rfl⟩
  have hq : S.length = 32 := by rw [hSS]; exact shaL_len _
  have CS := fun (a2 : Option Addr) (c2 : Nat) (V : World) (h : Sl V a2 c2 (0 :: B)) => ref_sha a2 c2 (0 :: B) V h (fun x hx => by
    rcases List.mem_cons.1 hx with rfl | hx
    · exact ⟨by omega, by omega⟩
    · exact h8 x hx) (by simp; omega)
  rw [show shaL (0 :: B) = S from hSS.symm] at CS
  rw [← hSS]
  have hsS : (w8s S).size = 32 := by rw [size_w8s, hq]
  clear hSS
  go_enter Tryd.func44, Tryd.ntmps44
  go_upto_region 1 with fail
  change Code.wp _ _ _ _ (w.alloc (.cells (w8s (List.replicate 32 0)) 32))
  generalize w.alloc (.cells (w8s (List.replicate 32 0)) 32) = W at *
  apply wp_region_lit
  refine gw_build (by kernel_rfl) (some 3) rfl 53 1 #[(0, .const (.int .u8 0))] rfl #[(0, .int .u8 0)] (by kernel_rfl) (.slice (some ⟨W.heap.size, 0, none⟩) 1 1) (W.alloc (.cells #[.int .u8 0] 5)) (by kernel_rfl) ?_
  simp only [Act.put, List.setIfInBounds_toArray, List.set_cons_succ, List.set_cons_zero]
  refine gw_val (by kernel_rfl) (some 4) rfl (.slice a B.length c) (by kernel_rfl) ?_
  simp only [Act.put, List.setIfInBounds_toArray, List.set_cons_succ, List.set_cons_zero]
  have hb1 := hb0.alloc hb0.size (.cells #[.int .u8 0] 5)
  have hA1 := hA0.alloc (.cells #[.int .u8 0] 5)
  have hS1 : Sl (W.alloc (.cells #[.int .u8 0] 5)) a c B := sl_below hS0 ((Below.refl _ W).alloc (Nat.le_refl _) _)
  have ho1 := own_byte W 0
  refine append_src rfl (.tmp 3) (.tmp 4) 53 rfl W.heap.size i0 Tryd.underlying53 hi hz0 hz1 hz2 _ 1 _ (by kernel_rfl) ho1 a B.length c B (by kernel_rfl) rfl hS1 (by omega) (by simp) ?_
  intro v1 w1 ho2 hg1
  have hb2 : Below w.heap.size w w1 := after_append (by omega) (by have := hb1.size; omega) ho1 hb1 hg1
  have hA2 : Ab w1 w.heap.size 32 (List.replicate 32 0) := by
    have hbW : Below W.heap.size (W.alloc (.cells #[.int .u8 0] 5)) w1 := (Below.refl _ _).grown hg1 (by simp) (fun j hj => (ho1.lt j hj).1)
    exact hA1.below (by omega) hbW
  have hO2 : Own w1 W.heap.size v1 (0 :: B) := by
    unfold Own
    have e : (0 :: B).length = 1 + B.length := by simp; omega
    rw [e]
    exact ho2
  obtain ⟨a2, c2, rfl, hS2, -⟩ := hO2.sl
  simp only [Act.put, List.setIfInBounds_toArray, List.set_cons_succ, List.set_cons_zero]
  refine gw_call (by kernel_rfl) (some 6) rfl 43 #[.slice a2 (0 :: B).length c2] (.agg (w8s S)) (Below w1.heap.size w1) (by kernel_rfl) (CS a2 c2 w1 hS2) (fun w2 hb3 => ?_)
  simp only [Act.put, List.setIfInBounds_toArray, List.set_cons_succ, List.set_cons_zero]
  have hA3 := hA2.below hA2.lt hb3
  have hb4 := hb2.trans (hb3.mono hb2.size)
  apply wpList_store_at (ty := 32) (x := .tmp 2) (y := .tmp 6) (g := w.heap.size) (c := w8s (List.replicate 32 0)) (c' := w8s S)
  case hgd => rfl
  case ho => rfl
  case hx => kernel_rfl
  case hy => kernel_rfl
  case hg => exact hA3
  case hi => rw [hsS]; kernel_rfl
  case hz => rw [hsS]; rfl
  case h1 => exact one_w8s _
  apply wpList_nil
  have hA9 : Ab (w2.setRow w.heap.size (w8s S)) w.heap.size 32 S := setRow_heap _ _ _ _ _ _ hA3
  have hb9 := belowRow hb4 (Nat.le_refl w.heap.size) (w8s S)
  generalize w2.setRow w.heap.size (w8s S) = V9 at *
  clear hA0 hb0 hs0 hA1 hb2 hb1 hb3 hb4 hA2 hA3 CS ho1 ho2 hg1 hO2 hS2 hS1 hS0 hS
  go_wp2_with fail
  refine bodyPost_ret (v := .agg (w8s S)) ?_ rfl ⟨rfl, hb9⟩
  refine results_cell_row (fn := Tryd.f44) (p := 2) (ty := 32) rfl _ _ w.heap.size 32 (w8s S) (0, 0) (.array 32 5) rfl hA9 ?_ rfl ?_
  · kernel_rfl
  · rw [hsS]; kernel_rfl
end Go.Proofs.YtebnlklodokhkaaDoor
