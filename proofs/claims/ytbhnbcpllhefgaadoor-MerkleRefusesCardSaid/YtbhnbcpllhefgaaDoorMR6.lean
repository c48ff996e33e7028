/-
  The contracts of the reference's Verify and SameKeys.
-/
import Derived.Test.YtbhnbcpllhefgaaDoorMR5
namespace Go.Proofs.YtbhnbcpllhefgaaDoor
open Go.RowKit

theorem verL_out (R B : List Int) (i n : Int) (p : List (List Int)) (h : i < 0 ∨ n ≤ i) : verL R B i n p = false := by
  unfold verL
  rw [decide_eq_false (by omega)]
  rfl
theorem verL_long (R B : List Int) (i n : Nat) (p : List (List Int)) (hi : i < n) (hn : n ≤ 1000000) (hp : 64 < p.length) : verL R B i n p = false := by
  unfold verL
  rw [Int.toNat_natCast, Int.toNat_natCast, climb_long (leafL B) i n 20 p (by omega) hi (by omega)]
  simp
theorem verL_climb (R B : List Int) (i n : Nat) (p : List (List Int)) (hi : i < n) : verL R B i n p = ((climbX (leafL B) i n p).2 && ((climbX (leafL B) i n p).1 == R)) := by
  unfold verL
  rw [Int.toNat_natCast, Int.toNat_natCast, decide_eq_true (by omega)]
  unfold climbL climbX
  rw [climbX_climbL]
  cases (climbW (leafL B) i n p.reverse).2
  · simp
  · simp
theorem path_byte : ∀ m, ∀ (ls : List (List Int)) (i : Nat), ls.length ≤ m → ∀ k ∈ pathL ls i, k.length = 32 ∧ ∀ x, x ∈ k → W8 x
  | 0, ls, i, h => by
    rw [pathL_one ls i (by omega)]
    intro k hk
    cases hk
  | m + 1, ls, i, h => by
    by_cases h1 : ls.length ≤ 1
    · rw [pathL_one ls i h1]
      intro k hk
      cases hk
    · obtain ⟨a, b, -⟩ := halfN_spec ls.length (by omega)
      intro k hk
      by_cases hi : i < halfN ls.length
      · rw [pathL_left ls i (by omega) hi] at hk
        rcases List.mem_append.1 hk with hk | hk
        · exact path_byte m _ _ (by rw [List.length_take]; omega) k hk
        · rw [List.mem_singleton.1 hk]
          exact root_byte _
      · rw [pathL_right ls i (by omega) hi] at hk
        rcases List.mem_append.1 hk with hk | hk
        · exact path_byte m _ _ (by rw [List.length_drop]; omega) k hk
        · rw [List.mem_singleton.1 hk]
          exact root_byte _

set_option maxRecDepth 100000 in
set_option maxHeartbeats 4000000 in
theorem refver_any (R B : List Int) (la : Option Addr) (lc : Nat) (i n : Int) (al : Option Addr) (c : Nat) (p : List (List Int)) (w : World) (hR : R.length = 32) (hS : Sl w la lc B) (h8 : ∀ x, x ∈ B → W8 x) (hB : B.length ≤ 300000)
    (hn : n ≤ 1000000) (hp8 : ∀ k ∈ p, ∀ x, x ∈ k → W8 x) (hc : p.length ≤ c) (hK : Rk w al p) :
    Calls Tryd.prog 20 #[.agg (w8s R), .slice la B.length lc, .int .i64 i, .int .i64 n, .slice al p.length c] w fun e w' => e = .returned (.bool (verL R B i n p)) ∧ Below w.heap.size w w' := by
  have hb0 : Below w.heap.size w (w.alloc (.cells (w8s R) 24)) := (Below.refl _ w).alloc (by simp) _
  have hA0 : Ab (w.alloc (.cells (w8s R) 24)) w.heap.size 24 R := heap_alloc_last w _
  by_cases h0 : i < 0
  · rw [verL_out R B i n p (.inl h0)]
    have hd : decide (i < 0) = true := decide_eq_true h0
    generalize p.length = m at *
    generalize B.length = bl at *
    go_enter Tryd.func20, Tryd.ntmps20
    go_upto_region 1 with fail
    change Code.wp _ _ _ _ (w.alloc (.cells (w8s R) 24))
    generalize w.alloc (.cells (w8s R) 24) = W at *
    go_wp2_with fail
    go_ret
    exact ⟨rfl, hb0⟩
  · have hd : decide (i < 0) = false := decide_eq_false h0
    by_cases h1 : n ≤ i
    · rw [verL_out R B i n p (.inr h1)]
      have hd2 : decide (n ≤ i) = true := decide_eq_true h1
      generalize p.length = m at *
      generalize B.length = bl at *
      go_enter Tryd.func20, Tryd.ntmps20
      go_upto_region 1 with fail
      change Code.wp _ _ _ _ (w.alloc (.cells (w8s R) 24))
      generalize w.alloc (.cells (w8s R) 24) = W at *
      go_wp2_with fail
      go_ret
      exact ⟨rfl, hb0⟩
    · have hd2 : decide (n ≤ i) = false := decide_eq_false h1
      obtain ⟨i, rfl⟩ := Int.eq_ofNat_of_zero_le (show 0 ≤ i by omega)
      obtain ⟨n, rfl⟩ := Int.eq_ofNat_of_zero_le (show 0 ≤ n by omega)
      have hin : i < n := by omega
      have hn9 : n ≤ 1000000 := by omega
      by_cases h2 : 64 < p.length
      · rw [verL_long R B i n p hin hn9 h2]
        have hd3 : decide (64 < (p.length : Int)) = true := decide_eq_true (by omega)
        generalize p.length = m at *
        generalize B.length = bl at *
        go_enter Tryd.func20, Tryd.ntmps20
        go_upto_region 1 with fail
        change Code.wp _ _ _ _ (w.alloc (.cells (w8s R) 24))
        generalize w.alloc (.cells (w8s R) 24) = W at *
        go_wp2_with fail
        go_ret
        exact ⟨rfl, hb0⟩
      · have hd3 : decide (64 < (p.length : Int)) = false := decide_eq_false (by omega)
        rw [verL_climb R B i n p hin]
        have hlf : (leafL B).length = 32 := shaL_len _
        have hlf8 : ∀ x, x ∈ leafL B → W8 x := shaL_byte _
        have CL := fun V (h : Sl V la lc B) => leaf_any la lc B V h h8 hB
        have hXb := climbW_byte (leafL B) hlf hlf8 p.reverse i n
        have CC := fun V (h : Rk V al p) => refclimb_any p al c i n (leafL B) V hlf hlf8 hp8 hn9 hin (by omega) hc h
        rw [show climbW (leafL B) i n p.reverse = climbX (leafL B) i n p from rfl] at hXb
        have hXl := hXb.1
        generalize leafL B = F at *
        generalize (climbX F i n p).1 = X at *
        generalize hok : (climbX F i n p).2 = ok at *
        have hS0 := sl_below hS hb0
        have hK0 := hK.below hb0
        have hsX : (w8s X).size = 32 := by rw [size_w8s, hXl]
        generalize p.length = m at *
        generalize B.length = bl at *
        clear hok hXb hlf8 hp8 h8 hS hK
        go_enter Tryd.func20, Tryd.ntmps20
        go_upto_region 3 with fail
        change Code.wp _ _ _ _ (w.alloc (.cells (w8s R) 24))
        generalize w.alloc (.cells (w8s R) 24) = W at *
        apply wp_region_lit
        refine gw_val (by kernel_rfl) (some 26) rfl (.slice la bl lc) (by kernel_rfl) ?_
        simp only [Act.put, List.setIfInBounds_toArray, List.set_cons_succ, List.set_cons_zero]
        refine gw_call (by kernel_rfl) (some 27) rfl 15 #[.slice la bl lc] (.agg (w8s F)) (Below W.heap.size W) (by kernel_rfl) (CL W hS0) (fun V1 hb1 => ?_)
        have hA1 := hA0.below hA0.lt hb1
        have hbw1 := hb0.trans (hb1.mono hb0.size)
        have hK1 := hK0.below hb1
        simp only [Act.put, List.setIfInBounds_toArray, List.set_cons_succ, List.set_cons_zero]
        refine gw_val (by kernel_rfl) (some 28) rfl (.int .i64 i) (by kernel_rfl) ?_
        simp only [Act.put, List.setIfInBounds_toArray, List.set_cons_succ, List.set_cons_zero]
        refine gw_val (by kernel_rfl) (some 29) rfl (.int .i64 n) (by kernel_rfl) ?_
        simp only [Act.put, List.setIfInBounds_toArray, List.set_cons_succ, List.set_cons_zero]
        refine gw_val (by kernel_rfl) (some 30) rfl (.slice al m c) (by kernel_rfl) ?_
        simp only [Act.put, List.setIfInBounds_toArray, List.set_cons_succ, List.set_cons_zero]
        refine gw_call (by kernel_rfl) (some 31) rfl 28 #[.agg (w8s F), .int .i64 i, .int .i64 n, .slice al m c] (.tuple #[.agg (w8s X), .bool ok]) (Below V1.heap.size V1) (by kernel_rfl) (CC V1 hK1) (fun V2 hb2 => ?_)
        have hA2 := hA1.below hA1.lt hb2
        have hbw2 := hbw1.trans (hb2.mono hbw1.size)
        simp only [Act.put, List.setIfInBounds_toArray, List.set_cons_succ, List.set_cons_zero]
        refine gw_val (by kernel_rfl) (some 25) rfl (.tuple #[.agg (w8s X), .bool ok]) (by kernel_rfl) ?_
        simp only [Act.put, List.setIfInBounds_toArray, List.set_cons_succ, List.set_cons_zero]
        refine gw_val (by kernel_rfl) (some 32) rfl (.agg (w8s X)) (by kernel_rfl) ?_
        simp only [Act.put, List.setIfInBounds_toArray, List.set_cons_succ, List.set_cons_zero]
        refine gw_val (by kernel_rfl) (some 33) rfl (.bool ok) (by kernel_rfl) ?_
        simp only [Act.put, List.setIfInBounds_toArray, List.set_cons_succ, List.set_cons_zero]
        refine run_to rfl (some 11) rfl (.pointer (some ⟨V2.heap.size, 0, none⟩)) (V2.alloc (.cells (w8s (List.replicate 32 0)) 24)) (by kernel_rfl) ?_
        simp only [Act.put, List.setIfInBounds_toArray, List.set_cons_succ, List.set_cons_zero]
        apply wpList_store_new (w := V2) (ty := 24) (x := .tmp 11) (y := .tmp 32) (c := w8s (List.replicate 32 0)) (c' := w8s X)
        case hgd => rfl
        case ho => rfl
        case hx => kernel_rfl
        case hy => kernel_rfl
        case hi => rw [hsX]; kernel_rfl
        case hz => rw [hsX]; rfl
        case h1 => exact one_w8s _
        simp only [Act.put]
        refine gw_val (by kernel_rfl) (some 12) rfl (.bool ok) (by kernel_rfl) ?_
        simp only [Act.put, List.setIfInBounds_toArray, List.set_cons_succ, List.set_cons_zero]
        apply wpList_nil
        have hXA : Ab (V2.alloc (.cells (w8s X) 24)) V2.heap.size 24 X := heap_alloc_last _ _
        have hA3 := hA2.alloc (.cells (w8s X) 24)
        have hbw3 := hbw2.alloc hbw2.size (.cells (w8s X) 24)
        generalize V2.alloc (.cells (w8s X) 24) = V3 at *
        generalize V2.heap.size = gx at *
        clear hA0 hb0 hb1 hb2 hbw1 hbw2 hA1 hA2 hK0 hK1 hS0 CL CC
        go_upto_region 4 with fail
        apply wp_region_lit
        refine gw_val (by kernel_rfl) (some 34) rfl (.bool ok) (by kernel_rfl) ?_
        simp only [Act.put, List.setIfInBounds_toArray, List.set_cons_succ, List.set_cons_zero]
        refine gw_val (by kernel_rfl) (some 35) rfl (.bool ok) (by kernel_rfl) ?_
        simp only [Act.put, List.setIfInBounds_toArray, List.set_cons_succ, List.set_cons_zero]
        cases ok
        · refine gw_not (by kernel_rfl) (some 36) rfl ?_
          simp only [Act.put, List.setIfInBounds_toArray, List.set_cons_succ, List.set_cons_zero]
          refine gw_not (by kernel_rfl) (some 37) rfl ?_
          simp only [Act.put, List.setIfInBounds_toArray, List.set_cons_succ, List.set_cons_zero]
          refine gw_not (by kernel_rfl) (some 38) rfl ?_
          simp only [Act.put, List.setIfInBounds_toArray, List.set_cons_succ, List.set_cons_zero]
          refine gw_val (by kernel_rfl) (some 39) rfl (.bool false) (by kernel_rfl) ?_
          simp only [Act.put, List.setIfInBounds_toArray, List.set_cons_succ, List.set_cons_zero]
          refine gw_val (by kernel_rfl) (some 10) rfl (.bool false) (by kernel_rfl) ?_
          simp only [Act.put, List.setIfInBounds_toArray, List.set_cons_succ, List.set_cons_zero]
          apply wpList_nil
          go_wp2_with fail
          go_ret
          exact ⟨rfl, hbw3⟩
        · refine gw_load (by kernel_rfl) (some 36) rfl 24 (.tmp 11) rfl ⟨gx, 0, none⟩ (.agg (w8s X)) (by kernel_rfl) (load_key hXA hXl) ?_
          simp only [Act.put, List.setIfInBounds_toArray, List.set_cons_succ, List.set_cons_zero]
          refine gw_load (by kernel_rfl) (some 37) rfl 24 (.tmp 5) rfl ⟨w.heap.size, 0, none⟩ (.agg (w8s R)) (by kernel_rfl) (load_key hA3 hR) ?_
          simp only [Act.put, List.setIfInBounds_toArray, List.set_cons_succ, List.set_cons_zero]
          refine gw_val (by kernel_rfl) (some 38) rfl (.bool (X == R)) (eq_key rfl X R hXl hR (by kernel_rfl) (by kernel_rfl) _) ?_
          simp only [Act.put, List.setIfInBounds_toArray, List.set_cons_succ, List.set_cons_zero]
          refine gw_val (by kernel_rfl) (some 39) rfl (.bool (X == R)) (by kernel_rfl) ?_
          simp only [Act.put, List.setIfInBounds_toArray, List.set_cons_succ, List.set_cons_zero]
          refine gw_val (by kernel_rfl) (some 10) rfl (.bool (X == R)) (by kernel_rfl) ?_
          simp only [Act.put, List.setIfInBounds_toArray, List.set_cons_succ, List.set_cons_zero]
          apply wpList_nil
          go_wp2_with fail
          go_ret
          exact ⟨rfl, hbw3⟩
end Go.Proofs.YtbhnbcpllhefgaaDoor
