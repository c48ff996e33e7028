/-
 The program's has, take, New, Len, Bytes: contracts.
-/
import Derived.Test.YtmpajgaanghpoaaQL
namespace Go.Proofs.Ytmpajgaanghpoaa
attribute [local irreducible] wpList wpQuiet
open Go.RowKit
set_option maxRecDepth 100000
set_option linter.unusedSimpArgs false
set_option linter.unusedVariables false

section
variable {ρ : Operand → Value} {o : Oper} {x y : Operand}
theorem max_i (ho : o.op = .call { callee := .builtin .max, args := #[x, y], argTypes := #[3, 3] }) (a b : Int) (hx : ρ x = .int .i64 a) (hy : ρ y = .int .i64 b) (w : World) : (execOp ρ o).run Try.prog w = .ok (.value (.int .i64 (max a b))) w := by
 unfold execOp
 simp only [ho, hx, hy, resolve, invoke, builtin, Sem.run_bind, Sem.run_pure, Result.andThen_ok, List.map_toArray, List.map_cons, List.map_nil]
 simp [go_sem]
 by_cases hab : a < b
 ·rw [if_pos hab, Int.max_eq_right (by omega)]
 ·rw [if_neg hab, Int.max_eq_left (by omega)]
theorem min_i (ho : o.op = .call { callee := .builtin .min, args := #[x, y], argTypes := #[3, 3] }) (a b : Int) (hx : ρ x = .int .i64 a) (hy : ρ y = .int .i64 b) (w : World) : (execOp ρ o).run Try.prog w = .ok (.value (.int .i64 (min a b))) w := by
 unfold execOp
 simp only [ho, hx, hy, resolve, invoke, builtin, Sem.run_bind, Sem.run_pure, Result.andThen_ok, List.map_toArray, List.map_cons, List.map_nil]
 simp [go_sem]
 by_cases hab : b < a
 ·rw [if_pos hab, Int.min_eq_right (by omega)]
 ·rw [if_neg hab, Int.min_eq_left (by omega)]
end
set_option maxRecDepth 100000 in
set_option maxHeartbeats 8000000 in
theorem has_neg {w : World} {g : Nat} {mo fr ln bt : Int} {a : Option Addr} {n c : Nat} (x y : Int) (hX : Bx w g (hdp mo fr ln bt a n c) 71) (hx : x < 0) : Calls Try.prog 30 #[.pointer (some ⟨g, 0, none⟩), .agg #[.int .i64 x, .int .i64 y]] w fun e w' => e = .returned (.bool false) ∧ Below w.heap.size w w' := by
 have hb0 : Below w.heap.size w (w.alloc (.cells #[.int .i64 x, .int .i64 y] 33)) := (Below.refl _ w).alloc (Nat.le_refl _) _
 have hY : Bx (w.alloc (.cells #[.int .i64 x, .int .i64 y] 33)) w.heap.size #[.int .i64 x, .int .i64 y] 33 := heap_alloc_last w _
 go_enter Try.func30, Try.ntmps30
 go_upto_region 1 with fail
 change Code.wp _ _ _ _ (w.alloc (.cells #[.int .i64 x, .int .i64 y] 33))
 generalize w.alloc (.cells #[.int .i64 x, .int .i64 y] 33) = W at *
 obtain ⟨g3, hg3⟩ : ∃ g, w.heap.size = g := ⟨_, rfl⟩
 rw [hg3] at hY
 simp only [hg3]
 have hXW := hX.below hX.lt hb0
 have HB := Lib.hid hb0
 clear hb0 hX hg3
 go_upto_region 1 with fail
 refine wp_region_class (C := fun U => Below W.heap.size W U) (by kernel_rfl) (by kernel_rfl) ((Below.refl _ W).drew) ?_
 refine gy (.pointer (some ⟨g, 0, none⟩)) <| gy (.bool false) <| gy (.bool false) <| gy (.pointer (some ⟨g3, 0, none⟩)) <| gyl rfl ⟨g3, 0, none⟩ (.int .i64 x) (fun U hU => (hY.below hY.lt hU).load (i := 0) rfl (by kernel_rfl)) <|
   gyv (.bool true) (fun U hU => lss_n rfl (x) (0) dT (by kernel_rfl) (by kernel_rfl) U) <| gy (.bool true) <| gy (.bool true) <| gyn <| gyn <| gyn <| gyn <| gyn <| gyn <| gyn <| gyn <| gy (.bool true) ?_
 simp only [pu]
 apply wpQuiet_nil
 intro V hV
 have HE := HB.out.trans (hV.mono HB.out.size)
 go_wp2_with fail
 go_ret
 exact ⟨rfl, HE⟩
set_option maxRecDepth 100000 in
set_option maxHeartbeats 8000000 in
theorem has_big {w : World} {g : Nat} {mo fr ln bt : Int} {a : Option Addr} {n c : Nat} (x y : Int) (hX : Bx w g (hdp mo fr ln bt a n c) 71) (hx : 0 ≤ x) (hx2 : (n : Int) ≤ x) : Calls Try.prog 30 #[.pointer (some ⟨g, 0, none⟩), .agg #[.int .i64 x, .int .i64 y]] w fun e w' => e = .returned (.bool false) ∧ Below w.heap.size w w' := by
 have hb0 : Below w.heap.size w (w.alloc (.cells #[.int .i64 x, .int .i64 y] 33)) := (Below.refl _ w).alloc (Nat.le_refl _) _
 have hY : Bx (w.alloc (.cells #[.int .i64 x, .int .i64 y] 33)) w.heap.size #[.int .i64 x, .int .i64 y] 33 := heap_alloc_last w _
 go_enter Try.func30, Try.ntmps30
 go_upto_region 1 with fail
 change Code.wp _ _ _ _ (w.alloc (.cells #[.int .i64 x, .int .i64 y] 33))
 generalize w.alloc (.cells #[.int .i64 x, .int .i64 y] 33) = W at *
 obtain ⟨g3, hg3⟩ : ∃ g, w.heap.size = g := ⟨_, rfl⟩
 rw [hg3] at hY
 simp only [hg3]
 have hXW := hX.below hX.lt hb0
 have HB := Lib.hid hb0
 clear hb0 hX hg3
 go_upto_region 1 with fail
 refine wp_region_class (C := fun U => Below W.heap.size W U) (by kernel_rfl) (by kernel_rfl) ((Below.refl _ W).drew) ?_
 refine gy (.pointer (some ⟨g, 0, none⟩)) <| gy (.bool false) <| gy (.bool false) <| gy (.pointer (some ⟨g3, 0, none⟩)) <| gyl rfl ⟨g3, 0, none⟩ (.int .i64 x) (fun U hU => (hY.below hY.lt hU).load (i := 0) rfl (by kernel_rfl)) <|
   gyv (.bool false) (fun U hU => lss_n rfl (x) (0) dF (by kernel_rfl) (by kernel_rfl) U) <| gy (.bool false) <| gy (.bool false) <| gy (.pointer (some ⟨g3, 0, none⟩)) <| gyl rfl ⟨g3, 0, none⟩ (.int .i64 x) (fun U hU => (hY.below hY.lt hU).load (i := 0) rfl (by kernel_rfl)) <|
   gy (.pointer (some ⟨g, 0, none⟩)) <| gy (.pointer (some ⟨g, 0, none⟩)) <| gy (.pointer (some ⟨g, 1, none⟩)) <| gyl rfl ⟨g, 1, none⟩ (.slice a n c) (fun U hU => (hXW.below hXW.lt hU).load (i := 1) rfl (by kernel_rfl)) <| gy (.int .i64 n) <|
   gyv (.bool true) (fun U hU => geq_n rfl (x) (n) dT (by kernel_rfl) (by kernel_rfl) U) <| gy (.bool true) ?_
 simp only [pu]
 apply wpQuiet_nil
 intro V hV
 have HE := HB.out.trans (hV.mono HB.out.size)
 go_wp2_with fail
 go_ret
 exact ⟨rfl, HE⟩
set_option maxRecDepth 100000 in
set_option maxHeartbeats 8000000 in
theorem has_no {w : World} {g : Nat} {mo fr ln bt : Int} {b n c : Nat} (x y : Int) (hX : Bx w g (hdp mo fr ln bt (some ⟨b, 0, none⟩) n c) 71) {i : Nat} (hxi : x = i) (hin : i < n) {s9 : Sn} (hr : w.rangeAt b (0 + i * 44) (sll s9)) (hfu : s9.full = false) : Calls Try.prog 30 #[.pointer (some ⟨g, 0, none⟩), .agg #[.int .i64 x, .int .i64 y]] w fun e w' => e = .returned (.bool false) ∧ Below w.heap.size w w' := by
 have hb0 : Below w.heap.size w (w.alloc (.cells #[.int .i64 x, .int .i64 y] 33)) := (Below.refl _ w).alloc (Nat.le_refl _) _
 have hY : Bx (w.alloc (.cells #[.int .i64 x, .int .i64 y] 33)) w.heap.size #[.int .i64 x, .int .i64 y] 33 := heap_alloc_last w _
 subst hxi
 have hrW := rg_below hr hb0
 go_enter Try.func30, Try.ntmps30
 go_upto_region 1 with fail
 change Code.wp _ _ _ _ (w.alloc (.cells #[.int .i64 i, .int .i64 y] 33))
 generalize w.alloc (.cells #[.int .i64 i, .int .i64 y] 33) = W at *
 obtain ⟨g3, hg3⟩ : ∃ g, w.heap.size = g := ⟨_, rfl⟩
 rw [hg3] at hY
 simp only [hg3]
 have hXW := hX.below hX.lt hb0
 have HB := Lib.hid hb0
 clear hb0 hX hg3
 go_upto_region 1 with fail
 refine wp_region_class (C := fun U => Below W.heap.size W U) (by kernel_rfl) (by kernel_rfl) ((Below.refl _ W).drew) ?_
 refine gy (.pointer (some ⟨g, 0, none⟩)) <| gy (.bool false) <| gy (.bool false) <| gy (.pointer (some ⟨g3, 0, none⟩)) <| gyl rfl ⟨g3, 0, none⟩ (.int .i64 i) (fun U hU => (hY.below hY.lt hU).load (i := 0) rfl (by kernel_rfl)) <|
   gyv (.bool false) (fun U hU => lss_n rfl (i) (0) dF (by kernel_rfl) (by kernel_rfl) U) <| gy (.bool false) <| gy (.bool false) <| gy (.pointer (some ⟨g3, 0, none⟩)) <| gyl rfl ⟨g3, 0, none⟩ (.int .i64 i) (fun U hU => (hY.below hY.lt hU).load (i := 0) rfl (by kernel_rfl)) <|
   gy (.pointer (some ⟨g, 0, none⟩)) <| gy (.pointer (some ⟨g, 0, none⟩)) <| gy (.pointer (some ⟨g, 1, none⟩)) <| gyl rfl ⟨g, 1, none⟩ (.slice (some ⟨b, 0, none⟩) n c) (fun U hU => (hXW.below hXW.lt hU).load (i := 1) rfl (by kernel_rfl)) <| gy (.int .i64 n) <|
   gyv (.bool false) (fun U hU => geq_n rfl (i) (n) dF (by kernel_rfl) (by kernel_rfl) U) <| gy (.bool false) ?_
 simp only [pu]
 apply wpQuiet_nil
 intro V hV
 have hXV := hXW.below hXW.lt hV
 have hYV := hY.below hY.lt hV
 have hrV := rg_below hrW hV
 have HBV := Lib.hid (HB.out.trans (hV.mono HB.out.size))
 clear hXW hY hrW hV HB hr
 go_upto_region 3 with fail
 refine wp_region_class (C := fun U => Below V.heap.size V U) (by kernel_rfl) (by kernel_rfl) ((Below.refl _ V).drew) ?_
 refine gy (.pointer (some ⟨g, 0, none⟩)) <| gy (.pointer (some ⟨g, 0, none⟩)) <| gy (.pointer (some ⟨g, 1, none⟩)) <| gyl rfl ⟨g, 1, none⟩ (.slice (some ⟨b, 0, none⟩) n c) (fun U hU => (hXV.below hXV.lt hU).load (i := 1) rfl (by kernel_rfl)) <| gy (.pointer (some ⟨g3, 0, none⟩)) <|
   gyl rfl ⟨g3, 0, none⟩ (.int .i64 i) (fun U hU => (hYV.below hYV.lt hU).load (i := 0) rfl (by kernel_rfl)) <| gyv (.pointer (some ⟨b, 0 + i * 44, none⟩)) (fun U hU => idx_sl b 0 n c i hin U _ _ rfl (by kernel_rfl) (by kernel_rfl)) <| gy (.pointer (some ⟨b, 0 + i * 44, none⟩)) ?_
 simp only [pu]
 apply wpQuiet_nil
 intro V2 hV2
 have hYW := hYV.below hYV.lt hV2
 have hrW := rg_below hrV hV2
 have HBW := Lib.hid (HBV.out.trans (hV2.mono HBV.out.size))
 clear hXV hYV hrV hV2 HBV
 go_upto_region 4 with fail
 refine wp_region_class (C := fun U => Below V2.heap.size V2 U) (by kernel_rfl) (by kernel_rfl) ((Below.refl _ V2).drew) ?_
 refine gy (.pointer (some ⟨b, 0 + i * 44, none⟩)) <| gy (.pointer (some ⟨b, 0 + i * 44, none⟩)) <| gy (.pointer (some ⟨b, 0 + i * 44 + 41, none⟩)) <| gyl rfl ⟨b, 0 + i * 44 + 41, none⟩ (.bool false) (fun U hU => rg_cell (rg_below hrW hU) (j := 41) (by rw [← hfu]; rfl) (by kernel_rfl)) <|
   gy (.bool false) <| gyn <| gyn <| gyn <| gyn <| gyn <| gyn <| gyn <| gy (.bool false) <| gy (.bool false) ?_
 simp only [pu]
 apply wpQuiet_nil
 intro V3 hV3
 have HE := HBW.out.trans (hV3.mono HBW.out.size)
 go_wp2_with fail
 go_ret
 exact ⟨rfl, HE⟩
set_option maxRecDepth 100000 in
set_option maxHeartbeats 8000000 in
theorem has_eq {w : World} {g : Nat} {mo fr ln bt : Int} {b n c : Nat} (x y : Int) (hX : Bx w g (hdp mo fr ln bt (some ⟨b, 0, none⟩) n c) 71) {i : Nat} (hxi : x = i) (hin : i < n) {s9 : Sn} (hr : w.rangeAt b (0 + i * 44) (sll s9)) (hfu : s9.full = true) (hus : s9.us = y) : Calls Try.prog 30 #[.pointer (some ⟨g, 0, none⟩), .agg #[.int .i64 x, .int .i64 y]] w fun e w' => e = .returned (.bool true) ∧ Below w.heap.size w w' := by
 have hb0 : Below w.heap.size w (w.alloc (.cells #[.int .i64 x, .int .i64 y] 33)) := (Below.refl _ w).alloc (Nat.le_refl _) _
 have hY : Bx (w.alloc (.cells #[.int .i64 x, .int .i64 y] 33)) w.heap.size #[.int .i64 x, .int .i64 y] 33 := heap_alloc_last w _
 subst hxi
 have hrW := rg_below hr hb0
 go_enter Try.func30, Try.ntmps30
 go_upto_region 1 with fail
 change Code.wp _ _ _ _ (w.alloc (.cells #[.int .i64 i, .int .i64 y] 33))
 generalize w.alloc (.cells #[.int .i64 i, .int .i64 y] 33) = W at *
 obtain ⟨g3, hg3⟩ : ∃ g, w.heap.size = g := ⟨_, rfl⟩
 rw [hg3] at hY
 simp only [hg3]
 have hXW := hX.below hX.lt hb0
 have HB := Lib.hid hb0
 clear hb0 hX hg3
 go_upto_region 1 with fail
 refine wp_region_class (C := fun U => Below W.heap.size W U) (by kernel_rfl) (by kernel_rfl) ((Below.refl _ W).drew) ?_
 refine gy (.pointer (some ⟨g, 0, none⟩)) <| gy (.bool false) <| gy (.bool false) <| gy (.pointer (some ⟨g3, 0, none⟩)) <| gyl rfl ⟨g3, 0, none⟩ (.int .i64 i) (fun U hU => (hY.below hY.lt hU).load (i := 0) rfl (by kernel_rfl)) <|
   gyv (.bool false) (fun U hU => lss_n rfl (i) (0) dF (by kernel_rfl) (by kernel_rfl) U) <| gy (.bool false) <| gy (.bool false) <| gy (.pointer (some ⟨g3, 0, none⟩)) <| gyl rfl ⟨g3, 0, none⟩ (.int .i64 i) (fun U hU => (hY.below hY.lt hU).load (i := 0) rfl (by kernel_rfl)) <|
   gy (.pointer (some ⟨g, 0, none⟩)) <| gy (.pointer (some ⟨g, 0, none⟩)) <| gy (.pointer (some ⟨g, 1, none⟩)) <| gyl rfl ⟨g, 1, none⟩ (.slice (some ⟨b, 0, none⟩) n c) (fun U hU => (hXW.below hXW.lt hU).load (i := 1) rfl (by kernel_rfl)) <| gy (.int .i64 n) <|
   gyv (.bool false) (fun U hU => geq_n rfl (i) (n) dF (by kernel_rfl) (by kernel_rfl) U) <| gy (.bool false) ?_
 simp only [pu]
 apply wpQuiet_nil
 intro V hV
 have hXV := hXW.below hXW.lt hV
 have hYV := hY.below hY.lt hV
 have hrV := rg_below hrW hV
 have HBV := Lib.hid (HB.out.trans (hV.mono HB.out.size))
 clear hXW hY hrW hV HB hr
 go_upto_region 3 with fail
 refine wp_region_class (C := fun U => Below V.heap.size V U) (by kernel_rfl) (by kernel_rfl) ((Below.refl _ V).drew) ?_
 refine gy (.pointer (some ⟨g, 0, none⟩)) <| gy (.pointer (some ⟨g, 0, none⟩)) <| gy (.pointer (some ⟨g, 1, none⟩)) <| gyl rfl ⟨g, 1, none⟩ (.slice (some ⟨b, 0, none⟩) n c) (fun U hU => (hXV.below hXV.lt hU).load (i := 1) rfl (by kernel_rfl)) <| gy (.pointer (some ⟨g3, 0, none⟩)) <|
   gyl rfl ⟨g3, 0, none⟩ (.int .i64 i) (fun U hU => (hYV.below hYV.lt hU).load (i := 0) rfl (by kernel_rfl)) <| gyv (.pointer (some ⟨b, 0 + i * 44, none⟩)) (fun U hU => idx_sl b 0 n c i hin U _ _ rfl (by kernel_rfl) (by kernel_rfl)) <| gy (.pointer (some ⟨b, 0 + i * 44, none⟩)) ?_
 simp only [pu]
 apply wpQuiet_nil
 intro V2 hV2
 have hYW := hYV.below hYV.lt hV2
 have hrW := rg_below hrV hV2
 have HBW := Lib.hid (HBV.out.trans (hV2.mono HBV.out.size))
 clear hXV hYV hrV hV2 HBV
 go_upto_region 4 with fail
 refine wp_region_class (C := fun U => Below V2.heap.size V2 U) (by kernel_rfl) (by kernel_rfl) ((Below.refl _ V2).drew) ?_
 refine gy (.pointer (some ⟨b, 0 + i * 44, none⟩)) <| gy (.pointer (some ⟨b, 0 + i * 44, none⟩)) <| gy (.pointer (some ⟨b, 0 + i * 44 + 41, none⟩)) <| gyl rfl ⟨b, 0 + i * 44 + 41, none⟩ (.bool true) (fun U hU => rg_cell (rg_below hrW hU) (j := 41) (by rw [← hfu]; rfl) (by kernel_rfl)) <|
   gy (.bool true) <| gy (.pointer (some ⟨b, 0 + i * 44, none⟩)) <| gy (.pointer (some ⟨b, 0 + i * 44, none⟩)) <| gy (.pointer (some ⟨b, 0 + i * 44 + 42, none⟩)) <| gyl rfl ⟨b, 0 + i * 44 + 42, none⟩ (.int .i64 s9.us) (fun U hU => rg_cell (rg_below hrW hU) (j := 42) rfl (by kernel_rfl)) <|
   gy (.pointer (some ⟨g3, 1, none⟩)) <| gyl rfl ⟨g3, 1, none⟩ (.int .i64 y) (fun U hU => (hYW.below hYW.lt hU).load (i := 1) rfl (by kernel_rfl)) <| gyv (.bool true) (fun U hU => eql_n rfl (s9.us) (y) (decide_eq_true (hus)) (by kernel_rfl) (by kernel_rfl) U) <| gy (.bool true) <| gy (.bool true) ?_
 simp only [pu]
 apply wpQuiet_nil
 intro V3 hV3
 have HE := HBW.out.trans (hV3.mono HBW.out.size)
 go_wp2_with fail
 go_ret
 exact ⟨rfl, HE⟩
set_option maxRecDepth 100000 in
set_option maxHeartbeats 8000000 in
theorem has_ne {w : World} {g : Nat} {mo fr ln bt : Int} {b n c : Nat} (x y : Int) (hX : Bx w g (hdp mo fr ln bt (some ⟨b, 0, none⟩) n c) 71) {i : Nat} (hxi : x = i) (hin : i < n) {s9 : Sn} (hr : w.rangeAt b (0 + i * 44) (sll s9)) (hfu : s9.full = true) (hus : s9.us ≠ y) : Calls Try.prog 30 #[.pointer (some ⟨g, 0, none⟩), .agg #[.int .i64 x, .int .i64 y]] w fun e w' => e = .returned (.bool false) ∧ Below w.heap.size w w' := by
 have hb0 : Below w.heap.size w (w.alloc (.cells #[.int .i64 x, .int .i64 y] 33)) := (Below.refl _ w).alloc (Nat.le_refl _) _
 have hY : Bx (w.alloc (.cells #[.int .i64 x, .int .i64 y] 33)) w.heap.size #[.int .i64 x, .int .i64 y] 33 := heap_alloc_last w _
 subst hxi
 have hrW := rg_below hr hb0
 go_enter Try.func30, Try.ntmps30
 go_upto_region 1 with fail
 change Code.wp _ _ _ _ (w.alloc (.cells #[.int .i64 i, .int .i64 y] 33))
 generalize w.alloc (.cells #[.int .i64 i, .int .i64 y] 33) = W at *
 obtain ⟨g3, hg3⟩ : ∃ g, w.heap.size = g := ⟨_, rfl⟩
 rw [hg3] at hY
 simp only [hg3]
 have hXW := hX.below hX.lt hb0
 have HB := Lib.hid hb0
 clear hb0 hX hg3
 go_upto_region 1 with fail
 refine wp_region_class (C := fun U => Below W.heap.size W U) (by kernel_rfl) (by kernel_rfl) ((Below.refl _ W).drew) ?_
 refine gy (.pointer (some ⟨g, 0, none⟩)) <| gy (.bool false) <| gy (.bool false) <| gy (.pointer (some ⟨g3, 0, none⟩)) <| gyl rfl ⟨g3, 0, none⟩ (.int .i64 i) (fun U hU => (hY.below hY.lt hU).load (i := 0) rfl (by kernel_rfl)) <|
   gyv (.bool false) (fun U hU => lss_n rfl (i) (0) dF (by kernel_rfl) (by kernel_rfl) U) <| gy (.bool false) <| gy (.bool false) <| gy (.pointer (some ⟨g3, 0, none⟩)) <| gyl rfl ⟨g3, 0, none⟩ (.int .i64 i) (fun U hU => (hY.below hY.lt hU).load (i := 0) rfl (by kernel_rfl)) <|
   gy (.pointer (some ⟨g, 0, none⟩)) <| gy (.pointer (some ⟨g, 0, none⟩)) <| gy (.pointer (some ⟨g, 1, none⟩)) <| gyl rfl ⟨g, 1, none⟩ (.slice (some ⟨b, 0, none⟩) n c) (fun U hU => (hXW.below hXW.lt hU).load (i := 1) rfl (by kernel_rfl)) <| gy (.int .i64 n) <|
   gyv (.bool false) (fun U hU => geq_n rfl (i) (n) dF (by kernel_rfl) (by kernel_rfl) U) <| gy (.bool false) ?_
 simp only [pu]
 apply wpQuiet_nil
 intro V hV
 have hXV := hXW.below hXW.lt hV
 have hYV := hY.below hY.lt hV
 have hrV := rg_below hrW hV
 have HBV := Lib.hid (HB.out.trans (hV.mono HB.out.size))
 clear hXW hY hrW hV HB hr
 go_upto_region 3 with fail
 refine wp_region_class (C := fun U => Below V.heap.size V U) (by kernel_rfl) (by kernel_rfl) ((Below.refl _ V).drew) ?_
 refine gy (.pointer (some ⟨g, 0, none⟩)) <| gy (.pointer (some ⟨g, 0, none⟩)) <| gy (.pointer (some ⟨g, 1, none⟩)) <| gyl rfl ⟨g, 1, none⟩ (.slice (some ⟨b, 0, none⟩) n c) (fun U hU => (hXV.below hXV.lt hU).load (i := 1) rfl (by kernel_rfl)) <| gy (.pointer (some ⟨g3, 0, none⟩)) <|
   gyl rfl ⟨g3, 0, none⟩ (.int .i64 i) (fun U hU => (hYV.below hYV.lt hU).load (i := 0) rfl (by kernel_rfl)) <| gyv (.pointer (some ⟨b, 0 + i * 44, none⟩)) (fun U hU => idx_sl b 0 n c i hin U _ _ rfl (by kernel_rfl) (by kernel_rfl)) <| gy (.pointer (some ⟨b, 0 + i * 44, none⟩)) ?_
 simp only [pu]
 apply wpQuiet_nil
 intro V2 hV2
 have hYW := hYV.below hYV.lt hV2
 have hrW := rg_below hrV hV2
 have HBW := Lib.hid (HBV.out.trans (hV2.mono HBV.out.size))
 clear hXV hYV hrV hV2 HBV
 go_upto_region 4 with fail
 refine wp_region_class (C := fun U => Below V2.heap.size V2 U) (by kernel_rfl) (by kernel_rfl) ((Below.refl _ V2).drew) ?_
 refine gy (.pointer (some ⟨b, 0 + i * 44, none⟩)) <| gy (.pointer (some ⟨b, 0 + i * 44, none⟩)) <| gy (.pointer (some ⟨b, 0 + i * 44 + 41, none⟩)) <| gyl rfl ⟨b, 0 + i * 44 + 41, none⟩ (.bool true) (fun U hU => rg_cell (rg_below hrW hU) (j := 41) (by rw [← hfu]; rfl) (by kernel_rfl)) <|
   gy (.bool true) <| gy (.pointer (some ⟨b, 0 + i * 44, none⟩)) <| gy (.pointer (some ⟨b, 0 + i * 44, none⟩)) <| gy (.pointer (some ⟨b, 0 + i * 44 + 42, none⟩)) <| gyl rfl ⟨b, 0 + i * 44 + 42, none⟩ (.int .i64 s9.us) (fun U hU => rg_cell (rg_below hrW hU) (j := 42) rfl (by kernel_rfl)) <|
   gy (.pointer (some ⟨g3, 1, none⟩)) <| gyl rfl ⟨g3, 1, none⟩ (.int .i64 y) (fun U hU => (hYW.below hYW.lt hU).load (i := 1) rfl (by kernel_rfl)) <| gyv (.bool false) (fun U hU => eql_n rfl (s9.us) (y) (decide_eq_false (hus)) (by kernel_rfl) (by kernel_rfl) U) <| gy (.bool false) <|
   gy (.bool false) ?_
 simp only [pu]
 apply wpQuiet_nil
 intro V3 hV3
 have HE := HBW.out.trans (hV3.mono HBW.out.size)
 go_wp2_with fail
 go_ret
 exact ⟨rfl, HE⟩
theorem q_has {w : World} {g : Nat} {a : Option Addr} {c : Nat} {T : List Sn} {mo fr ln bt : Int} {m : Sm} (h : Mp w g a c T mo fr ln bt) (hl : Lk m T fr) (q : Int × Int) : Calls Try.prog 30 #[.pointer (some ⟨g, 0, none⟩), .agg #[.int .i64 q.1, .int .i64 q.2]] w fun e w' => e = .returned (.bool (valS m q)) ∧ Below w.heap.size w w' := by
 by_cases h0 : q.1 < 0
 ·rw [val_neg h0]
  exact has_neg _ _ h.bx h0
 ·by_cases h1 : (T.length : Int) ≤ q.1
  ·rw [val_big (by rw [← hl.len]; exact h1)]
   exact has_big _ _ h.bx (by omega) h1
  ·obtain ⟨i, hi⟩ : ∃ i : Nat, q.1 = i := ⟨q.1.toNat, by omega⟩
   have hil : i < T.length := by omega
   obtain ⟨b, hb, hr⟩ := h.rg hil
   have hbx := h.bx
   rw [hb] at hbx
   have hu := hl.us i hil
   rw [val_in hi (by rw [← hl.len]; exact hil), ← hl.full i hil]
   rw [← hl.full i hil] at hu
   cases hf : (T.getD i zSn).full with
   | false =>
    exact has_no _ _ hbx hi hil hr hf
   | true =>
    rw [hf, if_pos rfl] at hu
    rw [← hu, Bool.true_and]
    by_cases he : (T.getD i zSn).us = q.2
    ·rw [decide_eq_true he]
     exact has_eq _ _ hbx hi hil hr hf he
    ·rw [decide_eq_false he]
     exact has_ne _ _ hbx hi hil hr hf he
set_option maxRecDepth 100000 in
set_option maxHeartbeats 8000000 in
theorem take_new {w : World} {Bd g : Nat} {a : Option Addr} {c : Nat} {T : List Sn} {mo ln bt : Int} (h : Mp w g a c T mo (-1) ln bt) (hB : ∀ k, Sp g a T k → Bd ≤ k) (hw : Bd ≤ w.heap.size) (hn : T.length ≤ 100000) : Calls Try.prog 36 #[.pointer (some ⟨g, 0, none⟩)] w fun e w' => e = .returned (.int .i64 T.length) ∧ ∃ a1 c1, Gm Bd g a T w a1 c1 (T ++ [zSn]) mo (-1) ln bt w' := by
 obtain ⟨a1, c1, V1, V2, hap, hst, hG⟩ := Gm.push h hB hw hn
 have hX := h.bx
 have hX2 : Bx V2 g (hdp mo (-1) ln bt a1 (T.length + 1) c1) 71 := by have := hG.mem.bx; rw [List.length_append, List.length_singleton] at this; exact this
 have HG := Lib.hid hG
 have hbd := build_sl zSn w
 obtain ⟨n, hn0⟩ : ∃ n, T.length = n := ⟨_, rfl⟩
 have HN := Lib.hid hn0
 rw [hn0] at hap hst hX hX2 hn ⊢
 clear h hB hw hG hn0
 go_enter Try.func36, Try.ntmps36
 go_upto_region 1 with fail
 refine wl <| gz3 (.pointer (some ⟨g, 0, none⟩)) (.pointer (some ⟨g, 0, none⟩)) (.pointer (some ⟨g, 2, none⟩)) <| gzl rfl ⟨g, 2, none⟩ (.int .i64 (-1)) (hX.load (i := 2) rfl (by kernel_rfl)) <|
  gzb (eql_n rfl ((-1)) ((-1)) (decide_eq_true (rfl))) <| wn ?_
 simp only [pu]
 go_upto_region 2 with fail
 refine wl <| gz4 (.pointer (some ⟨g, 0, none⟩)) (.pointer (some ⟨g, 0, none⟩)) (.pointer (some ⟨g, 0, none⟩)) (.pointer (some ⟨g, 1, none⟩)) <| gzl rfl ⟨g, 1, none⟩ (.slice a n c) (hX.load (i := 1) rfl (by kernel_rfl)) <| gz1 (.agg (slA zSn)) ?_
 simp only [pu]
 refine gw_build (by kernel_rfl) (some 15) rfl 69 1 #[(0, .tmp 14)] rfl #[(0, .agg (slA zSn))] (by kernel_rfl) (.slice (some ⟨w.heap.size, 0, none⟩) 1 1) _ hbd ?_
 simp only [pu]
 refine append_step rfl (some 16) rfl 69 rfl (.tmp 13) (.tmp 15) 69 rfl (.slice a n c) (.slice (some ⟨w.heap.size, 0, none⟩) 1 1) (.slice a1 (n + 1) c1) V1 (by kernel_rfl) (by kernel_rfl) hap ?_
 simp only [pu]
 refine gz2 (.pointer (some ⟨g, 0, none⟩)) (.pointer (some ⟨g, 1, none⟩)) <| gzs rfl (hst) <| wn ?_
 simp only [pu]
 clear hap hst hbd hX
 go_upto_region 3 with fail
 refine wl <| gz3 (.pointer (some ⟨g, 0, none⟩)) (.pointer (some ⟨g, 0, none⟩)) (.pointer (some ⟨g, 1, none⟩)) <| gzl rfl ⟨g, 1, none⟩ (.slice a1 (n + 1) c1) (hX2.load (i := 1) rfl (by kernel_rfl)) <| gz1 (.int .i64 (n + 1)) <|
  gzw (.int .i64 (((n + 1 : Nat) : Int) - 1)) (sub_i rfl ((n + 1 : Nat) : Int) 1 (by omega)) <| gz1 (.int .i64 (((n + 1 : Nat) : Int) - 1)) <| wn ?_
 simp only [pu]
 go_wp2_with fail
 go_ret
 exact ⟨congrArg (fun q => Ending.returned (Value.int .i64 q)) (by omega), a1, c1, HG.out⟩
set_option maxRecDepth 100000 in
set_option maxHeartbeats 8000000 in
theorem take_old {w : World} {Bd g : Nat} {a : Option Addr} {c : Nat} {T : List Sn} {mo ln bt : Int} {i : Nat} (h : Mp w g a c T mo (i : Int) ln bt) (hi : i < T.length) (hB : ∀ k, Sp g a T k → Bd ≤ k) : Calls Try.prog 36 #[.pointer (some ⟨g, 0, none⟩)] w fun e w' => e = .returned (.int .i64 i) ∧ Gm Bd g a T w a c T mo (T.getD i zSn).nx ln bt w' := by
 obtain ⟨V2, hst, hG⟩ := Gm.num h hB 2 (T.getD i zSn).nx (T.getD i zSn).nx ln bt (by decide) rfl
 obtain ⟨b, rfl, hr⟩ := h.rg hi
 have hX := h.bx
 have HG := Lib.hid hG
 generalize T.getD i zSn = s9 at *
 obtain ⟨n, hn0⟩ : ∃ n, T.length = n := ⟨_, rfl⟩
 rw [hn0] at hX hi
 clear h hB hG hn0
 go_enter Try.func36, Try.ntmps36
 go_upto_region 1 with fail
 refine wl <| gz3 (.pointer (some ⟨g, 0, none⟩)) (.pointer (some ⟨g, 0, none⟩)) (.pointer (some ⟨g, 2, none⟩)) <| gzl rfl ⟨g, 2, none⟩ (.int .i64 i) (hX.load (i := 2) rfl (by kernel_rfl)) <|
  gzb (eql_n rfl (i) ((-1)) dF) <| wn ?_
 simp only [pu]
 go_upto_region 4 with fail
 refine wl <| gz3 (.pointer (some ⟨g, 0, none⟩)) (.pointer (some ⟨g, 0, none⟩)) (.pointer (some ⟨g, 2, none⟩)) <| gzl rfl ⟨g, 2, none⟩ (.int .i64 i) (hX.load (i := 2) rfl (by kernel_rfl)) <| gz1 (.int .i64 i) <| wn ?_
 simp only [pu]
 go_upto_region 5 with fail
 refine wl <| gz4 (.pointer (some ⟨g, 0, none⟩)) (.pointer (some ⟨g, 0, none⟩)) (.pointer (some ⟨g, 0, none⟩)) (.pointer (some ⟨g, 1, none⟩)) <| gzl rfl ⟨g, 1, none⟩ (.slice (some ⟨b, 0, none⟩) n c) (hX.load (i := 1) rfl (by kernel_rfl)) <| gz1 (.int .i64 i) <|
  gzv (.pointer (some ⟨b, 0 + i * 44, none⟩)) (idx_sl b 0 n c i hi _ _ _ rfl (by kernel_rfl) (by kernel_rfl)) <| gz1 (.pointer (some ⟨b, 0 + i * 44 + 43, none⟩)) <| gzl rfl ⟨b, 0 + i * 44 + 43, none⟩ (.int .i64 s9.nx) (rg_cell hr (j := 43) rfl (by kernel_rfl)) <|
  gz2 (.pointer (some ⟨g, 0, none⟩)) (.pointer (some ⟨g, 2, none⟩)) <| gzs rfl (hst) <| wn ?_
 simp only [pu]
 clear hst hr hX
 go_wp2_with fail
 go_ret
 exact ⟨rfl, HG.out⟩
theorem q_take {w : World} {Bd g : Nat} {a : Option Addr} {c : Nat} {T : List Sn} {mo fr ln bt : Int} {m : Sm} {u : Nat} (h : Mp w g a c T mo fr ln bt) (hl : Lk m T fr) (hm : Wm m u) (hc : cntL m.P < m.mo) (hB : ∀ k, Sp g a T k → Bd ≤ k) (hw : Bd ≤ w.heap.size) (e : En) : Calls Try.prog 36 #[.pointer (some ⟨g, 0, none⟩)] w fun r w' => ∃ (i : Nat) (T1 : List Sn) (fr1 : Int) (a1 : Option Addr) (c1 : Nat), r = .returned (.int .i64 i) ∧ TkO m e T1 fr1 i ∧ Gm Bd g a T w a1 c1 T1 mo fr1 ln bt w' := by
 have hn : T.length ≤ 100000 := by rw [hl.len]; have := hm.pl; omega
 rcases add_cases m with h0 | ⟨-, ⟨F, i, hF⟩ | hF⟩
 ·omega
 ·obtain ⟨e1, e2⟩ := hl.take_free hm hc hF e
  subst e1
  exact (take_old h e2.il hB).mono fun r w' q => ⟨i, T, _, a, c, q.1, e2, q.2⟩
 ·obtain ⟨e1, e2⟩ := hl.take_new hc hF e
  subst e1
  exact (take_new h hB hw hn).mono fun r w' q => let ⟨q1, a1, c1, q2⟩ := q; ⟨T.length, _, _, a1, c1, q1, e2, q2⟩
set_option maxRecDepth 100000 in
set_option maxHeartbeats 8000000 in
theorem q_new (k : Int) (w : World) : Calls Try.prog 20 #[.int .i64 k] w fun e w' => ∃ g S, e = .returned (.pointer (some ⟨g, 0, none⟩)) ∧ RepS w' g S (newS k) ∧ (∀ j, S j → w.heap.size ≤ j) ∧ Below w.heap.size w w' := by
 have hb : Below w.heap.size w (w.alloc (.cells (hdp (min (max k 0) 512) (-1) 0 0 none 0 0) 71)) := (Below.refl _ w).alloc (Nat.le_refl _) _
 have hX : Bx (w.alloc (.cells (hdp (min (max k 0) 512) (-1) 0 0 none 0 0) 71)) w.heap.size (hdp (min (max k 0) 512) (-1) 0 0 none 0 0) 71 := heap_alloc_last w _
 have hz : min (max k 0) 512 = ((newS k).mo : Int) := by show _ = ((capS k : Nat) : Int); unfold capS; omega
 have HE : Hid (∃ g S, Ending.returned (.pointer (some ⟨w.heap.size, 0, none⟩)) = .returned (.pointer (some ⟨g, 0, none⟩)) ∧ RepS (w.alloc (.cells (hdp (min (max k 0) 512) (-1) 0 0 none 0 0) 71)) g S (newS k) ∧ (∀ j, S j → w.heap.size ≤ j) ∧ Below w.heap.size w (w.alloc (.cells (hdp (min (max k 0) 512) (-1) 0 0 none 0 0) 71))) := Lib.hid ⟨w.heap.size, Sp w.heap.size none [], rfl, ⟨none, 0, [], -1, ⟨by rw [← hz]; exact hX, World.ownsRow_nil _ _ _ _, fun i h => (by simp at h), fun x h => (by cases h), fun i k h => (by simp at h)⟩, Lk.new k, rfl⟩, fun j hj => by
  rcases hj with rfl | ⟨x, hx, -⟩ | ⟨i, hi, -⟩
  ·exact Nat.le_refl _
  ·cases hx
  ·simp at hi, hb⟩
 clear hb hX hz
 go_enter Try.func20, Try.ntmps20
 go_upto_region 1 with fail
 refine wl <| gz1 (.int .i64 k) <| gzw (.int .i64 (max k 0)) (max_i rfl k 0) <| gzw (.int .i64 (min (max k 0) 512)) (min_i rfl (max k 0) 512) <| gz1 (.agg (hdp (min (max k 0) 512) (-1) 0 0 none 0 0)) ?_
 simp only [pu]
 refine run_to rfl (some 7) rfl (.pointer (some ⟨w.heap.size, 0, none⟩)) (w.alloc (.cells (hdp (min (max k 0) 512) (-1) 0 0 none 0 0) 71)) (by kernel_rfl) ?_
 simp only [pu]
 refine gz1 (.pointer (some ⟨w.heap.size, 0, none⟩)) <| wn ?_
 simp only [pu]
 go_wp2_with fail
 go_ret
 exact HE.out
set_option maxRecDepth 100000 in
set_option maxHeartbeats 8000000 in
theorem q_len {w : World} {g : Nat} {mo fr ln bt : Int} {a : Option Addr} {n c : Nat} (hX : Bx w g (hdp mo fr ln bt a n c) 71) : Calls Try.prog 11 #[.pointer (some ⟨g, 0, none⟩)] w fun e w' => e = .returned (.int .i64 ln) ∧ w = w' := by
 go_enter Try.func11, Try.ntmps11
 go_upto_region 1 with fail
 refine wl <| gz2 (.pointer (some ⟨g, 0, none⟩)) (.bool false) <| wn ?_
 simp only [pu]
 go_upto_region 3 with fail
 refine wl <| gz3 (.pointer (some ⟨g, 0, none⟩)) (.pointer (some ⟨g, 0, none⟩)) (.pointer (some ⟨g, 3, none⟩)) <| gzl rfl ⟨g, 3, none⟩ (.int .i64 ln) (hX.load (i := 3) rfl (by kernel_rfl)) <| gz1 (.int .i64 ln) <| wn ?_
 simp only [pu]
 go_wp2_with fail
 go_ret
 exact ⟨rfl, rfl⟩
set_option maxRecDepth 100000 in
set_option maxHeartbeats 8000000 in
theorem q_byt {w : World} {g : Nat} {mo fr ln bt : Int} {a : Option Addr} {n c : Nat} (hX : Bx w g (hdp mo fr ln bt a n c) 71) : Calls Try.prog 13 #[.pointer (some ⟨g, 0, none⟩)] w fun e w' => e = .returned (.int .i64 bt) ∧ w = w' := by
 go_enter Try.func13, Try.ntmps13
 go_upto_region 1 with fail
 refine wl <| gz2 (.pointer (some ⟨g, 0, none⟩)) (.bool false) <| wn ?_
 simp only [pu]
 go_upto_region 3 with fail
 refine wl <| gz3 (.pointer (some ⟨g, 0, none⟩)) (.pointer (some ⟨g, 0, none⟩)) (.pointer (some ⟨g, 4, none⟩)) <| gzl rfl ⟨g, 4, none⟩ (.int .i64 bt) (hX.load (i := 4) rfl (by kernel_rfl)) <| gz1 (.int .i64 bt) <| wn ?_
 simp only [pu]
 go_wp2_with fail
 go_ret
 exact ⟨rfl, rfl⟩
end Go.Proofs.Ytmpajgaanghpoaa
