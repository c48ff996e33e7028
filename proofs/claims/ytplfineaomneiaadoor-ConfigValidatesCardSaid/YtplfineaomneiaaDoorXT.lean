/-
 The program's set: contract.
-/
import Derived.Test.YtplfineaomneiaaDoorXV
namespace Go.Proofs.YtplfineaomneiaaDoor
open Go.RowKit
set_option maxRecDepth 100000
set_option linter.unusedSimpArgs false
set_option linter.unusedVariables false

set_option maxRecDepth 100000 in
set_option maxHeartbeats 8000000 in
theorem ps_pos (k : Value) (hk : k.oneCell' = true) (lo hi s : Int) (hs : 0 ≤ s ∧ s < 9223372036854775808) {g j kk : Nat} {CC : Array Value} (hj : j < CC.size) (w : World) (hX : Bx w g CC kk) : Calls Tryd.prog 52 #[.agg #[k, .iface 80 (.pointer (some ⟨g, j, none⟩)), .int .i64 lo, .int .u64 hi], .agg (nuA false s)] w fun e w' => e = .returned (.tuple #[]) ∧ Bx w' g (CC.setIfInBounds j (.int .i64 s)) kk ∧ But g w w' := by
 have hw1 : IntKind.i64.wrap s = s := by
  rw [show IntKind.i64.wrap s = (s + 9223372036854775808) % 18446744073709551616 - 9223372036854775808 by simp [IntKind.wrap, IntKind.signed, IntKind.bits]; omega]
  omega
 go_enter Tryd.func52, Tryd.ntmps52
 go_upto_region 1 with fail
 change Code.wp _ _ _ _ ((w.alloc (.cells #[k, .iface 80 (.pointer (some ⟨g, j, none⟩)), .int .i64 lo, .int .u64 hi] 59)).alloc (.cells #[.bool false, .int .u64 s] 62))
 have hb_0 : Below w.heap.size w (w.alloc (.cells #[k, .iface 80 (.pointer (some ⟨g, j, none⟩)), .int .i64 lo, .int .u64 hi] 59)) := (Below.refl _ w).alloc (Nat.le_refl _) _
 have hX2 : Bx (w.alloc (.cells #[k, .iface 80 (.pointer (some ⟨g, j, none⟩)), .int .i64 lo, .int .u64 hi] 59)) w.heap.size #[k, .iface 80 (.pointer (some ⟨g, j, none⟩)), .int .i64 lo, .int .u64 hi] 59 := heap_alloc_last w _
 have hs_0 : (w.alloc (.cells #[k, .iface 80 (.pointer (some ⟨g, j, none⟩)), .int .i64 lo, .int .u64 hi] 59)).heap.size = w.heap.size + 1 := by simp
 generalize w.alloc (.cells #[k, .iface 80 (.pointer (some ⟨g, j, none⟩)), .int .i64 lo, .int .u64 hi] 59) = W0_ at *
 have hb_1 : Below w.heap.size w (W0_.alloc (.cells #[.bool false, .int .u64 s] 62)) := hb_0.alloc hb_0.size _
 have hX2 := hX2.below hX2.lt ((Below.refl _ W0_).alloc (Nat.le_refl _) (.cells #[.bool false, .int .u64 s] 62))
 have hX3 : Bx (W0_.alloc (.cells #[.bool false, .int .u64 s] 62)) W0_.heap.size #[.bool false, .int .u64 s] 62 := heap_alloc_last W0_ _
 have hs_1 : (W0_.alloc (.cells #[.bool false, .int .u64 s] 62)).heap.size = W0_.heap.size + 1 := by simp
 generalize W0_.alloc (.cells #[.bool false, .int .u64 s] 62) = W at *
 obtain ⟨g2, hg2⟩ : ∃ g, w.heap.size = g := ⟨_, rfl⟩
 rw [hg2] at hX2
 obtain ⟨g3, hg3⟩ : ∃ g, W0_.heap.size = g := ⟨_, rfl⟩
 rw [hg3] at hX3
 have hq1 : w.heap.size + 1 = g3 := by omega
 have HGE : Hid (g2 = w.heap.size + 0 ∧ g3 = w.heap.size + 1 ∧ W.heap.size = w.heap.size + 2) := Lib.hid ⟨by omega, by omega, by omega⟩
 have HB := Lib.hid hb_1
 simp only [hg2]
 try simp only [show g2 + 1 = g3 by omega]
 clear hb_0 hs_0 hg2 hb_1 hs_1 hg3 hq1
 have hg0 := hX.lt
 have hXg := hX.below hX.lt HB.out
 refine wl <| gz1 (.pointer (some ⟨g2, 1, none⟩)) <| gzl rfl ⟨g2, 1, none⟩ (.iface 80 (.pointer (some ⟨g, j, none⟩))) (hX2.load (i := 1) rfl (by kernel_rfl)) <| wn ?_
 simp only [pu]
 go_upto_region 2 with fail
 refine wl <| gz3 (.tuple #[.pointer (some ⟨g, j, none⟩), .bool true]) (.bool true) (.pointer (some ⟨g, j, none⟩)) <| wn ?_
 simp only [pu]
 go_upto_region 3 with fail
 refine wl <| gz1 (.pointer (some ⟨g, j, none⟩)) <| wn ?_
 simp only [pu]
 obtain ⟨V2, hst, hY, hbt⟩ := st_fld (i := j) (v := .int .i64 s) (ty := 3) (CC.setIfInBounds j (.int .i64 s)) hXg hj rfl rfl (by kernel_rfl)
 have HBT : Hid (But g w V2) := Lib.hid ((But.of_below HB.out (Nat.le_of_lt hg0)).trans hbt)
 have hX3b := hX3.but hbt (by have := HGE.out; omega)
 go_upto_region 4 with fail
 refine wl <| gz2 (.pointer (some ⟨g, j, none⟩)) (.pointer (some ⟨g3, 1, none⟩)) <| gzl rfl ⟨g3, 1, none⟩ (.int .u64 s) (hX3.load (i := 1) rfl (by kernel_rfl)) <| gzv (.int .i64 s) (conv_ui rfl s s hw1 (by kernel_rfl) _) <| gz1 (.pointer (some ⟨g, j, none⟩)) <| gzs rfl (hst) <|
  wpList_nil ?_
 simp only [pu]
 go_upto_region 5 with fail
 refine wl <| gz1 (.pointer (some ⟨g3, 0, none⟩)) <| gzl rfl ⟨g3, 0, none⟩ (.bool false) (hX3b.load (i := 0) rfl (by kernel_rfl)) <| wn ?_
 simp only [pu]
 have HE : Hid (Bx V2 g (CC.setIfInBounds j (.int .i64 s)) kk ∧ But g w V2) := Lib.hid ⟨hY, HBT.out⟩
 go_wp2_with fail
 exact end_none rfl rfl ⟨rfl, HE.out⟩
set_option maxRecDepth 100000 in
set_option maxHeartbeats 8000000 in
theorem ps_neg (k : Value) (hk : k.oneCell' = true) (lo hi s : Int) (hs : 0 ≤ s ∧ s < 9223372036854775808) {g j kk : Nat} {CC : Array Value} (hj : j < CC.size) (w : World) (hX : Bx w g CC kk) : Calls Tryd.prog 52 #[.agg #[k, .iface 80 (.pointer (some ⟨g, j, none⟩)), .int .i64 lo, .int .u64 hi], .agg (nuA true s)] w fun e w' => e = .returned (.tuple #[]) ∧ Bx w' g (CC.setIfInBounds j (.int .i64 (-s))) kk ∧ But g w w' := by
 have hw1 : IntKind.i64.wrap s = s := by
  rw [show IntKind.i64.wrap s = (s + 9223372036854775808) % 18446744073709551616 - 9223372036854775808 by simp [IntKind.wrap, IntKind.signed, IntKind.bits]; omega]
  omega
 have hw2 : IntKind.i64.wrap (-s) = -s := by
  rw [show IntKind.i64.wrap (-s) = (-s + 9223372036854775808) % 18446744073709551616 - 9223372036854775808 by simp [IntKind.wrap, IntKind.signed, IntKind.bits]; omega]
  omega
 go_enter Tryd.func52, Tryd.ntmps52
 go_upto_region 1 with fail
 change Code.wp _ _ _ _ ((w.alloc (.cells #[k, .iface 80 (.pointer (some ⟨g, j, none⟩)), .int .i64 lo, .int .u64 hi] 59)).alloc (.cells #[.bool true, .int .u64 s] 62))
 have hb_0 : Below w.heap.size w (w.alloc (.cells #[k, .iface 80 (.pointer (some ⟨g, j, none⟩)), .int .i64 lo, .int .u64 hi] 59)) := (Below.refl _ w).alloc (Nat.le_refl _) _
 have hX2 : Bx (w.alloc (.cells #[k, .iface 80 (.pointer (some ⟨g, j, none⟩)), .int .i64 lo, .int .u64 hi] 59)) w.heap.size #[k, .iface 80 (.pointer (some ⟨g, j, none⟩)), .int .i64 lo, .int .u64 hi] 59 := heap_alloc_last w _
 have hs_0 : (w.alloc (.cells #[k, .iface 80 (.pointer (some ⟨g, j, none⟩)), .int .i64 lo, .int .u64 hi] 59)).heap.size = w.heap.size + 1 := by simp
 generalize w.alloc (.cells #[k, .iface 80 (.pointer (some ⟨g, j, none⟩)), .int .i64 lo, .int .u64 hi] 59) = W0_ at *
 have hb_1 : Below w.heap.size w (W0_.alloc (.cells #[.bool true, .int .u64 s] 62)) := hb_0.alloc hb_0.size _
 have hX2 := hX2.below hX2.lt ((Below.refl _ W0_).alloc (Nat.le_refl _) (.cells #[.bool true, .int .u64 s] 62))
 have hX3 : Bx (W0_.alloc (.cells #[.bool true, .int .u64 s] 62)) W0_.heap.size #[.bool true, .int .u64 s] 62 := heap_alloc_last W0_ _
 have hs_1 : (W0_.alloc (.cells #[.bool true, .int .u64 s] 62)).heap.size = W0_.heap.size + 1 := by simp
 generalize W0_.alloc (.cells #[.bool true, .int .u64 s] 62) = W at *
 obtain ⟨g2, hg2⟩ : ∃ g, w.heap.size = g := ⟨_, rfl⟩
 rw [hg2] at hX2
 obtain ⟨g3, hg3⟩ : ∃ g, W0_.heap.size = g := ⟨_, rfl⟩
 rw [hg3] at hX3
 have hq1 : w.heap.size + 1 = g3 := by omega
 have HGE : Hid (g2 = w.heap.size + 0 ∧ g3 = w.heap.size + 1 ∧ W.heap.size = w.heap.size + 2) := Lib.hid ⟨by omega, by omega, by omega⟩
 have HB := Lib.hid hb_1
 simp only [hg2]
 try simp only [show g2 + 1 = g3 by omega]
 clear hb_0 hs_0 hg2 hb_1 hs_1 hg3 hq1
 have hg0 := hX.lt
 have hXg := hX.below hX.lt HB.out
 refine wl <| gz1 (.pointer (some ⟨g2, 1, none⟩)) <| gzl rfl ⟨g2, 1, none⟩ (.iface 80 (.pointer (some ⟨g, j, none⟩))) (hX2.load (i := 1) rfl (by kernel_rfl)) <| wn ?_
 simp only [pu]
 go_upto_region 2 with fail
 refine wl <| gz3 (.tuple #[.pointer (some ⟨g, j, none⟩), .bool true]) (.bool true) (.pointer (some ⟨g, j, none⟩)) <| wn ?_
 simp only [pu]
 go_upto_region 3 with fail
 refine wl <| gz1 (.pointer (some ⟨g, j, none⟩)) <| wn ?_
 simp only [pu]
 obtain ⟨V2, hst, hY, hbt⟩ := st_fld (i := j) (v := .int .i64 s) (ty := 3) (CC.setIfInBounds j (.int .i64 s)) hXg hj rfl rfl (by kernel_rfl)
 have HBT : Hid (But g w V2) := Lib.hid ((But.of_below HB.out (Nat.le_of_lt hg0)).trans hbt)
 have hX3b := hX3.but hbt (by have := HGE.out; omega)
 go_upto_region 4 with fail
 refine wl <| gz2 (.pointer (some ⟨g, j, none⟩)) (.pointer (some ⟨g3, 1, none⟩)) <| gzl rfl ⟨g3, 1, none⟩ (.int .u64 s) (hX3.load (i := 1) rfl (by kernel_rfl)) <| gzv (.int .i64 s) (conv_ui rfl s s hw1 (by kernel_rfl) _) <| gz1 (.pointer (some ⟨g, j, none⟩)) <| gzs rfl (hst) <|
  wpList_nil ?_
 simp only [pu]
 go_upto_region 5 with fail
 refine wl <| gz1 (.pointer (some ⟨g3, 0, none⟩)) <| gzl rfl ⟨g3, 0, none⟩ (.bool true) (hX3b.load (i := 0) rfl (by kernel_rfl)) <| wn ?_
 simp only [pu]
 have hlj := hY.load (i := j) (v := .int .i64 s) (ty := 3) (by simp [hj]) (by kernel_rfl)
 obtain ⟨V3, hst3, hY3, hbt3⟩ := st_fld (i := j) (v := .int .i64 (-s)) (ty := 3) (CC.setIfInBounds j (.int .i64 (-s))) hY (by simp [hj]) (by simp) rfl (by kernel_rfl)
 have HE : Hid (Bx V3 g (CC.setIfInBounds j (.int .i64 (-s))) kk ∧ But g w V3) := Lib.hid ⟨hY3, HBT.out.trans hbt3⟩
 clear hX2 hX3 hX3b hX hXg hbt HBT hbt3 hY hY3 hst
 go_upto_region 6 with fail
 refine wl <| gz3 (.pointer (some ⟨g, j, none⟩)) (.pointer (some ⟨g, j, none⟩)) (.pointer (some ⟨g, j, none⟩)) <| gzl rfl ⟨g, j, none⟩ (.int .i64 s) (hlj) <| gzv (.int .i64 (-s)) (neg_i2 rfl s (-s) hw2 (by kernel_rfl) _) <| gz1 (.pointer (some ⟨g, j, none⟩)) <| gzs rfl (hst3) <|
  wpList_nil ?_
 simp only [pu]
 go_wp2_with fail
 exact end_none rfl rfl ⟨rfl, HE.out⟩
set_option maxRecDepth 100000 in
set_option maxHeartbeats 8000000 in
theorem ps_bool (k : Value) (hk : k.oneCell' = true) (lo hi s : Int) {g j kk : Nat} {CC : Array Value} (hj : j < CC.size) (w : World) (hX : Bx w g CC kk) : Calls Tryd.prog 52 #[.agg #[k, .iface 81 (.pointer (some ⟨g, j, none⟩)), .int .i64 lo, .int .u64 hi], .agg (nuA false s)] w fun e w' => e = .returned (.tuple #[]) ∧ Bx w' g (CC.setIfInBounds j (.bool (decide (0 < s)))) kk ∧ But g w w' := by
 go_enter Tryd.func52, Tryd.ntmps52
 go_upto_region 1 with fail
 change Code.wp _ _ _ _ ((w.alloc (.cells #[k, .iface 81 (.pointer (some ⟨g, j, none⟩)), .int .i64 lo, .int .u64 hi] 59)).alloc (.cells #[.bool false, .int .u64 s] 62))
 have hb_0 : Below w.heap.size w (w.alloc (.cells #[k, .iface 81 (.pointer (some ⟨g, j, none⟩)), .int .i64 lo, .int .u64 hi] 59)) := (Below.refl _ w).alloc (Nat.le_refl _) _
 have hX2 : Bx (w.alloc (.cells #[k, .iface 81 (.pointer (some ⟨g, j, none⟩)), .int .i64 lo, .int .u64 hi] 59)) w.heap.size #[k, .iface 81 (.pointer (some ⟨g, j, none⟩)), .int .i64 lo, .int .u64 hi] 59 := heap_alloc_last w _
 have hs_0 : (w.alloc (.cells #[k, .iface 81 (.pointer (some ⟨g, j, none⟩)), .int .i64 lo, .int .u64 hi] 59)).heap.size = w.heap.size + 1 := by simp
 generalize w.alloc (.cells #[k, .iface 81 (.pointer (some ⟨g, j, none⟩)), .int .i64 lo, .int .u64 hi] 59) = W0_ at *
 have hb_1 : Below w.heap.size w (W0_.alloc (.cells #[.bool false, .int .u64 s] 62)) := hb_0.alloc hb_0.size _
 have hX2 := hX2.below hX2.lt ((Below.refl _ W0_).alloc (Nat.le_refl _) (.cells #[.bool false, .int .u64 s] 62))
 have hX3 : Bx (W0_.alloc (.cells #[.bool false, .int .u64 s] 62)) W0_.heap.size #[.bool false, .int .u64 s] 62 := heap_alloc_last W0_ _
 have hs_1 : (W0_.alloc (.cells #[.bool false, .int .u64 s] 62)).heap.size = W0_.heap.size + 1 := by simp
 generalize W0_.alloc (.cells #[.bool false, .int .u64 s] 62) = W at *
 obtain ⟨g2, hg2⟩ : ∃ g, w.heap.size = g := ⟨_, rfl⟩
 rw [hg2] at hX2
 obtain ⟨g3, hg3⟩ : ∃ g, W0_.heap.size = g := ⟨_, rfl⟩
 rw [hg3] at hX3
 have hq1 : w.heap.size + 1 = g3 := by omega
 have HGE : Hid (g2 = w.heap.size + 0 ∧ g3 = w.heap.size + 1 ∧ W.heap.size = w.heap.size + 2) := Lib.hid ⟨by omega, by omega, by omega⟩
 have HB := Lib.hid hb_1
 simp only [hg2]
 try simp only [show g2 + 1 = g3 by omega]
 clear hb_0 hs_0 hg2 hb_1 hs_1 hg3 hq1
 have hg0 := hX.lt
 have hXg := hX.below hX.lt HB.out
 refine wl <| gz1 (.pointer (some ⟨g2, 1, none⟩)) <| gzl rfl ⟨g2, 1, none⟩ (.iface 81 (.pointer (some ⟨g, j, none⟩))) (hX2.load (i := 1) rfl (by kernel_rfl)) <| wn ?_
 simp only [pu]
 go_upto_region 2 with fail
 refine wl <| gz3 (.tuple #[.pointer none, .bool false]) (.bool false) (.pointer none) <| wn ?_
 simp only [pu]
 go_upto_region 7 with fail
 refine wl <| gz3 (.tuple #[.pointer (some ⟨g, j, none⟩), .bool true]) (.bool true) (.pointer (some ⟨g, j, none⟩)) <| wn ?_
 simp only [pu]
 go_upto_region 8 with fail
 refine wl <| gz1 (.pointer (some ⟨g, j, none⟩)) <| wn ?_
 simp only [pu]
 obtain ⟨V2, hst, hY, hbt⟩ := st_fld (i := j) (v := .bool (decide (0 < s))) (ty := 4) (CC.setIfInBounds j (.bool (decide (0 < s)))) hXg hj rfl rfl (by kernel_rfl)
 have HBT : Hid (But g w V2) := Lib.hid ((But.of_below HB.out (Nat.le_of_lt hg0)).trans hbt)
 have HE : Hid (Bx V2 g (CC.setIfInBounds j (.bool (decide (0 < s)))) kk ∧ But g w V2) := Lib.hid ⟨hY, HBT.out⟩
 go_upto_region 9 with fail
 refine wl <| gz2 (.pointer (some ⟨g, j, none⟩)) (.pointer (some ⟨g3, 1, none⟩)) <| gzl rfl ⟨g3, 1, none⟩ (.int .u64 s) (hX3.load (i := 1) rfl (by kernel_rfl)) <| gzw (.bool (decide (0 < s))) (gtr_w rfl s 0 rfl) <| gz1 (.pointer (some ⟨g, j, none⟩)) <|
  gzs rfl (hst) <| wn ?_
 simp only [pu]
 go_wp2_with fail
 exact end_none rfl rfl ⟨rfl, HE.out⟩
set_option maxRecDepth 100000 in
set_option maxHeartbeats 8000000 in
theorem ps_uint (k : Value) (hk : k.oneCell' = true) (lo hi s : Int) {g j kk : Nat} {CC : Array Value} (hj : j < CC.size) (w : World) (hX : Bx w g CC kk) : Calls Tryd.prog 52 #[.agg #[k, .iface 82 (.pointer (some ⟨g, j, none⟩)), .int .i64 lo, .int .u64 hi], .agg (nuA false s)] w fun e w' => e = .returned (.tuple #[]) ∧ Bx w' g (CC.setIfInBounds j (.int .u64 s)) kk ∧ But g w w' := by
 go_enter Tryd.func52, Tryd.ntmps52
 go_upto_region 1 with fail
 change Code.wp _ _ _ _ ((w.alloc (.cells #[k, .iface 82 (.pointer (some ⟨g, j, none⟩)), .int .i64 lo, .int .u64 hi] 59)).alloc (.cells #[.bool false, .int .u64 s] 62))
 have hb_0 : Below w.heap.size w (w.alloc (.cells #[k, .iface 82 (.pointer (some ⟨g, j, none⟩)), .int .i64 lo, .int .u64 hi] 59)) := (Below.refl _ w).alloc (Nat.le_refl _) _
 have hX2 : Bx (w.alloc (.cells #[k, .iface 82 (.pointer (some ⟨g, j, none⟩)), .int .i64 lo, .int .u64 hi] 59)) w.heap.size #[k, .iface 82 (.pointer (some ⟨g, j, none⟩)), .int .i64 lo, .int .u64 hi] 59 := heap_alloc_last w _
 have hs_0 : (w.alloc (.cells #[k, .iface 82 (.pointer (some ⟨g, j, none⟩)), .int .i64 lo, .int .u64 hi] 59)).heap.size = w.heap.size + 1 := by simp
 generalize w.alloc (.cells #[k, .iface 82 (.pointer (some ⟨g, j, none⟩)), .int .i64 lo, .int .u64 hi] 59) = W0_ at *
 have hb_1 : Below w.heap.size w (W0_.alloc (.cells #[.bool false, .int .u64 s] 62)) := hb_0.alloc hb_0.size _
 have hX2 := hX2.below hX2.lt ((Below.refl _ W0_).alloc (Nat.le_refl _) (.cells #[.bool false, .int .u64 s] 62))
 have hX3 : Bx (W0_.alloc (.cells #[.bool false, .int .u64 s] 62)) W0_.heap.size #[.bool false, .int .u64 s] 62 := heap_alloc_last W0_ _
 have hs_1 : (W0_.alloc (.cells #[.bool false, .int .u64 s] 62)).heap.size = W0_.heap.size + 1 := by simp
 generalize W0_.alloc (.cells #[.bool false, .int .u64 s] 62) = W at *
 obtain ⟨g2, hg2⟩ : ∃ g, w.heap.size = g := ⟨_, rfl⟩
 rw [hg2] at hX2
 obtain ⟨g3, hg3⟩ : ∃ g, W0_.heap.size = g := ⟨_, rfl⟩
 rw [hg3] at hX3
 have hq1 : w.heap.size + 1 = g3 := by omega
 have HGE : Hid (g2 = w.heap.size + 0 ∧ g3 = w.heap.size + 1 ∧ W.heap.size = w.heap.size + 2) := Lib.hid ⟨by omega, by omega, by omega⟩
 have HB := Lib.hid hb_1
 simp only [hg2]
 try simp only [show g2 + 1 = g3 by omega]
 clear hb_0 hs_0 hg2 hb_1 hs_1 hg3 hq1
 have hg0 := hX.lt
 have hXg := hX.below hX.lt HB.out
 refine wl <| gz1 (.pointer (some ⟨g2, 1, none⟩)) <| gzl rfl ⟨g2, 1, none⟩ (.iface 82 (.pointer (some ⟨g, j, none⟩))) (hX2.load (i := 1) rfl (by kernel_rfl)) <| wn ?_
 simp only [pu]
 go_upto_region 2 with fail
 refine wl <| gz3 (.tuple #[.pointer none, .bool false]) (.bool false) (.pointer none) <| wn ?_
 simp only [pu]
 go_upto_region 7 with fail
 refine wl <| gz3 (.tuple #[.pointer none, .bool false]) (.bool false) (.pointer none) <| wn ?_
 simp only [pu]
 go_upto_region 10 with fail
 refine wl <| gz3 (.tuple #[.pointer (some ⟨g, j, none⟩), .bool true]) (.bool true) (.pointer (some ⟨g, j, none⟩)) <| wn ?_
 simp only [pu]
 go_upto_region 11 with fail
 refine wl <| gz1 (.pointer (some ⟨g, j, none⟩)) <| wn ?_
 simp only [pu]
 obtain ⟨V2, hst, hY, hbt⟩ := st_fld (i := j) (v := .int .u64 s) (ty := 22) (CC.setIfInBounds j (.int .u64 s)) hXg hj rfl rfl (by kernel_rfl)
 have HBT : Hid (But g w V2) := Lib.hid ((But.of_below HB.out (Nat.le_of_lt hg0)).trans hbt)
 have HE : Hid (Bx V2 g (CC.setIfInBounds j (.int .u64 s)) kk ∧ But g w V2) := Lib.hid ⟨hY, HBT.out⟩
 go_upto_region 12 with fail
 refine wl <| gz2 (.pointer (some ⟨g, j, none⟩)) (.pointer (some ⟨g3, 1, none⟩)) <| gzl rfl ⟨g3, 1, none⟩ (.int .u64 s) (hX3.load (i := 1) rfl (by kernel_rfl)) <| gz1 (.pointer (some ⟨g, j, none⟩)) <| gzs rfl (hst) <| wn ?_
 simp only [pu]
 go_wp2_with fail
 exact end_none rfl rfl ⟨rfl, HE.out⟩
theorem cf_setx {c : List Int} (hc : c.length = 12) (i : Nat) (hi : i < 12) (n : Int) : (cfA c).setIfInBounds i (if i = 6 then .bool (decide (n = 1)) else if i = 9 then .int .u64 n else .int .i64 n) = cfA (c.set i n) := by
 obtain ⟨x0, x1, x2, x3, x4, x5, x6, x7, x8, x9, x10, x11, rfl⟩ := cf_all hc
 match i, hi with
 | 0, _ => rfl
 | 1, _ => rfl
 | 2, _ => rfl
 | 3, _ => rfl
 | 4, _ => rfl
 | 5, _ => rfl
 | 6, _ => rfl
 | 7, _ => rfl
 | 8, _ => rfl
 | 9, _ => rfl
 | 10, _ => rfl
 | 11, _ => rfl
/-- The value of a setting, put into a configuration in memory. -/
theorem p_set {c : List Int} (hc : CfOk c) {g k : Nat} (j : Nat) (hj : j < 12) (v : Int) (hv : (j = 6 → v = 0 ∨ v = 1) ∧ (j = 9 → 0 ≤ v) ∧ (j ≠ 9 → -9223372036854775808 < v ∧ v < 9223372036854775808)) (w : World) (hX : Bx w g (cfA c) k) : Calls Tryd.prog 52 #[.agg (sgA g j), .agg (nuA (decide (v < 0)) (absI v))] w fun e w' => e = .returned (.tuple #[]) ∧ Bx w' g (cfA (c.set j v)) k ∧ But g w w' := by
 have hs := cf_setx hc.1 j hj v
 have hsz : j < (cfA c).size := hj
 rw [← hs]
 clear hs
 by_cases e6 : j = 6
 ·subst e6
  rw [if_pos rfl]
  rcases hv.1 rfl with rfl | rfl
  ·exact ps_bool _ rfl _ _ 0 hsz w hX
  ·exact ps_bool _ rfl _ _ 1 hsz w hX
 ·by_cases e9 : j = 9
  ·subst e9
   have h0 := hv.2.1 rfl
   rw [if_neg e6, if_pos rfl, decide_eq_false (by omega), show absI v = v by unfold absI; rw [if_neg (by omega)]]
   exact ps_uint _ rfl _ _ v hsz w hX
  ·have hr := hv.2.2 e9
   unfold sgA
   rw [if_neg e6, if_neg e9, tyN_int e6 e9]
   by_cases h0 : v < 0
   ·rw [decide_eq_true h0, show absI v = -v by unfold absI; rw [if_pos h0]]
    have := ps_neg (.string (keysB.getD j ⟨#[]⟩)) rfl (leastL.getD j 0) (grP.getD j 0) (-v) (by omega) hsz w hX
    rwa [Int.neg_neg] at this
   ·rw [decide_eq_false h0, show absI v = v by unfold absI; rw [if_neg h0]]
    exact ps_pos _ rfl _ _ v (by omega) hsz w hX
end Go.Proofs.YtplfineaomneiaaDoor
