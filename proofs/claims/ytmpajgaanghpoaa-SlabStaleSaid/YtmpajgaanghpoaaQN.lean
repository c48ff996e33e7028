/-
 The nil store's Add, Get, Remove: contracts.
-/
import Derived.Test.YtmpajgaanghpoaaQK
namespace Go.Proofs.Ytmpajgaanghpoaa
attribute [local irreducible] wpList wpQuiet
open Go.RowKit
set_option maxRecDepth 100000
set_option linter.unusedSimpArgs false
set_option linter.unusedVariables false

set_option maxRecDepth 100000 in
set_option maxHeartbeats 8000000 in
theorem n_has (q : Int × Int) (w : World) : Calls Try.prog 30 #[.pointer none, .agg #[.int .i64 q.1, .int .i64 q.2]] w fun r w' => r = .returned (.bool false) ∧ Below w.heap.size w w' := by
 go_enter Try.func30, Try.ntmps30
 go_upto_region 1 with fail
 change Code.wp _ _ _ _ (w.alloc (.cells #[.int .i64 q.1, .int .i64 q.2] 33))
 have hb0 : Below w.heap.size w (w.alloc (.cells #[.int .i64 q.1, .int .i64 q.2] 33)) := (Below.refl _ w).alloc (Nat.le_refl _) _
 have hX3 : Bx (w.alloc (.cells #[.int .i64 q.1, .int .i64 q.2] 33)) w.heap.size #[.int .i64 q.1, .int .i64 q.2] 33 := heap_alloc_last w _
 generalize w.alloc (.cells #[.int .i64 q.1, .int .i64 q.2] 33) = W at *
 obtain ⟨g3, hg3⟩ : ∃ g, w.heap.size = g := ⟨_, rfl⟩
 rw [hg3] at hX3
 simp only [hg3]
 have HB := Lib.hid hb0
 clear hb0 hg3
 go_upto_region 1 with fail
 refine wp_region_class (C := fun U => Below W.heap.size W U) (by kernel_rfl) (by kernel_rfl) ((Below.refl _ W).drew) ?_
 refine gy (.pointer none) <| gy (.bool true) <| gy (.bool true) <| gyn <| gyn <| gyn <| gy (.bool true) <| gy (.bool true) <| gyn <| gyn <| gyn <| gyn <| gyn <| gyn <| gyn <| gyn <| gy (.bool true) ?_
 simp only [pu]
 apply wpQuiet_nil
 intro V hV
 have HE := HB.out.trans (hV.mono HB.out.size)
 go_wp2_with fail
 go_ret
 exact ⟨rfl, HE⟩
set_option maxRecDepth 100000 in
set_option maxHeartbeats 8000000 in
theorem n_add (e : En) (d : Ad) (w : World) : Calls Try.prog 23 #[.pointer none, .agg (enA e d)] w fun r w' => r = .returned (.tuple #[.agg #[.int .i64 0, .int .i64 0], .bool false]) ∧ Below w.heap.size w w' := by
 go_enter Try.func23, Try.ntmps23
 go_upto_region 1 with fail
 change Code.wp _ _ _ _ ((w.alloc (.cells (enA e d) 44)).alloc (.cells #[.int .i64 0, .int .i64 0] 33))
 have hb0 : Below w.heap.size w ((w.alloc (.cells (enA e d) 44)).alloc (.cells #[.int .i64 0, .int .i64 0] 33)) := ((Below.refl _ w).alloc (Nat.le_refl _) _).alloc (by simp) _
 have hX3 : Bx ((w.alloc (.cells (enA e d) 44)).alloc (.cells #[.int .i64 0, .int .i64 0] 33)) w.heap.size (enA e d) 44 := Bx.below (heap_alloc_last w _) (by simp) ((Below.refl _ _).alloc (Nat.le_refl _) _)
 have hX4 : Bx ((w.alloc (.cells (enA e d) 44)).alloc (.cells #[.int .i64 0, .int .i64 0] 33)) (w.heap.size + 1) #[.int .i64 0, .int .i64 0] 33 := by
  have := heap_alloc_last (w.alloc (.cells (enA e d) 44)) (.cells #[.int .i64 0, .int .i64 0] 33)
  rwa [show (w.alloc (.cells (enA e d) 44)).heap.size = w.heap.size + 1 by simp] at this
 generalize ((w.alloc (.cells (enA e d) 44)).alloc (.cells #[.int .i64 0, .int .i64 0] 33)) = W at *
 obtain ⟨g3, hg3⟩ : ∃ g, w.heap.size = g := ⟨_, rfl⟩
 obtain ⟨g4, hg4⟩ : ∃ g, g3 + 1 = g := ⟨_, rfl⟩
 rw [show w.heap.size + 1 = g4 by omega] at hX4
 have HG : Hid (w.heap.size ≤ g3 ∧ w.heap.size ≤ g4 ∧ g3 ≠ g4) := Lib.hid ⟨by omega, by omega, by omega⟩
 rw [hg3] at hX3
 simp only [hg3]
 simp only [hg4]
 have HB := Lib.hid hb0
 clear hb0 hg3 hg4
 go_upto_region 1 with fail
 refine wp_region_class (C := fun U => Below W.heap.size W U) (by kernel_rfl) (by kernel_rfl) ((Below.refl _ W).drew) ?_
 refine gy (.pointer none) <| gy (.bool true) <| gy (.bool true) <| gyn <| gyn <| gyn <| gyn <| gyn <| gyn <| gyn <| gyn <| gyn <| gy (.bool true) ?_
 simp only [pu]
 apply wpQuiet_nil
 intro V hV
 have hX4V := hX4.below hX4.lt hV
 obtain ⟨V2, hst, hY, hbt⟩ := st_all (cs' := #[.int .i64 0, .int .i64 0]) (ty := 33) hX4V rfl (by simp [Value.oneCell']) (by kernel_rfl)
 have HE := Lib.hid ((HB.out.trans (hV.mono HB.out.size)).trans (hbt.1.mono HG.out.2.1))
 clear hV hbt hX4 hX4V hX3
 go_upto_region 2 with fail
 refine wl <| gz1 (.agg #[.int .i64 0, .int .i64 0]) <| gzs rfl (hst) <| gz1 (.bool false) <| wn ?_
 simp only [pu]
 go_wp2_with fail
 exact bodyPost_ret (results_c rfl (by kernel_rfl) (load_hn (x := (0, 0)) (bx_range (cs := hnl (0, 0)) hY)) (by kernel_rfl)) rfl ⟨rfl, HE.out⟩
set_option maxRecDepth 100000 in
set_option maxHeartbeats 8000000 in
theorem n_get (q : Int × Int) (w : World) : Calls Try.prog 17 #[.pointer none, .agg #[.int .i64 q.1, .int .i64 q.2]] w fun r w' => r = .returned (.tuple #[.agg (enA zEn zAd), .bool false]) ∧ Below w.heap.size w w' := by
 go_enter Try.func17, Try.ntmps17
 go_upto_region 1 with fail
 change Code.wp _ _ _ _ ((w.alloc (.cells #[.int .i64 q.1, .int .i64 q.2] 33)).alloc (.cells (enA zEn zAd) 44))
 have hb0 : Below w.heap.size w ((w.alloc (.cells #[.int .i64 q.1, .int .i64 q.2] 33)).alloc (.cells (enA zEn zAd) 44)) := ((Below.refl _ w).alloc (Nat.le_refl _) _).alloc (by simp) _
 have hX3 : Bx ((w.alloc (.cells #[.int .i64 q.1, .int .i64 q.2] 33)).alloc (.cells (enA zEn zAd) 44)) w.heap.size #[.int .i64 q.1, .int .i64 q.2] 33 := Bx.below (heap_alloc_last w _) (by simp) ((Below.refl _ _).alloc (Nat.le_refl _) _)
 have hX4 : Bx ((w.alloc (.cells #[.int .i64 q.1, .int .i64 q.2] 33)).alloc (.cells (enA zEn zAd) 44)) (w.heap.size + 1) (enA zEn zAd) 44 := by
  have := heap_alloc_last (w.alloc (.cells #[.int .i64 q.1, .int .i64 q.2] 33)) (.cells (enA zEn zAd) 44)
  rwa [show (w.alloc (.cells #[.int .i64 q.1, .int .i64 q.2] 33)).heap.size = w.heap.size + 1 by simp] at this
 generalize ((w.alloc (.cells #[.int .i64 q.1, .int .i64 q.2] 33)).alloc (.cells (enA zEn zAd) 44)) = W at *
 obtain ⟨g3, hg3⟩ : ∃ g, w.heap.size = g := ⟨_, rfl⟩
 obtain ⟨g4, hg4⟩ : ∃ g, g3 + 1 = g := ⟨_, rfl⟩
 rw [show w.heap.size + 1 = g4 by omega] at hX4
 have HG : Hid (w.heap.size ≤ g3 ∧ w.heap.size ≤ g4 ∧ g3 ≠ g4) := Lib.hid ⟨by omega, by omega, by omega⟩
 rw [hg3] at hX3
 simp only [hg3]
 simp only [hg4]
 have HB := Lib.hid hb0
 clear hb0 hg3 hg4
 refine wl <| gz1 (.pointer none) <| gzl rfl ⟨g3, 0, none⟩ (.agg #[.int .i64 q.1, .int .i64 q.2]) (load_hn (x := q) (bx_range (cs := hnl q) hX3)) <| gzc (.bool false) (fun w' => Below W.heap.size W w') (n_has q W) (fun V hV => ?_)
 simp only [pu]
 refine gz1 (.bool true) <| wn ?_
 simp only [pu]
 have hX4V := hX4.below hX4.lt hV
 obtain ⟨V2, hst, hY, hbt⟩ := st_all (cs' := enA zEn zAd) (ty := 44) hX4V rfl (enA_one _ _) (by kernel_rfl)
 have HE := Lib.hid ((HB.out.trans (hV.mono HB.out.size)).trans (hbt.1.mono HG.out.2.1))
 clear hV hbt hX4 hX4V hX3
 go_upto_region 2 with fail
 refine wl <| gz1 (.agg (enA zEn zAd)) <| gzs rfl (hst) <| gz1 (.bool false) <| wn ?_
 simp only [pu]
 go_wp2_with fail
 exact bodyPost_ret (results_c rfl (by kernel_rfl) (load_en (bx_range hY)) (by kernel_rfl)) rfl ⟨rfl, HE.out⟩
set_option maxRecDepth 100000 in
set_option maxHeartbeats 8000000 in
theorem n_rem (q : Int × Int) (w : World) : Calls Try.prog 25 #[.pointer none, .agg #[.int .i64 q.1, .int .i64 q.2]] w fun r w' => r = .returned (.bool false) ∧ Below w.heap.size w w' := by
 go_enter Try.func25, Try.ntmps25
 go_upto_region 1 with fail
 change Code.wp _ _ _ _ (w.alloc (.cells #[.int .i64 q.1, .int .i64 q.2] 33))
 have hb0 : Below w.heap.size w (w.alloc (.cells #[.int .i64 q.1, .int .i64 q.2] 33)) := (Below.refl _ w).alloc (Nat.le_refl _) _
 have hX3 : Bx (w.alloc (.cells #[.int .i64 q.1, .int .i64 q.2] 33)) w.heap.size #[.int .i64 q.1, .int .i64 q.2] 33 := heap_alloc_last w _
 generalize w.alloc (.cells #[.int .i64 q.1, .int .i64 q.2] 33) = W at *
 obtain ⟨g3, hg3⟩ : ∃ g, w.heap.size = g := ⟨_, rfl⟩
 rw [hg3] at hX3
 simp only [hg3]
 have HB := Lib.hid hb0
 clear hb0 hg3
 refine wl <| gz1 (.pointer none) <| gzl rfl ⟨g3, 0, none⟩ (.agg #[.int .i64 q.1, .int .i64 q.2]) (load_hn (x := q) (bx_range (cs := hnl q) hX3)) <| gzc (.bool false) (fun w' => Below W.heap.size W w') (n_has q W) (fun V hV => ?_)
 simp only [pu]
 refine gz1 (.bool true) <| wn ?_
 simp only [pu]
 have HE := HB.out.trans (hV.mono HB.out.size)
 go_wp2_with fail
 go_ret
 exact ⟨rfl, HE⟩
end Go.Proofs.Ytmpajgaanghpoaa
