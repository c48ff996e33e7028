/-
  The fixed example of the statements.
-/
import Derived.Test.YtjblfpifhbmfoaaCC
namespace Go.Proofs.Ytjblfpifhbmfoaa
open Go.RowKit
set_option linter.unusedSimpArgs false
set_option linter.unusedVariables false

theorem kf1 : pushZ [] 2 (keyL 1) = ([keyL 1], true) := by decide +kernel
theorem kf2 : pushZ [keyL 1] 2 (keyL 2) = ([keyL 1, keyL 2], true) := by decide +kernel
theorem kf3 : pushZ [keyL 1, keyL 2] 2 (keyL 1) = ([keyL 2, keyL 1], false) := by decide +kernel
theorem kf4 : pushZ [keyL 2, keyL 1] 2 (keyL 3) = ([keyL 1, keyL 3], true) := by decide +kernel
theorem kf5 : decide (keyL 3 ∈ [keyL 1, keyL 3]) = true := by decide +kernel
theorem kf6 : decide (keyL 2 ∈ [keyL 1, keyL 3]) = false := by decide +kernel
theorem kf0 : (capN 2).toNat = 2 := by decide
theorem two_cs {k j : List Int} (w : World) : Cs (w.alloc (.cells (w8s (k ++ j)) 34)) (some ⟨w.heap.size, 0, none⟩) (kcells [k, j]) := by
  have := Cs.block (t := 34) (fr := (0, 0)) (cs := (k ++ j).map (Value.int .u8)) (heap_alloc_last w (.cells (w8s (k ++ j)) 34))
  rw [show kcells [k, j] = (k ++ j).map (Value.int .u8) by simp [kcells]]
  exact this
set_option maxRecDepth 100000 in
set_option maxHeartbeats 4000000 in
theorem known_true {R : CRep} (hC : CacheC R 11 17 14 21 19 20 15) (w : World) : Calls Try.prog 8 #[] w fun e w' => e = .returned (.bool true) ∧ Below w.heap.size w w' := by
  have C0 := kc_new hC w 2 ⟨by omega, by omega⟩
  rw [kf0] at C0
  have hw0 : Wc 2 [] := Wc.nil (by omega)
  have hw1 := hw0.push (keyL_len 1)
  rw [kf1] at hw1
  have hw2 := hw1.push (keyL_len 2)
  rw [kf2] at hw2
  have hw3 := hw2.push (keyL_len 1)
  rw [kf3] at hw3
  have hw4 := hw3.push (keyL_len 3)
  rw [kf4] at hw4
  have K1 := fun V => key_of 1 V (by omega) (by omega)
  have K2 := fun V => key_of 2 V (by omega) (by omega)
  have K3 := fun V => key_of 3 V (by omega) (by omega)
  have l1 := keyL_len 1
  have l2 := keyL_len 2
  have l3 := keyL_len 3
  have f1 := kf1
  have f2 := kf2
  have f3 := kf3
  have f4 := kf4
  have f5 := kf5
  have f6 := kf6
  generalize keyL 1 = k1 at *
  generalize keyL 2 = k2 at *
  generalize keyL 3 = k3 at *
  have P1 := fun gc V (h : KC R w gc 2 [] V) => h.push hC hw0 l1
  have P2 := fun gc V (h : KC R w gc 2 [k1] V) => h.push hC hw1 l2
  have P3 := fun gc V (h : KC R w gc 2 [k1, k2] V) => h.push hC hw2 l1
  have P4 := fun gc V (h : KC R w gc 2 [k2, k1] V) => h.push hC hw3 l3
  have H3 := fun gc V (h : KC R w gc 2 [k1, k3] V) => h.has hC hw4 l3
  have H2 := fun gc V (h : KC R w gc 2 [k1, k3] V) => h.has hC hw4 l2
  rw [f1] at P1
  rw [f2] at P2
  rw [f3] at P3
  rw [f4] at P4
  rw [f5] at H3
  rw [f6] at H2
  clear f1 f2 f3 f4 f5 f6 hw0 hw1 hw2 hw3
  have HK := fun gc V (h : KC R w gc 2 [k1, k3] V) => h.keys hC hw4
  have HLn := fun gc V (h : KC R w gc 2 [k1, k3] V) => h.len hC hw4
  have HW := Lib.hid hw4
  clear hw4
  go_enter Try.func8, Try.ntmps8
  go_upto_region 1 with fail
  apply wp_region_lit
  refine gw_callE (by kernel_rfl) (some 6) rfl 11 #[.int .i64 2] (fun v w' => ∃ g, v = .pointer (some ⟨g, 0, none⟩) ∧ KC R w g 2 [] w') (by kernel_rfl) (C0.mono fun e w' q => by obtain ⟨g, he, h⟩ := q; exact ⟨_, he, g, rfl, h⟩) (fun v V0 hq => ?_)
  obtain ⟨gc, rfl, h0⟩ := hq
  simp only [Act.put, List.setIfInBounds_toArray, List.set_cons_succ, List.set_cons_zero]
  refine gw_val (by kernel_rfl) (some 1) rfl (.pointer (some ⟨gc, 0, none⟩)) (by kernel_rfl) ?_
  simp only [Act.put, List.setIfInBounds_toArray, List.set_cons_succ, List.set_cons_zero]
  apply wpList_nil
  clear C0
  go_upto_region 2 with fail
  apply wp_region_lit
  refine gw_val (by kernel_rfl) (some 7) rfl (.pointer (some ⟨gc, 0, none⟩)) (by kernel_rfl) ?_
  simp only [Act.put, List.setIfInBounds_toArray, List.set_cons_succ, List.set_cons_zero]
  refine gw_val (by kernel_rfl) (some 8) rfl (.bool false) (by kernel_rfl) ?_
  simp only [Act.put, List.setIfInBounds_toArray, List.set_cons_succ, List.set_cons_zero]
  apply wpList_nil
  go_upto_region 4 with fail
  apply wp_region_lit
  refine gw_val (by kernel_rfl) (some 9) rfl (.pointer (some ⟨gc, 0, none⟩)) (by kernel_rfl) ?_
  simp only [Act.put, List.setIfInBounds_toArray, List.set_cons_succ, List.set_cons_zero]
  refine gw_call (by kernel_rfl) (some 10) rfl 12 #[.int .i64 1] (.agg (w8s k1)) (KC R w gc 2 []) (by kernel_rfl) ((K1 V0).mono fun e w' q => ⟨q.1, h0.below hC q.2⟩) (fun V1 h1 => ?_)
  clear h0
  simp only [Act.put, List.setIfInBounds_toArray, List.set_cons_succ, List.set_cons_zero]
  refine gw_call (by kernel_rfl) (some 11) rfl 17 #[.pointer (some ⟨gc, 0, none⟩), .agg (w8s k1)] (.bool true) (KC R w gc 2 [k1]) (by kernel_rfl) (P1 gc V1 h1) (fun V2 h2 => ?_)
  clear h1
  simp only [Act.put, List.setIfInBounds_toArray, List.set_cons_succ, List.set_cons_zero]
  refine gw_val (by kernel_rfl) (some 12) rfl (.pointer (some ⟨gc, 0, none⟩)) (by kernel_rfl) ?_
  simp only [Act.put, List.setIfInBounds_toArray, List.set_cons_succ, List.set_cons_zero]
  refine gw_call (by kernel_rfl) (some 13) rfl 12 #[.int .i64 2] (.agg (w8s k2)) (KC R w gc 2 [k1]) (by kernel_rfl) ((K2 V2).mono fun e w' q => ⟨q.1, h2.below hC q.2⟩) (fun V3 h3 => ?_)
  clear h2
  simp only [Act.put, List.setIfInBounds_toArray, List.set_cons_succ, List.set_cons_zero]
  refine gw_call (by kernel_rfl) (some 14) rfl 17 #[.pointer (some ⟨gc, 0, none⟩), .agg (w8s k2)] (.bool true) (KC R w gc 2 [k1, k2]) (by kernel_rfl) (P2 gc V3 h3) (fun V4 h4 => ?_)
  clear h3
  simp only [Act.put, List.setIfInBounds_toArray, List.set_cons_succ, List.set_cons_zero]
  refine gw_val (by kernel_rfl) (some 15) rfl (.pointer (some ⟨gc, 0, none⟩)) (by kernel_rfl) ?_
  simp only [Act.put, List.setIfInBounds_toArray, List.set_cons_succ, List.set_cons_zero]
  refine gw_call (by kernel_rfl) (some 16) rfl 12 #[.int .i64 1] (.agg (w8s k1)) (KC R w gc 2 [k1, k2]) (by kernel_rfl) ((K1 V4).mono fun e w' q => ⟨q.1, h4.below hC q.2⟩) (fun V5 h5 => ?_)
  clear h4
  simp only [Act.put, List.setIfInBounds_toArray, List.set_cons_succ, List.set_cons_zero]
  refine gw_call (by kernel_rfl) (some 17) rfl 17 #[.pointer (some ⟨gc, 0, none⟩), .agg (w8s k1)] (.bool false) (KC R w gc 2 [k2, k1]) (by kernel_rfl) (P3 gc V5 h5) (fun V6 h6 => ?_)
  clear h5
  simp only [Act.put, List.setIfInBounds_toArray, List.set_cons_succ, List.set_cons_zero]
  refine gw_val (by kernel_rfl) (some 2) rfl (.bool true) (by kernel_rfl) ?_
  simp only [Act.put, List.setIfInBounds_toArray, List.set_cons_succ, List.set_cons_zero]
  refine gw_val (by kernel_rfl) (some 3) rfl (.bool true) (by kernel_rfl) ?_
  simp only [Act.put, List.setIfInBounds_toArray, List.set_cons_succ, List.set_cons_zero]
  refine gw_val (by kernel_rfl) (some 4) rfl (.bool false) (by kernel_rfl) ?_
  simp only [Act.put, List.setIfInBounds_toArray, List.set_cons_succ, List.set_cons_zero]
  apply wpList_nil
  go_upto_region 5 with fail
  apply wp_region_lit
  refine gw_val (by kernel_rfl) (some 18) rfl (.pointer (some ⟨gc, 0, none⟩)) (by kernel_rfl) ?_
  simp only [Act.put, List.setIfInBounds_toArray, List.set_cons_succ, List.set_cons_zero]
  refine gw_call (by kernel_rfl) (some 19) rfl 12 #[.int .i64 3] (.agg (w8s k3)) (KC R w gc 2 [k2, k1]) (by kernel_rfl) ((K3 V6).mono fun e w' q => ⟨q.1, h6.below hC q.2⟩) (fun V7 h7 => ?_)
  clear h6
  simp only [Act.put, List.setIfInBounds_toArray, List.set_cons_succ, List.set_cons_zero]
  refine gw_call (by kernel_rfl) (some 20) rfl 17 #[.pointer (some ⟨gc, 0, none⟩), .agg (w8s k3)] (.bool true) (KC R w gc 2 [k1, k3]) (by kernel_rfl) (P4 gc V7 h7) (fun V8 h8 => ?_)
  clear h7
  simp only [Act.put, List.setIfInBounds_toArray, List.set_cons_succ, List.set_cons_zero]
  refine gw_val (by kernel_rfl) (some 5) rfl (.bool true) (by kernel_rfl) ?_
  simp only [Act.put, List.setIfInBounds_toArray, List.set_cons_succ, List.set_cons_zero]
  apply wpList_nil
  clear P1 P2 P3 P4
  go_upto_region 6 with fail
  apply wp_region_lit
  refine gw_val (by kernel_rfl) (some 21) rfl (.bool true) (by kernel_rfl) ?_
  simp only [Act.put, List.setIfInBounds_toArray, List.set_cons_succ, List.set_cons_zero]
  refine gw_val (by kernel_rfl) (some 22) rfl (.bool true) (by kernel_rfl) ?_
  simp only [Act.put, List.setIfInBounds_toArray, List.set_cons_succ, List.set_cons_zero]
  refine gw_val (by kernel_rfl) (some 23) rfl (.bool true) (by kernel_rfl) ?_
  simp only [Act.put, List.setIfInBounds_toArray, List.set_cons_succ, List.set_cons_zero]
  refine gw_val (by kernel_rfl) (some 24) rfl (.bool true) (by kernel_rfl) ?_
  simp only [Act.put, List.setIfInBounds_toArray, List.set_cons_succ, List.set_cons_zero]
  refine gw_val (by kernel_rfl) (some 25) rfl (.bool true) (by kernel_rfl) ?_
  simp only [Act.put, List.setIfInBounds_toArray, List.set_cons_succ, List.set_cons_zero]
  refine gw_val (by kernel_rfl) (some 26) rfl (.bool false) (by kernel_rfl) ?_
  simp only [Act.put, List.setIfInBounds_toArray, List.set_cons_succ, List.set_cons_zero]
  refine gw_val (by kernel_rfl) (some 27) rfl (.bool true) (by kernel_rfl) ?_
  simp only [Act.put, List.setIfInBounds_toArray, List.set_cons_succ, List.set_cons_zero]
  refine gw_val (by kernel_rfl) (some 28) rfl (.bool true) (by kernel_rfl) ?_
  simp only [Act.put, List.setIfInBounds_toArray, List.set_cons_succ, List.set_cons_zero]
  refine gw_val (by kernel_rfl) (some 29) rfl (.bool true) (by kernel_rfl) ?_
  simp only [Act.put, List.setIfInBounds_toArray, List.set_cons_succ, List.set_cons_zero]
  refine gw_val (by kernel_rfl) (some 30) rfl (.bool true) (by kernel_rfl) ?_
  simp only [Act.put, List.setIfInBounds_toArray, List.set_cons_succ, List.set_cons_zero]
  refine gw_val (by kernel_rfl) (some 31) rfl (.bool true) (by kernel_rfl) ?_
  simp only [Act.put, List.setIfInBounds_toArray, List.set_cons_succ, List.set_cons_zero]
  refine gw_val (by kernel_rfl) (some 32) rfl (.bool true) (by kernel_rfl) ?_
  simp only [Act.put, List.setIfInBounds_toArray, List.set_cons_succ, List.set_cons_zero]
  refine gw_val (by kernel_rfl) (some 33) rfl (.pointer (some ⟨gc, 0, none⟩)) (by kernel_rfl) ?_
  simp only [Act.put, List.setIfInBounds_toArray, List.set_cons_succ, List.set_cons_zero]
  refine gw_callE (by kernel_rfl) (some 34) rfl 19 #[.pointer (some ⟨gc, 0, none⟩)] (fun v w' => ∃ a c, v = .slice a 2 c ∧ Cs w' a (kcells [k1, k3]) ∧ KC R w gc 2 [k1, k3] w') (by kernel_rfl) ((HK gc V8 h8).mono fun e w' q => by obtain ⟨a, c, he, h1, -, h2⟩ := q; exact ⟨_, he, a, c, rfl, h1, h2⟩) (fun v V9 hq => ?_)
  obtain ⟨ka, kc, rfl, hka, h9⟩ := hq
  clear h8
  simp only [Act.put, List.setIfInBounds_toArray, List.set_cons_succ, List.set_cons_zero]
  refine gw_call (by kernel_rfl) (some 35) rfl 12 #[.int .i64 1] (.agg (w8s k1)) (fun w' => KC R w gc 2 [k1, k3] w' ∧ Cs w' ka (kcells [k1, k3])) (by kernel_rfl) ((K1 V9).mono fun e w' q => ⟨q.1, h9.below hC q.2, hka.below q.2⟩) (fun V10 hq10 => ?_)
  clear h9 hka
  obtain ⟨h10, hka⟩ := hq10
  simp only [Act.put, List.setIfInBounds_toArray, List.set_cons_succ, List.set_cons_zero]
  refine gw_call (by kernel_rfl) (some 36) rfl 12 #[.int .i64 3] (.agg (w8s k3)) (fun w' => KC R w gc 2 [k1, k3] w' ∧ Cs w' ka (kcells [k1, k3])) (by kernel_rfl) ((K3 V10).mono fun e w' q => ⟨q.1, h10.below hC q.2, hka.below q.2⟩) (fun V11 hq11 => ?_)
  clear h10 hka
  obtain ⟨h11, hka⟩ := hq11
  simp only [Act.put, List.setIfInBounds_toArray, List.set_cons_succ, List.set_cons_zero]
  have hbk : Below V11.heap.size V11 (V11.alloc (.cells (w8s (k1 ++ k3)) 34)) := (Below.refl _ V11).alloc (Nat.le_refl _) _
  have hkb := two_cs (k := k1) (j := k3) V11
  have hkc := hka.below hbk
  have hX := h11.below hC hbk
  refine gw_build (by kernel_rfl) (some 37) rfl 30 2 #[(0, .tmp 35), (1, .tmp 36)] rfl #[(0, .agg (w8s k1)), (1, .agg (w8s k3))] (by kernel_rfl) (.slice (some ⟨V11.heap.size, 0, none⟩) 2 2) _ (build_two k1 k3 l1 l3 V11) ?_
  simp only [Act.put, List.setIfInBounds_toArray, List.set_cons_succ, List.set_cons_zero]
  have CS := ref_same ka (some ⟨V11.heap.size, 0, none⟩) kc 2 [k1, k3] _ hkc hkb HW.out.kc (by simp)
  generalize V11.alloc (.cells (w8s (k1 ++ k3)) 34) = VB at *
  refine gw_call (by kernel_rfl) (some 38) rfl 18 #[.slice ka 2 kc, .slice (some ⟨V11.heap.size, 0, none⟩) 2 2] (.bool true) (KC R w gc 2 [k1, k3]) (by kernel_rfl) (CS.mono fun e w' q => ⟨q.1, hX.below hC q.2⟩) (fun VC hVC => ?_)
  simp only [Act.put, List.setIfInBounds_toArray, List.set_cons_succ, List.set_cons_zero]
  clear CS hX hkc hkb hbk hka h11
  refine gw_val (by kernel_rfl) (some 39) rfl (.bool true) (by kernel_rfl) ?_
  simp only [Act.put, List.setIfInBounds_toArray, List.set_cons_succ, List.set_cons_zero]
  refine gw_val (by kernel_rfl) (some 40) rfl (.bool true) (by kernel_rfl) ?_
  simp only [Act.put, List.setIfInBounds_toArray, List.set_cons_succ, List.set_cons_zero]
  refine gw_val (by kernel_rfl) (some 41) rfl (.pointer (some ⟨gc, 0, none⟩)) (by kernel_rfl) ?_
  simp only [Act.put, List.setIfInBounds_toArray, List.set_cons_succ, List.set_cons_zero]
  refine gw_call (by kernel_rfl) (some 42) rfl 20 #[.pointer (some ⟨gc, 0, none⟩)] (.int .i64 (2 : Nat)) (KC R w gc 2 [k1, k3]) (by kernel_rfl) (HLn gc VC hVC) (fun V12 h12 => ?_)
  clear hVC
  simp only [Act.put, List.setIfInBounds_toArray, List.set_cons_succ, List.set_cons_zero]
  refine gw_val (by kernel_rfl) (some 43) rfl (.bool true) (by kernel_rfl) ?_
  simp only [Act.put, List.setIfInBounds_toArray, List.set_cons_succ, List.set_cons_zero]
  refine gw_val (by kernel_rfl) (some 44) rfl (.bool true) (by kernel_rfl) ?_
  simp only [Act.put, List.setIfInBounds_toArray, List.set_cons_succ, List.set_cons_zero]
  refine gw_val (by kernel_rfl) (some 45) rfl (.bool true) (by kernel_rfl) ?_
  simp only [Act.put, List.setIfInBounds_toArray, List.set_cons_succ, List.set_cons_zero]
  refine gw_val (by kernel_rfl) (some 46) rfl (.pointer (some ⟨gc, 0, none⟩)) (by kernel_rfl) ?_
  simp only [Act.put, List.setIfInBounds_toArray, List.set_cons_succ, List.set_cons_zero]
  refine gw_call (by kernel_rfl) (some 47) rfl 12 #[.int .i64 3] (.agg (w8s k3)) (KC R w gc 2 [k1, k3]) (by kernel_rfl) ((K3 V12).mono fun e w' q => ⟨q.1, h12.below hC q.2⟩) (fun V13 h13 => ?_)
  clear h12
  simp only [Act.put, List.setIfInBounds_toArray, List.set_cons_succ, List.set_cons_zero]
  refine gw_call (by kernel_rfl) (some 48) rfl 21 #[.pointer (some ⟨gc, 0, none⟩), .agg (w8s k3)] (.bool true) (KC R w gc 2 [k1, k3]) (by kernel_rfl) (H3 gc V13 h13) (fun V14 h14 => ?_)
  clear h13
  simp only [Act.put, List.setIfInBounds_toArray, List.set_cons_succ, List.set_cons_zero]
  refine gw_val (by kernel_rfl) (some 49) rfl (.bool true) (by kernel_rfl) ?_
  simp only [Act.put, List.setIfInBounds_toArray, List.set_cons_succ, List.set_cons_zero]
  refine gw_val (by kernel_rfl) (some 50) rfl (.bool true) (by kernel_rfl) ?_
  simp only [Act.put, List.setIfInBounds_toArray, List.set_cons_succ, List.set_cons_zero]
  refine gw_val (by kernel_rfl) (some 51) rfl (.pointer (some ⟨gc, 0, none⟩)) (by kernel_rfl) ?_
  simp only [Act.put, List.setIfInBounds_toArray, List.set_cons_succ, List.set_cons_zero]
  refine gw_call (by kernel_rfl) (some 52) rfl 12 #[.int .i64 2] (.agg (w8s k2)) (KC R w gc 2 [k1, k3]) (by kernel_rfl) ((K2 V14).mono fun e w' q => ⟨q.1, h14.below hC q.2⟩) (fun V15 h15 => ?_)
  clear h14
  simp only [Act.put, List.setIfInBounds_toArray, List.set_cons_succ, List.set_cons_zero]
  refine gw_call (by kernel_rfl) (some 53) rfl 21 #[.pointer (some ⟨gc, 0, none⟩), .agg (w8s k2)] (.bool false) (KC R w gc 2 [k1, k3]) (by kernel_rfl) (H2 gc V15 h15) (fun V16 h16 => ?_)
  clear h15
  simp only [Act.put, List.setIfInBounds_toArray, List.set_cons_succ, List.set_cons_zero]
  refine gw_val (by kernel_rfl) (some 54) rfl (.bool true) (by kernel_rfl) ?_
  simp only [Act.put, List.setIfInBounds_toArray, List.set_cons_succ, List.set_cons_zero]
  refine gw_val (by kernel_rfl) (some 55) rfl (.bool true) (by kernel_rfl) ?_
  simp only [Act.put, List.setIfInBounds_toArray, List.set_cons_succ, List.set_cons_zero]
  refine gw_val (by kernel_rfl) (some 0) rfl (.bool true) (by kernel_rfl) ?_
  simp only [Act.put, List.setIfInBounds_toArray, List.set_cons_succ, List.set_cons_zero]
  apply wpList_nil
  have HB := Lib.hid h16.bel
  clear h16 HLn HK H3 H2 K1 K2 K3
  go_wp2_with fail
  go_ret
  exact ⟨rfl, HB.out⟩
end Go.Proofs.Ytjblfpifhbmfoaa
