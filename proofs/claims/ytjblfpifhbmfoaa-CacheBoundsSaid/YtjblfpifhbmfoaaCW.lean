/-
  The walk of the statement on bounds, over what the program's functions are held to.
-/
import Derived.Test.YtjblfpifhbmfoaaCO
namespace Go.Proofs.Ytjblfpifhbmfoaa
open Go.RowKit
set_option linter.unusedSimpArgs false
set_option linter.unusedVariables false

theorem capN_nat' {z : Nat} (h : z ≤ 1024) : (capN (z : Int)).toNat = z := by unfold capN; omega
set_option maxRecDepth 100000 in
set_option maxHeartbeats 8000000 in
theorem bounds_core {R : CRep} (hC : CacheC R 11 17 14 21 19 20 15) (a : Option Addr) (c : Nat) (L0 : List Int) (size : Int) (w : World) (hL : Cs w a (icells L0)) (hl : L0.length ≤ 9223372036854775807) :
    Calls Try.prog 4 #[.slice a L0.length c, .int .i64 size] w fun e w' => e = .returned (.bool true) ∧ Below w.heap.size w w' := by
  have hb1 : Below w.heap.size w (w.alloc (.cells #[.slice a L0.length c] 22)) := (Below.refl _ w).alloc (Nat.le_refl _) _
  have hX1 : Bx (w.alloc (.cells #[.slice a L0.length c] 22)) w.heap.size #[.slice a L0.length c] 22 := heap_alloc_last w _
  have CLn := long_one w.heap.size a L0.length c _ hX1 hl
  have CK := fun V => known_true hC V
  have HL := Lib.hid hL
  obtain ⟨n, hn⟩ : ∃ n, L0.length = n := ⟨_, rfl⟩
  by_cases hm : 160 < L0.length
  · have hd : decide ((160 : Int) < (L0.length : Int)) = true := decide_eq_true (by omega)
    rw [hd] at CLn
    rw [hn] at hb1 CLn ⊢
    clear hX1 hL hd HL
    go_enter Try.func4, Try.ntmps4
    go_upto_region 1 with fail
    apply wp_region_lit
    refine gw_val (by kernel_rfl) (some 12) rfl (.slice a n c) (by kernel_rfl) ?_
    simp only [Act.put, List.setIfInBounds_toArray, List.set_cons_succ, List.set_cons_zero]
    refine gw_build (by kernel_rfl) (some 13) rfl 50 1 #[(0, .tmp 12)] rfl #[(0, .slice a n c)] (by kernel_rfl) (.slice (some ⟨w.heap.size, 0, none⟩) 1 1) _ (one_row a n c w) ?_
    simp only [Act.put, List.setIfInBounds_toArray, List.set_cons_succ, List.set_cons_zero]
    generalize w.alloc (.cells #[.slice a n c] 22) = W1 at *
    refine gw_call (by kernel_rfl) (some 14) rfl 7 #[.slice (some ⟨w.heap.size, 0, none⟩) 1 1] (.bool true) (fun w' => W1 = w') (by kernel_rfl) CLn (fun W2 hW => ?_)
    subst hW
    simp only [Act.put, List.setIfInBounds_toArray, List.set_cons_succ, List.set_cons_zero]
    apply wpList_nil
    clear CLn hl hm hn
    go_upto_region 2 with fail
    have CK1 := CK W1
    apply wp_region_lit
    refine gw_call (by kernel_rfl) (some 15) rfl 8 #[] (.bool true) (fun w' => Below W1.heap.size W1 w') (by kernel_rfl) CK1 (fun W2 hW => ?_)
    simp only [Act.put, List.setIfInBounds_toArray, List.set_cons_succ, List.set_cons_zero]
    refine gw_val (by kernel_rfl) (some 4) rfl (.bool true) (by kernel_rfl) ?_
    simp only [Act.put, List.setIfInBounds_toArray, List.set_cons_succ, List.set_cons_zero]
    apply wpList_nil
    have HB := Lib.hid (hb1.trans (hW.mono hb1.size))
    clear hb1 hW CK CK1
    go_wp2_with fail
    go_ret
    exact ⟨rfl, HB.out⟩
  · have hd : decide ((160 : Int) < (L0.length : Int)) = false := decide_eq_false (by omega)
    rw [hd] at CLn
    have hn160 : L0.length ≤ 160 := by omega
    have HN := Lib.hid hn
    rw [hn] at hb1 CLn hn160 ⊢
    have CPl := fun x V => mk_place x 11 V (by omega) (by omega)
    have C1 := fun V => mk_place size 6 V (by omega) (by omega)
    have hp1 := pl_range size 6 (by omega)
    generalize pl size 6 = p0 at *
    obtain ⟨p, rfl⟩ := Int.eq_ofNat_of_zero_le hp1.1
    have hp5 : p ≤ 5 := by omega
    obtain ⟨z, hz⟩ : ∃ z, z = 1 + p := ⟨_, rfl⟩
    have hz1 : 1 ≤ z ∧ z ≤ 6 := by omega
    have HZ := Lib.hid hz
    clear hX1 hL hd hp1 hz hn
    go_enter Try.func4, Try.ntmps4
    go_upto_region 1 with fail
    apply wp_region_lit
    refine gw_val (by kernel_rfl) (some 12) rfl (.slice a n c) (by kernel_rfl) ?_
    simp only [Act.put, List.setIfInBounds_toArray, List.set_cons_succ, List.set_cons_zero]
    refine gw_build (by kernel_rfl) (some 13) rfl 50 1 #[(0, .tmp 12)] rfl #[(0, .slice a n c)] (by kernel_rfl) (.slice (some ⟨w.heap.size, 0, none⟩) 1 1) _ (one_row a n c w) ?_
    simp only [Act.put, List.setIfInBounds_toArray, List.set_cons_succ, List.set_cons_zero]
    generalize w.alloc (.cells #[.slice a n c] 22) = W1 at *
    refine gw_call (by kernel_rfl) (some 14) rfl 7 #[.slice (some ⟨w.heap.size, 0, none⟩) 1 1] (.bool false) (fun w' => W1 = w') (by kernel_rfl) CLn (fun W2 hW => ?_)
    subst hW
    simp only [Act.put, List.setIfInBounds_toArray, List.set_cons_succ, List.set_cons_zero]
    apply wpList_nil
    clear CLn hl hm
    go_upto_region 3 with fail
    apply wp_region_lit
    refine gw_val (by kernel_rfl) (some 16) rfl (.int .i64 size) (by kernel_rfl) ?_
    simp only [Act.put, List.setIfInBounds_toArray, List.set_cons_succ, List.set_cons_zero]
    refine gw_call (by kernel_rfl) (some 17) rfl 23 #[.int .i64 size, .int .i64 6] (.int .i64 p) (fun w' => W1 = w') (by kernel_rfl) (C1 W1) (fun W2 hW => ?_)
    subst hW
    simp only [Act.put, List.setIfInBounds_toArray, List.set_cons_succ, List.set_cons_zero]
    refine gw_val (by kernel_rfl) (some 18) rfl (.int .i64 (1 + p : Nat)) (add_nat rfl 1 p (by omega) (by kernel_rfl) (by kernel_rfl) _) ?_
    simp only [Act.put, List.setIfInBounds_toArray, List.set_cons_succ, List.set_cons_zero]
    rw [← HZ.out]
    refine gw_val (by kernel_rfl) (some 1) rfl (.int .i64 z) (by kernel_rfl) ?_
    simp only [Act.put, List.setIfInBounds_toArray, List.set_cons_succ, List.set_cons_zero]
    apply wpList_nil
    clear C1
    have CN := hC.new W1 (z : Int) ⟨by omega, by omega⟩
    rw [capN_nat' (by omega)] at CN
    go_upto_region 4 with fail
    apply wp_region_lit
    refine gw_val (by kernel_rfl) (some 19) rfl (.int .i64 z) (by kernel_rfl) ?_
    simp only [Act.put, List.setIfInBounds_toArray, List.set_cons_succ, List.set_cons_zero]
    refine gw_callE (by kernel_rfl) (some 20) rfl 11 #[.int .i64 z] (fun v w' => ∃ g S, v = .pointer (some ⟨g, 0, none⟩) ∧ R w' g S z [] ∧ (∀ k, S k → W1.heap.size ≤ k) ∧ Below W1.heap.size W1 w') (by kernel_rfl) (CN.mono fun e w' h => by obtain ⟨g, S, he, h⟩ := h; exact ⟨_, he, g, S, rfl, h⟩) (fun v W7 hq => ?_)
    obtain ⟨gc, S0, rfl, hr7, hs7, hb7⟩ := hq
    simp only [Act.put, List.setIfInBounds_toArray, List.set_cons_succ, List.set_cons_zero]
    refine gw_val (by kernel_rfl) (some 5) rfl (.pointer (some ⟨gc, 0, none⟩)) (by kernel_rfl) ?_
    simp only [Act.put, List.setIfInBounds_toArray, List.set_cons_succ, List.set_cons_zero]
    apply wpList_nil
    have hM0 : MB R w gc S0 z [] W7 := { bel := hb1.trans (hb7.mono hb1.size), r := hr7, so := fun k hk => Nat.le_trans hb1.size (hs7 k hk) }
    have hwc : Wc z [] := Wc.nil (by omega)
    have hq0 : RB W7 S0 none ([] : List (List Int)).reverse := ⟨Cs.nil _ _, fun x hx => (by cases hx)⟩
    clear hb1 hr7 hs7 hb7 CN
    go_upto_region 5 with fail
    apply wp_region_lit
    refine gw_val (by kernel_rfl) (some 21) rfl (.pointer (some ⟨gc, 0, none⟩)) (by kernel_rfl) ?_
    simp only [Act.put, List.setIfInBounds_toArray, List.set_cons_succ, List.set_cons_zero]
    refine gw_val (by kernel_rfl) (some 22) rfl (.bool false) (by kernel_rfl) ?_
    simp only [Act.put, List.setIfInBounds_toArray, List.set_cons_succ, List.set_cons_zero]
    apply wpList_nil
    go_upto_region 7 with fail
    apply wp_region_lit
    refine gw_val (by kernel_rfl) (some 6) rfl (.slice none 0 0) (by kernel_rfl) ?_
    simp only [Act.put, List.setIfInBounds_toArray, List.set_cons_succ, List.set_cons_zero]
    apply wpList_nil
    go_upto_region 8 with fail
    apply wp_region_lit
    refine gw_val (by kernel_rfl) (some 23) rfl (.slice a n c) (by kernel_rfl) ?_
    simp only [Act.put, List.setIfInBounds_toArray, List.set_cons_succ, List.set_cons_zero]
    refine gw_val (by kernel_rfl) (some 24) rfl (.int .i64 n) (by kernel_rfl) ?_
    simp only [Act.put, List.setIfInBounds_toArray, List.set_cons_succ, List.set_cons_zero]
    refine gw_val (by kernel_rfl) (some 25) rfl (.int .i64 0) (by kernel_rfl) ?_
    simp only [Act.put, List.setIfInBounds_toArray, List.set_cons_succ, List.set_cons_zero]
    apply wpList_nil
    go_wp2_with fail
    go_loopg [6, 25] n (fun gg s6 s25 wx => ∃ i S Ks am cm, s6 = .slice am (List.length Ks) cm ∧ s25 = .int .i64 (i : Nat) ∧ i ≤ n ∧ MB R w gc S z Ks wx ∧ RB wx S am Ks.reverse ∧ Ks.length ≤ cm ∧ Wc z Ks ∧ n - i = gg)
    case atStart => exact ⟨0, S0, [], none, 0, rfl, rfl, by omega, hM0, hq0, Nat.le_refl _, hwc, rfl⟩
    case round =>
      obtain ⟨i, S, Ks, am, cm, rfl, rfl, hi, hM, hQ, hcm, hW, hg⟩ := hrel
      clear hM0 hq0 hwc
      by_cases hlt : i < n
      · have hd : decide (i < n) = true := decide_eq_true hlt
        obtain ⟨b0, off, rfl, hbb, hcx⟩ := int_at (HL.out.below hM.bel) (k := i) (by rw [HN.out]; exact hlt)
        have HG : Hid (n - (i + 1) < gk ∧ i + 1 ≤ n) := Lib.hid ⟨by omega, by omega⟩
        generalize L0.getD i 0 = xv at *
        clear hbb hg
        go_upto_region 9 with fail
        apply wp_region_lit
        refine gw_val (by kernel_rfl) (some 26) rfl (.bool (decide (i < n))) (lt_nat rfl i n (by kernel_rfl) (by kernel_rfl) _) ?_
        simp only [Act.put, List.setIfInBounds_toArray, List.set_cons_succ, List.set_cons_zero]
        rw [hd]
        apply wpList_nil
        go_upto_region 10 with fail
        apply wp_region_lit
        refine gw_val (by kernel_rfl) (some 27) rfl (.pointer (some ⟨b0, off + i, none⟩)) (idx_int b0 off n c i hlt _ _ _ rfl (by kernel_rfl) (by kernel_rfl)) ?_
        simp only [Act.put, List.setIfInBounds_toArray, List.set_cons_succ, List.set_cons_zero]
        refine gw_load (by kernel_rfl) (some 28) rfl 3 (.tmp 27) rfl ⟨b0, off + i, none⟩ (.int .i64 xv) (by kernel_rfl) (load_cell hcx (by kernel_rfl)) ?_
        simp only [Act.put, List.setIfInBounds_toArray, List.set_cons_succ, List.set_cons_zero]
        refine gw_val (by kernel_rfl) (some 8) rfl (.int .i64 xv) (by kernel_rfl) ?_
        simp only [Act.put, List.setIfInBounds_toArray, List.set_cons_succ, List.set_cons_zero]
        apply wpList_nil
        have C1 := CPl xv wr
        have hp1 := pl_range xv 11 (by omega)
        generalize pl xv 11 = q at *
        have CO := key_of q wr (by omega) (by omega)
        have hk32 := keyL_len q
        generalize keyL q = K at *
        clear hcx hp1
        go_upto_region 11 with fail
        apply wp_region_lit
        refine gw_val (by kernel_rfl) (some 29) rfl (.int .i64 xv) (by kernel_rfl) ?_
        simp only [Act.put, List.setIfInBounds_toArray, List.set_cons_succ, List.set_cons_zero]
        refine gw_call (by kernel_rfl) (some 30) rfl 23 #[.int .i64 xv, .int .i64 11] (.int .i64 q) (fun w' => wr = w') (by kernel_rfl) C1 (fun W2 hW => ?_)
        subst hW
        simp only [Act.put, List.setIfInBounds_toArray, List.set_cons_succ, List.set_cons_zero]
        refine gw_call (by kernel_rfl) (some 31) rfl 12 #[.int .i64 q] (.agg (w8s K)) (Below wr.heap.size wr) (by kernel_rfl) CO (fun V2 hb2 => ?_)
        simp only [Act.put, List.setIfInBounds_toArray, List.set_cons_succ, List.set_cons_zero]
        have hM2 := hM.below hC hb2
        have hQ2 := hQ.below hb2
        clear hM hQ hb2 CO C1
        refine run_to rfl (some 9) rfl (.pointer (some ⟨V2.heap.size, 0, none⟩)) (V2.alloc (.cells (w8s zeroK) 34)) (by kernel_rfl) ?_
        simp only [Act.put, List.setIfInBounds_toArray, List.set_cons_succ, List.set_cons_zero]
        apply wpList_store_new (w := V2) (ty := 34) (x := .tmp 9) (y := .tmp 31) (c := w8s zeroK) (c' := w8s K)
        case hgd => rfl
        case ho => rfl
        case hx => kernel_rfl
        case hy => kernel_rfl
        case hi => exact size_key hk32
        case hz => rw [size_w8s, size_w8s, hk32]; rfl
        case h1 => exact one_w8s _
        simp only [Act.put]
        apply wpList_nil
        have hb3 : Below V2.heap.size V2 (V2.alloc (.cells (w8s K) 34)) := (Below.refl _ V2).alloc (Nat.le_refl _) _
        have hM3 := hM2.below hC hb3
        have hQ3 := hQ2.below hb3
        have hX3 : XC (V2.alloc (.cells (w8s K) 34)) S V2.heap.size K := ⟨heap_alloc_last V2 _, fun hs => by have := hC.inn hM2.r _ hs; omega⟩
        clear hM2 hQ2 hb3
        generalize V2.alloc (.cells (w8s K) 34) = V3 at *
        generalize V2.heap.size = g9 at *
        have CPu := hC.push V3 gc S z Ks K w.heap.size hM3.r hW hk32 hM3.so hM3.bel.size
        have hW2 := hW.push hk32
        have hPR := push_rev hW K
        have hle := hW.le
        generalize pushZ Ks z K = D at *
        go_upto_region 12 with fail
        apply wp_region_lit
        refine gw_val (by kernel_rfl) (some 32) rfl (.pointer (some ⟨gc, 0, none⟩)) (by kernel_rfl) ?_
        simp only [Act.put, List.setIfInBounds_toArray, List.set_cons_succ, List.set_cons_zero]
        refine gw_load (by kernel_rfl) (some 33) rfl 34 (.tmp 9) rfl ⟨g9, 0, none⟩ (.agg (w8s K)) (by kernel_rfl) (load_key hX3.bx hk32) ?_
        simp only [Act.put, List.setIfInBounds_toArray, List.set_cons_succ, List.set_cons_zero]
        refine gw_call (by kernel_rfl) (some 34) rfl 17 #[.pointer (some ⟨gc, 0, none⟩), .agg (w8s K)] (.bool D.2) (fun w' => UpdC R gc w.heap.size S z D.1 V3 w') (by kernel_rfl) CPu (fun V4 hu => ?_)
        simp only [Act.put, List.setIfInBounds_toArray, List.set_cons_succ, List.set_cons_zero]
        apply wpList_nil
        obtain ⟨S4, hM4, hq4, hx4⟩ := hM3.prog hC hu
        have hQ4 := hq4 _ _ hQ3
        have hX4 := hx4 _ _ hX3
        clear hM3 hQ3 hX3 hu hq4 hx4 CPu
        have hrl : Ks.reverse.length = Ks.length := List.length_reverse
        have hkr : Kc Ks.reverse := fun y hy => hW.kc y (List.mem_reverse.1 hy)
        have CRef := ref_drop am cm Ks.reverse K V4 hk32 hQ4.cs (by omega) hkr (by omega)
        have hDl := drop_bound Ks.reverse K
        have hDk := drop_kc hkr K
        rw [hrl] at CRef hDl
        unfold RowO at CRef
        generalize (dropM Ks.reverse K).2 = ok at *
        generalize (dropM Ks.reverse K).1 = M at *
        go_upto_region 13 with fail
        apply wp_region_lit
        refine gw_val (by kernel_rfl) (some 36) rfl (.slice am Ks.length cm) (by kernel_rfl) ?_
        simp only [Act.put, List.setIfInBounds_toArray, List.set_cons_succ, List.set_cons_zero]
        refine gw_load (by kernel_rfl) (some 37) rfl 34 (.tmp 9) rfl ⟨g9, 0, none⟩ (.agg (w8s K)) (by kernel_rfl) (load_key hX4.bx hk32) ?_
        simp only [Act.put, List.setIfInBounds_toArray, List.set_cons_succ, List.set_cons_zero]
        refine gw_callE (by kernel_rfl) (some 38) rfl 13 #[.slice am Ks.length cm, .agg (w8s K)] (fun v w' => ∃ a2 c2, v = .tuple #[.slice a2 M.length c2, .bool ok] ∧ Cs w' a2 (kcells M) ∧ M.length ≤ c2 ∧ Below V4.heap.size V4 w' ∧ Fr V4 w' am a2) (by kernel_rfl) (CRef.mono fun e w' q => by obtain ⟨a2, c2, he, h1, h2, h3, h4⟩ := q; exact ⟨_, he, a2, c2, rfl, h1, h2, h3, h4⟩) (fun v V5 hq => ?_)
        obtain ⟨a2, c2, rfl, hc5, hl5, hb5, hf5⟩ := hq
        have hM5 := hM4.below hC hb5
        have hQ5 := hM4.fr hC hQ4 hb5 hc5 hf5
        have hX5 := hX4.below hb5
        clear hM4 hQ4 hX4 hc5 hb5 hf5 CRef hkr
        simp only [Act.put, List.setIfInBounds_toArray, List.set_cons_succ, List.set_cons_zero]
        refine gw_val (by kernel_rfl) (some 35) rfl (.tuple #[.slice a2 M.length c2, .bool ok]) (by kernel_rfl) ?_
        simp only [Act.put, List.setIfInBounds_toArray, List.set_cons_succ, List.set_cons_zero]
        refine gw_val (by kernel_rfl) (some 39) rfl (.slice a2 M.length c2) (by kernel_rfl) ?_
        simp only [Act.put, List.setIfInBounds_toArray, List.set_cons_succ, List.set_cons_zero]
        refine gw_val (by kernel_rfl) (some 40) rfl (.bool ok) (by kernel_rfl) ?_
        simp only [Act.put, List.setIfInBounds_toArray, List.set_cons_succ, List.set_cons_zero]
        refine gw_val (by kernel_rfl) (some 6) rfl (.slice a2 M.length c2) (by kernel_rfl) ?_
        simp only [Act.put, List.setIfInBounds_toArray, List.set_cons_succ, List.set_cons_zero]
        apply wpList_nil
        obtain ⟨b6, c6, V6, hcons⟩ := hM5.cons (K := K) hC hQ5 (m := M.length) (c := c2) rfl (by omega) hDk
        obtain ⟨hap, hc6, hQ6, hb6⟩ := hcons.resolve_right (fun h => h hk32)
        have hM6 := hM5.below hC hb6
        have hX6 := hX5.below hb6
        have hbV : Below V5.heap.size V5 (V5.alloc (.cells (w8s K) 34)) := (Below.refl _ V5).alloc (Nat.le_refl _) _
        clear hcons
        go_upto_region 14 with fail
        apply wp_region_lit
        refine gw_load (by kernel_rfl) (some 41) rfl 34 (.tmp 9) rfl ⟨g9, 0, none⟩ (.agg (w8s K)) (by kernel_rfl) (load_key hX5.bx hk32) ?_
        simp only [Act.put, List.setIfInBounds_toArray, List.set_cons_succ, List.set_cons_zero]
        refine gw_build (by kernel_rfl) (some 42) rfl 30 1 #[(0, .tmp 41)] rfl #[(0, .agg (w8s K))] (by kernel_rfl) (.slice (some ⟨V5.heap.size, 0, none⟩) 1 1) _ (build_one K hk32 V5) ?_
        simp only [Act.put, List.setIfInBounds_toArray, List.set_cons_succ, List.set_cons_zero]
        refine gw_val (by kernel_rfl) (some 43) rfl (.slice a2 M.length c2) (by kernel_rfl) ?_
        simp only [Act.put, List.setIfInBounds_toArray, List.set_cons_succ, List.set_cons_zero]
        refine append_step rfl (some 44) rfl 30 rfl (.tmp 42) (.tmp 43) 30 rfl (.slice (some ⟨V5.heap.size, 0, none⟩) 1 1) (.slice a2 M.length c2) (.slice b6 (M.length + 1) c6) V6 (by kernel_rfl) (by kernel_rfl) hap ?_
        simp only [Act.put, List.setIfInBounds_toArray, List.set_cons_succ, List.set_cons_zero]
        refine gw_val (by kernel_rfl) (some 6) rfl (.slice b6 (M.length + 1) c6) (by kernel_rfl) ?_
        simp only [Act.put, List.setIfInBounds_toArray, List.set_cons_succ, List.set_cons_zero]
        apply wpList_nil
        clear hap hM5 hQ5 hX5 hbV
        obtain ⟨m, hm⟩ : ∃ m, m = min (M.length + 1) z := ⟨_, rfl⟩
        have HMin : Hid (min ((M.length + 1 : Nat) : Int) (z : Int) = (m : Int)) := Lib.hid (by omega)
        have hmD : D.1.length = m := by
          have h1 : ((K :: M).take z).length = D.1.reverse.length := by rw [hPR]
          rw [List.length_take, List.length_cons, List.length_reverse] at h1
          omega
        have hkK : Kc (K :: M) := fun y hy => (List.mem_cons.1 hy).elim (fun e => by rw [e]; exact hk32) (hDk y)
        have hQ7 : RB V6 S4 b6 D.1.reverse := ⟨by
          rw [← hPR, ← kcells_take (K :: M) hkK z]
          exact hQ6.cs.take _, hQ6.ap⟩
        have hcut := cut_k_to b6 (M.length + 1) c6 m V6 (by omega)
        have hm6 : D.1.length ≤ c6 := by omega
        rw [← hmD] at hcut
        have HMD := Lib.hid hmD
        clear hQ6 hkK hDk hPR hm hmD hDl hrl hc6
        go_upto_region 15 with fail
        apply wp_region_lit
        refine gw_val (by kernel_rfl) (some 45) rfl (.slice b6 (M.length + 1) c6) (by kernel_rfl) ?_
        simp only [Act.put, List.setIfInBounds_toArray, List.set_cons_succ, List.set_cons_zero]
        refine gw_val (by kernel_rfl) (some 46) rfl (.slice b6 (M.length + 1) c6) (by kernel_rfl) ?_
        simp only [Act.put, List.setIfInBounds_toArray, List.set_cons_succ, List.set_cons_zero]
        refine gw_val (by kernel_rfl) (some 47) rfl (.int .i64 (M.length + 1 : Nat)) (by kernel_rfl) ?_
        simp only [Act.put, List.setIfInBounds_toArray, List.set_cons_succ, List.set_cons_zero]
        refine gw_val (by kernel_rfl) (some 48) rfl (.int .i64 z) (by kernel_rfl) ?_
        simp only [Act.put, List.setIfInBounds_toArray, List.set_cons_succ, List.set_cons_zero]
        refine gw_val (by kernel_rfl) (some 49) rfl (.int .i64 (min ((M.length + 1 : Nat) : Int) (z : Int))) (min_int rfl _ _ (by kernel_rfl) (by kernel_rfl) _) ?_
        simp only [Act.put, List.setIfInBounds_toArray, List.set_cons_succ, List.set_cons_zero]
        rw [HMin.out, ← HMD.out]
        refine gw_slice_to (by kernel_rfl) (some 50) rfl 30 (.tmp 45) (.tmp 49) rfl (.slice b6 (M.length + 1) c6) (.int .i64 D.1.length) (.slice b6 D.1.length c6) (by kernel_rfl) (by kernel_rfl) hcut ?_
        simp only [Act.put, List.setIfInBounds_toArray, List.set_cons_succ, List.set_cons_zero]
        refine gw_val (by kernel_rfl) (some 6) rfl (.slice b6 D.1.length c6) (by kernel_rfl) ?_
        simp only [Act.put, List.setIfInBounds_toArray, List.set_cons_succ, List.set_cons_zero]
        apply wpList_nil
        clear hcut
        generalize D.1 = K2 at *
        have hle2 := hW2.le
        have hdz : decide ((z : Int) < (K2.length : Int)) = false := decide_eq_false (by omega)
        have CLe := (hC.len V6 gc S4 z K2 hM6.r hW2).mono fun e w' q => (And.intro q.1 ⟨hM6.below hC q.2, hQ7.below q.2⟩ : e = _ ∧ (MB R w gc S4 z K2 w' ∧ RB w' S4 b6 K2.reverse))
        clear hX6
        go_upto_region 16 with fail
        apply wp_region_lit
        refine gw_val (by kernel_rfl) (some 51) rfl (.pointer (some ⟨gc, 0, none⟩)) (by kernel_rfl) ?_
        simp only [Act.put, List.setIfInBounds_toArray, List.set_cons_succ, List.set_cons_zero]
        refine gw_call (by kernel_rfl) (some 52) rfl 20 #[.pointer (some ⟨gc, 0, none⟩)] (.int .i64 K2.length) (fun w' => MB R w gc S4 z K2 w' ∧ RB w' S4 b6 K2.reverse) (by kernel_rfl) CLe (fun V7 h7 => ?_)
        simp only [Act.put, List.setIfInBounds_toArray, List.set_cons_succ, List.set_cons_zero]
        refine gw_val (by kernel_rfl) (some 53) rfl (.int .i64 z) (by kernel_rfl) ?_
        simp only [Act.put, List.setIfInBounds_toArray, List.set_cons_succ, List.set_cons_zero]
        refine gw_val (by kernel_rfl) (some 54) rfl (.bool (decide ((z : Int) < (K2.length : Int)))) (by kernel_rfl) ?_
        simp only [Act.put, List.setIfInBounds_toArray, List.set_cons_succ, List.set_cons_zero]
        rw [hdz]
        refine gw_val (by kernel_rfl) (some 55) rfl (.bool false) (by kernel_rfl) ?_
        simp only [Act.put, List.setIfInBounds_toArray, List.set_cons_succ, List.set_cons_zero]
        refine gw_val (by kernel_rfl) (some 56) rfl (.pointer (some ⟨gc, 0, none⟩)) (by kernel_rfl) ?_
        simp only [Act.put, List.setIfInBounds_toArray, List.set_cons_succ, List.set_cons_zero]
        refine gw_callE (by kernel_rfl) (some 57) rfl 19 #[.pointer (some ⟨gc, 0, none⟩)] (fun v w' => ∃ ak ck, v = .slice ak K2.length ck ∧ Cs w' ak (kcells K2) ∧ K2.length ≤ ck ∧ MB R w gc S4 z K2 w' ∧ RB w' S4 b6 K2.reverse) (by kernel_rfl) ((hC.keys V7 gc S4 z K2 h7.1.r hW2).mono fun e w' q => by obtain ⟨ak, ck, he, h1, h2, h3⟩ := q; exact ⟨_, he, ak, ck, rfl, h1, h2, h7.1.below hC h3, h7.2.below h3⟩) (fun v V8 hq => ?_)
        obtain ⟨ak, ck, rfl, hk1, hk2, h8⟩ := hq
        simp only [Act.put, List.setIfInBounds_toArray, List.set_cons_succ, List.set_cons_zero]
        refine gw_call (by kernel_rfl) (some 58) rfl 24 #[.slice ak K2.length ck] (.bool true) (fun w' => MB R w gc S4 z K2 w' ∧ RB w' S4 b6 K2.reverse) (by kernel_rfl) ((ref_dist ak ck K2 V8 hk1 hk2 hW2.kc hW2.nd (by omega)).mono fun e w' q => ⟨q.1, h8.1.below hC q.2, h8.2.below q.2⟩) (fun V9 h9 => ?_)
        simp only [Act.put, List.setIfInBounds_toArray, List.set_cons_succ, List.set_cons_zero]
        refine gw_val (by kernel_rfl) (some 59) rfl (.bool false) (by kernel_rfl) ?_
        simp only [Act.put, List.setIfInBounds_toArray, List.set_cons_succ, List.set_cons_zero]
        refine gw_val (by kernel_rfl) (some 60) rfl (.bool false) (by kernel_rfl) ?_
        simp only [Act.put, List.setIfInBounds_toArray, List.set_cons_succ, List.set_cons_zero]
        apply wpList_nil
        clear hM6 hQ7 CLe h7 hk1 hk2 h8
        have HW2 := Lib.hid hW2
        obtain ⟨h9m, h9q⟩ := h9
        clear hW2 hdz
        go_upto_region 18 with fail
        apply wp_region_lit
        refine gw_val (by kernel_rfl) (some 61) rfl (.slice b6 K2.length c6) (by kernel_rfl) ?_
        simp only [Act.put, List.setIfInBounds_toArray, List.set_cons_succ, List.set_cons_zero]
        refine gw_val (by kernel_rfl) (some 62) rfl (.int .i64 K2.length) (by kernel_rfl) ?_
        simp only [Act.put, List.setIfInBounds_toArray, List.set_cons_succ, List.set_cons_zero]
        refine gw_val (by kernel_rfl) (some 63) rfl (.int .i64 0) (by kernel_rfl) ?_
        simp only [Act.put, List.setIfInBounds_toArray, List.set_cons_succ, List.set_cons_zero]
        apply wpList_nil
        generalize wr = wR at *
        generalize gk = gK at *
        go_wp2_with fail
        go_loopg [63] (K2.length) (fun gg s63 wx => ∃ j : Nat, s63 = .int .i64 j ∧ j ≤ K2.length ∧ MB R w gc S4 z K2 wx ∧ RB wx S4 b6 K2.reverse ∧ K2.length - j = gg)
        case atStart => exact ⟨0, rfl, by omega, h9m, h9q, by omega⟩
        case round =>
          obtain ⟨j, rfl, hj, hm, hq, hgj⟩ := hrel
          clear h9m h9q
          by_cases hjl : j < K2.length
          · have hd3 : decide (j < K2.length) = true := decide_eq_true hjl
            have hrl : K2.reverse.length = K2.length := List.length_reverse
            have hkr : Kc K2.reverse := fun y hy => HW2.out.kc y (List.mem_reverse.1 hy)
            obtain ⟨b7, o7, rfl, hbb, hrx⟩ := key_at hq.cs hkr (i := j) (by omega)
            have hx32 := hkr.at (i := j) (by omega)
            have hmem : K2.reverse.getD j [] ∈ K2 := by
              rw [getD_lt K2.reverse j [] (by omega)]
              exact List.mem_reverse.1 (List.getElem_mem _)
            generalize K2.reverse.getD j [] = Y at *
            have hdm : decide (Y ∈ K2) = true := decide_eq_true hmem
            have HJ : Hid (K2.length - (j + 1) = gk - 1 ∧ 0 < gk ∧ j + 1 ≤ K2.length) := Lib.hid ⟨by omega, by omega, by omega⟩
            clear hmem hgj hbb hkr hrl
            go_upto_region 19 with fail
            apply wp_region_lit
            refine gw_val (by kernel_rfl) (some 64) rfl (.bool (decide (j < K2.length))) (lt_nat rfl j K2.length (by kernel_rfl) (by kernel_rfl) _) ?_
            simp only [Act.put, List.setIfInBounds_toArray, List.set_cons_succ, List.set_cons_zero]
            rw [hd3]
            apply wpList_nil
            go_upto_region 20 with fail
            apply wp_region_lit
            refine gw_val (by kernel_rfl) (some 65) rfl (.pointer (some ⟨b7, o7 + j * 32, none⟩)) (idx_key b7 o7 K2.length c6 j hjl _ _ _ rfl (by kernel_rfl) (by kernel_rfl)) ?_
            simp only [Act.put, List.setIfInBounds_toArray, List.set_cons_succ, List.set_cons_zero]
            refine gw_load (by kernel_rfl) (some 66) rfl 34 (.tmp 65) rfl ⟨b7, o7 + j * 32, none⟩ (.agg (w8s Y)) (by kernel_rfl) (load_mid hrx hx32) ?_
            simp only [Act.put, List.setIfInBounds_toArray, List.set_cons_succ, List.set_cons_zero]
            refine run_to rfl (some 11) rfl (.pointer (some ⟨wr.heap.size, 0, none⟩)) (wr.alloc (.cells (w8s zeroK) 34)) (by kernel_rfl) ?_
            simp only [Act.put, List.setIfInBounds_toArray, List.set_cons_succ, List.set_cons_zero]
            apply wpList_store_new (w := wr) (ty := 34) (x := .tmp 11) (y := .tmp 66) (c := w8s zeroK) (c' := w8s Y)
            case hgd => rfl
            case ho => rfl
            case hx => kernel_rfl
            case hy => kernel_rfl
            case hi => exact size_key hx32
            case hz => rw [size_w8s, size_w8s, hx32]; rfl
            case h1 => exact one_w8s _
            simp only [Act.put]
            apply wpList_nil
            have hb3 : Below wr.heap.size wr (wr.alloc (.cells (w8s Y) 34)) := (Below.refl _ wr).alloc (Nat.le_refl _) _
            have hm2 := hm.below hC hb3
            have hq2 := hq.below hb3
            have hXY : Bx (wr.alloc (.cells (w8s Y) 34)) wr.heap.size (w8s Y) 34 := heap_alloc_last wr _
            generalize wr.alloc (.cells (w8s Y) 34) = VY at *
            generalize wr.heap.size = gx at *
            clear hm hq hb3 hrx
            have CHs := (hC.has VY gc S4 z K2 Y hm2.r HW2.out hx32).mono fun e w' q => (And.intro q.1 ⟨hm2.below hC q.2, hq2.below q.2⟩ : e = _ ∧ (MB R w gc S4 z K2 w' ∧ RB w' S4 (some ⟨b7, o7, none⟩) K2.reverse))
            rw [hdm] at CHs
            go_upto_region 21 with fail
            apply wp_region_lit
            refine gw_val (by kernel_rfl) (some 67) rfl (.pointer (some ⟨gc, 0, none⟩)) (by kernel_rfl) ?_
            simp only [Act.put, List.setIfInBounds_toArray, List.set_cons_succ, List.set_cons_zero]
            refine gw_load (by kernel_rfl) (some 68) rfl 34 (.tmp 11) rfl ⟨gx, 0, none⟩ (.agg (w8s Y)) (by kernel_rfl) (load_key hXY hx32) ?_
            simp only [Act.put, List.setIfInBounds_toArray, List.set_cons_succ, List.set_cons_zero]
            refine gw_call (by kernel_rfl) (some 69) rfl 21 #[.pointer (some ⟨gc, 0, none⟩), .agg (w8s Y)] (.bool true) (fun w' => MB R w gc S4 z K2 w' ∧ RB w' S4 (some ⟨b7, o7, none⟩) K2.reverse) (by kernel_rfl) CHs (fun VZ hz9 => ?_)
            simp only [Act.put, List.setIfInBounds_toArray, List.set_cons_succ, List.set_cons_zero]
            refine gw_val (by kernel_rfl) (some 70) rfl (.bool false) (by kernel_rfl) ?_
            simp only [Act.put, List.setIfInBounds_toArray, List.set_cons_succ, List.set_cons_zero]
            apply wpList_nil
            have HV := Lib.hid hz9
            clear hz9 hm2 hq2 hXY CHs hdm
            go_upto_region 23 with fail
            apply wp_region_lit
            refine gw_val (by kernel_rfl) (some 71) rfl (.int .i64 (j + 1 : Nat)) (add_one rfl j (by omega) (by kernel_rfl) _) ?_
            simp only [Act.put, List.setIfInBounds_toArray, List.set_cons_succ, List.set_cons_zero]
            refine gw_val (by kernel_rfl) (some 63) rfl (.int .i64 (j + 1 : Nat)) (by kernel_rfl) ?_
            simp only [Act.put, List.setIfInBounds_toArray, List.set_cons_succ, List.set_cons_zero]
            apply wpList_nil
            go_wp2_with fail
            go_roundg (gk - 1)
            case measure => have := HJ.out; omega
            case rel => exact ⟨j + 1, rfl, HJ.out.2.2, HV.out.1, HV.out.2, HJ.out.1⟩
          · have hd3 : decide (j < K2.length) = false := decide_eq_false hjl
            have HF := Lib.hid (And.intro hm hq)
            clear hgj hj hjl hm hq
            go_upto_region 19 with fail
            apply wp_region_lit
            refine gw_val (by kernel_rfl) (some 64) rfl (.bool (decide (j < K2.length))) (lt_nat rfl j K2.length (by kernel_rfl) (by kernel_rfl) _) ?_
            simp only [Act.put, List.setIfInBounds_toArray, List.set_cons_succ, List.set_cons_zero]
            rw [hd3]
            apply wpList_nil
            go_upto_region 24 with fail
            apply wp_region_lit
            refine gw_val (by kernel_rfl) (some 72) rfl (.int .i64 (i + 1 : Nat)) (add_one rfl i (by omega) (by kernel_rfl) _) ?_
            simp only [Act.put, List.setIfInBounds_toArray, List.set_cons_succ, List.set_cons_zero]
            refine gw_val (by kernel_rfl) (some 25) rfl (.int .i64 (i + 1 : Nat)) (by kernel_rfl) ?_
            simp only [Act.put, List.setIfInBounds_toArray, List.set_cons_succ, List.set_cons_zero]
            apply wpList_nil
            go_wp2_with fail
            go_roundg (n - (i + 1))
            case measure => exact HG.out.1
            case rel => exact ⟨i + 1, S4, K2, b6, c6, rfl, rfl, HG.out.2, HF.out.1, HF.out.2, hm6, HW2.out, rfl⟩
      · have hd : decide (i < n) = false := decide_eq_false hlt
        clear hg hlt hi
        go_upto_region 9 with fail
        apply wp_region_lit
        refine gw_val (by kernel_rfl) (some 26) rfl (.bool (decide (i < n))) (lt_nat rfl i n (by kernel_rfl) (by kernel_rfl) _) ?_
        simp only [Act.put, List.setIfInBounds_toArray, List.set_cons_succ, List.set_cons_zero]
        rw [hd]
        apply wpList_nil
        go_upto_region 25 with fail
        apply wp_region_lit
        refine gw_val (by kernel_rfl) (some 73) rfl (.pointer (some ⟨gc, 0, none⟩)) (by kernel_rfl) ?_
        simp only [Act.put, List.setIfInBounds_toArray, List.set_cons_succ, List.set_cons_zero]
        refine gw_callE (by kernel_rfl) (some 74) rfl 19 #[.pointer (some ⟨gc, 0, none⟩)] (fun v w' => ∃ ak ck, v = .slice ak Ks.length ck ∧ Below wr.heap.size wr w') (by kernel_rfl) ((hC.keys wr gc S z Ks hM.r hW).mono fun e w' q => by obtain ⟨ak, ck, he, h1, h2, h3⟩ := q; exact ⟨_, he, ak, ck, rfl, h3⟩) (fun v V8 hq => ?_)
        obtain ⟨ak, ck, rfl, h8⟩ := hq
        simp only [Act.put, List.setIfInBounds_toArray, List.set_cons_succ, List.set_cons_zero]
        refine gw_val (by kernel_rfl) (some 75) rfl (.int .i64 Ks.length) (by kernel_rfl) ?_
        simp only [Act.put, List.setIfInBounds_toArray, List.set_cons_succ, List.set_cons_zero]
        refine gw_val (by kernel_rfl) (some 76) rfl (.slice am Ks.length cm) (by kernel_rfl) ?_
        simp only [Act.put, List.setIfInBounds_toArray, List.set_cons_succ, List.set_cons_zero]
        refine gw_val (by kernel_rfl) (some 77) rfl (.int .i64 Ks.length) (by kernel_rfl) ?_
        simp only [Act.put, List.setIfInBounds_toArray, List.set_cons_succ, List.set_cons_zero]
        refine gw_val (by kernel_rfl) (some 78) rfl (.bool ((Ks.length : Int) == (Ks.length : Int))) (by kernel_rfl) ?_
        rw [show ((Ks.length : Int) == (Ks.length : Int)) = true by simp]
        simp only [Act.put, List.setIfInBounds_toArray, List.set_cons_succ, List.set_cons_zero]
        refine gw_val (by kernel_rfl) (some 79) rfl (.bool true) (by kernel_rfl) ?_
        simp only [Act.put, List.setIfInBounds_toArray, List.set_cons_succ, List.set_cons_zero]
        refine gw_call (by kernel_rfl) (some 80) rfl 8 #[] (.bool true) (fun w' => Below V8.heap.size V8 w') (by kernel_rfl) (CK V8) (fun W2 h9 => ?_)
        simp only [Act.put, List.setIfInBounds_toArray, List.set_cons_succ, List.set_cons_zero]
        refine gw_val (by kernel_rfl) (some 81) rfl (.bool true) (by kernel_rfl) ?_
        simp only [Act.put, List.setIfInBounds_toArray, List.set_cons_succ, List.set_cons_zero]
        refine gw_val (by kernel_rfl) (some 4) rfl (.bool true) (by kernel_rfl) ?_
        simp only [Act.put, List.setIfInBounds_toArray, List.set_cons_succ, List.set_cons_zero]
        apply wpList_nil
        have HB := Lib.hid (hM.bel.trans ((h8.trans (h9.mono h8.size)).mono hM.bel.size))
        clear hM hQ hW h8 h9 CK CPl
        go_wp2_with fail
        go_ret
        exact ⟨rfl, HB.out⟩
end Go.Proofs.Ytjblfpifhbmfoaa
