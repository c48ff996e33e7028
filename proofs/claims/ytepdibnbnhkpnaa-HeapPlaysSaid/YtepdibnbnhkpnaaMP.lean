/-
  The walk of the statement on sequences of calls of a heap, over what the program's functions are held to.
-/
import Derived.Test.YtepdibnbnhkpnaaMQ
namespace Go.Proofs.Ytepdibnbnhkpnaa
open Go.RowKit
set_option linter.unusedSimpArgs false
set_option linter.unusedVariables false

theorem gtr_t {ρ : Operand → Value} {o : Oper} {x y : Operand} (ho : o.op = .binOp .gtr 3 x y 3) (a b : Int) {t : Bool} (ht : decide (b < a) = t) (hx : ρ x = .int .i64 a) (hy : ρ y = .int .i64 b) (w : World) : (execOp ρ o).run Try.prog w = .ok (.value (.bool t)) w := by
  rw [← ht]
  exact gtr_i ho a b hx hy w
set_option maxRecDepth 100000 in
set_option maxHeartbeats 8000000 in
theorem plays_core {R : HRep} (hC : HeapC R 13 15 17 20 19 23 21 11) (a : Option Addr) (c : Nat) (L0 : List Int) (ar : Option Addr) (cr : Nat) (Mr : List It) (w : World) (hL : Cs w a (icells L0)) (hl : L0.length ≤ 9223372036854775807) (hR : Cs w ar (itc Mr)) (hlr : Mr.length ≤ 9223372036854775807) :
    Calls Try.prog 4 #[.slice a L0.length c, .slice ar Mr.length cr] w fun e w' => e = .returned (.bool true) ∧ Below w.heap.size w w' := by
  have hb1 : Below w.heap.size w (w.alloc (.cells #[.slice a L0.length c] 25)) := (Below.refl _ w).alloc (Nat.le_refl _) _
  have hX1 : Bx (w.alloc (.cells #[.slice a L0.length c] 25)) w.heap.size #[.slice a L0.length c] 25 := heap_alloc_last w _
  have CLn := long_one w.heap.size a L0.length c _ hX1 hl
  have HK := Lib.hid (fun V => known_true hC V)
  have HL := Lib.hid hL
  have HR := Lib.hid hR
  obtain ⟨n, hn⟩ : ∃ n, L0.length = n := ⟨_, rfl⟩
  obtain ⟨nr, hnr⟩ : ∃ nr, Mr.length = nr := ⟨_, rfl⟩
  clear hX1 hL hR
  by_cases hm : 160 < L0.length
  · have hd : decide ((160 : Int) < (L0.length : Int)) = true := decide_eq_true (by omega)
    rw [hd] at CLn
    rw [hn] at hb1 CLn ⊢
    rw [hnr]
    clear hd HL HR hl hlr hm hn hnr
    go_enter Try.func4, Try.ntmps4
    go_upto_region 1 with fail
    apply wp_region_lit
    refine gw_val (by kernel_rfl) (some 21) rfl (.slice a n c) (by kernel_rfl) ?_
    simp only [Act.put, List.setIfInBounds_toArray, List.set_cons_succ, List.set_cons_zero]
    refine gw_build (by kernel_rfl) (some 22) rfl 54 1 #[(0, .tmp 21)] rfl #[(0, .slice a n c)] (by kernel_rfl) (.slice (some ⟨w.heap.size, 0, none⟩) 1 1) _ (one_row a n c w) ?_
    simp only [Act.put, List.setIfInBounds_toArray, List.set_cons_succ, List.set_cons_zero]
    generalize w.alloc (.cells #[.slice a n c] 25) = W1 at *
    refine gw_call (by kernel_rfl) (some 23) rfl 7 #[.slice (some ⟨w.heap.size, 0, none⟩) 1 1] (.bool true) (fun w' => W1 = w') (by kernel_rfl) CLn (fun W2 hW => ?_)
    subst hW
    simp only [Act.put, List.setIfInBounds_toArray, List.set_cons_succ, List.set_cons_zero]
    refine gw_val (by kernel_rfl) (some 24) rfl (.bool true) (by kernel_rfl) ?_
    simp only [Act.put, List.setIfInBounds_toArray, List.set_cons_succ, List.set_cons_zero]
    with_reducible refine gw_not (by kernel_rfl) (some 25) rfl ?_
    simp only [Act.put, List.setIfInBounds_toArray, List.set_cons_succ, List.set_cons_zero]
    with_reducible refine gw_not (by kernel_rfl) (some 26) rfl ?_
    simp only [Act.put, List.setIfInBounds_toArray, List.set_cons_succ, List.set_cons_zero]
    with_reducible refine gw_not (by kernel_rfl) (some 27) rfl ?_
    simp only [Act.put, List.setIfInBounds_toArray, List.set_cons_succ, List.set_cons_zero]
    refine gw_val (by kernel_rfl) (some 28) rfl (.bool true) (by kernel_rfl) ?_
    simp only [Act.put, List.setIfInBounds_toArray, List.set_cons_succ, List.set_cons_zero]
    apply wpList_nil
    clear CLn
    go_upto_region 2 with fail
    apply wp_region_lit
    refine gw_call (by kernel_rfl) (some 29) rfl 8 #[] (.bool true) (fun w' => Below W1.heap.size W1 w') (by kernel_rfl) (HK.out W1) (fun W2 hb2 => ?_)
    simp only [Act.put, List.setIfInBounds_toArray, List.set_cons_succ, List.set_cons_zero]
    refine gw_val (by kernel_rfl) (some 4) rfl (.bool true) (by kernel_rfl) ?_
    simp only [Act.put, List.setIfInBounds_toArray, List.set_cons_succ, List.set_cons_zero]
    apply wpList_nil
    have HE := Lib.hid (hb1.trans (hb2.mono hb1.size))
    clear hb1 hb2 HK
    go_wp2_with fail
    go_ret
    exact ⟨rfl, HE.out⟩
  · have hd : decide ((160 : Int) < (L0.length : Int)) = false := decide_eq_false (by omega)
    rw [hd] at CLn
    by_cases hm2 : 30 < Mr.length
    · have HD2 : Hid (decide ((30 : Int) < (nr : Int)) = true) := Lib.hid (decide_eq_true (by omega))
      rw [hn] at hb1 CLn ⊢
      rw [hnr]
      clear hd HL HR hl hlr hm hm2 hn hnr
      go_enter Try.func4, Try.ntmps4
      go_upto_region 1 with fail
      apply wp_region_lit
      refine gw_val (by kernel_rfl) (some 21) rfl (.slice a n c) (by kernel_rfl) ?_
      simp only [Act.put, List.setIfInBounds_toArray, List.set_cons_succ, List.set_cons_zero]
      refine gw_build (by kernel_rfl) (some 22) rfl 54 1 #[(0, .tmp 21)] rfl #[(0, .slice a n c)] (by kernel_rfl) (.slice (some ⟨w.heap.size, 0, none⟩) 1 1) _ (one_row a n c w) ?_
      simp only [Act.put, List.setIfInBounds_toArray, List.set_cons_succ, List.set_cons_zero]
      generalize w.alloc (.cells #[.slice a n c] 25) = W1 at *
      refine gw_call (by kernel_rfl) (some 23) rfl 7 #[.slice (some ⟨w.heap.size, 0, none⟩) 1 1] (.bool false) (fun w' => W1 = w') (by kernel_rfl) CLn (fun W2 hW => ?_)
      subst hW
      simp only [Act.put, List.setIfInBounds_toArray, List.set_cons_succ, List.set_cons_zero]
      refine gw_val (by kernel_rfl) (some 24) rfl (.bool false) (by kernel_rfl) ?_
      simp only [Act.put, List.setIfInBounds_toArray, List.set_cons_succ, List.set_cons_zero]
      refine gw_val (by kernel_rfl) (some 25) rfl (.slice ar nr cr) (by kernel_rfl) ?_
      simp only [Act.put, List.setIfInBounds_toArray, List.set_cons_succ, List.set_cons_zero]
      refine gw_val (by kernel_rfl) (some 26) rfl (.int .i64 nr) (by kernel_rfl) ?_
      simp only [Act.put, List.setIfInBounds_toArray, List.set_cons_succ, List.set_cons_zero]
      refine gw_val (by kernel_rfl) (some 27) rfl (.bool true) (by rw [← HD2.out]; exact gtr_i rfl nr 30 (by kernel_rfl) (by kernel_rfl) _) ?_
      simp only [Act.put, List.setIfInBounds_toArray, List.set_cons_succ, List.set_cons_zero]
      refine gw_val (by kernel_rfl) (some 28) rfl (.bool true) (by kernel_rfl) ?_
      simp only [Act.put, List.setIfInBounds_toArray, List.set_cons_succ, List.set_cons_zero]
      apply wpList_nil
      clear CLn
      go_upto_region 2 with fail
      apply wp_region_lit
      refine gw_call (by kernel_rfl) (some 29) rfl 8 #[] (.bool true) (fun w' => Below W1.heap.size W1 w') (by kernel_rfl) (HK.out W1) (fun W2 hb2 => ?_)
      simp only [Act.put, List.setIfInBounds_toArray, List.set_cons_succ, List.set_cons_zero]
      refine gw_val (by kernel_rfl) (some 4) rfl (.bool true) (by kernel_rfl) ?_
      simp only [Act.put, List.setIfInBounds_toArray, List.set_cons_succ, List.set_cons_zero]
      apply wpList_nil
      have HE := Lib.hid (hb1.trans (hb2.mono hb1.size))
      clear hb1 hb2 HK
      go_wp2_with fail
      go_ret
      exact ⟨rfl, HE.out⟩
    · have HD2 : Hid (decide ((30 : Int) < (nr : Int)) = false) := Lib.hid (decide_eq_false (by omega))
      have hn160 : L0.length ≤ 160 := by omega
      have hnr30 : nr ≤ 30 := by omega
      have HIT := Lib.hid (fun (gs N : Nat) (V : World) (hX : Bx V gs #[.slice a L0.length c, .int .i64 N] 42) (hb : Below w.heap.size w V) (hg : w.heap.size ≤ gs) (hN : N ≤ 90000) => item_any HL.out (by omega) c gs N V hX hb hg hN)
      have HNX := Lib.hid (fun (gs N : Nat) (k : Int) (V : World) (hX : Bx V gs #[.slice a L0.length c, .int .i64 N] 42) (hb : Below w.heap.size w V) (hN : N ≤ 100000) (h0 : 0 < k) (h1 : k ≤ 1000000) => mk_next gs L0 a c N k V hX (HL.out.below hb) (by omega) hN h0 h1)
      have CF := mk_from a L0.length c
      have HNR := Lib.hid hnr
      rw [hn] at hb1 CLn HIT HNX CF hn160 ⊢
      rw [hnr]
      clear hd HL hl hlr hm hm2 hn hnr
      go_enter Try.func4, Try.ntmps4
      go_upto_region 1 with fail
      apply wp_region_lit
      refine gw_val (by kernel_rfl) (some 21) rfl (.slice a n c) (by kernel_rfl) ?_
      simp only [Act.put, List.setIfInBounds_toArray, List.set_cons_succ, List.set_cons_zero]
      refine gw_build (by kernel_rfl) (some 22) rfl 54 1 #[(0, .tmp 21)] rfl #[(0, .slice a n c)] (by kernel_rfl) (.slice (some ⟨w.heap.size, 0, none⟩) 1 1) _ (one_row a n c w) ?_
      simp only [Act.put, List.setIfInBounds_toArray, List.set_cons_succ, List.set_cons_zero]
      generalize w.alloc (.cells #[.slice a n c] 25) = W1 at *
      refine gw_call (by kernel_rfl) (some 23) rfl 7 #[.slice (some ⟨w.heap.size, 0, none⟩) 1 1] (.bool false) (fun w' => W1 = w') (by kernel_rfl) CLn (fun W2 hW => ?_)
      subst hW
      simp only [Act.put, List.setIfInBounds_toArray, List.set_cons_succ, List.set_cons_zero]
      refine gw_val (by kernel_rfl) (some 24) rfl (.bool false) (by kernel_rfl) ?_
      simp only [Act.put, List.setIfInBounds_toArray, List.set_cons_succ, List.set_cons_zero]
      refine gw_val (by kernel_rfl) (some 25) rfl (.slice ar nr cr) (by kernel_rfl) ?_
      simp only [Act.put, List.setIfInBounds_toArray, List.set_cons_succ, List.set_cons_zero]
      refine gw_val (by kernel_rfl) (some 26) rfl (.int .i64 nr) (by kernel_rfl) ?_
      simp only [Act.put, List.setIfInBounds_toArray, List.set_cons_succ, List.set_cons_zero]
      refine gw_val (by kernel_rfl) (some 27) rfl (.bool false) (by rw [← HD2.out]; exact gtr_i rfl nr 30 (by kernel_rfl) (by kernel_rfl) _) ?_
      simp only [Act.put, List.setIfInBounds_toArray, List.set_cons_succ, List.set_cons_zero]
      refine gw_val (by kernel_rfl) (some 28) rfl (.bool false) (by kernel_rfl) ?_
      simp only [Act.put, List.setIfInBounds_toArray, List.set_cons_succ, List.set_cons_zero]
      apply wpList_nil
      clear CLn
      go_upto_region 3 with fail
      apply wp_region_lit
      refine gw_val (by kernel_rfl) (some 30) rfl (.slice a n c) (by kernel_rfl) ?_
      simp only [Act.put, List.setIfInBounds_toArray, List.set_cons_succ, List.set_cons_zero]
      refine gw_call (by kernel_rfl) (some 31) rfl 9 #[.slice a n c] (.pointer (some ⟨W1.heap.size, 0, none⟩)) (fun w' => w' = W1.alloc (.cells #[.slice a n c, .int .i64 0] 42)) (by kernel_rfl) (CF W1) (fun W3 hW3 => ?_)
      simp only [Act.put, List.setIfInBounds_toArray, List.set_cons_succ, List.set_cons_zero]
      refine gw_val (by kernel_rfl) (some 5) rfl (.pointer (some ⟨W1.heap.size, 0, none⟩)) (by kernel_rfl) ?_
      simp only [Act.put, List.setIfInBounds_toArray, List.set_cons_succ, List.set_cons_zero]
      apply wpList_nil
      have hb3 : Below W1.heap.size W1 W3 := by rw [hW3]; exact (Below.refl _ W1).alloc (Nat.le_refl _) _
      have hX3 : Bx W3 W1.heap.size #[.slice a n c, .int .i64 (0 : Nat)] 42 := by rw [hW3]; exact heap_alloc_last W1 _
      have hB3 := hb1.trans (hb3.mono hb1.size)
      have hgs := hb1.size
      clear hb1 hb3 hW3 CF
      generalize W1.heap.size = gs at *
      have CN := hC.new W3
      go_upto_region 4 with fail
      apply wp_region_lit
      refine gw_callE (by kernel_rfl) (some 32) rfl 13 #[] (fun v w' => ∃ g S, v = .pointer (some ⟨g, 0, none⟩) ∧ R w' g S [] ∧ (∀ k, S k → W3.heap.size ≤ k) ∧ Below W3.heap.size W3 w') (by kernel_rfl) (CN.mono fun e w' h => by obtain ⟨g, S, he, h⟩ := h; exact ⟨_, he, g, S, rfl, h⟩) (fun v W7 hq => ?_)
      obtain ⟨gh, S0, rfl, hr7, hs7, hb7⟩ := hq
      simp only [Act.put, List.setIfInBounds_toArray, List.set_cons_succ, List.set_cons_zero]
      refine gw_val (by kernel_rfl) (some 6) rfl (.pointer (some ⟨gh, 0, none⟩)) (by kernel_rfl) ?_
      simp only [Act.put, List.setIfInBounds_toArray, List.set_cons_succ, List.set_cons_zero]
      apply wpList_nil
      have hM0 : MP R w a n c gs gh 0 S0 [] W7 :=
        { bel := hB3.trans (hb7.mono hB3.size), num := hX3.below hX3.lt hb7, r := hr7
          so := fun k hk => ⟨Nat.le_trans hB3.size (hs7 k hk), by have := hs7 k hk; have := hX3.lt; omega⟩, gsw := hgs }
      have HM0 := Lib.hid hM0
      clear hX3 hB3 hb7 hr7 hs7 CN hgs hM0
      go_upto_region 5 with fail
      apply wp_region_lit
      refine gw_val (by kernel_rfl) (some 33) rfl (.pointer (some ⟨gh, 0, none⟩)) (by kernel_rfl) ?_
      simp only [Act.put, List.setIfInBounds_toArray, List.set_cons_succ, List.set_cons_zero]
      refine gw_val (by kernel_rfl) (some 34) rfl (.bool false) (by kernel_rfl) ?_
      simp only [Act.put, List.setIfInBounds_toArray, List.set_cons_succ, List.set_cons_zero]
      apply wpList_nil
      go_upto_region 7 with fail
      apply wp_region_lit
      refine gw_val (by kernel_rfl) (some 7) rfl (.slice none 0 0) (by kernel_rfl) ?_
      simp only [Act.put, List.setIfInBounds_toArray, List.set_cons_succ, List.set_cons_zero]
      apply wpList_nil
      go_upto_region 8 with fail
      apply wp_region_lit
      refine gw_val (by kernel_rfl) (some 35) rfl (.slice ar nr cr) (by kernel_rfl) ?_
      simp only [Act.put, List.setIfInBounds_toArray, List.set_cons_succ, List.set_cons_zero]
      refine gw_val (by kernel_rfl) (some 36) rfl (.int .i64 nr) (by kernel_rfl) ?_
      simp only [Act.put, List.setIfInBounds_toArray, List.set_cons_succ, List.set_cons_zero]
      refine gw_val (by kernel_rfl) (some 37) rfl (.int .i64 0) (by kernel_rfl) ?_
      simp only [Act.put, List.setIfInBounds_toArray, List.set_cons_succ, List.set_cons_zero]
      apply wpList_nil
      go_wp2_with fail
      go_loopg [7, 37] nr (fun gg s7 s37 wx => ∃ j S M am cm, s37 = .int .i64 (j : Nat) ∧ s7 = .slice am (List.length M) cm ∧ MP R w a n c gs gh 0 S M wx ∧ RQ wx S gs am M ∧ M.length ≤ cm ∧ Wh M ∧ M.length ≤ j ∧ j ≤ nr ∧ nr - j = gg)
      case atStart => exact ⟨0, S0, [], none, 0, rfl, rfl, HM0.out, RQ.nil, Nat.le_refl _, Wh.nil, by simp, by omega, rfl⟩
      case round =>
        obtain ⟨j, S, M, am, cm, rfl, rfl, hM, hQ, hcm, hW, hMj, hj, hg⟩ := hrel
        clear HM0
        by_cases hlt : j < nr
        · have HD : Hid (decide (j < nr) = true) := Lib.hid (decide_eq_true hlt)
          have HG : Hid (nr - (j + 1) = gk - 1 ∧ 0 < gk ∧ j + 1 ≤ nr) := Lib.hid ⟨by omega, by omega, by omega⟩
          obtain ⟨b, off, rfl, -, hrx⟩ := it_range (HR.out.below hM.bel) (k := j) (by rw [HNR.out]; exact hlt)
          have HLD := Lib.hid (load_it hrx)
          obtain ⟨x, hx⟩ : ∃ x, ita Mr j = x := ⟨_, rfl⟩
          rw [hx] at HLD
          obtain ⟨V1, hst, hgd, hbx⟩ := new_box wr x
          have hM1 := hM.below hC hgd.1
          have hQ1 := hQ.below hgd.1
          have hX1 := hM.box hC hbx
          clear hg hrx hx hM hQ hbx hgd
          go_upto_region 9 with fail
          apply wp_region_lit
          refine gw_val (by kernel_rfl) (some 38) rfl (.bool true) (by rw [← HD.out]; exact lt_nat rfl j nr (by kernel_rfl) (by kernel_rfl) _) ?_
          simp only [Act.put, List.setIfInBounds_toArray, List.set_cons_succ, List.set_cons_zero]
          apply wpList_nil
          go_upto_region 10 with fail
          apply wp_region_lit
          refine gw_val (by kernel_rfl) (some 39) rfl (.pointer (some ⟨b, off + j * 3, none⟩)) (idx_it b off nr cr j hlt _ _ _ rfl (by kernel_rfl) (by kernel_rfl)) ?_
          simp only [Act.put, List.setIfInBounds_toArray, List.set_cons_succ, List.set_cons_zero]
          refine gw_load (by kernel_rfl) (some 40) rfl 24 (.tmp 39) rfl ⟨b, off + j * 3, none⟩ (.agg (itA x)) (by kernel_rfl) HLD.out ?_
          simp only [Act.put, List.setIfInBounds_toArray, List.set_cons_succ, List.set_cons_zero]
          refine run_to rfl (some 9) rfl (.pointer (some ⟨wr.heap.size, 0, none⟩)) (wr.alloc (.cells (itA zIt) 24)) (by kernel_rfl) ?_
          simp only [Act.put, List.setIfInBounds_toArray, List.set_cons_succ, List.set_cons_zero]
          refine gw_store (by kernel_rfl) rfl 24 (.tmp 9) (.tmp 40) rfl (.pointer (some ⟨wr.heap.size, 0, none⟩)) (.agg (itA x)) (by kernel_rfl) (by kernel_rfl) V1 hst ?_
          apply wpList_nil
          obtain ⟨g9, hg9⟩ : ∃ g9, wr.heap.size = g9 := ⟨_, rfl⟩
          rw [hg9] at hX1 ⊢
          clear hg9
          clear hst HLD
          have CRef := ref_insert am cm M x V1 hQ1.cs hcm (by omega)
          have CPr := Lib.hid (fun V (h : MP R w a n c gs gh 0 S M V) => hC.push V gh S M x w.heap.size h.r hW (by omega) (fun k hk => (h.so k hk).1) h.bel.size)
          have hW2 := hW.ins x
          have hDl : (insM M x).1.length ≤ M.length + 1 := ins_len
          unfold RowO at CRef
          generalize insM M x = D at *
          go_upto_region 11 with fail
          apply wp_region_lit
          refine gw_val (by kernel_rfl) (some 42) rfl (.slice am M.length cm) (by kernel_rfl) ?_
          simp only [Act.put, List.setIfInBounds_toArray, List.set_cons_succ, List.set_cons_zero]
          refine gw_load (by kernel_rfl) (some 43) rfl 24 (.tmp 9) rfl ⟨g9, 0, none⟩ (.agg (itA x)) (by kernel_rfl) (load_box hX1.bx) ?_
          simp only [Act.put, List.setIfInBounds_toArray, List.set_cons_succ, List.set_cons_zero]
          refine gw_callE (by kernel_rfl) (some 44) rfl 14 #[.slice am M.length cm, .agg (itA x)] (fun v w' => ∃ a2 c2, v = .tuple #[.slice a2 D.1.length c2, .bool D.2] ∧ Cs w' a2 (itc D.1) ∧ D.1.length ≤ c2 ∧ Below V1.heap.size V1 w' ∧ Fr V1 w' am a2) (by kernel_rfl) (CRef.mono fun e w' q => by obtain ⟨a2, c2, he, h1, h2, h3, h4⟩ := q; exact ⟨_, he, a2, c2, rfl, h1, h2, h3, h4⟩) (fun v V5 hq => ?_)
          obtain ⟨a2, c2, rfl, hc5, hl5, hb5, hf5⟩ := hq
          have hM5 := hM1.below hC hb5
          have hQ5 := hM1.fr hC hQ1 hb5 hc5 hf5
          have hX5 := hX1.below hb5
          clear hM1 hQ1 hX1 hc5 hb5 hf5 CRef
          simp only [Act.put, List.setIfInBounds_toArray, List.set_cons_succ, List.set_cons_zero]
          refine gw_val (by kernel_rfl) (some 41) rfl (.tuple #[.slice a2 D.1.length c2, .bool D.2]) (by kernel_rfl) ?_
          simp only [Act.put, List.setIfInBounds_toArray, List.set_cons_succ, List.set_cons_zero]
          refine gw_val (by kernel_rfl) (some 45) rfl (.slice a2 D.1.length c2) (by kernel_rfl) ?_
          simp only [Act.put, List.setIfInBounds_toArray, List.set_cons_succ, List.set_cons_zero]
          refine gw_val (by kernel_rfl) (some 46) rfl (.bool D.2) (by kernel_rfl) ?_
          simp only [Act.put, List.setIfInBounds_toArray, List.set_cons_succ, List.set_cons_zero]
          refine gw_val (by kernel_rfl) (some 10) rfl (.slice a2 D.1.length c2) (by kernel_rfl) ?_
          simp only [Act.put, List.setIfInBounds_toArray, List.set_cons_succ, List.set_cons_zero]
          refine gw_val (by kernel_rfl) (some 11) rfl (.bool D.2) (by kernel_rfl) ?_
          simp only [Act.put, List.setIfInBounds_toArray, List.set_cons_succ, List.set_cons_zero]
          apply wpList_nil
          go_upto_region 12 with fail
          apply wp_region_lit
          refine gw_val (by kernel_rfl) (some 47) rfl (.pointer (some ⟨gh, 0, none⟩)) (by kernel_rfl) ?_
          simp only [Act.put, List.setIfInBounds_toArray, List.set_cons_succ, List.set_cons_zero]
          refine gw_load (by kernel_rfl) (some 48) rfl 24 (.tmp 9) rfl ⟨g9, 0, none⟩ (.agg (itA x)) (by kernel_rfl) (load_box hX5.bx) ?_
          simp only [Act.put, List.setIfInBounds_toArray, List.set_cons_succ, List.set_cons_zero]
          refine gw_call (by kernel_rfl) (some 49) rfl 15 #[.pointer (some ⟨gh, 0, none⟩), .agg (itA x)] (.bool D.2) (fun w' => UpdH R gh w.heap.size S D.1 V5 w') (by kernel_rfl) (CPr.out V5 hM5) (fun V6 hu => ?_)
          simp only [Act.put, List.setIfInBounds_toArray, List.set_cons_succ, List.set_cons_zero]
          obtain ⟨S6, hM6, hq6, hx6⟩ := hM5.prog hC hu
          have hQ6 := hq6 _ _ hQ5
          clear hM5 hQ5 hX5 hu hq6 hx6 CPr
          refine gw_val (by kernel_rfl) (some 50) rfl (.bool D.2) (by kernel_rfl) ?_
          simp only [Act.put, List.setIfInBounds_toArray, List.set_cons_succ, List.set_cons_zero]
          refine gw_val (by kernel_rfl) (some 51) rfl (.bool false) (neq_bool rfl D.2 (by kernel_rfl) (by kernel_rfl) _) ?_
          simp only [Act.put, List.setIfInBounds_toArray, List.set_cons_succ, List.set_cons_zero]
          apply wpList_nil
          go_upto_region 14 with fail
          apply wp_region_lit
          refine gw_val (by kernel_rfl) (some 52) rfl (.slice a2 D.1.length c2) (by kernel_rfl) ?_
          simp only [Act.put, List.setIfInBounds_toArray, List.set_cons_succ, List.set_cons_zero]
          refine gw_val (by kernel_rfl) (some 7) rfl (.slice a2 D.1.length c2) (by kernel_rfl) ?_
          simp only [Act.put, List.setIfInBounds_toArray, List.set_cons_succ, List.set_cons_zero]
          apply wpList_nil
          go_upto_region 15 with fail
          apply wp_region_lit
          refine gw_val (by kernel_rfl) (some 53) rfl (.int .i64 (j + 1 : Nat)) (add_one rfl j (by omega) (by kernel_rfl) _) ?_
          simp only [Act.put, List.setIfInBounds_toArray, List.set_cons_succ, List.set_cons_zero]
          refine gw_val (by kernel_rfl) (some 37) rfl (.int .i64 (j + 1 : Nat)) (by kernel_rfl) ?_
          simp only [Act.put, List.setIfInBounds_toArray, List.set_cons_succ, List.set_cons_zero]
          apply wpList_nil
          have HM6 := Lib.hid (And.intro hM6 hQ6)
          have HW2 := Lib.hid (And.intro hW2 (And.intro hl5 hDl))
          clear hM6 hQ6 hW2 hl5 hDl
          go_wp2_with fail
          go_roundg (gk - 1)
          case measure => have := HG.out; omega
          case rel => exact ⟨j + 1, S6, D.1, a2, c2, rfl, rfl, HM6.out.1, HM6.out.2, HW2.out.2.1, HW2.out.1, by have := HW2.out.2.2; omega, HG.out.2.2, HG.out.1⟩
        · have HD : Hid (decide (j < nr) = false) := Lib.hid (decide_eq_false hlt)
          go_upto_region 9 with fail
          apply wp_region_lit
          refine gw_val (by kernel_rfl) (some 38) rfl (.bool false) (by rw [← HD.out]; exact lt_nat rfl j nr (by kernel_rfl) (by kernel_rfl) _) ?_
          simp only [Act.put, List.setIfInBounds_toArray, List.set_cons_succ, List.set_cons_zero]
          apply wpList_nil
          have HS0 := Lib.hid (And.intro hM (And.intro hQ (And.intro hcm hW)))
          have hM31 : M.length ≤ 30 := by omega
          clear hM hQ hcm hW hg hlt hMj hj HD HR HNR
          generalize wr = wR at *
          generalize gk = gO at *
          go_wp2_with fail
          go_loopg [7] (n + 4) (fun gg s7 wx => ∃ N S M am cm, s7 = .slice am (List.length M) cm ∧ MP R w a n c gs gh N S M wx ∧ RQ wx S gs am M ∧ M.length ≤ cm ∧ Wh M ∧ M.length ≤ 30 + N ∧ N ≤ n + 3 ∧ n + 4 - N ≤ gg)
          case atStart => exact ⟨0, S, M, am, cm, rfl, HS0.out.1, HS0.out.2.1, HS0.out.2.2.1, HS0.out.2.2.2, by omega, by omega, by omega⟩
          case round =>
            clear HS0 hM31
            obtain ⟨N, S, M, am, cm, rfl, hM, hQ, hcm, hW, hMN, hN, hg⟩ := hrel
            by_cases hlt : N < n
            · have HD : Hid (decide (N < n) = true) := Lib.hid (decide_eq_true hlt)
              have HG : Hid (n + 4 - N ≤ gk ∧ N < n) := Lib.hid ⟨hg, hlt⟩
              clear hg
              go_upto_region 16 with fail
              apply wp_region_lit
              refine gw_val (by kernel_rfl) (some 54) rfl (.pointer (some ⟨gs, 0, none⟩)) (by kernel_rfl) ?_
              simp only [Act.put, List.setIfInBounds_toArray, List.set_cons_succ, List.set_cons_zero]
              refine gw_val (by kernel_rfl) (some 55) rfl (.pointer (some ⟨gs, 0, none⟩)) (by kernel_rfl) ?_
              simp only [Act.put, List.setIfInBounds_toArray, List.set_cons_succ, List.set_cons_zero]
              refine gw_val (by kernel_rfl) (some 56) rfl (.pointer (some ⟨gs, 1, none⟩)) (by kernel_rfl) ?_
              simp only [Act.put, List.setIfInBounds_toArray, List.set_cons_succ, List.set_cons_zero]
              refine gw_load (by kernel_rfl) (some 57) rfl 3 (.tmp 56) rfl ⟨gs, 1, none⟩ (.int .i64 N) (by kernel_rfl) (hM.num.load (i := 1) rfl (by kernel_rfl)) ?_
              simp only [Act.put, List.setIfInBounds_toArray, List.set_cons_succ, List.set_cons_zero]
              refine gw_val (by kernel_rfl) (some 58) rfl (.slice a n c) (by kernel_rfl) ?_
              simp only [Act.put, List.setIfInBounds_toArray, List.set_cons_succ, List.set_cons_zero]
              refine gw_val (by kernel_rfl) (some 59) rfl (.int .i64 n) (by kernel_rfl) ?_
              simp only [Act.put, List.setIfInBounds_toArray, List.set_cons_succ, List.set_cons_zero]
              refine gw_val (by kernel_rfl) (some 60) rfl (.bool true) (by rw [← HD.out]; exact lt_nat rfl N n (by kernel_rfl) (by kernel_rfl) _) ?_
              simp only [Act.put, List.setIfInBounds_toArray, List.set_cons_succ, List.set_cons_zero]
              apply wpList_nil
              have CI := HIT.out gs N wr hM.num hM.bel hM.gsw (by omega)
              obtain ⟨x, hx⟩ : ∃ x, itmL L0 N = x := ⟨_, rfl⟩
              rw [hx] at CI
              clear hx
              go_upto_region 17 with fail
              apply wp_region_lit
              refine gw_val (by kernel_rfl) (some 61) rfl (.pointer (some ⟨gs, 0, none⟩)) (by kernel_rfl) ?_
              simp only [Act.put, List.setIfInBounds_toArray, List.set_cons_succ, List.set_cons_zero]
              refine gw_call (by kernel_rfl) (some 62) rfl 10 #[.pointer (some ⟨gs, 0, none⟩)] (.agg (itA x)) (fun w' => But gs wr w' ∧ Bx w' gs #[.slice a n c, .int .i64 (N + 3 : Nat)] 42) (by kernel_rfl) CI (fun V1 hq => ?_)
              simp only [Act.put, List.setIfInBounds_toArray, List.set_cons_succ, List.set_cons_zero]
              obtain ⟨hb1, hx1⟩ := hq
              have hM1 := hM.num' hC hb1 hx1
              have hQ1 := hQ.but hb1
              obtain ⟨V2, hst, hgd, hbx⟩ := new_box V1 x
              have hM2 := hM1.below hC hgd.1
              have hQ2 := hQ1.below hgd.1
              have hX2 := hM1.box hC hbx
              clear hb1 hx1 hM hQ CI hM1 hQ1 hgd hbx
              refine run_to rfl (some 12) rfl (.pointer (some ⟨V1.heap.size, 0, none⟩)) (V1.alloc (.cells (itA zIt) 24)) (by kernel_rfl) ?_
              simp only [Act.put, List.setIfInBounds_toArray, List.set_cons_succ, List.set_cons_zero]
              refine gw_store (by kernel_rfl) rfl 24 (.tmp 12) (.tmp 62) rfl (.pointer (some ⟨V1.heap.size, 0, none⟩)) (.agg (itA x)) (by kernel_rfl) (by kernel_rfl) V2 hst ?_
              apply wpList_nil
              obtain ⟨g12, hg12⟩ : ∃ g12, V1.heap.size = g12 := ⟨_, rfl⟩
              rw [hg12] at hX2 ⊢
              clear hg12
              clear hst
              have C2 := HNX.out gs (N + 3) 6 V2 hM2.num hM2.bel (by omega) (by omega) (by omega)
              have hp2 := pl_range (L0.getD (N + 3) 0) 6 (by omega)
              generalize pl (L0.getD (N + 3) 0) 6 = q8 at *
              go_upto_region 18 with fail
              apply wp_region_lit
              refine gw_val (by kernel_rfl) (some 63) rfl (.pointer (some ⟨gs, 0, none⟩)) (by kernel_rfl) ?_
              simp only [Act.put, List.setIfInBounds_toArray, List.set_cons_succ, List.set_cons_zero]
              refine gw_call (by kernel_rfl) (some 64) rfl 16 #[.pointer (some ⟨gs, 0, none⟩), .int .i64 6] (.int .i64 q8) (fun w' => But gs V2 w' ∧ Bx w' gs #[.slice a n c, .int .i64 (N + 3 + 1 : Nat)] 42) (by kernel_rfl) C2 (fun V4 hq => ?_)
              simp only [Act.put, List.setIfInBounds_toArray, List.set_cons_succ, List.set_cons_zero]
              obtain ⟨hb4, hx4⟩ := hq
              have hM4 := hM2.num' hC hb4 hx4
              have hQ4 := hQ2.but hb4
              have hX4 := hX2.but hb4
              clear hb4 hx4 hM2 hQ2 hX2 C2
              apply wpList_nil
              go_upto_block 4 with fail
              go_cut [7] (fun s7 wx => ∃ S2 M2 am2 cm2, s7 = .slice am2 (List.length M2) cm2 ∧ MP R w a n c gs gh (N + 4) S2 M2 wx ∧ RQ wx S2 gs am2 M2 ∧ M2.length ≤ cm2 ∧ Wh M2 ∧ M2.length ≤ M.length + 1)
              case first =>
                by_cases hq0 : q8 = 0
                · by_cases h0 : 0 < M.length
                  · subst hq0
                    have hMl : M.length ≤ 80000 := by omega
                    have CPO := hC.pop V4 gh S M w.heap.size hM4.r hW hMl (fun k hk => (hM4.so k hk).1) hM4.bel.size
                    have hW2 := hW.tail
                    have hDl : M.tail.length ≤ M.length + 1 := by rw [List.length_tail]; omega
                    rw [show decide (0 < M.length) = true from decide_eq_true h0] at CPO
                    go_upto_region 23 with fail
                    apply wp_region_lit
                    refine gw_val (by kernel_rfl) (some 78) rfl (.bool true) (by kernel_rfl) ?_
                    simp only [Act.put, List.setIfInBounds_toArray, List.set_cons_succ, List.set_cons_zero]
                    refine gw_val (by kernel_rfl) (some 77) rfl (.bool true) (by kernel_rfl) ?_
                    simp only [Act.put, List.setIfInBounds_toArray, List.set_cons_succ, List.set_cons_zero]
                    apply wpList_nil
                    go_upto_region 24 with fail
                    apply wp_region_lit
                    refine gw_val (by kernel_rfl) (some 80) rfl (.pointer (some ⟨gh, 0, none⟩)) (by kernel_rfl) ?_
                    simp only [Act.put, List.setIfInBounds_toArray, List.set_cons_succ, List.set_cons_zero]
                    refine gw_call (by kernel_rfl) (some 81) rfl 17 #[.pointer (some ⟨gh, 0, none⟩)] (.tuple #[.agg (itA (ita M 0)), .bool true]) (fun w' => UpdH R gh w.heap.size S M.tail V4 w') (by kernel_rfl) CPO (fun V5 hu => ?_)
                    simp only [Act.put, List.setIfInBounds_toArray, List.set_cons_succ, List.set_cons_zero]
                    obtain ⟨S6, hM5, hq6, -⟩ := hM4.prog hC hu
                    have hQ5 := hq6 _ _ hQ4
                    obtain ⟨V6, hst, hgd, hbx⟩ := new_box V5 (ita M 0)
                    have hM6 := hM5.below hC hgd.1
                    have hQ6 := hQ5.below hgd.1
                    clear hM4 hQ4 hX4 hu hq6 CPO hM5 hQ5 hgd
                    refine gw_val (by kernel_rfl) (some 79) rfl (.tuple #[.agg (itA (ita M 0)), .bool true]) (by kernel_rfl) ?_
                    simp only [Act.put, List.setIfInBounds_toArray, List.set_cons_succ, List.set_cons_zero]
                    refine gw_val (by kernel_rfl) (some 82) rfl (.agg (itA (ita M 0))) (by kernel_rfl) ?_
                    simp only [Act.put, List.setIfInBounds_toArray, List.set_cons_succ, List.set_cons_zero]
                    refine gw_val (by kernel_rfl) (some 83) rfl (.bool true) (by kernel_rfl) ?_
                    simp only [Act.put, List.setIfInBounds_toArray, List.set_cons_succ, List.set_cons_zero]
                    refine run_to rfl (some 13) rfl (.pointer (some ⟨V5.heap.size, 0, none⟩)) (V5.alloc (.cells (itA zIt) 24)) (by kernel_rfl) ?_
                    simp only [Act.put, List.setIfInBounds_toArray, List.set_cons_succ, List.set_cons_zero]
                    refine gw_store (by kernel_rfl) rfl 24 (.tmp 13) (.tmp 82) rfl (.pointer (some ⟨V5.heap.size, 0, none⟩)) (.agg (itA (ita M 0))) (by kernel_rfl) (by kernel_rfl) V6 hst ?_
                    refine gw_val (by kernel_rfl) (some 14) rfl (.bool true) (by kernel_rfl) ?_
                    simp only [Act.put, List.setIfInBounds_toArray, List.set_cons_succ, List.set_cons_zero]
                    apply wpList_nil
                    obtain ⟨g13, hg13⟩ : ∃ g13, V5.heap.size = g13 := ⟨_, rfl⟩
                    rw [hg13] at hbx ⊢
                    clear hg13
                    clear hst
                    go_upto_region 25 with fail
                    obtain ⟨bm, om, rfl, -⟩ := it_range hQ6.cs (k := 0) h0
                    have HLH := Lib.hid (fun U (hU : Below V6.heap.size V6 U) => (by
                      obtain ⟨b2, o2, e2, h2⟩ := head_load (hQ6.cs.below hU) h0
                      simp only [Option.some.injEq, Addr.mk.injEq, and_true] at e2
                      obtain ⟨rfl, rfl⟩ := e2
                      exact h2 : (Instr.loadAt 24 (.pointer (some ⟨bm, om + 0 * 3, none⟩))).run Try.prog U = .ok (.agg (itA (ita M 0))) U))
                    have HBX := Lib.hid hbx
                    have HGT : Hid (decide ((0 : Int) < (M.length : Int)) = true) := Lib.hid (decide_eq_true (by omega))
                    refine wp_region_class (C := fun U => Below V6.heap.size V6 U) (by kernel_rfl) (by kernel_rfl) ((Below.refl _ V6).drew) ?_
                    refine gq_val (by kernel_rfl) (some 84) rfl (.bool true) (fun U hU => by kernel_rfl) ?_
                    simp only [Act.put, List.setIfInBounds_toArray, List.set_cons_succ, List.set_cons_zero]
                    refine gq_val (by kernel_rfl) (some 85) rfl (.slice (some ⟨bm, om, none⟩) M.length cm) (fun U hU => by kernel_rfl) ?_
                    simp only [Act.put, List.setIfInBounds_toArray, List.set_cons_succ, List.set_cons_zero]
                    refine gq_val (by kernel_rfl) (some 86) rfl (.int .i64 M.length) (fun U hU => by kernel_rfl) ?_
                    simp only [Act.put, List.setIfInBounds_toArray, List.set_cons_succ, List.set_cons_zero]
                    refine gq_val (by kernel_rfl) (some 87) rfl (.bool true) (fun U hU => by rw [← HGT.out]; exact gtr_i rfl M.length 0 (by kernel_rfl) (by kernel_rfl) U) ?_
                    simp only [Act.put, List.setIfInBounds_toArray, List.set_cons_succ, List.set_cons_zero]
                    refine gq_val (by kernel_rfl) (some 88) rfl (.bool false) (fun U hU => neq_bool rfl true (by kernel_rfl) (by kernel_rfl) U) ?_
                    simp only [Act.put, List.setIfInBounds_toArray, List.set_cons_succ, List.set_cons_zero]
                    refine gq_val (by kernel_rfl) (some 89) rfl (.bool false) (fun U hU => by kernel_rfl) ?_
                    simp only [Act.put, List.setIfInBounds_toArray, List.set_cons_succ, List.set_cons_zero]
                    refine gq_val (by kernel_rfl) (some 90) rfl (.bool true) (fun U hU => by kernel_rfl) ?_
                    simp only [Act.put, List.setIfInBounds_toArray, List.set_cons_succ, List.set_cons_zero]
                    refine gq_val (by kernel_rfl) (some 91) rfl (.bool true) (fun U hU => by kernel_rfl) ?_
                    simp only [Act.put, List.setIfInBounds_toArray, List.set_cons_succ, List.set_cons_zero]
                    refine gq_load (by kernel_rfl) (some 92) rfl 24 (.tmp 13) rfl ⟨g13, 0, none⟩ (.agg (itA (ita M 0))) (by kernel_rfl) (fun U hU => load_box (HBX.out.below HBX.out.lt hU)) ?_
                    simp only [Act.put, List.setIfInBounds_toArray, List.set_cons_succ, List.set_cons_zero]
                    refine gq_val (by kernel_rfl) (some 93) rfl (.slice (some ⟨bm, om, none⟩) M.length cm) (fun U hU => by kernel_rfl) ?_
                    simp only [Act.put, List.setIfInBounds_toArray, List.set_cons_succ, List.set_cons_zero]
                    refine gq_val (by kernel_rfl) (some 94) rfl (.pointer (some ⟨bm, om + 0 * 3, none⟩)) (fun U hU => idx_it bm om M.length cm 0 h0 _ _ _ rfl (by kernel_rfl) (by kernel_rfl)) ?_
                    simp only [Act.put, List.setIfInBounds_toArray, List.set_cons_succ, List.set_cons_zero]
                    refine gq_load (by kernel_rfl) (some 95) rfl 24 (.tmp 94) rfl ⟨bm, om + 0 * 3, none⟩ (.agg (itA (ita M 0))) (by kernel_rfl) (fun U hU => HLH.out U hU) ?_
                    simp only [Act.put, List.setIfInBounds_toArray, List.set_cons_succ, List.set_cons_zero]
                    refine gq_val (by kernel_rfl) (some 96) rfl (.bool false) (fun U hU => same_it rfl (ita M 0) (by kernel_rfl) (by kernel_rfl) U) ?_
                    simp only [Act.put, List.setIfInBounds_toArray, List.set_cons_succ, List.set_cons_zero]
                    refine gq_val (by kernel_rfl) (some 97) rfl (.bool false) (fun U hU => by kernel_rfl) ?_
                    simp only [Act.put, List.setIfInBounds_toArray, List.set_cons_succ, List.set_cons_zero]
                    refine gq_val (by kernel_rfl) (some 98) rfl (.bool false) (fun U hU => by kernel_rfl) ?_
                    simp only [Act.put, List.setIfInBounds_toArray, List.set_cons_succ, List.set_cons_zero]
                    refine gq_val (by kernel_rfl) (some 99) rfl (.bool false) (fun U hU => by kernel_rfl) ?_
                    simp only [Act.put, List.setIfInBounds_toArray, List.set_cons_succ, List.set_cons_zero]
                    refine gq_val (by kernel_rfl) (some 100) rfl (.bool true) (fun U hU => by kernel_rfl) ?_
                    simp only [Act.put, List.setIfInBounds_toArray, List.set_cons_succ, List.set_cons_zero]
                    refine gq_val (by kernel_rfl) (some 101) rfl (.bool false) (fun U hU => by kernel_rfl) ?_
                    simp only [Act.put, List.setIfInBounds_toArray, List.set_cons_succ, List.set_cons_zero]
                    refine gq_val (by kernel_rfl) (some 102) rfl (.bool false) (fun U hU => by kernel_rfl) ?_
                    simp only [Act.put, List.setIfInBounds_toArray, List.set_cons_succ, List.set_cons_zero]
                    with_reducible refine gq_not (by kernel_rfl) (some 103) rfl ?_
                    simp only [Act.put, List.setIfInBounds_toArray, List.set_cons_succ, List.set_cons_zero]
                    with_reducible refine gq_not (by kernel_rfl) (some 104) rfl ?_
                    simp only [Act.put, List.setIfInBounds_toArray, List.set_cons_succ, List.set_cons_zero]
                    with_reducible refine gq_not (by kernel_rfl) (some 105) rfl ?_
                    simp only [Act.put, List.setIfInBounds_toArray, List.set_cons_succ, List.set_cons_zero]
                    refine gq_val (by kernel_rfl) (some 106) rfl (.bool false) (fun U hU => by kernel_rfl) ?_
                    simp only [Act.put, List.setIfInBounds_toArray, List.set_cons_succ, List.set_cons_zero]
                    refine gq_val (by kernel_rfl) (some 107) rfl (.bool false) (fun U hU => by kernel_rfl) ?_
                    simp only [Act.put, List.setIfInBounds_toArray, List.set_cons_succ, List.set_cons_zero]
                    apply wpQuiet_nil
                    intro V7 hV7
                    have hM7 := hM6.below hC hV7
                    have hQ7 := (hQ6.below hV7).tail hcm
                    have hcut := cut_it_from (some ⟨bm, om, none⟩) M.length cm 1 V7 (by omega)
                    have hTl : M.length - 1 = M.tail.length := by rw [List.length_tail]
                    have hcm2 : M.tail.length ≤ cm - 1 := by rw [List.length_tail]; omega
                    rw [hTl] at hcut
                    clear hM6 hQ6 hV7 HLH HBX hbx HGT
                    go_upto_region 27 with fail
                    apply wp_region_lit
                    refine gw_val (by kernel_rfl) (some 108) rfl (.bool true) (by kernel_rfl) ?_
                    simp only [Act.put, List.setIfInBounds_toArray, List.set_cons_succ, List.set_cons_zero]
                    apply wpList_nil
                    go_upto_region 28 with fail
                    apply wp_region_lit
                    refine gw_val (by kernel_rfl) (some 109) rfl (.slice (some ⟨bm, om, none⟩) M.length cm) (by kernel_rfl) ?_
                    simp only [Act.put, List.setIfInBounds_toArray, List.set_cons_succ, List.set_cons_zero]
                    refine gw_slice_hi (by kernel_rfl) (some 110) rfl 35 (.tmp 109) (.const (.int .i64 1)) rfl (.slice (some ⟨bm, om, none⟩) M.length cm) (.int .i64 1) (.slice (fromS 3 (some ⟨bm, om, none⟩) cm 1) M.tail.length (cm - 1)) (by kernel_rfl) (by kernel_rfl) hcut ?_
                    simp only [Act.put, List.setIfInBounds_toArray, List.set_cons_succ, List.set_cons_zero]
                    refine gw_val (by kernel_rfl) (some 7) rfl (.slice (fromS 3 (some ⟨bm, om, none⟩) cm 1) M.tail.length (cm - 1)) (by kernel_rfl) ?_
                    simp only [Act.put, List.setIfInBounds_toArray, List.set_cons_succ, List.set_cons_zero]
                    apply wpList_nil
                    clear hcut hTl
                    have HF := Lib.hid (And.intro hM7 hQ7)
                    have HW2 := Lib.hid (And.intro hW2 (And.intro hcm2 hDl))
                    clear hM7 hQ7
                    go_wp2_with fail
                    go_meet
                    exact ⟨S6, M.tail, fromS 3 (some ⟨bm, om, none⟩) cm 1, cm - 1, rfl, HF.out.1, HF.out.2, HW2.out.2.1, HW2.out.1, by have := HW2.out.2.2; omega⟩
                  · subst hq0
                    have hMl : M.length ≤ 80000 := by omega
                    have CPO := hC.pop V4 gh S M w.heap.size hM4.r hW hMl (fun k hk => (hM4.so k hk).1) hM4.bel.size
                    have hW2 := hW.tail
                    have hDl : M.tail.length ≤ M.length + 1 := by rw [List.length_tail]; omega
                    obtain rfl : M = [] := List.eq_nil_of_length_eq_zero (by omega)
                    have CPO : Calls Try.prog 17 #[.pointer (some ⟨gh, 0, none⟩)] V4 fun e w' => e = .returned (.tuple #[.agg (itA zIt), .bool false]) ∧ UpdH R gh w.heap.size S [] V4 w' := CPO
                    go_upto_region 23 with fail
                    apply wp_region_lit
                    refine gw_val (by kernel_rfl) (some 78) rfl (.bool true) (by kernel_rfl) ?_
                    simp only [Act.put, List.setIfInBounds_toArray, List.set_cons_succ, List.set_cons_zero]
                    refine gw_val (by kernel_rfl) (some 77) rfl (.bool true) (by kernel_rfl) ?_
                    simp only [Act.put, List.setIfInBounds_toArray, List.set_cons_succ, List.set_cons_zero]
                    apply wpList_nil
                    go_upto_region 24 with fail
                    apply wp_region_lit
                    refine gw_val (by kernel_rfl) (some 80) rfl (.pointer (some ⟨gh, 0, none⟩)) (by kernel_rfl) ?_
                    simp only [Act.put, List.setIfInBounds_toArray, List.set_cons_succ, List.set_cons_zero]
                    refine gw_call (by kernel_rfl) (some 81) rfl 17 #[.pointer (some ⟨gh, 0, none⟩)] (.tuple #[.agg (itA zIt), .bool false]) (fun w' => UpdH R gh w.heap.size S [] V4 w') (by kernel_rfl) CPO (fun V5 hu => ?_)
                    simp only [Act.put, List.setIfInBounds_toArray, List.set_cons_succ, List.set_cons_zero]
                    obtain ⟨S6, hM5, hq6, -⟩ := hM4.prog hC hu
                    have hQ5 := hq6 _ _ hQ4
                    obtain ⟨V6, hst, hgd, hbx⟩ := new_box V5 zIt
                    have hM6 := hM5.below hC hgd.1
                    have hQ6 := hQ5.below hgd.1
                    clear hM4 hQ4 hX4 hu hq6 CPO hM5 hQ5 hgd
                    refine gw_val (by kernel_rfl) (some 79) rfl (.tuple #[.agg (itA zIt), .bool false]) (by kernel_rfl) ?_
                    simp only [Act.put, List.setIfInBounds_toArray, List.set_cons_succ, List.set_cons_zero]
                    refine gw_val (by kernel_rfl) (some 82) rfl (.agg (itA zIt)) (by kernel_rfl) ?_
                    simp only [Act.put, List.setIfInBounds_toArray, List.set_cons_succ, List.set_cons_zero]
                    refine gw_val (by kernel_rfl) (some 83) rfl (.bool false) (by kernel_rfl) ?_
                    simp only [Act.put, List.setIfInBounds_toArray, List.set_cons_succ, List.set_cons_zero]
                    refine run_to rfl (some 13) rfl (.pointer (some ⟨V5.heap.size, 0, none⟩)) (V5.alloc (.cells (itA zIt) 24)) (by kernel_rfl) ?_
                    simp only [Act.put, List.setIfInBounds_toArray, List.set_cons_succ, List.set_cons_zero]
                    refine gw_store (by kernel_rfl) rfl 24 (.tmp 13) (.tmp 82) rfl (.pointer (some ⟨V5.heap.size, 0, none⟩)) (.agg (itA zIt)) (by kernel_rfl) (by kernel_rfl) V6 hst ?_
                    refine gw_val (by kernel_rfl) (some 14) rfl (.bool false) (by kernel_rfl) ?_
                    simp only [Act.put, List.setIfInBounds_toArray, List.set_cons_succ, List.set_cons_zero]
                    apply wpList_nil
                    obtain ⟨g13, hg13⟩ : ∃ g13, V5.heap.size = g13 := ⟨_, rfl⟩
                    rw [hg13] at hbx ⊢
                    clear hg13
                    clear hst
                    go_upto_region 25 with fail
                    have HBX := Lib.hid hbx
                    refine wp_region_class (C := fun U => Below V6.heap.size V6 U) (by kernel_rfl) (by kernel_rfl) ((Below.refl _ V6).drew) ?_
                    refine gq_val (by kernel_rfl) (some 84) rfl (.bool false) (fun U hU => by kernel_rfl) ?_
                    simp only [Act.put, List.setIfInBounds_toArray, List.set_cons_succ, List.set_cons_zero]
                    refine gq_val (by kernel_rfl) (some 85) rfl (.slice am 0 cm) (fun U hU => by kernel_rfl) ?_
                    simp only [Act.put, List.setIfInBounds_toArray, List.set_cons_succ, List.set_cons_zero]
                    refine gq_val (by kernel_rfl) (some 86) rfl (.int .i64 0) (fun U hU => by kernel_rfl) ?_
                    simp only [Act.put, List.setIfInBounds_toArray, List.set_cons_succ, List.set_cons_zero]
                    refine gq_val (by kernel_rfl) (some 87) rfl (.bool false) (fun U hU => by exact gtr_i rfl 0 0 (by kernel_rfl) (by kernel_rfl) U) ?_
                    simp only [Act.put, List.setIfInBounds_toArray, List.set_cons_succ, List.set_cons_zero]
                    refine gq_val (by kernel_rfl) (some 88) rfl (.bool false) (fun U hU => neq_bool rfl false (by kernel_rfl) (by kernel_rfl) U) ?_
                    simp only [Act.put, List.setIfInBounds_toArray, List.set_cons_succ, List.set_cons_zero]
                    refine gq_val (by kernel_rfl) (some 89) rfl (.bool false) (fun U hU => by kernel_rfl) ?_
                    simp only [Act.put, List.setIfInBounds_toArray, List.set_cons_succ, List.set_cons_zero]
                    refine gq_val (by kernel_rfl) (some 90) rfl (.bool false) (fun U hU => by kernel_rfl) ?_
                    simp only [Act.put, List.setIfInBounds_toArray, List.set_cons_succ, List.set_cons_zero]
                    refine gq_val (by kernel_rfl) (some 91) rfl (.bool false) (fun U hU => by kernel_rfl) ?_
                    simp only [Act.put, List.setIfInBounds_toArray, List.set_cons_succ, List.set_cons_zero]
                    with_reducible refine gq_not (by kernel_rfl) (some 92) rfl ?_
                    simp only [Act.put, List.setIfInBounds_toArray, List.set_cons_succ, List.set_cons_zero]
                    with_reducible refine gq_not (by kernel_rfl) (some 93) rfl ?_
                    simp only [Act.put, List.setIfInBounds_toArray, List.set_cons_succ, List.set_cons_zero]
                    with_reducible refine gq_not (by kernel_rfl) (some 94) rfl ?_
                    simp only [Act.put, List.setIfInBounds_toArray, List.set_cons_succ, List.set_cons_zero]
                    with_reducible refine gq_not (by kernel_rfl) (some 95) rfl ?_
                    simp only [Act.put, List.setIfInBounds_toArray, List.set_cons_succ, List.set_cons_zero]
                    with_reducible refine gq_not (by kernel_rfl) (some 96) rfl ?_
                    simp only [Act.put, List.setIfInBounds_toArray, List.set_cons_succ, List.set_cons_zero]
                    refine gq_val (by kernel_rfl) (some 97) rfl (.bool false) (fun U hU => by kernel_rfl) ?_
                    simp only [Act.put, List.setIfInBounds_toArray, List.set_cons_succ, List.set_cons_zero]
                    refine gq_val (by kernel_rfl) (some 98) rfl (.bool false) (fun U hU => by kernel_rfl) ?_
                    simp only [Act.put, List.setIfInBounds_toArray, List.set_cons_succ, List.set_cons_zero]
                    refine gq_val (by kernel_rfl) (some 99) rfl (.bool false) (fun U hU => by kernel_rfl) ?_
                    simp only [Act.put, List.setIfInBounds_toArray, List.set_cons_succ, List.set_cons_zero]
                    refine gq_val (by kernel_rfl) (some 100) rfl (.bool false) (fun U hU => by kernel_rfl) ?_
                    simp only [Act.put, List.setIfInBounds_toArray, List.set_cons_succ, List.set_cons_zero]
                    refine gq_val (by kernel_rfl) (some 101) rfl (.bool true) (fun U hU => by kernel_rfl) ?_
                    simp only [Act.put, List.setIfInBounds_toArray, List.set_cons_succ, List.set_cons_zero]
                    refine gq_val (by kernel_rfl) (some 102) rfl (.bool true) (fun U hU => by kernel_rfl) ?_
                    simp only [Act.put, List.setIfInBounds_toArray, List.set_cons_succ, List.set_cons_zero]
                    refine gq_load (by kernel_rfl) (some 103) rfl 24 (.tmp 13) rfl ⟨g13, 0, none⟩ (.agg (itA zIt)) (by kernel_rfl) (fun U hU => load_box (HBX.out.below HBX.out.lt hU)) ?_
                    simp only [Act.put, List.setIfInBounds_toArray, List.set_cons_succ, List.set_cons_zero]
                    refine gq_val (by kernel_rfl) (some 104) rfl (.agg (itA zIt)) (fun U hU => by kernel_rfl) ?_
                    simp only [Act.put, List.setIfInBounds_toArray, List.set_cons_succ, List.set_cons_zero]
                    refine gq_val (by kernel_rfl) (some 105) rfl (.bool false) (fun U hU => same_it rfl zIt (by kernel_rfl) (by kernel_rfl) U) ?_
                    simp only [Act.put, List.setIfInBounds_toArray, List.set_cons_succ, List.set_cons_zero]
                    refine gq_val (by kernel_rfl) (some 106) rfl (.bool false) (fun U hU => by kernel_rfl) ?_
                    simp only [Act.put, List.setIfInBounds_toArray, List.set_cons_succ, List.set_cons_zero]
                    refine gq_val (by kernel_rfl) (some 107) rfl (.bool false) (fun U hU => by kernel_rfl) ?_
                    simp only [Act.put, List.setIfInBounds_toArray, List.set_cons_succ, List.set_cons_zero]
                    apply wpQuiet_nil
                    intro V7 hV7
                    have hM7 := hM6.below hC hV7
                    have hQ7 := hQ6.below hV7
                    clear hM6 hQ6 hV7 HBX hbx
                    go_upto_region 27 with fail
                    apply wp_region_lit
                    refine gw_val (by kernel_rfl) (some 108) rfl (.bool false) (by kernel_rfl) ?_
                    simp only [Act.put, List.setIfInBounds_toArray, List.set_cons_succ, List.set_cons_zero]
                    apply wpList_nil
                    have HF := Lib.hid (And.intro hM7 hQ7)
                    have HW2 := Lib.hid (And.intro hW (And.intro hcm hDl))
                    clear hM7 hQ7
                    go_wp2_with fail
                    go_meet
                    exact ⟨S6, [], am, cm, rfl, HF.out.1, HF.out.2, HW2.out.2.1, HW2.out.1, by have := HW2.out.2.2; omega⟩
                · by_cases hq1 : q8 = 1
                  · subst hq1
                    have CRef := ref_take am cm M x.1 V4 hQ4.cs hcm (by omega)
                    have CPr := Lib.hid (fun V (h : MP R w a n c gs gh (N + 3 + 1) S M V) => hC.remove V gh S M x.1 w.heap.size h.r hW (by omega) (fun k hk => (h.so k hk).1) h.bel.size)
                    have hW2 := hW.tak x.1
                    have hDl : (takM M x.1).1.length ≤ M.length + 1 := by have : (takM M x.1).1.length ≤ M.length := tak_len; omega
                    unfold RowO at CRef
                    generalize takM M x.1 = D at *
                    go_upto_region 23 with fail
                    apply wp_region_lit
                    refine gw_val (by kernel_rfl) (some 78) rfl (.bool false) (by kernel_rfl) ?_
                    simp only [Act.put, List.setIfInBounds_toArray, List.set_cons_succ, List.set_cons_zero]
                    refine gw_val (by kernel_rfl) (some 77) rfl (.bool false) (by kernel_rfl) ?_
                    simp only [Act.put, List.setIfInBounds_toArray, List.set_cons_succ, List.set_cons_zero]
                    apply wpList_nil
                    go_upto_region 29 with fail
                    apply wp_region_lit
                    refine gw_val (by kernel_rfl) (some 112) rfl (.bool true) (by kernel_rfl) ?_
                    simp only [Act.put, List.setIfInBounds_toArray, List.set_cons_succ, List.set_cons_zero]
                    refine gw_val (by kernel_rfl) (some 111) rfl (.bool true) (by kernel_rfl) ?_
                    simp only [Act.put, List.setIfInBounds_toArray, List.set_cons_succ, List.set_cons_zero]
                    apply wpList_nil
                    go_upto_region 30 with fail
                    apply wp_region_lit
                    refine gw_val (by kernel_rfl) (some 114) rfl (.slice am M.length cm) (by kernel_rfl) ?_
                    simp only [Act.put, List.setIfInBounds_toArray, List.set_cons_succ, List.set_cons_zero]
                    refine gw_val (by kernel_rfl) (some 115) rfl (.pointer (some ⟨g12, 0, none⟩)) (by kernel_rfl) ?_
                    simp only [Act.put, List.setIfInBounds_toArray, List.set_cons_succ, List.set_cons_zero]
                    refine gw_load (by kernel_rfl) (some 116) rfl 3 (.tmp 115) rfl ⟨g12, 0, none⟩ (.int .i64 x.1) (by kernel_rfl) (ld_f0 hX4.bx) ?_
                    simp only [Act.put, List.setIfInBounds_toArray, List.set_cons_succ, List.set_cons_zero]
                    refine gw_callE (by kernel_rfl) (some 117) rfl 18 #[.slice am M.length cm, .int .i64 x.1] (fun v w' => ∃ a2 c2, v = .tuple #[.slice a2 D.1.length c2, .bool D.2] ∧ Cs w' a2 (itc D.1) ∧ D.1.length ≤ c2 ∧ Below V4.heap.size V4 w' ∧ Fr V4 w' am a2) (by kernel_rfl) (CRef.mono fun e w' q => by obtain ⟨a2, c2, he, h1, h2, h3, h4⟩ := q; exact ⟨_, he, a2, c2, rfl, h1, h2, h3, h4⟩) (fun v V5 hq => ?_)
                    obtain ⟨a2, c2, rfl, hc5, hl5, hb5, hf5⟩ := hq
                    have hM5 := hM4.below hC hb5
                    have hQ5 := hM4.fr hC hQ4 hb5 hc5 hf5
                    have hX5 := hX4.below hb5
                    clear hM4 hQ4 hX4 hc5 hb5 hf5 CRef
                    simp only [Act.put, List.setIfInBounds_toArray, List.set_cons_succ, List.set_cons_zero]
                    refine gw_val (by kernel_rfl) (some 113) rfl (.tuple #[.slice a2 D.1.length c2, .bool D.2]) (by kernel_rfl) ?_
                    simp only [Act.put, List.setIfInBounds_toArray, List.set_cons_succ, List.set_cons_zero]
                    refine gw_val (by kernel_rfl) (some 118) rfl (.slice a2 D.1.length c2) (by kernel_rfl) ?_
                    simp only [Act.put, List.setIfInBounds_toArray, List.set_cons_succ, List.set_cons_zero]
                    refine gw_val (by kernel_rfl) (some 119) rfl (.bool D.2) (by kernel_rfl) ?_
                    simp only [Act.put, List.setIfInBounds_toArray, List.set_cons_succ, List.set_cons_zero]
                    refine gw_val (by kernel_rfl) (some 15) rfl (.slice a2 D.1.length c2) (by kernel_rfl) ?_
                    simp only [Act.put, List.setIfInBounds_toArray, List.set_cons_succ, List.set_cons_zero]
                    refine gw_val (by kernel_rfl) (some 16) rfl (.bool D.2) (by kernel_rfl) ?_
                    simp only [Act.put, List.setIfInBounds_toArray, List.set_cons_succ, List.set_cons_zero]
                    apply wpList_nil
                    go_upto_region 31 with fail
                    apply wp_region_lit
                    refine gw_val (by kernel_rfl) (some 120) rfl (.pointer (some ⟨gh, 0, none⟩)) (by kernel_rfl) ?_
                    simp only [Act.put, List.setIfInBounds_toArray, List.set_cons_succ, List.set_cons_zero]
                    refine gw_val (by kernel_rfl) (some 121) rfl (.pointer (some ⟨g12, 0, none⟩)) (by kernel_rfl) ?_
                    simp only [Act.put, List.setIfInBounds_toArray, List.set_cons_succ, List.set_cons_zero]
                    refine gw_load (by kernel_rfl) (some 122) rfl 3 (.tmp 121) rfl ⟨g12, 0, none⟩ (.int .i64 x.1) (by kernel_rfl) (ld_f0 hX5.bx) ?_
                    simp only [Act.put, List.setIfInBounds_toArray, List.set_cons_succ, List.set_cons_zero]
                    refine gw_call (by kernel_rfl) (some 123) rfl 19 #[.pointer (some ⟨gh, 0, none⟩), .int .i64 x.1] (.bool D.2) (fun w' => UpdH R gh w.heap.size S D.1 V5 w') (by kernel_rfl) (CPr.out V5 hM5) (fun V6 hu => ?_)
                    simp only [Act.put, List.setIfInBounds_toArray, List.set_cons_succ, List.set_cons_zero]
                    obtain ⟨S6, hM6, hq6, hx6⟩ := hM5.prog hC hu
                    have hQ6 := hq6 _ _ hQ5
                    clear hM5 hQ5 hX5 hu hq6 hx6 CPr
                    refine gw_val (by kernel_rfl) (some 124) rfl (.bool D.2) (by kernel_rfl) ?_
                    simp only [Act.put, List.setIfInBounds_toArray, List.set_cons_succ, List.set_cons_zero]
                    refine gw_val (by kernel_rfl) (some 125) rfl (.bool false) (neq_bool rfl D.2 (by kernel_rfl) (by kernel_rfl) _) ?_
                    simp only [Act.put, List.setIfInBounds_toArray, List.set_cons_succ, List.set_cons_zero]
                    apply wpList_nil
                    go_upto_region 33 with fail
                    apply wp_region_lit
                    refine gw_val (by kernel_rfl) (some 126) rfl (.slice a2 D.1.length c2) (by kernel_rfl) ?_
                    simp only [Act.put, List.setIfInBounds_toArray, List.set_cons_succ, List.set_cons_zero]
                    refine gw_val (by kernel_rfl) (some 7) rfl (.slice a2 D.1.length c2) (by kernel_rfl) ?_
                    simp only [Act.put, List.setIfInBounds_toArray, List.set_cons_succ, List.set_cons_zero]
                    apply wpList_nil
                    have HF := Lib.hid (And.intro hM6 hQ6)
                    have HW2 := Lib.hid (And.intro hW2 (And.intro hl5 hDl))
                    clear hM6 hQ6
                    go_wp2_with fail
                    go_meet
                    exact ⟨S6, D.1, a2, c2, rfl, HF.out.1, HF.out.2, HW2.out.2.1, HW2.out.1, by have := HW2.out.2.2; omega⟩
                  · have ht0 : (q8 == 0) = false := by simp [hq0]
                    have ht1 : (q8 == 1) = false := by simp [hq1]
                    go_upto_region 23 with fail
                    apply wp_region_lit
                    refine gw_val (by kernel_rfl) (some 78) rfl (.bool (q8 == 0)) (by kernel_rfl) ?_
                    simp only [Act.put, List.setIfInBounds_toArray, List.set_cons_succ, List.set_cons_zero]
                    rw [ht0]
                    refine gw_val (by kernel_rfl) (some 77) rfl (.bool false) (by kernel_rfl) ?_
                    simp only [Act.put, List.setIfInBounds_toArray, List.set_cons_succ, List.set_cons_zero]
                    apply wpList_nil
                    go_upto_region 29 with fail
                    apply wp_region_lit
                    refine gw_val (by kernel_rfl) (some 112) rfl (.bool (q8 == 1)) (by kernel_rfl) ?_
                    simp only [Act.put, List.setIfInBounds_toArray, List.set_cons_succ, List.set_cons_zero]
                    rw [ht1]
                    refine gw_val (by kernel_rfl) (some 111) rfl (.bool false) (by kernel_rfl) ?_
                    simp only [Act.put, List.setIfInBounds_toArray, List.set_cons_succ, List.set_cons_zero]
                    apply wpList_nil
                    clear ht0 ht1
                    have CRef := ref_insert am cm M x V4 hQ4.cs hcm (by omega)
                    have CPr := Lib.hid (fun V (h : MP R w a n c gs gh (N + 3 + 1) S M V) => hC.push V gh S M x w.heap.size h.r hW (by omega) (fun k hk => (h.so k hk).1) h.bel.size)
                    have hW2 := hW.ins x
                    have hDl : (insM M x).1.length ≤ M.length + 1 := ins_len
                    unfold RowO at CRef
                    generalize insM M x = D at *
                    go_upto_region 19 with fail
                    apply wp_region_lit
                    refine gw_val (by kernel_rfl) (some 66) rfl (.slice am M.length cm) (by kernel_rfl) ?_
                    simp only [Act.put, List.setIfInBounds_toArray, List.set_cons_succ, List.set_cons_zero]
                    refine gw_load (by kernel_rfl) (some 67) rfl 24 (.tmp 12) rfl ⟨g12, 0, none⟩ (.agg (itA x)) (by kernel_rfl) (load_box hX4.bx) ?_
                    simp only [Act.put, List.setIfInBounds_toArray, List.set_cons_succ, List.set_cons_zero]
                    refine gw_callE (by kernel_rfl) (some 68) rfl 14 #[.slice am M.length cm, .agg (itA x)] (fun v w' => ∃ a2 c2, v = .tuple #[.slice a2 D.1.length c2, .bool D.2] ∧ Cs w' a2 (itc D.1) ∧ D.1.length ≤ c2 ∧ Below V4.heap.size V4 w' ∧ Fr V4 w' am a2) (by kernel_rfl) (CRef.mono fun e w' q => by obtain ⟨a2, c2, he, h1, h2, h3, h4⟩ := q; exact ⟨_, he, a2, c2, rfl, h1, h2, h3, h4⟩) (fun v V5 hq => ?_)
                    obtain ⟨a2, c2, rfl, hc5, hl5, hb5, hf5⟩ := hq
                    have hM5 := hM4.below hC hb5
                    have hQ5 := hM4.fr hC hQ4 hb5 hc5 hf5
                    have hX5 := hX4.below hb5
                    clear hM4 hQ4 hX4 hc5 hb5 hf5 CRef
                    simp only [Act.put, List.setIfInBounds_toArray, List.set_cons_succ, List.set_cons_zero]
                    refine gw_val (by kernel_rfl) (some 65) rfl (.tuple #[.slice a2 D.1.length c2, .bool D.2]) (by kernel_rfl) ?_
                    simp only [Act.put, List.setIfInBounds_toArray, List.set_cons_succ, List.set_cons_zero]
                    refine gw_val (by kernel_rfl) (some 69) rfl (.slice a2 D.1.length c2) (by kernel_rfl) ?_
                    simp only [Act.put, List.setIfInBounds_toArray, List.set_cons_succ, List.set_cons_zero]
                    refine gw_val (by kernel_rfl) (some 70) rfl (.bool D.2) (by kernel_rfl) ?_
                    simp only [Act.put, List.setIfInBounds_toArray, List.set_cons_succ, List.set_cons_zero]
                    refine gw_val (by kernel_rfl) (some 17) rfl (.slice a2 D.1.length c2) (by kernel_rfl) ?_
                    simp only [Act.put, List.setIfInBounds_toArray, List.set_cons_succ, List.set_cons_zero]
                    refine gw_val (by kernel_rfl) (some 18) rfl (.bool D.2) (by kernel_rfl) ?_
                    simp only [Act.put, List.setIfInBounds_toArray, List.set_cons_succ, List.set_cons_zero]
                    apply wpList_nil
                    go_upto_region 20 with fail
                    apply wp_region_lit
                    refine gw_val (by kernel_rfl) (some 71) rfl (.pointer (some ⟨gh, 0, none⟩)) (by kernel_rfl) ?_
                    simp only [Act.put, List.setIfInBounds_toArray, List.set_cons_succ, List.set_cons_zero]
                    refine gw_load (by kernel_rfl) (some 72) rfl 24 (.tmp 12) rfl ⟨g12, 0, none⟩ (.agg (itA x)) (by kernel_rfl) (load_box hX5.bx) ?_
                    simp only [Act.put, List.setIfInBounds_toArray, List.set_cons_succ, List.set_cons_zero]
                    refine gw_call (by kernel_rfl) (some 73) rfl 15 #[.pointer (some ⟨gh, 0, none⟩), .agg (itA x)] (.bool D.2) (fun w' => UpdH R gh w.heap.size S D.1 V5 w') (by kernel_rfl) (CPr.out V5 hM5) (fun V6 hu => ?_)
                    simp only [Act.put, List.setIfInBounds_toArray, List.set_cons_succ, List.set_cons_zero]
                    obtain ⟨S6, hM6, hq6, hx6⟩ := hM5.prog hC hu
                    have hQ6 := hq6 _ _ hQ5
                    clear hM5 hQ5 hX5 hu hq6 hx6 CPr
                    refine gw_val (by kernel_rfl) (some 74) rfl (.bool D.2) (by kernel_rfl) ?_
                    simp only [Act.put, List.setIfInBounds_toArray, List.set_cons_succ, List.set_cons_zero]
                    refine gw_val (by kernel_rfl) (some 75) rfl (.bool false) (neq_bool rfl D.2 (by kernel_rfl) (by kernel_rfl) _) ?_
                    simp only [Act.put, List.setIfInBounds_toArray, List.set_cons_succ, List.set_cons_zero]
                    apply wpList_nil
                    go_upto_region 22 with fail
                    apply wp_region_lit
                    refine gw_val (by kernel_rfl) (some 76) rfl (.slice a2 D.1.length c2) (by kernel_rfl) ?_
                    simp only [Act.put, List.setIfInBounds_toArray, List.set_cons_succ, List.set_cons_zero]
                    refine gw_val (by kernel_rfl) (some 7) rfl (.slice a2 D.1.length c2) (by kernel_rfl) ?_
                    simp only [Act.put, List.setIfInBounds_toArray, List.set_cons_succ, List.set_cons_zero]
                    apply wpList_nil
                    have HF := Lib.hid (And.intro hM6 hQ6)
                    have HW2 := Lib.hid (And.intro hW2 (And.intro hl5 hDl))
                    clear hM6 hQ6
                    go_wp2_with fail
                    go_meet
                    exact ⟨S6, D.1, a2, c2, rfl, HF.out.1, HF.out.2, HW2.out.2.1, HW2.out.1, by have := HW2.out.2.2; omega⟩
              case rest =>
                obtain ⟨S2, M2, am2, cm2, rfl, hM5, hQ5, hcm2, hW2, hKN2⟩ := hcut
                have HG2 : Hid (N + 4 ≤ n + 3 ∧ N < n ∧ n + 4 - N ≤ gk ∧ M2.length ≤ 30 + (N + 4)) := Lib.hid ⟨by have := HG.out; omega, HG.out.2, HG.out.1, by omega⟩
                have hb64 : M2.length ≤ 80000 := by omega
                have HW2 := Lib.hid hW2
                have HPK := Lib.hid (hC.peek wc gh S2 M2 hM5.r hW2 hb64)
                have HSO := Lib.hid (fun V (h : R V gh S2 M2) => hC.sorted V gh S2 M2 h HW2.out hb64)
                have HLE := Lib.hid (fun V (h : R V gh S2 M2) => hC.len V gh S2 M2 h HW2.out hb64)
                clear hM4 hQ4 hX4 hW hcm hMN hp2 hlt hN hW2 HD HG
                generalize wc = wC at *
                go_upto_region 34 with fail
                apply wp_region_lit
                refine gw_val (by kernel_rfl) (some 128) rfl (.pointer (some ⟨gh, 0, none⟩)) (by kernel_rfl) ?_
                simp only [Act.put, List.setIfInBounds_toArray, List.set_cons_succ, List.set_cons_zero]
                refine gw_call (by kernel_rfl) (some 129) rfl 20 #[.pointer (some ⟨gh, 0, none⟩)] (.tuple #[.agg (itA (ita M2 0)), .bool (decide (0 < M2.length))]) (fun w' => Below wC.heap.size wC w') (by kernel_rfl) HPK.out (fun V7 hb7 => ?_)
                simp only [Act.put, List.setIfInBounds_toArray, List.set_cons_succ, List.set_cons_zero]
                obtain ⟨y, hy⟩ : ∃ y, ita M2 0 = y := ⟨_, rfl⟩
                obtain ⟨V8, hst, hgd, hbx⟩ := new_box V7 (ita M2 0)
                have hM8 := (hM5.below hC hb7).below hC hgd.1
                have hQ8 := (hQ5.below hb7).below hgd.1
                clear hM5 hQ5 hb7 hgd HPK
                refine gw_val (by kernel_rfl) (some 127) rfl (.tuple #[.agg (itA (ita M2 0)), .bool (decide (0 < M2.length))]) (by kernel_rfl) ?_
                simp only [Act.put, List.setIfInBounds_toArray, List.set_cons_succ, List.set_cons_zero]
                refine gw_val (by kernel_rfl) (some 130) rfl (.agg (itA (ita M2 0))) (by kernel_rfl) ?_
                simp only [Act.put, List.setIfInBounds_toArray, List.set_cons_succ, List.set_cons_zero]
                refine gw_val (by kernel_rfl) (some 131) rfl (.bool (decide (0 < M2.length))) (by kernel_rfl) ?_
                simp only [Act.put, List.setIfInBounds_toArray, List.set_cons_succ, List.set_cons_zero]
                refine run_to rfl (some 19) rfl (.pointer (some ⟨V7.heap.size, 0, none⟩)) (V7.alloc (.cells (itA zIt) 24)) (by kernel_rfl) ?_
                simp only [Act.put, List.setIfInBounds_toArray, List.set_cons_succ, List.set_cons_zero]
                refine gw_store (by kernel_rfl) rfl 24 (.tmp 19) (.tmp 130) rfl (.pointer (some ⟨V7.heap.size, 0, none⟩)) (.agg (itA (ita M2 0))) (by kernel_rfl) (by kernel_rfl) V8 hst ?_
                refine gw_val (by kernel_rfl) (some 20) rfl (.bool (decide (0 < M2.length))) (by kernel_rfl) ?_
                simp only [Act.put, List.setIfInBounds_toArray, List.set_cons_succ, List.set_cons_zero]
                apply wpList_nil
                obtain ⟨g19, hg19⟩ : ∃ g19, V7.heap.size = g19 := ⟨_, rfl⟩
                rw [hg19] at hbx ⊢
                clear hg19
                clear hst hy
                by_cases h0 : 0 < M2.length
                · have h00 := Lib.hid h0
                  have hdt : decide (0 < M2.length) = true := decide_eq_true h0
                  rw [hdt]
                  obtain ⟨bm, om, rfl, -⟩ := it_range hQ8.cs (k := 0) h0
                  have HHD := Lib.hid (fun U (hU : Cs U (some ⟨bm, om, none⟩) (itc M2)) => (by
                    obtain ⟨b2, o2, e2, h2⟩ := head_load hU h0
                    simp only [Option.some.injEq, Addr.mk.injEq, and_true] at e2
                    obtain ⟨rfl, rfl⟩ := e2
                    exact h2 : (Instr.loadAt 24 (.pointer (some ⟨bm, om + 0 * 3, none⟩))).run Try.prog U = .ok (.agg (itA (ita M2 0))) U))
                  generalize ita M2 0 = y at *
                  clear hdt
                  have HGT : Hid (decide ((0 : Int) < (M2.length : Int)) = true) := Lib.hid (decide_eq_true (by omega))
                  have h0 : YC R w a n c gs gh (N + 4) S2 M2 (some ⟨bm, om, none⟩) g19 y false u156 V8.drew := YC.below hC ⟨hM8, hQ8, hbx, fun h => (by cases h)⟩ (Below.refl _ V8).drew
                  clear hM8 hQ8 hbx
                  go_upto_region 35 with fail
                  refine wp_region_inv (fun listed act9 V => ∃ b0 b1 b2 b3 b4 b5 b6 b7 b8 b9 b10 b11 b12 b13 b14 b15 b16 b17 b18 b19 b20 b21 b22 b23 b24 b25 b26 b27 b28 : Bool, ∃ x156 : Value, listed = #[b0, b1, b2, b3, b4, b5, b6, b7, b8, b9, b10, b11, b12, b13, b14, b15, b16, b17, b18, b19, b20, b21, b22, b23, b24, b25, b26, b27, b28] ∧ act9 = { tmps := #[.slice a n c, .slice ar nr cr, undef, undef, u4, .pointer (some ⟨gs, 0, none⟩), .pointer (some ⟨gh, 0, none⟩), .slice (some ⟨bm, om, none⟩) M2.length cm2, undef, u9, u10, u11, .pointer (some ⟨g12, 0, none⟩), u13, u14, u15, u16, u17, u18, .pointer (some ⟨g19, 0, none⟩), .bool true, .slice a n c, .slice (some ⟨w.heap.size, 0, none⟩) 1 1, .bool false, .bool false, .slice ar nr cr, .int .i64 nr, .bool false, .bool false, undef, .slice a n c, .pointer (some ⟨gs, 0, none⟩), .pointer (some ⟨gh, 0, none⟩), .pointer (some ⟨gh, 0, none⟩), .bool false, .slice ar nr cr, .int .i64 nr, .int .i64 j, .bool false, u39, u40, u41, u42, u43, u44, u45, u46, u47, u48, u49, u50, u51, u52, u53, u54, u55, u56, u57, u58, u59, u60, u61, u62, u63, .int .i64 q8, u65, u66, u67, u68, u69, u70, u71, u72, u73, u74, u75, u76, u77, u78, u79, u80, u81, u82, u83, u84, u85, u86, u87, u88, u89, u90, u91, u92, u93, u94, u95, u96, u97, u98, u99, u100, u101, u102, u103, u104, u105, u106, u107, u108, u109, u110, u111, u112, u113, u114, u115, u116, u117, u118, u119, u120, u121, u122, u123, u124, u125, u126, .tuple #[.agg (itA y), .bool true], .pointer (some ⟨gh, 0, none⟩), .tuple #[.agg (itA y), .bool true], .agg (itA y), .bool true, (cond b0 (.bool true) (u132)), (cond b1 (.slice (some ⟨bm, om, none⟩) M2.length cm2) (u133)), (cond b2 (.int .i64 M2.length) (u134)), (cond b3 (.bool true) (u135)), (cond b4 (.bool false) (u136)), (cond b5 (.bool false) (u137)), (cond b6 (.bool true) (u138)), (cond b7 (.bool true) (u139)), (cond b8 (.agg (itA y)) (u140)), (cond b9 (.slice (some ⟨bm, om, none⟩) M2.length cm2) (u141)), (cond b10 (.pointer (some ⟨bm, om + 0 * 3, none⟩)) (u142)), (cond b11 (.agg (itA y)) (u143)), (cond b12 (.bool false) (u144)), (cond b13 (.bool false) (u145)), (cond b14 (.bool false) (u146)), (cond b15 (.bool false) (u147)), (cond b16 (.pointer (some ⟨gh, 0, none⟩)) (u148)), (cond b17 (.int .i64 M2.length) (u149)), (cond b18 (.slice (some ⟨bm, om, none⟩) M2.length cm2) (u150)), (cond b19 (.int .i64 M2.length) (u151)), (cond b20 (.bool false) (u152)), (cond b21 (.bool false) (u153)), (cond b22 (.bool false) (u154)), (cond b23 (.pointer (some ⟨gh, 0, none⟩)) (u155)), x156, (cond b25 (.slice (some ⟨bm, om, none⟩) M2.length cm2) (u157)), (cond b26 (.bool true) (u158)), (cond b27 (.bool false) (u159)), (cond b28 (.bool false) (u160)), undef], defers := [] } ∧ YC R w a n c gs gh (N + 4) S2 M2 (some ⟨bm, om, none⟩) g19 y b24 x156 V) (by kernel_rfl) (by kernel_rfl) ?_ ?_ ?_
                  · exact ⟨false, false, false, false, false, false, false, false, false, false, false, false, false, false, false, false, false, false, false, false, false, false, false, false, false, false, false, false, false, u156, rfl, rfl, h0⟩
                  · intro i9 listed act9 V hi9 hr hJ
                    obtain ⟨b0, b1, b2, b3, b4, b5, b6, b7, b8, b9, b10, b11, b12, b13, b14, b15, b16, b17, b18, b19, b20, b21, b22, b23, b24, b25, b26, b27, b28, x156, rfl, rfl, hF⟩ := hJ
                    have hi2 : i9 < 29 := hi9
                    have hi3 : i9 = 0 ∨ i9 = 1 ∨ i9 = 2 ∨ i9 = 3 ∨ i9 = 4 ∨ i9 = 5 ∨ i9 = 6 ∨ i9 = 7 ∨ i9 = 8 ∨ i9 = 9 ∨ i9 = 10 ∨ i9 = 11 ∨ i9 = 12 ∨ i9 = 13 ∨ i9 = 14 ∨ i9 = 15 ∨ i9 = 16 ∨ i9 = 17 ∨ i9 = 18 ∨ i9 = 19 ∨ i9 = 20 ∨ i9 = 21 ∨ i9 = 22 ∨ i9 = 23 ∨ i9 = 24 ∨ i9 = 25 ∨ i9 = 26 ∨ i9 = 27 ∨ i9 = 28 := by omega
                    rcases hi3 with rfl | rfl | rfl | rfl | rfl | rfl | rfl | rfl | rfl | rfl | rfl | rfl | rfl | rfl | rfl | rfl | rfl | rfl | rfl | rfl | rfl | rfl | rfl | rfl | rfl | rfl | rfl | rfl | rfl
                    · obtain rfl : b0 = false := ready_self hr
                      refine st_val rfl (by kernel_rfl) (some 132) rfl (.bool true) V (by kernel_rfl) ?_
                      exact ⟨true, b1, b2, b3, b4, b5, b6, b7, b8, b9, b10, b11, b12, b13, b14, b15, b16, b17, b18, b19, b20, b21, b22, b23, b24, b25, b26, b27, b28, x156, rfl, rfl, hF⟩
                    · obtain rfl : b1 = false := ready_self hr
                      refine st_val rfl (by kernel_rfl) (some 133) rfl (.slice (some ⟨bm, om, none⟩) M2.length cm2) V (by kernel_rfl) ?_
                      exact ⟨b0, true, b2, b3, b4, b5, b6, b7, b8, b9, b10, b11, b12, b13, b14, b15, b16, b17, b18, b19, b20, b21, b22, b23, b24, b25, b26, b27, b28, x156, rfl, rfl, hF⟩
                    · obtain rfl : b2 = false := ready_self hr
                      obtain rfl : b1 = true := ready_dep hr 1 (by kernel_rfl)
                      refine st_val rfl (by kernel_rfl) (some 134) rfl (.int .i64 M2.length) V (by kernel_rfl) ?_
                      exact ⟨b0, true, true, b3, b4, b5, b6, b7, b8, b9, b10, b11, b12, b13, b14, b15, b16, b17, b18, b19, b20, b21, b22, b23, b24, b25, b26, b27, b28, x156, rfl, rfl, hF⟩
                    · obtain rfl : b3 = false := ready_self hr
                      obtain rfl : b2 = true := ready_dep hr 2 (by kernel_rfl)
                      refine st_val rfl (by kernel_rfl) (some 135) rfl (.bool true) V (gtr_t rfl M2.length 0 HGT.out (by kernel_rfl) (by kernel_rfl) V) ?_
                      exact ⟨b0, b1, true, true, b4, b5, b6, b7, b8, b9, b10, b11, b12, b13, b14, b15, b16, b17, b18, b19, b20, b21, b22, b23, b24, b25, b26, b27, b28, x156, rfl, rfl, hF⟩
                    · obtain rfl : b4 = false := ready_self hr
                      obtain rfl : b0 = true := ready_dep hr 0 (by kernel_rfl)
                      obtain rfl : b3 = true := ready_dep hr 3 (by kernel_rfl)
                      refine st_val rfl (by kernel_rfl) (some 136) rfl (.bool false) V (neq_bool rfl true (by kernel_rfl) (by kernel_rfl) V) ?_
                      exact ⟨true, b1, b2, true, true, b5, b6, b7, b8, b9, b10, b11, b12, b13, b14, b15, b16, b17, b18, b19, b20, b21, b22, b23, b24, b25, b26, b27, b28, x156, rfl, rfl, hF⟩
                    · obtain rfl : b5 = false := ready_self hr
                      obtain rfl : b4 = true := ready_dep hr 4 (by kernel_rfl)
                      refine st_val rfl (by kernel_rfl) (some 137) rfl (.bool false) V (by kernel_rfl) ?_
                      exact ⟨b0, b1, b2, b3, true, true, b6, b7, b8, b9, b10, b11, b12, b13, b14, b15, b16, b17, b18, b19, b20, b21, b22, b23, b24, b25, b26, b27, b28, x156, rfl, rfl, hF⟩
                    · obtain rfl : b6 = false := ready_self hr
                      obtain rfl : b5 = true := ready_dep hr 5 (by kernel_rfl)
                      refine st_val rfl (by kernel_rfl) (some 138) rfl (.bool true) V (by kernel_rfl) ?_
                      exact ⟨b0, b1, b2, b3, b4, true, true, b7, b8, b9, b10, b11, b12, b13, b14, b15, b16, b17, b18, b19, b20, b21, b22, b23, b24, b25, b26, b27, b28, x156, rfl, rfl, hF⟩
                    · obtain rfl : b7 = false := ready_self hr
                      obtain rfl : b6 = true := ready_dep hr 6 (by kernel_rfl)
                      obtain rfl : b5 = true := ready_dep hr 5 (by kernel_rfl)
                      refine st_val rfl (by kernel_rfl) (some 139) rfl (.bool true) V (by kernel_rfl) ?_
                      exact ⟨b0, b1, b2, b3, b4, true, true, true, b8, b9, b10, b11, b12, b13, b14, b15, b16, b17, b18, b19, b20, b21, b22, b23, b24, b25, b26, b27, b28, x156, rfl, rfl, hF⟩
                    · obtain rfl : b8 = false := ready_self hr
                      obtain rfl : b7 = true := ready_dep hr 7 (by kernel_rfl)
                      refine st_load rfl (by kernel_rfl) (some 140) rfl 24 (.tmp 19) rfl ⟨g19, 0, none⟩ (.agg (itA y)) (by kernel_rfl) (load_box hF.xb) ?_
                      exact ⟨b0, b1, b2, b3, b4, b5, b6, true, true, b9, b10, b11, b12, b13, b14, b15, b16, b17, b18, b19, b20, b21, b22, b23, b24, b25, b26, b27, b28, x156, rfl, rfl, hF⟩
                    · obtain rfl : b9 = false := ready_self hr
                      obtain rfl : b7 = true := ready_dep hr 7 (by kernel_rfl)
                      refine st_val rfl (by kernel_rfl) (some 141) rfl (.slice (some ⟨bm, om, none⟩) M2.length cm2) V (by kernel_rfl) ?_
                      exact ⟨b0, b1, b2, b3, b4, b5, b6, true, b8, true, b10, b11, b12, b13, b14, b15, b16, b17, b18, b19, b20, b21, b22, b23, b24, b25, b26, b27, b28, x156, rfl, rfl, hF⟩
                    · obtain rfl : b10 = false := ready_self hr
                      obtain rfl : b9 = true := ready_dep hr 9 (by kernel_rfl)
                      obtain rfl : b7 = true := ready_dep hr 7 (by kernel_rfl)
                      refine st_val rfl (by kernel_rfl) (some 142) rfl (.pointer (some ⟨bm, om + 0 * 3, none⟩)) V (idx_it bm om M2.length cm2 0 h00.out V _ _ rfl (by kernel_rfl) (by kernel_rfl)) ?_
                      exact ⟨b0, b1, b2, b3, b4, b5, b6, true, b8, true, true, b11, b12, b13, b14, b15, b16, b17, b18, b19, b20, b21, b22, b23, b24, b25, b26, b27, b28, x156, rfl, rfl, hF⟩
                    · obtain rfl : b11 = false := ready_self hr
                      obtain rfl : b10 = true := ready_dep hr 10 (by kernel_rfl)
                      obtain rfl : b7 = true := ready_dep hr 7 (by kernel_rfl)
                      refine st_load rfl (by kernel_rfl) (some 143) rfl 24 (.tmp 142) rfl ⟨bm, om + 0 * 3, none⟩ (.agg (itA y)) (by kernel_rfl) (HHD.out V hF.rq.cs) ?_
                      exact ⟨b0, b1, b2, b3, b4, b5, b6, true, b8, b9, true, true, b12, b13, b14, b15, b16, b17, b18, b19, b20, b21, b22, b23, b24, b25, b26, b27, b28, x156, rfl, rfl, hF⟩
                    · obtain rfl : b12 = false := ready_self hr
                      obtain rfl : b8 = true := ready_dep hr 8 (by kernel_rfl)
                      obtain rfl : b11 = true := ready_dep hr 11 (by kernel_rfl)
                      obtain rfl : b7 = true := ready_dep hr 7 (by kernel_rfl)
                      refine st_val rfl (by kernel_rfl) (some 144) rfl (.bool false) V (same_it rfl y (by kernel_rfl) (by kernel_rfl) V) ?_
                      exact ⟨b0, b1, b2, b3, b4, b5, b6, true, true, b9, b10, true, true, b13, b14, b15, b16, b17, b18, b19, b20, b21, b22, b23, b24, b25, b26, b27, b28, x156, rfl, rfl, hF⟩
                    · obtain rfl : b13 = false := ready_self hr
                      obtain rfl : b7 = true := ready_dep hr 7 (by kernel_rfl)
                      obtain rfl : b12 = true := ready_dep hr 12 (by kernel_rfl)
                      obtain rfl : b5 = true := ready_dep hr 5 (by kernel_rfl)
                      refine st_val rfl (by kernel_rfl) (some 145) rfl (.bool false) V (by kernel_rfl) ?_
                      exact ⟨b0, b1, b2, b3, b4, true, b6, true, b8, b9, b10, b11, true, true, b14, b15, b16, b17, b18, b19, b20, b21, b22, b23, b24, b25, b26, b27, b28, x156, rfl, rfl, hF⟩
                    · obtain rfl : b14 = false := ready_self hr
                      obtain rfl : b5 = true := ready_dep hr 5 (by kernel_rfl)
                      obtain rfl : b13 = true := ready_dep hr 13 (by kernel_rfl)
                      refine st_val rfl (by kernel_rfl) (some 146) rfl (.bool false) V (by kernel_rfl) ?_
                      exact ⟨b0, b1, b2, b3, b4, true, b6, b7, b8, b9, b10, b11, b12, true, true, b15, b16, b17, b18, b19, b20, b21, b22, b23, b24, b25, b26, b27, b28, x156, rfl, rfl, hF⟩
                    · obtain rfl : b15 = false := ready_self hr
                      obtain rfl : b14 = true := ready_dep hr 14 (by kernel_rfl)
                      refine st_val rfl (by kernel_rfl) (some 147) rfl (.bool false) V (by kernel_rfl) ?_
                      exact ⟨b0, b1, b2, b3, b4, b5, b6, b7, b8, b9, b10, b11, b12, b13, true, true, b16, b17, b18, b19, b20, b21, b22, b23, b24, b25, b26, b27, b28, x156, rfl, rfl, hF⟩
                    · obtain rfl : b16 = false := ready_self hr
                      obtain rfl : b15 = true := ready_dep hr 15 (by kernel_rfl)
                      refine st_val rfl (by kernel_rfl) (some 148) rfl (.pointer (some ⟨gh, 0, none⟩)) V (by kernel_rfl) ?_
                      exact ⟨b0, b1, b2, b3, b4, b5, b6, b7, b8, b9, b10, b11, b12, b13, b14, true, true, b17, b18, b19, b20, b21, b22, b23, b24, b25, b26, b27, b28, x156, rfl, rfl, hF⟩
                    · obtain rfl : b17 = false := ready_self hr
                      obtain rfl : b16 = true := ready_dep hr 16 (by kernel_rfl)
                      obtain rfl : b15 = true := ready_dep hr 15 (by kernel_rfl)
                      refine st_call rfl (by kernel_rfl) (some 149) rfl 21 #[.pointer (some ⟨gh, 0, none⟩)] (by kernel_rfl) ((HLE.out V hF.mp.r).mono fun e w' q => ?_)
                      exact ⟨_, q.1, b0, b1, b2, b3, b4, b5, b6, b7, b8, b9, b10, b11, b12, b13, b14, true, true, true, b18, b19, b20, b21, b22, b23, b24, b25, b26, b27, b28, x156, rfl, rfl, hF.below hC q.2⟩
                    · obtain rfl : b18 = false := ready_self hr
                      obtain rfl : b15 = true := ready_dep hr 15 (by kernel_rfl)
                      refine st_val rfl (by kernel_rfl) (some 150) rfl (.slice (some ⟨bm, om, none⟩) M2.length cm2) V (by kernel_rfl) ?_
                      exact ⟨b0, b1, b2, b3, b4, b5, b6, b7, b8, b9, b10, b11, b12, b13, b14, true, b16, b17, true, b19, b20, b21, b22, b23, b24, b25, b26, b27, b28, x156, rfl, rfl, hF⟩
                    · obtain rfl : b19 = false := ready_self hr
                      obtain rfl : b18 = true := ready_dep hr 18 (by kernel_rfl)
                      obtain rfl : b15 = true := ready_dep hr 15 (by kernel_rfl)
                      refine st_val rfl (by kernel_rfl) (some 151) rfl (.int .i64 M2.length) V (by kernel_rfl) ?_
                      exact ⟨b0, b1, b2, b3, b4, b5, b6, b7, b8, b9, b10, b11, b12, b13, b14, true, b16, b17, true, true, b20, b21, b22, b23, b24, b25, b26, b27, b28, x156, rfl, rfl, hF⟩
                    · obtain rfl : b20 = false := ready_self hr
                      obtain rfl : b17 = true := ready_dep hr 17 (by kernel_rfl)
                      obtain rfl : b19 = true := ready_dep hr 19 (by kernel_rfl)
                      obtain rfl : b15 = true := ready_dep hr 15 (by kernel_rfl)
                      refine st_val rfl (by kernel_rfl) (some 152) rfl (.bool false) V (neq_k rfl M2.length (by kernel_rfl) (by kernel_rfl) V) ?_
                      exact ⟨b0, b1, b2, b3, b4, b5, b6, b7, b8, b9, b10, b11, b12, b13, b14, true, b16, true, b18, true, true, b21, b22, b23, b24, b25, b26, b27, b28, x156, rfl, rfl, hF⟩
                    · obtain rfl : b21 = false := ready_self hr
                      obtain rfl : b15 = true := ready_dep hr 15 (by kernel_rfl)
                      obtain rfl : b20 = true := ready_dep hr 20 (by kernel_rfl)
                      refine st_val rfl (by kernel_rfl) (some 153) rfl (.bool false) V (by kernel_rfl) ?_
                      exact ⟨b0, b1, b2, b3, b4, b5, b6, b7, b8, b9, b10, b11, b12, b13, b14, true, b16, b17, b18, b19, true, true, b22, b23, b24, b25, b26, b27, b28, x156, rfl, rfl, hF⟩
                    · obtain rfl : b22 = false := ready_self hr
                      obtain rfl : b21 = true := ready_dep hr 21 (by kernel_rfl)
                      refine st_val rfl (by kernel_rfl) (some 154) rfl (.bool false) V (by kernel_rfl) ?_
                      exact ⟨b0, b1, b2, b3, b4, b5, b6, b7, b8, b9, b10, b11, b12, b13, b14, b15, b16, b17, b18, b19, b20, true, true, b23, b24, b25, b26, b27, b28, x156, rfl, rfl, hF⟩
                    · obtain rfl : b23 = false := ready_self hr
                      obtain rfl : b22 = true := ready_dep hr 22 (by kernel_rfl)
                      refine st_val rfl (by kernel_rfl) (some 155) rfl (.pointer (some ⟨gh, 0, none⟩)) V (by kernel_rfl) ?_
                      exact ⟨b0, b1, b2, b3, b4, b5, b6, b7, b8, b9, b10, b11, b12, b13, b14, b15, b16, b17, b18, b19, b20, b21, true, true, b24, b25, b26, b27, b28, x156, rfl, rfl, hF⟩
                    · obtain rfl : b24 = false := ready_self hr
                      obtain rfl : b23 = true := ready_dep hr 23 (by kernel_rfl)
                      obtain rfl : b22 = true := ready_dep hr 22 (by kernel_rfl)
                      refine st_call rfl (by kernel_rfl) (some 156) rfl 23 #[.pointer (some ⟨gh, 0, none⟩)] (by kernel_rfl) ((HSO.out V hF.mp.r).mono fun e w' q => ?_)
                      obtain ⟨ak, ck, he, h1, -, h2⟩ := q
                      have hF2 := hF.below hC h2
                      exact ⟨_, he, b0, b1, b2, b3, b4, b5, b6, b7, b8, b9, b10, b11, b12, b13, b14, b15, b16, b17, b18, b19, b20, b21, true, true, true, b25, b26, b27, b28, _, rfl, rfl, ⟨hF2.mp, hF2.rq, hF2.xb, fun _ => ⟨ak, ck, rfl, h1⟩⟩⟩
                    · obtain rfl : b25 = false := ready_self hr
                      obtain rfl : b22 = true := ready_dep hr 22 (by kernel_rfl)
                      refine st_val rfl (by kernel_rfl) (some 157) rfl (.slice (some ⟨bm, om, none⟩) M2.length cm2) V (by kernel_rfl) ?_
                      exact ⟨b0, b1, b2, b3, b4, b5, b6, b7, b8, b9, b10, b11, b12, b13, b14, b15, b16, b17, b18, b19, b20, b21, true, b23, b24, true, b26, b27, b28, x156, rfl, rfl, hF⟩
                    · obtain rfl : b26 = false := ready_self hr
                      obtain rfl : b24 = true := ready_dep hr 24 (by kernel_rfl)
                      obtain rfl : b25 = true := ready_dep hr 25 (by kernel_rfl)
                      obtain rfl : b22 = true := ready_dep hr 22 (by kernel_rfl)
                      obtain ⟨ak, ck, rfl, hk⟩ := hF.kx rfl
                      refine st_call rfl (by kernel_rfl) (some 158) rfl 22 #[.slice ak M2.length ck, .slice (some ⟨bm, om, none⟩) M2.length cm2] (by kernel_rfl) ((ref_same ak (some ⟨bm, om, none⟩) ck cm2 M2 V hk hF.rq.cs (by first | omega | simp)).mono fun e w' q => ?_)
                      exact ⟨_, q.1, b0, b1, b2, b3, b4, b5, b6, b7, b8, b9, b10, b11, b12, b13, b14, b15, b16, b17, b18, b19, b20, b21, true, b23, true, true, true, b27, b28, _, rfl, rfl, hF.below hC q.2⟩
                    · obtain rfl : b27 = false := ready_self hr
                      obtain rfl : b26 = true := ready_dep hr 26 (by kernel_rfl)
                      obtain rfl : b22 = true := ready_dep hr 22 (by kernel_rfl)
                      refine st_val rfl (by kernel_rfl) (some 159) rfl (.bool false) V (by kernel_rfl) ?_
                      exact ⟨b0, b1, b2, b3, b4, b5, b6, b7, b8, b9, b10, b11, b12, b13, b14, b15, b16, b17, b18, b19, b20, b21, true, b23, b24, b25, true, true, b28, x156, rfl, rfl, hF⟩
                    · obtain rfl : b28 = false := ready_self hr
                      obtain rfl : b22 = true := ready_dep hr 22 (by kernel_rfl)
                      obtain rfl : b27 = true := ready_dep hr 27 (by kernel_rfl)
                      refine st_val rfl (by kernel_rfl) (some 160) rfl (.bool false) V (by kernel_rfl) ?_
                      exact ⟨b0, b1, b2, b3, b4, b5, b6, b7, b8, b9, b10, b11, b12, b13, b14, b15, b16, b17, b18, b19, b20, b21, true, b23, b24, b25, b26, true, true, x156, rfl, rfl, hF⟩
                  · intro act9 V hJ
                    obtain ⟨b0, b1, b2, b3, b4, b5, b6, b7, b8, b9, b10, b11, b12, b13, b14, b15, b16, b17, b18, b19, b20, b21, b22, b23, b24, b25, b26, b27, b28, x156, he, rfl, hF⟩ := hJ
                    have he : (#[true, true, true, true, true, true, true, true, true, true, true, true, true, true, true, true, true, true, true, true, true, true, true, true, true, true, true, true, true] : Array Bool) = #[b0, b1, b2, b3, b4, b5, b6, b7, b8, b9, b10, b11, b12, b13, b14, b15, b16, b17, b18, b19, b20, b21, b22, b23, b24, b25, b26, b27, b28] := he
                    simp only [Array.mk.injEq, List.cons.injEq, and_true] at he
                    obtain ⟨rfl, rfl, rfl, rfl, rfl, rfl, rfl, rfl, rfl, rfl, rfl, rfl, rfl, rfl, rfl, rfl, rfl, rfl, rfl, rfl, rfl, rfl, rfl, rfl, rfl, rfl, rfl, rfl, rfl⟩ := he
                    simp only [cond_true]
                    have HF := Lib.hid (And.intro hF.mp hF.rq)
                    clear hF h0 HSO HLE
                    go_wp2_with fail
                    go_roundg (n + 4 - (N + 4))
                    case measure => have := HG2.out; omega
                    case rel => exact ⟨N + 4, S2, M2, (some ⟨bm, om, none⟩), cm2, rfl, HF.out.1, HF.out.2, hcm2, HW2.out, by first | exact HG2.out.2.2.2 | simp, HG2.out.1, Nat.le_refl _⟩
                · obtain rfl : M2 = [] := List.eq_nil_of_length_eq_zero (by omega)
                  have hdt : decide (0 < ([] : List It).length) = false := rfl
                  rw [hdt]
                  generalize ita [] 0 = y at *
                  clear hdt
                  have h0 : YC R w a n c gs gh (N + 4) S2 [] am2 g19 y false u156 V8.drew := YC.below hC ⟨hM8, hQ8, hbx, fun h => (by cases h)⟩ (Below.refl _ V8).drew
                  clear hM8 hQ8 hbx
                  go_upto_region 35 with fail
                  refine wp_region_inv (fun listed act9 V => ∃ b0 b1 b2 b3 b4 b5 b6 b7 b8 b9 b10 b11 b12 b13 b14 b15 b16 b17 b18 b19 b20 b21 b22 b23 b24 b25 b26 b27 b28 : Bool, ∃ x156 : Value, listed = #[b0, b1, b2, b3, b4, b5, b6, b7, b8, b9, b10, b11, b12, b13, b14, b15, b16, b17, b18, b19, b20, b21, b22, b23, b24, b25, b26, b27, b28] ∧ act9 = { tmps := #[.slice a n c, .slice ar nr cr, undef, undef, u4, .pointer (some ⟨gs, 0, none⟩), .pointer (some ⟨gh, 0, none⟩), .slice am2 0 cm2, undef, u9, u10, u11, .pointer (some ⟨g12, 0, none⟩), u13, u14, u15, u16, u17, u18, .pointer (some ⟨g19, 0, none⟩), .bool false, .slice a n c, .slice (some ⟨w.heap.size, 0, none⟩) 1 1, .bool false, .bool false, .slice ar nr cr, .int .i64 nr, .bool false, .bool false, undef, .slice a n c, .pointer (some ⟨gs, 0, none⟩), .pointer (some ⟨gh, 0, none⟩), .pointer (some ⟨gh, 0, none⟩), .bool false, .slice ar nr cr, .int .i64 nr, .int .i64 j, .bool false, u39, u40, u41, u42, u43, u44, u45, u46, u47, u48, u49, u50, u51, u52, u53, u54, u55, u56, u57, u58, u59, u60, u61, u62, u63, .int .i64 q8, u65, u66, u67, u68, u69, u70, u71, u72, u73, u74, u75, u76, u77, u78, u79, u80, u81, u82, u83, u84, u85, u86, u87, u88, u89, u90, u91, u92, u93, u94, u95, u96, u97, u98, u99, u100, u101, u102, u103, u104, u105, u106, u107, u108, u109, u110, u111, u112, u113, u114, u115, u116, u117, u118, u119, u120, u121, u122, u123, u124, u125, u126, .tuple #[.agg (itA y), .bool false], .pointer (some ⟨gh, 0, none⟩), .tuple #[.agg (itA y), .bool false], .agg (itA y), .bool false, (cond b0 (.bool false) (u132)), (cond b1 (.slice am2 0 cm2) (u133)), (cond b2 (.int .i64 (0 : Nat)) (u134)), (cond b3 (.bool false) (u135)), (cond b4 (.bool false) (u136)), (cond b5 (.bool false) (u137)), (cond b6 (.bool false) (u138)), (cond b7 (.bool false) (u139)), (cond b8 (undef) (u140)), (cond b9 (undef) (u141)), (cond b10 (undef) (u142)), (cond b11 (undef) (u143)), (cond b12 (undef) (u144)), (cond b13 (.bool false) (u145)), (cond b14 (.bool false) (u146)), (cond b15 (.bool false) (u147)), (cond b16 (.pointer (some ⟨gh, 0, none⟩)) (u148)), (cond b17 (.int .i64 (0 : Nat)) (u149)), (cond b18 (.slice am2 0 cm2) (u150)), (cond b19 (.int .i64 (0 : Nat)) (u151)), (cond b20 (.bool false) (u152)), (cond b21 (.bool false) (u153)), (cond b22 (.bool false) (u154)), (cond b23 (.pointer (some ⟨gh, 0, none⟩)) (u155)), x156, (cond b25 (.slice am2 0 cm2) (u157)), (cond b26 (.bool true) (u158)), (cond b27 (.bool false) (u159)), (cond b28 (.bool false) (u160)), undef], defers := [] } ∧ YC R w a n c gs gh (N + 4) S2 [] am2 g19 y b24 x156 V) (by kernel_rfl) (by kernel_rfl) ?_ ?_ ?_
                  · exact ⟨false, false, false, false, false, false, false, false, false, false, false, false, false, false, false, false, false, false, false, false, false, false, false, false, false, false, false, false, false, u156, rfl, rfl, h0⟩
                  · intro i9 listed act9 V hi9 hr hJ
                    obtain ⟨b0, b1, b2, b3, b4, b5, b6, b7, b8, b9, b10, b11, b12, b13, b14, b15, b16, b17, b18, b19, b20, b21, b22, b23, b24, b25, b26, b27, b28, x156, rfl, rfl, hF⟩ := hJ
                    have hi2 : i9 < 29 := hi9
                    have hi3 : i9 = 0 ∨ i9 = 1 ∨ i9 = 2 ∨ i9 = 3 ∨ i9 = 4 ∨ i9 = 5 ∨ i9 = 6 ∨ i9 = 7 ∨ i9 = 8 ∨ i9 = 9 ∨ i9 = 10 ∨ i9 = 11 ∨ i9 = 12 ∨ i9 = 13 ∨ i9 = 14 ∨ i9 = 15 ∨ i9 = 16 ∨ i9 = 17 ∨ i9 = 18 ∨ i9 = 19 ∨ i9 = 20 ∨ i9 = 21 ∨ i9 = 22 ∨ i9 = 23 ∨ i9 = 24 ∨ i9 = 25 ∨ i9 = 26 ∨ i9 = 27 ∨ i9 = 28 := by omega
                    rcases hi3 with rfl | rfl | rfl | rfl | rfl | rfl | rfl | rfl | rfl | rfl | rfl | rfl | rfl | rfl | rfl | rfl | rfl | rfl | rfl | rfl | rfl | rfl | rfl | rfl | rfl | rfl | rfl | rfl | rfl
                    · obtain rfl : b0 = false := ready_self hr
                      refine st_val rfl (by kernel_rfl) (some 132) rfl (.bool false) V (by kernel_rfl) ?_
                      exact ⟨true, b1, b2, b3, b4, b5, b6, b7, b8, b9, b10, b11, b12, b13, b14, b15, b16, b17, b18, b19, b20, b21, b22, b23, b24, b25, b26, b27, b28, x156, rfl, rfl, hF⟩
                    · obtain rfl : b1 = false := ready_self hr
                      refine st_val rfl (by kernel_rfl) (some 133) rfl (.slice am2 0 cm2) V (by kernel_rfl) ?_
                      exact ⟨b0, true, b2, b3, b4, b5, b6, b7, b8, b9, b10, b11, b12, b13, b14, b15, b16, b17, b18, b19, b20, b21, b22, b23, b24, b25, b26, b27, b28, x156, rfl, rfl, hF⟩
                    · obtain rfl : b2 = false := ready_self hr
                      obtain rfl : b1 = true := ready_dep hr 1 (by kernel_rfl)
                      refine st_val rfl (by kernel_rfl) (some 134) rfl (.int .i64 (0 : Nat)) V (by kernel_rfl) ?_
                      exact ⟨b0, true, true, b3, b4, b5, b6, b7, b8, b9, b10, b11, b12, b13, b14, b15, b16, b17, b18, b19, b20, b21, b22, b23, b24, b25, b26, b27, b28, x156, rfl, rfl, hF⟩
                    · obtain rfl : b3 = false := ready_self hr
                      obtain rfl : b2 = true := ready_dep hr 2 (by kernel_rfl)
                      refine st_val rfl (by kernel_rfl) (some 135) rfl (.bool false) V (gtr_i rfl 0 0 (by kernel_rfl) (by kernel_rfl) V) ?_
                      exact ⟨b0, b1, true, true, b4, b5, b6, b7, b8, b9, b10, b11, b12, b13, b14, b15, b16, b17, b18, b19, b20, b21, b22, b23, b24, b25, b26, b27, b28, x156, rfl, rfl, hF⟩
                    · obtain rfl : b4 = false := ready_self hr
                      obtain rfl : b0 = true := ready_dep hr 0 (by kernel_rfl)
                      obtain rfl : b3 = true := ready_dep hr 3 (by kernel_rfl)
                      refine st_val rfl (by kernel_rfl) (some 136) rfl (.bool false) V (neq_bool rfl false (by kernel_rfl) (by kernel_rfl) V) ?_
                      exact ⟨true, b1, b2, true, true, b5, b6, b7, b8, b9, b10, b11, b12, b13, b14, b15, b16, b17, b18, b19, b20, b21, b22, b23, b24, b25, b26, b27, b28, x156, rfl, rfl, hF⟩
                    · obtain rfl : b5 = false := ready_self hr
                      obtain rfl : b4 = true := ready_dep hr 4 (by kernel_rfl)
                      refine st_val rfl (by kernel_rfl) (some 137) rfl (.bool false) V (by kernel_rfl) ?_
                      exact ⟨b0, b1, b2, b3, true, true, b6, b7, b8, b9, b10, b11, b12, b13, b14, b15, b16, b17, b18, b19, b20, b21, b22, b23, b24, b25, b26, b27, b28, x156, rfl, rfl, hF⟩
                    · obtain rfl : b6 = false := ready_self hr
                      obtain rfl : b5 = true := ready_dep hr 5 (by kernel_rfl)
                      refine st_val rfl (by kernel_rfl) (some 138) rfl (.bool false) V (by kernel_rfl) ?_
                      exact ⟨b0, b1, b2, b3, b4, true, true, b7, b8, b9, b10, b11, b12, b13, b14, b15, b16, b17, b18, b19, b20, b21, b22, b23, b24, b25, b26, b27, b28, x156, rfl, rfl, hF⟩
                    · obtain rfl : b7 = false := ready_self hr
                      obtain rfl : b6 = true := ready_dep hr 6 (by kernel_rfl)
                      obtain rfl : b5 = true := ready_dep hr 5 (by kernel_rfl)
                      refine st_val rfl (by kernel_rfl) (some 139) rfl (.bool false) V (by kernel_rfl) ?_
                      exact ⟨b0, b1, b2, b3, b4, true, true, true, b8, b9, b10, b11, b12, b13, b14, b15, b16, b17, b18, b19, b20, b21, b22, b23, b24, b25, b26, b27, b28, x156, rfl, rfl, hF⟩
                    · obtain rfl : b8 = false := ready_self hr
                      obtain rfl : b7 = true := ready_dep hr 7 (by kernel_rfl)
                      with_reducible refine st_not rfl (by kernel_rfl) ?_
                      exact ⟨b0, b1, b2, b3, b4, b5, b6, true, true, b9, b10, b11, b12, b13, b14, b15, b16, b17, b18, b19, b20, b21, b22, b23, b24, b25, b26, b27, b28, x156, rfl, rfl, hF⟩
                    · obtain rfl : b9 = false := ready_self hr
                      obtain rfl : b7 = true := ready_dep hr 7 (by kernel_rfl)
                      with_reducible refine st_not rfl (by kernel_rfl) ?_
                      exact ⟨b0, b1, b2, b3, b4, b5, b6, true, b8, true, b10, b11, b12, b13, b14, b15, b16, b17, b18, b19, b20, b21, b22, b23, b24, b25, b26, b27, b28, x156, rfl, rfl, hF⟩
                    · obtain rfl : b10 = false := ready_self hr
                      obtain rfl : b7 = true := ready_dep hr 7 (by kernel_rfl)
                      with_reducible refine st_not rfl (by kernel_rfl) ?_
                      exact ⟨b0, b1, b2, b3, b4, b5, b6, true, b8, b9, true, b11, b12, b13, b14, b15, b16, b17, b18, b19, b20, b21, b22, b23, b24, b25, b26, b27, b28, x156, rfl, rfl, hF⟩
                    · obtain rfl : b11 = false := ready_self hr
                      obtain rfl : b7 = true := ready_dep hr 7 (by kernel_rfl)
                      with_reducible refine st_not rfl (by kernel_rfl) ?_
                      exact ⟨b0, b1, b2, b3, b4, b5, b6, true, b8, b9, b10, true, b12, b13, b14, b15, b16, b17, b18, b19, b20, b21, b22, b23, b24, b25, b26, b27, b28, x156, rfl, rfl, hF⟩
                    · obtain rfl : b12 = false := ready_self hr
                      obtain rfl : b7 = true := ready_dep hr 7 (by kernel_rfl)
                      with_reducible refine st_not rfl (by kernel_rfl) ?_
                      exact ⟨b0, b1, b2, b3, b4, b5, b6, true, b8, b9, b10, b11, true, b13, b14, b15, b16, b17, b18, b19, b20, b21, b22, b23, b24, b25, b26, b27, b28, x156, rfl, rfl, hF⟩
                    · obtain rfl : b13 = false := ready_self hr
                      obtain rfl : b7 = true := ready_dep hr 7 (by kernel_rfl)
                      obtain rfl : b12 = true := ready_dep hr 12 (by kernel_rfl)
                      obtain rfl : b5 = true := ready_dep hr 5 (by kernel_rfl)
                      refine st_val rfl (by kernel_rfl) (some 145) rfl (.bool false) V (by kernel_rfl) ?_
                      exact ⟨b0, b1, b2, b3, b4, true, b6, true, b8, b9, b10, b11, true, true, b14, b15, b16, b17, b18, b19, b20, b21, b22, b23, b24, b25, b26, b27, b28, x156, rfl, rfl, hF⟩
                    · obtain rfl : b14 = false := ready_self hr
                      obtain rfl : b5 = true := ready_dep hr 5 (by kernel_rfl)
                      obtain rfl : b13 = true := ready_dep hr 13 (by kernel_rfl)
                      refine st_val rfl (by kernel_rfl) (some 146) rfl (.bool false) V (by kernel_rfl) ?_
                      exact ⟨b0, b1, b2, b3, b4, true, b6, b7, b8, b9, b10, b11, b12, true, true, b15, b16, b17, b18, b19, b20, b21, b22, b23, b24, b25, b26, b27, b28, x156, rfl, rfl, hF⟩
                    · obtain rfl : b15 = false := ready_self hr
                      obtain rfl : b14 = true := ready_dep hr 14 (by kernel_rfl)
                      refine st_val rfl (by kernel_rfl) (some 147) rfl (.bool false) V (by kernel_rfl) ?_
                      exact ⟨b0, b1, b2, b3, b4, b5, b6, b7, b8, b9, b10, b11, b12, b13, true, true, b16, b17, b18, b19, b20, b21, b22, b23, b24, b25, b26, b27, b28, x156, rfl, rfl, hF⟩
                    · obtain rfl : b16 = false := ready_self hr
                      obtain rfl : b15 = true := ready_dep hr 15 (by kernel_rfl)
                      refine st_val rfl (by kernel_rfl) (some 148) rfl (.pointer (some ⟨gh, 0, none⟩)) V (by kernel_rfl) ?_
                      exact ⟨b0, b1, b2, b3, b4, b5, b6, b7, b8, b9, b10, b11, b12, b13, b14, true, true, b17, b18, b19, b20, b21, b22, b23, b24, b25, b26, b27, b28, x156, rfl, rfl, hF⟩
                    · obtain rfl : b17 = false := ready_self hr
                      obtain rfl : b16 = true := ready_dep hr 16 (by kernel_rfl)
                      obtain rfl : b15 = true := ready_dep hr 15 (by kernel_rfl)
                      refine st_call rfl (by kernel_rfl) (some 149) rfl 21 #[.pointer (some ⟨gh, 0, none⟩)] (by kernel_rfl) ((HLE.out V hF.mp.r).mono fun e w' q => ?_)
                      exact ⟨_, q.1, b0, b1, b2, b3, b4, b5, b6, b7, b8, b9, b10, b11, b12, b13, b14, true, true, true, b18, b19, b20, b21, b22, b23, b24, b25, b26, b27, b28, x156, rfl, rfl, hF.below hC q.2⟩
                    · obtain rfl : b18 = false := ready_self hr
                      obtain rfl : b15 = true := ready_dep hr 15 (by kernel_rfl)
                      refine st_val rfl (by kernel_rfl) (some 150) rfl (.slice am2 0 cm2) V (by kernel_rfl) ?_
                      exact ⟨b0, b1, b2, b3, b4, b5, b6, b7, b8, b9, b10, b11, b12, b13, b14, true, b16, b17, true, b19, b20, b21, b22, b23, b24, b25, b26, b27, b28, x156, rfl, rfl, hF⟩
                    · obtain rfl : b19 = false := ready_self hr
                      obtain rfl : b18 = true := ready_dep hr 18 (by kernel_rfl)
                      obtain rfl : b15 = true := ready_dep hr 15 (by kernel_rfl)
                      refine st_val rfl (by kernel_rfl) (some 151) rfl (.int .i64 (0 : Nat)) V (by kernel_rfl) ?_
                      exact ⟨b0, b1, b2, b3, b4, b5, b6, b7, b8, b9, b10, b11, b12, b13, b14, true, b16, b17, true, true, b20, b21, b22, b23, b24, b25, b26, b27, b28, x156, rfl, rfl, hF⟩
                    · obtain rfl : b20 = false := ready_self hr
                      obtain rfl : b17 = true := ready_dep hr 17 (by kernel_rfl)
                      obtain rfl : b19 = true := ready_dep hr 19 (by kernel_rfl)
                      obtain rfl : b15 = true := ready_dep hr 15 (by kernel_rfl)
                      refine st_val rfl (by kernel_rfl) (some 152) rfl (.bool false) V (neq_k rfl (0 : Nat) (by kernel_rfl) (by kernel_rfl) V) ?_
                      exact ⟨b0, b1, b2, b3, b4, b5, b6, b7, b8, b9, b10, b11, b12, b13, b14, true, b16, true, b18, true, true, b21, b22, b23, b24, b25, b26, b27, b28, x156, rfl, rfl, hF⟩
                    · obtain rfl : b21 = false := ready_self hr
                      obtain rfl : b15 = true := ready_dep hr 15 (by kernel_rfl)
                      obtain rfl : b20 = true := ready_dep hr 20 (by kernel_rfl)
                      refine st_val rfl (by kernel_rfl) (some 153) rfl (.bool false) V (by kernel_rfl) ?_
                      exact ⟨b0, b1, b2, b3, b4, b5, b6, b7, b8, b9, b10, b11, b12, b13, b14, true, b16, b17, b18, b19, true, true, b22, b23, b24, b25, b26, b27, b28, x156, rfl, rfl, hF⟩
                    · obtain rfl : b22 = false := ready_self hr
                      obtain rfl : b21 = true := ready_dep hr 21 (by kernel_rfl)
                      refine st_val rfl (by kernel_rfl) (some 154) rfl (.bool false) V (by kernel_rfl) ?_
                      exact ⟨b0, b1, b2, b3, b4, b5, b6, b7, b8, b9, b10, b11, b12, b13, b14, b15, b16, b17, b18, b19, b20, true, true, b23, b24, b25, b26, b27, b28, x156, rfl, rfl, hF⟩
                    · obtain rfl : b23 = false := ready_self hr
                      obtain rfl : b22 = true := ready_dep hr 22 (by kernel_rfl)
                      refine st_val rfl (by kernel_rfl) (some 155) rfl (.pointer (some ⟨gh, 0, none⟩)) V (by kernel_rfl) ?_
                      exact ⟨b0, b1, b2, b3, b4, b5, b6, b7, b8, b9, b10, b11, b12, b13, b14, b15, b16, b17, b18, b19, b20, b21, true, true, b24, b25, b26, b27, b28, x156, rfl, rfl, hF⟩
                    · obtain rfl : b24 = false := ready_self hr
                      obtain rfl : b23 = true := ready_dep hr 23 (by kernel_rfl)
                      obtain rfl : b22 = true := ready_dep hr 22 (by kernel_rfl)
                      refine st_call rfl (by kernel_rfl) (some 156) rfl 23 #[.pointer (some ⟨gh, 0, none⟩)] (by kernel_rfl) ((HSO.out V hF.mp.r).mono fun e w' q => ?_)
                      obtain ⟨ak, ck, he, h1, -, h2⟩ := q
                      have hF2 := hF.below hC h2
                      exact ⟨_, he, b0, b1, b2, b3, b4, b5, b6, b7, b8, b9, b10, b11, b12, b13, b14, b15, b16, b17, b18, b19, b20, b21, true, true, true, b25, b26, b27, b28, _, rfl, rfl, ⟨hF2.mp, hF2.rq, hF2.xb, fun _ => ⟨ak, ck, rfl, h1⟩⟩⟩
                    · obtain rfl : b25 = false := ready_self hr
                      obtain rfl : b22 = true := ready_dep hr 22 (by kernel_rfl)
                      refine st_val rfl (by kernel_rfl) (some 157) rfl (.slice am2 0 cm2) V (by kernel_rfl) ?_
                      exact ⟨b0, b1, b2, b3, b4, b5, b6, b7, b8, b9, b10, b11, b12, b13, b14, b15, b16, b17, b18, b19, b20, b21, true, b23, b24, true, b26, b27, b28, x156, rfl, rfl, hF⟩
                    · obtain rfl : b26 = false := ready_self hr
                      obtain rfl : b24 = true := ready_dep hr 24 (by kernel_rfl)
                      obtain rfl : b25 = true := ready_dep hr 25 (by kernel_rfl)
                      obtain rfl : b22 = true := ready_dep hr 22 (by kernel_rfl)
                      obtain ⟨ak, ck, rfl, hk⟩ := hF.kx rfl
                      refine st_call rfl (by kernel_rfl) (some 158) rfl 22 #[.slice ak (0 : Nat) ck, .slice am2 0 cm2] (by kernel_rfl) ((ref_same ak am2 ck cm2 [] V hk hF.rq.cs (by first | omega | simp)).mono fun e w' q => ?_)
                      exact ⟨_, q.1, b0, b1, b2, b3, b4, b5, b6, b7, b8, b9, b10, b11, b12, b13, b14, b15, b16, b17, b18, b19, b20, b21, true, b23, true, true, true, b27, b28, _, rfl, rfl, hF.below hC q.2⟩
                    · obtain rfl : b27 = false := ready_self hr
                      obtain rfl : b26 = true := ready_dep hr 26 (by kernel_rfl)
                      obtain rfl : b22 = true := ready_dep hr 22 (by kernel_rfl)
                      refine st_val rfl (by kernel_rfl) (some 159) rfl (.bool false) V (by kernel_rfl) ?_
                      exact ⟨b0, b1, b2, b3, b4, b5, b6, b7, b8, b9, b10, b11, b12, b13, b14, b15, b16, b17, b18, b19, b20, b21, true, b23, b24, b25, true, true, b28, x156, rfl, rfl, hF⟩
                    · obtain rfl : b28 = false := ready_self hr
                      obtain rfl : b22 = true := ready_dep hr 22 (by kernel_rfl)
                      obtain rfl : b27 = true := ready_dep hr 27 (by kernel_rfl)
                      refine st_val rfl (by kernel_rfl) (some 160) rfl (.bool false) V (by kernel_rfl) ?_
                      exact ⟨b0, b1, b2, b3, b4, b5, b6, b7, b8, b9, b10, b11, b12, b13, b14, b15, b16, b17, b18, b19, b20, b21, true, b23, b24, b25, b26, true, true, x156, rfl, rfl, hF⟩
                  · intro act9 V hJ
                    obtain ⟨b0, b1, b2, b3, b4, b5, b6, b7, b8, b9, b10, b11, b12, b13, b14, b15, b16, b17, b18, b19, b20, b21, b22, b23, b24, b25, b26, b27, b28, x156, he, rfl, hF⟩ := hJ
                    have he : (#[true, true, true, true, true, true, true, true, true, true, true, true, true, true, true, true, true, true, true, true, true, true, true, true, true, true, true, true, true] : Array Bool) = #[b0, b1, b2, b3, b4, b5, b6, b7, b8, b9, b10, b11, b12, b13, b14, b15, b16, b17, b18, b19, b20, b21, b22, b23, b24, b25, b26, b27, b28] := he
                    simp only [Array.mk.injEq, List.cons.injEq, and_true] at he
                    obtain ⟨rfl, rfl, rfl, rfl, rfl, rfl, rfl, rfl, rfl, rfl, rfl, rfl, rfl, rfl, rfl, rfl, rfl, rfl, rfl, rfl, rfl, rfl, rfl, rfl, rfl, rfl, rfl, rfl, rfl⟩ := he
                    simp only [cond_true]
                    have HF := Lib.hid (And.intro hF.mp hF.rq)
                    clear hF h0 HSO HLE
                    go_wp2_with fail
                    go_roundg (n + 4 - (N + 4))
                    case measure => have := HG2.out; omega
                    case rel => exact ⟨N + 4, S2, [], am2, cm2, rfl, HF.out.1, HF.out.2, hcm2, HW2.out, by first | exact HG2.out.2.2.2 | simp, HG2.out.1, Nat.le_refl _⟩
            · have HD : Hid (decide (N < n) = false) := Lib.hid (decide_eq_false hlt)
              go_upto_region 16 with fail
              apply wp_region_lit
              refine gw_val (by kernel_rfl) (some 54) rfl (.pointer (some ⟨gs, 0, none⟩)) (by kernel_rfl) ?_
              simp only [Act.put, List.setIfInBounds_toArray, List.set_cons_succ, List.set_cons_zero]
              refine gw_val (by kernel_rfl) (some 55) rfl (.pointer (some ⟨gs, 0, none⟩)) (by kernel_rfl) ?_
              simp only [Act.put, List.setIfInBounds_toArray, List.set_cons_succ, List.set_cons_zero]
              refine gw_val (by kernel_rfl) (some 56) rfl (.pointer (some ⟨gs, 1, none⟩)) (by kernel_rfl) ?_
              simp only [Act.put, List.setIfInBounds_toArray, List.set_cons_succ, List.set_cons_zero]
              refine gw_load (by kernel_rfl) (some 57) rfl 3 (.tmp 56) rfl ⟨gs, 1, none⟩ (.int .i64 N) (by kernel_rfl) (hM.num.load (i := 1) rfl (by kernel_rfl)) ?_
              simp only [Act.put, List.setIfInBounds_toArray, List.set_cons_succ, List.set_cons_zero]
              refine gw_val (by kernel_rfl) (some 58) rfl (.slice a n c) (by kernel_rfl) ?_
              simp only [Act.put, List.setIfInBounds_toArray, List.set_cons_succ, List.set_cons_zero]
              refine gw_val (by kernel_rfl) (some 59) rfl (.int .i64 n) (by kernel_rfl) ?_
              simp only [Act.put, List.setIfInBounds_toArray, List.set_cons_succ, List.set_cons_zero]
              refine gw_val (by kernel_rfl) (some 60) rfl (.bool false) (by rw [← HD.out]; exact lt_nat rfl N n (by kernel_rfl) (by kernel_rfl) _) ?_
              simp only [Act.put, List.setIfInBounds_toArray, List.set_cons_succ, List.set_cons_zero]
              apply wpList_nil
              have HBW := Lib.hid hM.bel
              clear hM hQ hW hg hcm hMN HIT HNX
              go_upto_region 37 with fail
              apply wp_region_lit
              refine gw_call (by kernel_rfl) (some 161) rfl 8 #[] (.bool true) (fun w' => Below wr.heap.size wr w') (by kernel_rfl) (HK.out wr) (fun V6 hb6 => ?_)
              simp only [Act.put, List.setIfInBounds_toArray, List.set_cons_succ, List.set_cons_zero]
              refine gw_val (by kernel_rfl) (some 4) rfl (.bool true) (by kernel_rfl) ?_
              simp only [Act.put, List.setIfInBounds_toArray, List.set_cons_succ, List.set_cons_zero]
              apply wpList_nil
              have HE := Lib.hid (HBW.out.trans (hb6.mono HBW.out.size))
              clear hb6 HK
              go_wp2_with fail
              go_ret
              exact ⟨rfl, HE.out⟩
end Go.Proofs.Ytepdibnbnhkpnaa
