/-
  The walk of the statement on sequences of calls of a cache, over what the program's functions are held to.
-/
import Derived.Test.YtjblfpifhbmfoaaCM
namespace Go.Proofs.Ytjblfpifhbmfoaa
open Go.RowKit
set_option linter.unusedSimpArgs false
set_option linter.unusedVariables false

theorem drop_len (Ks : List (List Int)) (k : List Int) : (dropM Ks k).1.length ≤ Ks.length := by
  unfold dropM
  split
  · exact Nat.le_refl _
  · show (Ks.take _ ++ Ks.drop _).length ≤ _
    rw [List.length_append, List.length_take, List.length_drop]
    omega
theorem push_len (Ks : List (List Int)) (z : Nat) (k : List Int) : (pushZ Ks z k).1.length ≤ Ks.length + 1 := by
  unfold pushZ
  split
  · show (if z < Ks.length + 1 then (Ks ++ [k]).drop 1 else Ks ++ [k]).length ≤ _
    split
    · rw [List.length_drop, List.length_append]; simp
    · simp
  · show (Ks.take _ ++ Ks.drop _ ++ [k]).length ≤ _
    rw [List.length_append, List.length_append, List.length_take, List.length_drop]
    simp
    omega
set_option maxRecDepth 100000 in
set_option maxHeartbeats 8000000 in
theorem plays_core {R : CRep} (hC : CacheC R 11 17 14 21 19 20 15) (a : Option Addr) (c : Nat) (L0 : List Int) (size : Int) (w : World) (hL : Cs w a (icells L0)) (hl : L0.length ≤ 9223372036854775807) (hsz : I64 size) :
    Calls Try.prog 3 #[.slice a L0.length c, .int .i64 size] w fun e w' => e = .returned (.bool true) ∧ Below w.heap.size w w' := by
  have hb1 : Below w.heap.size w (w.alloc (.cells #[.slice a L0.length c] 22)) := (Below.refl _ w).alloc (Nat.le_refl _) _
  have hX1 : Bx (w.alloc (.cells #[.slice a L0.length c] 22)) w.heap.size #[.slice a L0.length c] 22 := heap_alloc_last w _
  have CLn := long_one w.heap.size a L0.length c _ hX1 hl
  have CK := fun V => known_true hC V
  have HL := Lib.hid hL
  obtain ⟨n, hn⟩ : ∃ n, L0.length = n := ⟨_, rfl⟩
  by_cases hm : 160 < L0.length
  · have hd : decide ((160 : Int) < (L0.length : Int)) = true := decide_eq_true (by omega)
    rw [hd] at CLn
    rw [hn] at hb1 CLn ⊢
    clear hX1 hL hd HL
    go_enter Try.func3, Try.ntmps3
    go_upto_region 1 with fail
    apply wp_region_lit
    refine gw_val (by kernel_rfl) (some 14) rfl (.slice a n c) (by kernel_rfl) ?_
    simp only [Act.put, List.setIfInBounds_toArray, List.set_cons_succ, List.set_cons_zero]
    refine gw_build (by kernel_rfl) (some 15) rfl 50 1 #[(0, .tmp 14)] rfl #[(0, .slice a n c)] (by kernel_rfl) (.slice (some ⟨w.heap.size, 0, none⟩) 1 1) _ (one_row a n c w) ?_
    simp only [Act.put, List.setIfInBounds_toArray, List.set_cons_succ, List.set_cons_zero]
    generalize w.alloc (.cells #[.slice a n c] 22) = W1 at *
    refine gw_call (by kernel_rfl) (some 16) rfl 7 #[.slice (some ⟨w.heap.size, 0, none⟩) 1 1] (.bool true) (fun w' => W1 = w') (by kernel_rfl) CLn (fun W2 hW => ?_)
    subst hW
    simp only [Act.put, List.setIfInBounds_toArray, List.set_cons_succ, List.set_cons_zero]
    apply wpList_nil
    clear CLn hl hm hn
    go_upto_region 2 with fail
    have CK1 := CK W1
    apply wp_region_lit
    refine gw_call (by kernel_rfl) (some 17) rfl 8 #[] (.bool true) (fun w' => Below W1.heap.size W1 w') (by kernel_rfl) CK1 (fun W2 hW => ?_)
    simp only [Act.put, List.setIfInBounds_toArray, List.set_cons_succ, List.set_cons_zero]
    refine gw_val (by kernel_rfl) (some 4) rfl (.bool true) (by kernel_rfl) ?_
    simp only [Act.put, List.setIfInBounds_toArray, List.set_cons_succ, List.set_cons_zero]
    apply wpList_nil
    have HB := Lib.hid (hb1.trans (hW.mono hb1.size))
    clear hb1 hW CK CK1
    go_wp2_with fail
    go_ret
    exact ⟨rfl, HB.out⟩
  · have hd : decide ((160 : Int) < (L0.length : Int)) = false := decide_eq_false (by omega)
    rw [hd] at CLn
    have hn160 : L0.length ≤ 160 := by omega
    have CX := fun (gs N : Nat) (k : Int) (V : World) (hX : Bx V gs #[.slice a L0.length c, .int .i64 N] 32) (hb : Below w.heap.size w V) (hN : N ≤ 100000) (h0 : 0 < k) (h1 : k ≤ 1000000) => mk_next gs L0 a c N k V hX (HL.out.below hb) (by omega) hN h0 h1
    have CF := mk_from a L0.length c
    rw [hn] at hb1 CLn CX CF hn160 ⊢
    clear hX1 hL hd HL
    go_enter Try.func3, Try.ntmps3
    go_upto_region 1 with fail
    apply wp_region_lit
    refine gw_val (by kernel_rfl) (some 14) rfl (.slice a n c) (by kernel_rfl) ?_
    simp only [Act.put, List.setIfInBounds_toArray, List.set_cons_succ, List.set_cons_zero]
    refine gw_build (by kernel_rfl) (some 15) rfl 50 1 #[(0, .tmp 14)] rfl #[(0, .slice a n c)] (by kernel_rfl) (.slice (some ⟨w.heap.size, 0, none⟩) 1 1) _ (one_row a n c w) ?_
    simp only [Act.put, List.setIfInBounds_toArray, List.set_cons_succ, List.set_cons_zero]
    generalize w.alloc (.cells #[.slice a n c] 22) = W1 at *
    refine gw_call (by kernel_rfl) (some 16) rfl 7 #[.slice (some ⟨w.heap.size, 0, none⟩) 1 1] (.bool false) (fun w' => W1 = w') (by kernel_rfl) CLn (fun W2 hW => ?_)
    subst hW
    simp only [Act.put, List.setIfInBounds_toArray, List.set_cons_succ, List.set_cons_zero]
    apply wpList_nil
    clear CLn hl hm
    go_upto_region 3 with fail
    apply wp_region_lit
    refine gw_val (by kernel_rfl) (some 18) rfl (.slice a n c) (by kernel_rfl) ?_
    simp only [Act.put, List.setIfInBounds_toArray, List.set_cons_succ, List.set_cons_zero]
    refine gw_call (by kernel_rfl) (some 19) rfl 9 #[.slice a n c] (.pointer (some ⟨W1.heap.size, 0, none⟩)) (fun w' => w' = W1.alloc (.cells #[.slice a n c, .int .i64 0] 32)) (by kernel_rfl) (CF W1) (fun W3 hW3 => ?_)
    simp only [Act.put, List.setIfInBounds_toArray, List.set_cons_succ, List.set_cons_zero]
    refine gw_val (by kernel_rfl) (some 5) rfl (.pointer (some ⟨W1.heap.size, 0, none⟩)) (by kernel_rfl) ?_
    simp only [Act.put, List.setIfInBounds_toArray, List.set_cons_succ, List.set_cons_zero]
    apply wpList_nil
    have hb3 : Below W1.heap.size W1 W3 := by rw [hW3]; exact (Below.refl _ W1).alloc (Nat.le_refl _) _
    have hX3 : Bx W3 W1.heap.size #[.slice a n c, .int .i64 (0 : Nat)] 32 := by rw [hW3]; exact heap_alloc_last W1 _
    have hB3 := hb1.trans (hb3.mono hb1.size)
    have hgs := hb1.size
    clear hb1 hb3 hW3 CF
    generalize W1.heap.size = gs at *
    have C1 := CX gs 0 7 W3 hX3 hB3 (by omega) (by omega) (by omega)
    have hp1 := pl_range (L0.getD 0 0) 7 (by omega)
    generalize pl (L0.getD 0 0) 7 = v7 at *
    go_upto_region 4 with fail
    apply wp_region_lit
    refine gw_val (by kernel_rfl) (some 20) rfl (.int .i64 size) (by kernel_rfl) ?_
    simp only [Act.put, List.setIfInBounds_toArray, List.set_cons_succ, List.set_cons_zero]
    refine gw_val (by kernel_rfl) (some 21) rfl (.pointer (some ⟨gs, 0, none⟩)) (by kernel_rfl) ?_
    simp only [Act.put, List.setIfInBounds_toArray, List.set_cons_succ, List.set_cons_zero]
    refine gw_call (by kernel_rfl) (some 22) rfl 10 #[.pointer (some ⟨gs, 0, none⟩), .int .i64 7] (.int .i64 v7) (fun w' => But gs W3 w' ∧ Bx w' gs #[.slice a n c, .int .i64 (0 + 1 : Nat)] 32) (by kernel_rfl) C1 (fun W4 hq => ?_)
    simp only [Act.put, List.setIfInBounds_toArray, List.set_cons_succ, List.set_cons_zero]
    obtain ⟨hb4, hX4⟩ := hq
    have hB4 := hB3.trans (hb4.1.mono hgs)
    clear hb4 C1 hB3 hX3
    have hb5 : Below W4.heap.size W4 (W4.alloc (.cells #[.int .i64 size, .int .i64 v7, .int .i64 (-3), .int .i64 0, .int .i64 1] 3)) := (Below.refl _ W4).alloc (Nat.le_refl _) _
    have hX5 := hX4.below hX4.lt hb5
    have hC5 : Cs (W4.alloc (.cells #[.int .i64 size, .int .i64 v7, .int .i64 (-3), .int .i64 0, .int .i64 1] 3)) (some ⟨W4.heap.size, 0, none⟩) (icells [size, v7, -3, 0, 1]) := Cs.block (t := 3) (fr := (0, 0)) (heap_alloc_last W4 _)
    have hB5 := hB4.trans (hb5.mono hB4.size)
    have hg4 := hX4.lt
    refine gw_build (by kernel_rfl) (some 23) rfl 22 5 #[(0, .tmp 20), (1, .tmp 22), (2, .const (.int .i64 (-3))), (3, .const (.int .i64 0)), (4, .const (.int .i64 1))] rfl #[(0, .int .i64 size), (1, .int .i64 v7), (2, .int .i64 (-3)), (3, .int .i64 0), (4, .int .i64 1)] (by kernel_rfl) (.slice (some ⟨W4.heap.size, 0, none⟩) 5 5) _ (five_int size v7 (-3) 0 1 W4) ?_
    simp only [Act.put, List.setIfInBounds_toArray, List.set_cons_succ, List.set_cons_zero]
    generalize W4.alloc (.cells #[.int .i64 size, .int .i64 v7, .int .i64 (-3), .int .i64 0, .int .i64 1] 3) = W5 at *
    generalize W4.heap.size = g5 at *
    have C2 := CX gs (0 + 1) 5 W5 hX5 hB5 (by omega) (by omega) (by omega)
    have hp2 := pl_range (L0.getD (0 + 1) 0) 5 (by omega)
    generalize pl (L0.getD (0 + 1) 0) 5 = i0 at *
    obtain ⟨i5, rfl⟩ := Int.eq_ofNat_of_zero_le hp2.1
    have hi5 : i5 < 5 := by omega
    have hs64 : I64 ([size, v7, -3, 0, 1].getD i5 0) := by
      rcases (show i5 = 0 ∨ i5 = 1 ∨ i5 = 2 ∨ i5 = 3 ∨ i5 = 4 by omega) with rfl | rfl | rfl | rfl | rfl
      · exact hsz
      · show I64 v7; exact ⟨by omega, by omega⟩
      · show I64 (-3); exact ⟨by omega, by omega⟩
      · show I64 0; exact ⟨by omega, by omega⟩
      · show I64 1; exact ⟨by omega, by omega⟩
    have hg5 : g5 ≠ gs := by omega
    refine gw_val (by kernel_rfl) (some 24) rfl (.pointer (some ⟨gs, 0, none⟩)) (by kernel_rfl) ?_
    simp only [Act.put, List.setIfInBounds_toArray, List.set_cons_succ, List.set_cons_zero]
    refine gw_call (by kernel_rfl) (some 25) rfl 10 #[.pointer (some ⟨gs, 0, none⟩), .int .i64 5] (.int .i64 i5) (fun w' => But gs W5 w' ∧ Bx w' gs #[.slice a n c, .int .i64 (0 + 1 + 1 : Nat)] 32) (by kernel_rfl) C2 (fun W6 hq => ?_)
    simp only [Act.put, List.setIfInBounds_toArray, List.set_cons_succ, List.set_cons_zero]
    obtain ⟨hb6, hX6⟩ := hq
    have hC6 := hC5.but hb6 fun x hx => (by simp only [Option.some.injEq] at hx; rw [← hx]; exact hg5)
    have hB6 := hB5.trans (hb6.1.mono hgs)
    obtain ⟨b9, o9, e9, -, hc9⟩ := int_at hC6 (k := i5) (by simpa using hi5)
    simp only [Option.some.injEq, Addr.mk.injEq, and_true] at e9
    obtain ⟨rfl, rfl⟩ := e9
    generalize [size, v7, -3, 0, 1].getD i5 0 = sz at *
    clear hb6 hX5 hC5 hB5 C2 hC6 hp1 hp2 hX4 hB4 hb5 hsz
    refine gw_val (by kernel_rfl) (some 26) rfl (.pointer (some ⟨g5, 0 + i5, none⟩)) (idx_int g5 0 5 5 i5 hi5 _ _ _ rfl (by kernel_rfl) (by kernel_rfl)) ?_
    simp only [Act.put, List.setIfInBounds_toArray, List.set_cons_succ, List.set_cons_zero]
    refine gw_load (by kernel_rfl) (some 27) rfl 3 (.tmp 26) rfl ⟨g5, 0 + i5, none⟩ (.int .i64 sz) (by kernel_rfl) (load_cell hc9 (by kernel_rfl)) ?_
    simp only [Act.put, List.setIfInBounds_toArray, List.set_cons_succ, List.set_cons_zero]
    refine gw_val (by kernel_rfl) (some 6) rfl (.int .i64 sz) (by kernel_rfl) ?_
    simp only [Act.put, List.setIfInBounds_toArray, List.set_cons_succ, List.set_cons_zero]
    apply wpList_nil
    have CN := hC.new W6 sz hs64
    clear hc9 hs64
    go_upto_region 5 with fail
    apply wp_region_lit
    refine gw_val (by kernel_rfl) (some 28) rfl (.int .i64 sz) (by kernel_rfl) ?_
    simp only [Act.put, List.setIfInBounds_toArray, List.set_cons_succ, List.set_cons_zero]
    refine gw_callE (by kernel_rfl) (some 29) rfl 11 #[.int .i64 sz] (fun v w' => ∃ g S, v = .pointer (some ⟨g, 0, none⟩) ∧ R w' g S (capN sz).toNat [] ∧ (∀ k, S k → W6.heap.size ≤ k) ∧ Below W6.heap.size W6 w') (by kernel_rfl) (CN.mono fun e w' h => by obtain ⟨g, S, he, h⟩ := h; exact ⟨_, he, g, S, rfl, h⟩) (fun v W7 hq => ?_)
    obtain ⟨gc, S0, rfl, hr7, hs7, hb7⟩ := hq
    simp only [Act.put, List.setIfInBounds_toArray, List.set_cons_succ, List.set_cons_zero]
    refine gw_val (by kernel_rfl) (some 7) rfl (.pointer (some ⟨gc, 0, none⟩)) (by kernel_rfl) ?_
    simp only [Act.put, List.setIfInBounds_toArray, List.set_cons_succ, List.set_cons_zero]
    apply wpList_nil
    have hM0 : MP R w a n c gs gc 2 S0 (capN sz).toNat [] W7 :=
      { bel := hB6.trans (hb7.mono hB6.size), num := hX6.below hX6.lt hb7, r := hr7
        so := fun k hk => ⟨Nat.le_trans hB6.size (hs7 k hk), by have := hs7 k hk; have := hX6.lt; omega⟩, gsw := hgs }
    have hz := capN_range sz
    have hwc : Wc (capN sz).toNat [] := Wc.nil (by omega)
    have hq0 : RQ W7 S0 gs none [] := ⟨Cs.nil _ _, fun x hx => (by cases hx)⟩
    have hPZ := fun Ks k => pushK_Z Ks sz k
    generalize (capN sz).toNat = z at *
    clear hX6 hB6 hb7 hr7 hs7 hz CN hgs
    go_upto_region 6 with fail
    apply wp_region_lit
    refine gw_val (by kernel_rfl) (some 30) rfl (.pointer (some ⟨gc, 0, none⟩)) (by kernel_rfl) ?_
    simp only [Act.put, List.setIfInBounds_toArray, List.set_cons_succ, List.set_cons_zero]
    refine gw_val (by kernel_rfl) (some 31) rfl (.bool false) (by kernel_rfl) ?_
    simp only [Act.put, List.setIfInBounds_toArray, List.set_cons_succ, List.set_cons_zero]
    apply wpList_nil
    go_upto_region 8 with fail
    apply wp_region_lit
    refine gw_val (by kernel_rfl) (some 8) rfl (.slice none 0 0) (by kernel_rfl) ?_
    simp only [Act.put, List.setIfInBounds_toArray, List.set_cons_succ, List.set_cons_zero]
    apply wpList_nil
    go_wp2_with fail
    go_loopg [8] (n + 3) (fun gg s8 wx => ∃ N S Ks am cm, s8 = .slice am (List.length Ks) cm ∧ MP R w a n c gs gc N S z Ks wx ∧ RQ wx S gs am Ks ∧ Ks.length ≤ cm ∧ Wc z Ks ∧ Ks.length ≤ N ∧ N ≤ n + 3 ∧ n + 3 - N ≤ gg)
    case atStart => exact ⟨2, S0, [], none, 0, rfl, hM0, hq0, Nat.le_refl _, hwc, by simp, by omega, by omega⟩
    case round =>
      obtain ⟨N, S, Ks, am, cm, rfl, hM, hQ, hcm, hW, hKN, hN, hg⟩ := hrel
      clear hM0 hq0 hwc
      by_cases hlt : N < n
      · have hd : decide (N < n) = true := decide_eq_true hlt
        have hN9 : N + 3 ≤ 163 := by omega
        have HG : Hid (0 < gk ∧ n + 3 - N ≤ gk ∧ N < n) := Lib.hid ⟨by omega, hg, hlt⟩
        clear hg
        go_upto_region 9 with fail
        apply wp_region_lit
        refine gw_val (by kernel_rfl) (some 32) rfl (.pointer (some ⟨gs, 0, none⟩)) (by kernel_rfl) ?_
        simp only [Act.put, List.setIfInBounds_toArray, List.set_cons_succ, List.set_cons_zero]
        refine gw_val (by kernel_rfl) (some 33) rfl (.pointer (some ⟨gs, 0, none⟩)) (by kernel_rfl) ?_
        simp only [Act.put, List.setIfInBounds_toArray, List.set_cons_succ, List.set_cons_zero]
        refine gw_val (by kernel_rfl) (some 34) rfl (.pointer (some ⟨gs, 1, none⟩)) (by kernel_rfl) ?_
        simp only [Act.put, List.setIfInBounds_toArray, List.set_cons_succ, List.set_cons_zero]
        refine gw_load (by kernel_rfl) (some 35) rfl 3 (.tmp 34) rfl ⟨gs, 1, none⟩ (.int .i64 N) (by kernel_rfl) (hM.num.load rfl (by kernel_rfl)) ?_
        simp only [Act.put, List.setIfInBounds_toArray, List.set_cons_succ, List.set_cons_zero]
        refine gw_val (by kernel_rfl) (some 36) rfl (.slice a n c) (by kernel_rfl) ?_
        simp only [Act.put, List.setIfInBounds_toArray, List.set_cons_succ, List.set_cons_zero]
        refine gw_val (by kernel_rfl) (some 37) rfl (.int .i64 n) (by kernel_rfl) ?_
        simp only [Act.put, List.setIfInBounds_toArray, List.set_cons_succ, List.set_cons_zero]
        refine gw_val (by kernel_rfl) (some 38) rfl (.bool (decide (N < n))) (lt_nat rfl N n (by kernel_rfl) (by kernel_rfl) _) ?_
        simp only [Act.put, List.setIfInBounds_toArray, List.set_cons_succ, List.set_cons_zero]
        rw [hd]
        apply wpList_nil
        have C1 := CX gs N 9 wr hM.num hM.bel (by omega) (by omega) (by omega)
        have hp1 := pl_range (L0.getD N 0) 9 (by omega)
        generalize pl (L0.getD N 0) 9 = q9 at *
        go_upto_region 10 with fail
        apply wp_region_lit
        refine gw_val (by kernel_rfl) (some 39) rfl (.pointer (some ⟨gs, 0, none⟩)) (by kernel_rfl) ?_
        simp only [Act.put, List.setIfInBounds_toArray, List.set_cons_succ, List.set_cons_zero]
        refine gw_call (by kernel_rfl) (some 40) rfl 10 #[.pointer (some ⟨gs, 0, none⟩), .int .i64 9] (.int .i64 q9) (fun w' => But gs wr w' ∧ Bx w' gs #[.slice a n c, .int .i64 (N + 1 : Nat)] 32) (by kernel_rfl) C1 (fun V1 hq => ?_)
        simp only [Act.put, List.setIfInBounds_toArray, List.set_cons_succ, List.set_cons_zero]
        obtain ⟨hb1, hx1⟩ := hq
        have hM1 := hM.num' hC hb1 hx1
        have hQ1 := hQ.but hb1
        clear hb1 hx1 hM hQ C1
        have CO := key_of q9 V1 (by omega) (by omega)
        have hk32 := keyL_len q9
        generalize keyL q9 = K at *
        refine gw_call (by kernel_rfl) (some 41) rfl 12 #[.int .i64 q9] (.agg (w8s K)) (Below V1.heap.size V1) (by kernel_rfl) CO (fun V2 hb2 => ?_)
        simp only [Act.put, List.setIfInBounds_toArray, List.set_cons_succ, List.set_cons_zero]
        have hM2 := hM1.below hC hb2
        have hQ2 := hQ1.below hb2
        clear hM1 hQ1 hb2 CO
        refine run_to rfl (some 9) rfl (.pointer (some ⟨V2.heap.size, 0, none⟩)) (V2.alloc (.cells (w8s zeroK) 34)) (by kernel_rfl) ?_
        simp only [Act.put, List.setIfInBounds_toArray, List.set_cons_succ, List.set_cons_zero]
        apply wpList_store_new (w := V2) (ty := 34) (x := .tmp 9) (y := .tmp 41) (c := w8s zeroK) (c' := w8s K)
        case hgd => rfl
        case ho => rfl
        case hx => kernel_rfl
        case hy => kernel_rfl
        case hi => exact size_key hk32
        case hz => rw [size_w8s, size_w8s, hk32]; rfl
        case h1 => exact one_w8s _
        simp only [Act.put]
        apply wpList_nil
        have hb3 : Below V2.heap.size V2 (V2.alloc (.cells (w8s K) 34)) := (Below.refl _ V2).alloc (Nat.le_refl _) _
        have hM3 := hM2.below hC hb3
        have hQ3 := hQ2.below hb3
        have hXB : XB (V2.alloc (.cells (w8s K) 34)) S gs V2.heap.size K := ⟨heap_alloc_last V2 _, by have := hM2.num.lt; omega, fun hs => by have := hC.inn hM2.r _ hs; omega⟩
        clear hM2 hQ2 hb3
        generalize V2.alloc (.cells (w8s K) 34) = V3 at *
        generalize V2.heap.size = g9 at *
        have C2 := CX gs (N + 1) 8 V3 hM3.num hM3.bel (by omega) (by omega) (by omega)
        have hp2 := pl_range (L0.getD (N + 1) 0) 8 (by omega)
        generalize pl (L0.getD (N + 1) 0) 8 = q8 at *
        go_upto_region 11 with fail
        apply wp_region_lit
        refine gw_val (by kernel_rfl) (some 42) rfl (.pointer (some ⟨gs, 0, none⟩)) (by kernel_rfl) ?_
        simp only [Act.put, List.setIfInBounds_toArray, List.set_cons_succ, List.set_cons_zero]
        refine gw_call (by kernel_rfl) (some 43) rfl 10 #[.pointer (some ⟨gs, 0, none⟩), .int .i64 8] (.int .i64 q8) (fun w' => But gs V3 w' ∧ Bx w' gs #[.slice a n c, .int .i64 (N + 1 + 1 : Nat)] 32) (by kernel_rfl) C2 (fun V4 hq => ?_)
        simp only [Act.put, List.setIfInBounds_toArray, List.set_cons_succ, List.set_cons_zero]
        obtain ⟨hb4, hx4⟩ := hq
        have hM4 := hM3.num' hC hb4 hx4
        have hQ4 := hQ3.but hb4
        have hX4 := hXB.but hb4
        clear hb4 hx4 hM3 hQ3 hXB C2 hp1
        apply wpList_nil
        have hK1000 : Ks.length ≤ 1000 := by omega
        go_upto_block 2 with fail
        go_cut [8] (fun s8 wx => ∃ N2 S2 K2 am2 cm2, s8 = .slice am2 (List.length K2) cm2 ∧ MP R w a n c gs gc N2 S2 z K2 wx ∧ RQ wx S2 gs am2 K2 ∧ XB wx S2 gs g9 K ∧ K2.length ≤ cm2 ∧ Wc z K2 ∧ K2.length ≤ N2 ∧ N + 2 ≤ N2 ∧ N2 ≤ N + 3)
        case first =>
          by_cases hq0 : q8 = 0
          · subst hq0
            have CRef := ref_drop am cm Ks K V4 hk32 hQ4.cs hcm hW.kc hK1000
            have CPr := fun V (h : MP R w a n c gs gc (N + 1 + 1) S z Ks V) => hC.remove V gc S z Ks K w.heap.size h.r hW hk32 (fun k hk => (h.so k hk).1) h.bel.size
            have hW2 := hW.drop K
            have hDl : (dropM Ks K).1.length ≤ Ks.length := drop_len Ks K
            unfold RowO at CRef
            generalize dropM Ks K = D at *
            clear CX hp2
            go_upto_region 16 with fail
            apply wp_region_lit
            refine gw_val (by kernel_rfl) (some 58) rfl (.bool true) (by kernel_rfl) ?_
            simp only [Act.put, List.setIfInBounds_toArray, List.set_cons_succ, List.set_cons_zero]
            refine gw_val (by kernel_rfl) (some 57) rfl (.bool true) (by kernel_rfl) ?_
            simp only [Act.put, List.setIfInBounds_toArray, List.set_cons_succ, List.set_cons_zero]
            apply wpList_nil
            go_upto_region 17 with fail
            apply wp_region_lit
            refine gw_val (by kernel_rfl) (some 60) rfl (.slice am Ks.length cm) (by kernel_rfl) ?_
            simp only [Act.put, List.setIfInBounds_toArray, List.set_cons_succ, List.set_cons_zero]
            refine gw_load (by kernel_rfl) (some 61) rfl 34 (.tmp 9) rfl ⟨g9, 0, none⟩ (.agg (w8s K)) (by kernel_rfl) (load_key hX4.bx hk32) ?_
            simp only [Act.put, List.setIfInBounds_toArray, List.set_cons_succ, List.set_cons_zero]
            refine gw_callE (by kernel_rfl) (some 62) rfl 13 #[.slice am Ks.length cm, .agg (w8s K)] (fun v w' => ∃ a2 c2, v = .tuple #[.slice a2 D.1.length c2, .bool D.2] ∧ Cs w' a2 (kcells D.1) ∧ D.1.length ≤ c2 ∧ Below V4.heap.size V4 w' ∧ Fr V4 w' am a2) (by kernel_rfl) (CRef.mono fun e w' q => by obtain ⟨a2, c2, he, h1, h2, h3, h4⟩ := q; exact ⟨_, he, a2, c2, rfl, h1, h2, h3, h4⟩) (fun v V5 hq => ?_)
            obtain ⟨a2, c2, rfl, hc5, hl5, hb5, hf5⟩ := hq
            have hM5 := hM4.below hC hb5
            have hQ5 := hM4.fr hC hQ4 hb5 hc5 hf5
            have hX5 := hX4.below hb5
            clear hM4 hQ4 hX4 hc5 hb5 hf5 CRef
            simp only [Act.put, List.setIfInBounds_toArray, List.set_cons_succ, List.set_cons_zero]
            refine gw_val (by kernel_rfl) (some 59) rfl (.tuple #[.slice a2 D.1.length c2, .bool D.2]) (by kernel_rfl) ?_
            simp only [Act.put, List.setIfInBounds_toArray, List.set_cons_succ, List.set_cons_zero]
            refine gw_val (by kernel_rfl) (some 63) rfl (.slice a2 D.1.length c2) (by kernel_rfl) ?_
            simp only [Act.put, List.setIfInBounds_toArray, List.set_cons_succ, List.set_cons_zero]
            refine gw_val (by kernel_rfl) (some 64) rfl (.bool D.2) (by kernel_rfl) ?_
            simp only [Act.put, List.setIfInBounds_toArray, List.set_cons_succ, List.set_cons_zero]
            refine gw_val (by kernel_rfl) (some 10) rfl (.slice a2 D.1.length c2) (by kernel_rfl) ?_
            simp only [Act.put, List.setIfInBounds_toArray, List.set_cons_succ, List.set_cons_zero]
            refine gw_val (by kernel_rfl) (some 11) rfl (.bool D.2) (by kernel_rfl) ?_
            simp only [Act.put, List.setIfInBounds_toArray, List.set_cons_succ, List.set_cons_zero]
            apply wpList_nil
            go_upto_region 18 with fail
            apply wp_region_lit
            refine gw_val (by kernel_rfl) (some 65) rfl (.pointer (some ⟨gc, 0, none⟩)) (by kernel_rfl) ?_
            simp only [Act.put, List.setIfInBounds_toArray, List.set_cons_succ, List.set_cons_zero]
            refine gw_load (by kernel_rfl) (some 66) rfl 34 (.tmp 9) rfl ⟨g9, 0, none⟩ (.agg (w8s K)) (by kernel_rfl) (load_key hX5.bx hk32) ?_
            simp only [Act.put, List.setIfInBounds_toArray, List.set_cons_succ, List.set_cons_zero]
            refine gw_call (by kernel_rfl) (some 67) rfl 14 #[.pointer (some ⟨gc, 0, none⟩), .agg (w8s K)] (.bool D.2) (fun w' => UpdC R gc w.heap.size S z D.1 V5 w') (by kernel_rfl) (CPr V5 hM5) (fun V6 hu => ?_)
            simp only [Act.put, List.setIfInBounds_toArray, List.set_cons_succ, List.set_cons_zero]
            obtain ⟨S6, hM6, hq6, hx6⟩ := hM5.prog hC hu
            have hQ6 := hq6 _ _ hQ5
            have hX6 := hx6 _ _ hX5
            clear hM5 hQ5 hX5 hu hq6 hx6 CPr
            refine gw_val (by kernel_rfl) (some 68) rfl (.bool D.2) (by kernel_rfl) ?_
            simp only [Act.put, List.setIfInBounds_toArray, List.set_cons_succ, List.set_cons_zero]
            refine gw_val (by kernel_rfl) (some 69) rfl (.bool false) (neq_bool rfl D.2 (by kernel_rfl) (by kernel_rfl) _) ?_
            simp only [Act.put, List.setIfInBounds_toArray, List.set_cons_succ, List.set_cons_zero]
            apply wpList_nil
            go_upto_region 20 with fail
            apply wp_region_lit
            refine gw_val (by kernel_rfl) (some 70) rfl (.slice a2 D.1.length c2) (by kernel_rfl) ?_
            simp only [Act.put, List.setIfInBounds_toArray, List.set_cons_succ, List.set_cons_zero]
            refine gw_val (by kernel_rfl) (some 8) rfl (.slice a2 D.1.length c2) (by kernel_rfl) ?_
            simp only [Act.put, List.setIfInBounds_toArray, List.set_cons_succ, List.set_cons_zero]
            apply wpList_nil
            have HF := Lib.hid (And.intro hM6 (And.intro hQ6 hX6))
            have HW2 := Lib.hid hW2
            clear hM6 hQ6 hX6
            go_wp2_with fail
            go_meet
            exact ⟨N + 1 + 1, S6, D.1, a2, c2, rfl, HF.out.1, HF.out.2.1, HF.out.2.2, hl5, HW2.out, by omega, by omega, by omega⟩
          · by_cases hq1 : q8 = 1
            · subst hq1
              have C3 := CX gs (N + 1 + 1) 4 V4 hM4.num hM4.bel (by omega) (by omega) (by omega)
              have hp3 := pl_range (L0.getD (N + 1 + 1) 0) 4 (by omega)
              generalize pl (L0.getD (N + 1 + 1) 0) 4 = q4 at *
              clear CX hp2
              go_upto_region 16 with fail
              apply wp_region_lit
              refine gw_val (by kernel_rfl) (some 58) rfl (.bool false) (by kernel_rfl) ?_
              simp only [Act.put, List.setIfInBounds_toArray, List.set_cons_succ, List.set_cons_zero]
              refine gw_val (by kernel_rfl) (some 57) rfl (.bool false) (by kernel_rfl) ?_
              simp only [Act.put, List.setIfInBounds_toArray, List.set_cons_succ, List.set_cons_zero]
              apply wpList_nil
              go_upto_region 21 with fail
              apply wp_region_lit
              refine gw_val (by kernel_rfl) (some 72) rfl (.bool true) (by kernel_rfl) ?_
              simp only [Act.put, List.setIfInBounds_toArray, List.set_cons_succ, List.set_cons_zero]
              refine gw_val (by kernel_rfl) (some 71) rfl (.bool true) (by kernel_rfl) ?_
              simp only [Act.put, List.setIfInBounds_toArray, List.set_cons_succ, List.set_cons_zero]
              apply wpList_nil
              go_upto_region 22 with fail
              apply wp_region_lit
              refine gw_val (by kernel_rfl) (some 73) rfl (.pointer (some ⟨gs, 0, none⟩)) (by kernel_rfl) ?_
              simp only [Act.put, List.setIfInBounds_toArray, List.set_cons_succ, List.set_cons_zero]
              refine gw_call (by kernel_rfl) (some 74) rfl 10 #[.pointer (some ⟨gs, 0, none⟩), .int .i64 4] (.int .i64 q4) (fun w' => But gs V4 w' ∧ Bx w' gs #[.slice a n c, .int .i64 (N + 1 + 1 + 1 : Nat)] 32) (by kernel_rfl) C3 (fun V5 hq => ?_)
              simp only [Act.put, List.setIfInBounds_toArray, List.set_cons_succ, List.set_cons_zero]
              obtain ⟨hb5, hx5⟩ := hq
              have hM5 := hM4.num' hC hb5 hx5
              have hQ5 := hQ4.but hb5
              have hX5 := hX4.but hb5
              clear hb5 hx5 hM4 hQ4 hX4 C3
              refine gw_val (by kernel_rfl) (some 75) rfl (.bool (q4 == 0)) (by kernel_rfl) ?_
              simp only [Act.put, List.setIfInBounds_toArray, List.set_cons_succ, List.set_cons_zero]
              by_cases hq4 : q4 = 0
              · have ht : (q4 == 0) = true := by simp [hq4]
                rw [ht]
                apply wpList_nil
                have CZ := hC.reset V5 gc S z Ks w.heap.size hM5.r hW (fun k hk => (hM5.so k hk).1) hM5.bel.size
                go_upto_region 23 with fail
                apply wp_region_lit
                refine gw_val (by kernel_rfl) (some 76) rfl (.pointer (some ⟨gc, 0, none⟩)) (by kernel_rfl) ?_
                simp only [Act.put, List.setIfInBounds_toArray, List.set_cons_succ, List.set_cons_zero]
                refine gw_call (by kernel_rfl) (some 77) rfl 15 #[.pointer (some ⟨gc, 0, none⟩)] (.tuple #[]) (fun w' => UpdC R gc w.heap.size S z [] V5 w') (by kernel_rfl) CZ (fun V6 hu => ?_)
                simp only [Act.put, List.setIfInBounds_toArray, List.set_cons_succ, List.set_cons_zero]
                apply wpList_nil
                obtain ⟨S6, hM6, hq6, hx6⟩ := hM5.prog hC hu
                have hX6 := hx6 _ _ hX5
                have hQ6 : RQ V6 S6 gs none [] := ⟨Cs.nil _ _, fun x hx => (by cases hx)⟩
                clear hM5 hQ5 hX5 hu hq6 hx6 CZ
                have hW2 : Wc z [] := Wc.nil hW.zm
                go_upto_region 24 with fail
                apply wp_region_lit
                refine gw_val (by kernel_rfl) (some 8) rfl (.slice none 0 0) (by kernel_rfl) ?_
                simp only [Act.put, List.setIfInBounds_toArray, List.set_cons_succ, List.set_cons_zero]
                apply wpList_nil
                have HF := Lib.hid (And.intro hM6 (And.intro hQ6 hX6))
                have HW2 := Lib.hid hW2
                clear hM6 hQ6 hX6
                go_wp2_with fail
                go_meet
                exact ⟨N + 1 + 1 + 1, S6, [], none, 0, rfl, HF.out.1, HF.out.2.1, HF.out.2.2, Nat.le_refl _, HW2.out, by simp, by omega, by omega⟩
              · have ht : (q4 == 0) = false := by simp [hq4]
                rw [ht]
                apply wpList_nil
                have HF := Lib.hid (And.intro hM5 (And.intro hQ5 hX5))
                have HW2 := Lib.hid hW
                clear hM5 hQ5 hX5
                go_wp2_with fail
                go_meet
                exact ⟨N + 1 + 1 + 1, S, Ks, am, cm, rfl, HF.out.1, HF.out.2.1, HF.out.2.2, hcm, HW2.out, by omega, by omega, by omega⟩
            · have ht0 : (q8 == 0) = false := by simp [hq0]
              have ht1 : (q8 == 1) = false := by simp [hq1]
              have CRef := ref_push am cm Ks sz K V4 hk32 hQ4.cs hcm hW.kc hK1000
              rw [hPZ] at CRef
              have CPr := fun V (h : MP R w a n c gs gc (N + 1 + 1) S z Ks V) => hC.push V gc S z Ks K w.heap.size h.r hW hk32 (fun k hk => (h.so k hk).1) h.bel.size
              have hW2 := hW.push hk32
              have hDl : (pushZ Ks z K).1.length ≤ Ks.length + 1 := push_len Ks z K
              unfold RowO at CRef
              generalize pushZ Ks z K = D at *
              clear CX hp2
              go_upto_region 16 with fail
              go_upto_region 16 with fail
              apply wp_region_lit
              refine gw_val (by kernel_rfl) (some 58) rfl (.bool (q8 == 0)) (by kernel_rfl) ?_
              simp only [Act.put, List.setIfInBounds_toArray, List.set_cons_succ, List.set_cons_zero]
              rw [ht0]
              refine gw_val (by kernel_rfl) (some 57) rfl (.bool false) (by kernel_rfl) ?_
              simp only [Act.put, List.setIfInBounds_toArray, List.set_cons_succ, List.set_cons_zero]
              apply wpList_nil
              go_upto_region 21 with fail
              apply wp_region_lit
              refine gw_val (by kernel_rfl) (some 72) rfl (.bool (q8 == 1)) (by kernel_rfl) ?_
              simp only [Act.put, List.setIfInBounds_toArray, List.set_cons_succ, List.set_cons_zero]
              rw [ht1]
              refine gw_val (by kernel_rfl) (some 71) rfl (.bool false) (by kernel_rfl) ?_
              simp only [Act.put, List.setIfInBounds_toArray, List.set_cons_succ, List.set_cons_zero]
              apply wpList_nil
              go_upto_region 12 with fail
              apply wp_region_lit
              refine gw_val (by kernel_rfl) (some 45) rfl (.slice am Ks.length cm) (by kernel_rfl) ?_
              simp only [Act.put, List.setIfInBounds_toArray, List.set_cons_succ, List.set_cons_zero]
              refine gw_val (by kernel_rfl) (some 46) rfl (.int .i64 sz) (by kernel_rfl) ?_
              simp only [Act.put, List.setIfInBounds_toArray, List.set_cons_succ, List.set_cons_zero]
              refine gw_load (by kernel_rfl) (some 47) rfl 34 (.tmp 9) rfl ⟨g9, 0, none⟩ (.agg (w8s K)) (by kernel_rfl) (load_key hX4.bx hk32) ?_
              simp only [Act.put, List.setIfInBounds_toArray, List.set_cons_succ, List.set_cons_zero]
              refine gw_callE (by kernel_rfl) (some 48) rfl 16 #[.slice am Ks.length cm, .int .i64 sz, .agg (w8s K)] (fun v w' => ∃ a2 c2, v = .tuple #[.slice a2 D.1.length c2, .bool D.2] ∧ Cs w' a2 (kcells D.1) ∧ D.1.length ≤ c2 ∧ Below V4.heap.size V4 w' ∧ Fr V4 w' am a2) (by kernel_rfl) (CRef.mono fun e w' q => by obtain ⟨a2, c2, he, h1, h2, h3, h4⟩ := q; exact ⟨_, he, a2, c2, rfl, h1, h2, h3, h4⟩) (fun v V5 hq => ?_)
              obtain ⟨a2, c2, rfl, hc5, hl5, hb5, hf5⟩ := hq
              have hM5 := hM4.below hC hb5
              have hQ5 := hM4.fr hC hQ4 hb5 hc5 hf5
              have hX5 := hX4.below hb5
              clear hM4 hQ4 hX4 hc5 hb5 hf5 CRef
              simp only [Act.put, List.setIfInBounds_toArray, List.set_cons_succ, List.set_cons_zero]
              refine gw_val (by kernel_rfl) (some 44) rfl (.tuple #[.slice a2 D.1.length c2, .bool D.2]) (by kernel_rfl) ?_
              simp only [Act.put, List.setIfInBounds_toArray, List.set_cons_succ, List.set_cons_zero]
              refine gw_val (by kernel_rfl) (some 49) rfl (.slice a2 D.1.length c2) (by kernel_rfl) ?_
              simp only [Act.put, List.setIfInBounds_toArray, List.set_cons_succ, List.set_cons_zero]
              refine gw_val (by kernel_rfl) (some 50) rfl (.bool D.2) (by kernel_rfl) ?_
              simp only [Act.put, List.setIfInBounds_toArray, List.set_cons_succ, List.set_cons_zero]
              refine gw_val (by kernel_rfl) (some 12) rfl (.slice a2 D.1.length c2) (by kernel_rfl) ?_
              simp only [Act.put, List.setIfInBounds_toArray, List.set_cons_succ, List.set_cons_zero]
              refine gw_val (by kernel_rfl) (some 13) rfl (.bool D.2) (by kernel_rfl) ?_
              simp only [Act.put, List.setIfInBounds_toArray, List.set_cons_succ, List.set_cons_zero]
              apply wpList_nil
              go_upto_region 13 with fail
              apply wp_region_lit
              refine gw_val (by kernel_rfl) (some 51) rfl (.pointer (some ⟨gc, 0, none⟩)) (by kernel_rfl) ?_
              simp only [Act.put, List.setIfInBounds_toArray, List.set_cons_succ, List.set_cons_zero]
              refine gw_load (by kernel_rfl) (some 52) rfl 34 (.tmp 9) rfl ⟨g9, 0, none⟩ (.agg (w8s K)) (by kernel_rfl) (load_key hX5.bx hk32) ?_
              simp only [Act.put, List.setIfInBounds_toArray, List.set_cons_succ, List.set_cons_zero]
              refine gw_call (by kernel_rfl) (some 53) rfl 17 #[.pointer (some ⟨gc, 0, none⟩), .agg (w8s K)] (.bool D.2) (fun w' => UpdC R gc w.heap.size S z D.1 V5 w') (by kernel_rfl) (CPr V5 hM5) (fun V6 hu => ?_)
              simp only [Act.put, List.setIfInBounds_toArray, List.set_cons_succ, List.set_cons_zero]
              obtain ⟨S6, hM6, hq6, hx6⟩ := hM5.prog hC hu
              have hQ6 := hq6 _ _ hQ5
              have hX6 := hx6 _ _ hX5
              clear hM5 hQ5 hX5 hu hq6 hx6 CPr
              refine gw_val (by kernel_rfl) (some 54) rfl (.bool D.2) (by kernel_rfl) ?_
              simp only [Act.put, List.setIfInBounds_toArray, List.set_cons_succ, List.set_cons_zero]
              refine gw_val (by kernel_rfl) (some 55) rfl (.bool false) (neq_bool rfl D.2 (by kernel_rfl) (by kernel_rfl) _) ?_
              simp only [Act.put, List.setIfInBounds_toArray, List.set_cons_succ, List.set_cons_zero]
              apply wpList_nil
              go_upto_region 15 with fail
              apply wp_region_lit
              refine gw_val (by kernel_rfl) (some 56) rfl (.slice a2 D.1.length c2) (by kernel_rfl) ?_
              simp only [Act.put, List.setIfInBounds_toArray, List.set_cons_succ, List.set_cons_zero]
              refine gw_val (by kernel_rfl) (some 8) rfl (.slice a2 D.1.length c2) (by kernel_rfl) ?_
              simp only [Act.put, List.setIfInBounds_toArray, List.set_cons_succ, List.set_cons_zero]
              apply wpList_nil
              have HF := Lib.hid (And.intro hM6 (And.intro hQ6 hX6))
              have HW2 := Lib.hid hW2
              clear hM6 hQ6 hX6
              go_wp2_with fail
              go_meet
              exact ⟨N + 1 + 1, S6, D.1, a2, c2, rfl, HF.out.1, HF.out.2.1, HF.out.2.2, hl5, HW2.out, by omega, by omega, by omega⟩
        case rest =>
          obtain ⟨N2, S2, K2, am2, cm2, rfl, hM5, hQ5, hX5, hcm2, hW2, hKN2, hn1, hn2⟩ := hcut
          have HG2 : Hid (n + 3 - N2 < gk ∧ N2 ≤ n + 3) := Lib.hid ⟨by have := HG.out; omega, by have := HG.out; omega⟩
          clear hM4 hQ4 hX4 hW hcm hKN CX hp2 hlt hd hN
          have hbd : Below wc.heap.size wc { wc with drawn := wc.drawn + 1 } := (Below.refl _ wc).drew
          have h0 : YC R w a n c gs gc N2 S2 z K2 am2 g9 K false u79 { wc with drawn := wc.drawn + 1 } := ⟨hM5.below hC hbd, hQ5.below hbd, hX5.below hbd, fun h => (by cases h)⟩
          have CKe := fun V (h : YC R w a n c gs gc N2 S2 z K2 am2 g9 K false u79 V) => hC.keys V gc S2 z K2 h.mp.r hW2
          have hb64 : K2.length ≤ 100000 := by omega
          clear hM5 hQ5 hX5 hbd
          go_upto_region 25 with fail
          obtain ⟨hb, hhb⟩ : ∃ hb, hb = decide (K ∈ K2) := ⟨_, rfl⟩
          have HHB := Lib.hid hhb
          clear hhb
          refine wp_region_inv (fun listed act9 V => ∃ b0 b1 b2 b3 b4 b5 b6 b7 b8 b9 b10 b11 b12 b13 b14 b15 b16 b17 b18 b19 b20 : Bool, ∃ x79 : Value, listed = #[b0, b1, b2, b3, b4, b5, b6, b7, b8, b9, b10, b11, b12, b13, b14, b15, b16, b17, b18, b19, b20] ∧ act9 = { tmps := #[.slice a n c, .int .i64 size, undef, undef, u4, .pointer (some ⟨gs, 0, none⟩), .int .i64 sz, .pointer (some ⟨gc, 0, none⟩), .slice am2 K2.length cm2, .pointer (some ⟨g9, 0, none⟩), u10, u11, u12, u13, .slice a n c, .slice (some ⟨w.heap.size, 0, none⟩) 1 1, .bool false, undef, .slice a n c, .pointer (some ⟨gs, 0, none⟩), .int .i64 size, .pointer (some ⟨gs, 0, none⟩), .int .i64 v7, .slice (some ⟨g5, 0, none⟩) 5 5, .pointer (some ⟨gs, 0, none⟩), .int .i64 i5, .pointer (some ⟨g5, 0 + i5, none⟩), .int .i64 sz, .int .i64 sz, .pointer (some ⟨gc, 0, none⟩), .pointer (some ⟨gc, 0, none⟩), .bool false, u32, u33, u34, u35, u36, u37, u38, u39, u40, u41, u42, .int .i64 q8, u44, u45, u46, u47, u48, u49, u50, u51, u52, u53, u54, u55, u56, u57, u58, u59, u60, u61, u62, u63, u64, u65, u66, u67, u68, u69, u70, u71, u72, u73, u74, u75, u76, u77, (cond b0 (.pointer (some ⟨gc, 0, none⟩)) (u78)), x79, (cond b2 (.slice am2 K2.length cm2) (u80)), (cond b3 (.bool true) (u81)), (cond b4 (.bool false) (u82)), (cond b5 (.bool false) (u83)), (cond b6 (.pointer (some ⟨gc, 0, none⟩)) (u84)), (cond b7 (.int .i64 K2.length) (u85)), (cond b8 (.slice am2 K2.length cm2) (u86)), (cond b9 (.int .i64 K2.length) (u87)), (cond b10 (.bool false) (u88)), (cond b11 (.bool false) (u89)), (cond b12 (.bool false) (u90)), (cond b13 (.pointer (some ⟨gc, 0, none⟩)) (u91)), (cond b14 (.agg (w8s K)) (u92)), (cond b15 (.bool hb) (u93)), (cond b16 (.slice am2 K2.length cm2) (u94)), (cond b17 (.agg (w8s K)) (u95)), (cond b18 (.bool hb) (u96)), (cond b19 (.bool false) (u97)), (cond b20 (.bool false) (u98)), undef], defers := [] } ∧ YC R w a n c gs gc N2 S2 z K2 am2 g9 K b1 x79 V) (by kernel_rfl) (by kernel_rfl) ?_ ?_ ?_
          · exact ⟨false, false, false, false, false, false, false, false, false, false, false, false, false, false, false, false, false, false, false, false, false, u79, rfl, rfl, h0⟩
          · intro i9 listed act9 V hi9 hr hJ
            obtain ⟨b0, b1, b2, b3, b4, b5, b6, b7, b8, b9, b10, b11, b12, b13, b14, b15, b16, b17, b18, b19, b20, x79, rfl, rfl, hF⟩ := hJ
            have hi2 : i9 < 21 := hi9
            have hi3 : i9 = 0 ∨ i9 = 1 ∨ i9 = 2 ∨ i9 = 3 ∨ i9 = 4 ∨ i9 = 5 ∨ i9 = 6 ∨ i9 = 7 ∨ i9 = 8 ∨ i9 = 9 ∨ i9 = 10 ∨ i9 = 11 ∨ i9 = 12 ∨ i9 = 13 ∨ i9 = 14 ∨ i9 = 15 ∨ i9 = 16 ∨ i9 = 17 ∨ i9 = 18 ∨ i9 = 19 ∨ i9 = 20 := by omega
            rcases hi3 with rfl | rfl | rfl | rfl | rfl | rfl | rfl | rfl | rfl | rfl | rfl | rfl | rfl | rfl | rfl | rfl | rfl | rfl | rfl | rfl | rfl
            · obtain rfl : b0 = false := ready_self hr
              refine st_val rfl (by kernel_rfl) (some 78) rfl (.pointer (some ⟨gc, 0, none⟩)) V (by kernel_rfl) ?_
              exact ⟨true, b1, b2, b3, b4, b5, b6, b7, b8, b9, b10, b11, b12, b13, b14, b15, b16, b17, b18, b19, b20, x79, rfl, rfl, hF⟩
            · obtain rfl : b1 = false := ready_self hr
              obtain rfl : b0 = true := ready_dep hr 0 (by kernel_rfl)
              refine st_call rfl (by kernel_rfl) (some 79) rfl 19 #[.pointer (some ⟨gc, 0, none⟩)] (by kernel_rfl) ((hC.keys V gc S2 z K2 hF.mp.r hW2).mono fun e w' q => ?_)
              obtain ⟨ak, ck, he, h1, -, h2⟩ := q
              have hF2 := hF.below hC h2
              exact ⟨_, he, true, true, b2, b3, b4, b5, b6, b7, b8, b9, b10, b11, b12, b13, b14, b15, b16, b17, b18, b19, b20, _, rfl, rfl, ⟨hF2.mp, hF2.rq, hF2.xb, fun _ => ⟨ak, ck, rfl, h1⟩⟩⟩
            · obtain rfl : b2 = false := ready_self hr
              refine st_val rfl (by kernel_rfl) (some 80) rfl (.slice am2 K2.length cm2) V (by kernel_rfl) ?_
              exact ⟨b0, b1, true, b3, b4, b5, b6, b7, b8, b9, b10, b11, b12, b13, b14, b15, b16, b17, b18, b19, b20, x79, rfl, rfl, hF⟩
            · obtain rfl : b3 = false := ready_self hr
              obtain rfl : b1 = true := ready_dep hr 1 (by kernel_rfl)
              obtain rfl : b2 = true := ready_dep hr 2 (by kernel_rfl)
              obtain ⟨ak, ck, rfl, hk⟩ := hF.k79 rfl
              refine st_call rfl (by kernel_rfl) (some 81) rfl 18 #[.slice ak K2.length ck, .slice am2 K2.length cm2] (by kernel_rfl) ((ref_same ak am2 ck cm2 K2 V hk hF.rq.cs hW2.kc hb64).mono fun e w' q => ?_)
              exact ⟨_, q.1, b0, true, true, true, b4, b5, b6, b7, b8, b9, b10, b11, b12, b13, b14, b15, b16, b17, b18, b19, b20, _, rfl, rfl, hF.below hC q.2⟩
            · obtain rfl : b4 = false := ready_self hr
              obtain rfl : b3 = true := ready_dep hr 3 (by kernel_rfl)
              refine st_val rfl (by kernel_rfl) (some 82) rfl (.bool false) V (by kernel_rfl) ?_
              exact ⟨b0, b1, b2, true, true, b5, b6, b7, b8, b9, b10, b11, b12, b13, b14, b15, b16, b17, b18, b19, b20, x79, rfl, rfl, hF⟩
            · obtain rfl : b5 = false := ready_self hr
              obtain rfl : b4 = true := ready_dep hr 4 (by kernel_rfl)
              refine st_val rfl (by kernel_rfl) (some 83) rfl (.bool false) V (by kernel_rfl) ?_
              exact ⟨b0, b1, b2, b3, true, true, b6, b7, b8, b9, b10, b11, b12, b13, b14, b15, b16, b17, b18, b19, b20, x79, rfl, rfl, hF⟩
            · obtain rfl : b6 = false := ready_self hr
              obtain rfl : b5 = true := ready_dep hr 5 (by kernel_rfl)
              refine st_val rfl (by kernel_rfl) (some 84) rfl (.pointer (some ⟨gc, 0, none⟩)) V (by kernel_rfl) ?_
              exact ⟨b0, b1, b2, b3, b4, true, true, b7, b8, b9, b10, b11, b12, b13, b14, b15, b16, b17, b18, b19, b20, x79, rfl, rfl, hF⟩
            · obtain rfl : b7 = false := ready_self hr
              obtain rfl : b6 = true := ready_dep hr 6 (by kernel_rfl)
              obtain rfl : b5 = true := ready_dep hr 5 (by kernel_rfl)
              refine st_call rfl (by kernel_rfl) (some 85) rfl 20 #[.pointer (some ⟨gc, 0, none⟩)] (by kernel_rfl) ((hC.len V gc S2 z K2 hF.mp.r hW2).mono fun e w' q => ?_)
              exact ⟨_, q.1, b0, b1, b2, b3, b4, true, true, true, b8, b9, b10, b11, b12, b13, b14, b15, b16, b17, b18, b19, b20, x79, rfl, rfl, hF.below hC q.2⟩
            · obtain rfl : b8 = false := ready_self hr
              obtain rfl : b5 = true := ready_dep hr 5 (by kernel_rfl)
              refine st_val rfl (by kernel_rfl) (some 86) rfl (.slice am2 K2.length cm2) V (by kernel_rfl) ?_
              exact ⟨b0, b1, b2, b3, b4, true, b6, b7, true, b9, b10, b11, b12, b13, b14, b15, b16, b17, b18, b19, b20, x79, rfl, rfl, hF⟩
            · obtain rfl : b9 = false := ready_self hr
              obtain rfl : b8 = true := ready_dep hr 8 (by kernel_rfl)
              obtain rfl : b5 = true := ready_dep hr 5 (by kernel_rfl)
              refine st_val rfl (by kernel_rfl) (some 87) rfl (.int .i64 K2.length) V (by kernel_rfl) ?_
              exact ⟨b0, b1, b2, b3, b4, true, b6, b7, true, true, b10, b11, b12, b13, b14, b15, b16, b17, b18, b19, b20, x79, rfl, rfl, hF⟩
            · obtain rfl : b10 = false := ready_self hr
              obtain rfl : b7 = true := ready_dep hr 7 (by kernel_rfl)
              obtain rfl : b9 = true := ready_dep hr 9 (by kernel_rfl)
              obtain rfl : b5 = true := ready_dep hr 5 (by kernel_rfl)
              refine st_val rfl (by kernel_rfl) (some 88) rfl (.bool false) V (neq_same rfl K2.length (by kernel_rfl) (by kernel_rfl) V) ?_
              exact ⟨b0, b1, b2, b3, b4, true, b6, true, b8, true, true, b11, b12, b13, b14, b15, b16, b17, b18, b19, b20, x79, rfl, rfl, hF⟩
            · obtain rfl : b11 = false := ready_self hr
              obtain rfl : b5 = true := ready_dep hr 5 (by kernel_rfl)
              obtain rfl : b10 = true := ready_dep hr 10 (by kernel_rfl)
              refine st_val rfl (by kernel_rfl) (some 89) rfl (.bool false) V (by kernel_rfl) ?_
              exact ⟨b0, b1, b2, b3, b4, true, b6, b7, b8, b9, true, true, b12, b13, b14, b15, b16, b17, b18, b19, b20, x79, rfl, rfl, hF⟩
            · obtain rfl : b12 = false := ready_self hr
              obtain rfl : b11 = true := ready_dep hr 11 (by kernel_rfl)
              refine st_val rfl (by kernel_rfl) (some 90) rfl (.bool false) V (by kernel_rfl) ?_
              exact ⟨b0, b1, b2, b3, b4, b5, b6, b7, b8, b9, b10, true, true, b13, b14, b15, b16, b17, b18, b19, b20, x79, rfl, rfl, hF⟩
            · obtain rfl : b13 = false := ready_self hr
              obtain rfl : b12 = true := ready_dep hr 12 (by kernel_rfl)
              refine st_val rfl (by kernel_rfl) (some 91) rfl (.pointer (some ⟨gc, 0, none⟩)) V (by kernel_rfl) ?_
              exact ⟨b0, b1, b2, b3, b4, b5, b6, b7, b8, b9, b10, b11, true, true, b14, b15, b16, b17, b18, b19, b20, x79, rfl, rfl, hF⟩
            · obtain rfl : b14 = false := ready_self hr
              obtain rfl : b12 = true := ready_dep hr 12 (by kernel_rfl)
              refine st_load rfl (by kernel_rfl) (some 92) rfl 34 (.tmp 9) rfl ⟨g9, 0, none⟩ (.agg (w8s K)) (by kernel_rfl) (load_key hF.xb.bx hk32) ?_
              exact ⟨b0, b1, b2, b3, b4, b5, b6, b7, b8, b9, b10, b11, true, b13, true, b15, b16, b17, b18, b19, b20, x79, rfl, rfl, hF⟩
            · obtain rfl : b15 = false := ready_self hr
              obtain rfl : b13 = true := ready_dep hr 13 (by kernel_rfl)
              obtain rfl : b14 = true := ready_dep hr 14 (by kernel_rfl)
              obtain rfl : b12 = true := ready_dep hr 12 (by kernel_rfl)
              refine st_call rfl (by kernel_rfl) (some 93) rfl 21 #[.pointer (some ⟨gc, 0, none⟩), .agg (w8s K)] (by kernel_rfl) ((hC.has V gc S2 z K2 K hF.mp.r hW2 hk32).mono fun e w' q => ?_)
              rw [← HHB.out] at q
              exact ⟨_, q.1, b0, b1, b2, b3, b4, b5, b6, b7, b8, b9, b10, b11, true, true, true, true, b16, b17, b18, b19, b20, x79, rfl, rfl, hF.below hC q.2⟩
            · obtain rfl : b16 = false := ready_self hr
              obtain rfl : b12 = true := ready_dep hr 12 (by kernel_rfl)
              refine st_val rfl (by kernel_rfl) (some 94) rfl (.slice am2 K2.length cm2) V (by kernel_rfl) ?_
              exact ⟨b0, b1, b2, b3, b4, b5, b6, b7, b8, b9, b10, b11, true, b13, b14, b15, true, b17, b18, b19, b20, x79, rfl, rfl, hF⟩
            · obtain rfl : b17 = false := ready_self hr
              obtain rfl : b12 = true := ready_dep hr 12 (by kernel_rfl)
              refine st_load rfl (by kernel_rfl) (some 95) rfl 34 (.tmp 9) rfl ⟨g9, 0, none⟩ (.agg (w8s K)) (by kernel_rfl) (load_key hF.xb.bx hk32) ?_
              exact ⟨b0, b1, b2, b3, b4, b5, b6, b7, b8, b9, b10, b11, true, b13, b14, b15, b16, true, b18, b19, b20, x79, rfl, rfl, hF⟩
            · obtain rfl : b18 = false := ready_self hr
              obtain rfl : b16 = true := ready_dep hr 16 (by kernel_rfl)
              obtain rfl : b17 = true := ready_dep hr 17 (by kernel_rfl)
              obtain rfl : b12 = true := ready_dep hr 12 (by kernel_rfl)
              refine st_call rfl (by kernel_rfl) (some 96) rfl 22 #[.slice am2 K2.length cm2, .agg (w8s K)] (by kernel_rfl) ((ref_has am2 cm2 K2 K V hk32 hF.rq.cs hW2.kc hb64).mono fun e w' q => ?_)
              rw [← HHB.out] at q
              exact ⟨_, q.1, b0, b1, b2, b3, b4, b5, b6, b7, b8, b9, b10, b11, true, b13, b14, b15, true, true, true, b19, b20, x79, rfl, rfl, hF.below hC q.2⟩
            · obtain rfl : b19 = false := ready_self hr
              obtain rfl : b15 = true := ready_dep hr 15 (by kernel_rfl)
              obtain rfl : b18 = true := ready_dep hr 18 (by kernel_rfl)
              obtain rfl : b12 = true := ready_dep hr 12 (by kernel_rfl)
              refine st_val rfl (by kernel_rfl) (some 97) rfl (.bool false) V (neq_bool rfl hb (by kernel_rfl) (by kernel_rfl) V) ?_
              exact ⟨b0, b1, b2, b3, b4, b5, b6, b7, b8, b9, b10, b11, true, b13, b14, true, b16, b17, true, true, b20, x79, rfl, rfl, hF⟩
            · obtain rfl : b20 = false := ready_self hr
              obtain rfl : b12 = true := ready_dep hr 12 (by kernel_rfl)
              obtain rfl : b19 = true := ready_dep hr 19 (by kernel_rfl)
              refine st_val rfl (by kernel_rfl) (some 98) rfl (.bool false) V (by kernel_rfl) ?_
              exact ⟨b0, b1, b2, b3, b4, b5, b6, b7, b8, b9, b10, b11, true, b13, b14, b15, b16, b17, b18, true, true, x79, rfl, rfl, hF⟩
          · intro act9 V hJ
            obtain ⟨b0, b1, b2, b3, b4, b5, b6, b7, b8, b9, b10, b11, b12, b13, b14, b15, b16, b17, b18, b19, b20, x79, he, rfl, hF⟩ := hJ
            have he : (#[true, true, true, true, true, true, true, true, true, true, true, true, true, true, true, true, true, true, true, true, true] : Array Bool) = #[b0, b1, b2, b3, b4, b5, b6, b7, b8, b9, b10, b11, b12, b13, b14, b15, b16, b17, b18, b19, b20] := he
            simp only [Array.mk.injEq, List.cons.injEq, and_true] at he
            obtain ⟨rfl, rfl, rfl, rfl, rfl, rfl, rfl, rfl, rfl, rfl, rfl, rfl, rfl, rfl, rfl, rfl, rfl, rfl, rfl, rfl, rfl⟩ := he
            simp only [cond_true]
            have HF := Lib.hid (And.intro hF.mp hF.rq)
            have HW2 := Lib.hid hW2
            clear hF h0 CKe hW2
            go_wp2_with fail
            go_roundg (n + 3 - N2)
            case measure => exact HG2.out.1
            case rel => exact ⟨N2, S2, K2, am2, cm2, rfl, HF.out.1, HF.out.2, hcm2, HW2.out, hKN2, HG2.out.2, Nat.le_refl _⟩
      · have hd : decide (N < n) = false := decide_eq_false hlt
        clear hg hlt hN
        go_upto_region 9 with fail
        apply wp_region_lit
        refine gw_val (by kernel_rfl) (some 32) rfl (.pointer (some ⟨gs, 0, none⟩)) (by kernel_rfl) ?_
        simp only [Act.put, List.setIfInBounds_toArray, List.set_cons_succ, List.set_cons_zero]
        refine gw_val (by kernel_rfl) (some 33) rfl (.pointer (some ⟨gs, 0, none⟩)) (by kernel_rfl) ?_
        simp only [Act.put, List.setIfInBounds_toArray, List.set_cons_succ, List.set_cons_zero]
        refine gw_val (by kernel_rfl) (some 34) rfl (.pointer (some ⟨gs, 1, none⟩)) (by kernel_rfl) ?_
        simp only [Act.put, List.setIfInBounds_toArray, List.set_cons_succ, List.set_cons_zero]
        refine gw_load (by kernel_rfl) (some 35) rfl 3 (.tmp 34) rfl ⟨gs, 1, none⟩ (.int .i64 N) (by kernel_rfl) (hM.num.load rfl (by kernel_rfl)) ?_
        simp only [Act.put, List.setIfInBounds_toArray, List.set_cons_succ, List.set_cons_zero]
        refine gw_val (by kernel_rfl) (some 36) rfl (.slice a n c) (by kernel_rfl) ?_
        simp only [Act.put, List.setIfInBounds_toArray, List.set_cons_succ, List.set_cons_zero]
        refine gw_val (by kernel_rfl) (some 37) rfl (.int .i64 n) (by kernel_rfl) ?_
        simp only [Act.put, List.setIfInBounds_toArray, List.set_cons_succ, List.set_cons_zero]
        refine gw_val (by kernel_rfl) (some 38) rfl (.bool (decide (N < n))) (lt_nat rfl N n (by kernel_rfl) (by kernel_rfl) _) ?_
        simp only [Act.put, List.setIfInBounds_toArray, List.set_cons_succ, List.set_cons_zero]
        rw [hd]
        apply wpList_nil
        have CK1 := CK wr
        have hB := hM.bel
        clear hM hQ hW hd CX
        go_upto_region 27 with fail
        apply wp_region_lit
        refine gw_call (by kernel_rfl) (some 99) rfl 8 #[] (.bool true) (fun w' => Below wr.heap.size wr w') (by kernel_rfl) CK1 (fun W2 hW => ?_)
        simp only [Act.put, List.setIfInBounds_toArray, List.set_cons_succ, List.set_cons_zero]
        refine gw_val (by kernel_rfl) (some 4) rfl (.bool true) (by kernel_rfl) ?_
        simp only [Act.put, List.setIfInBounds_toArray, List.set_cons_succ, List.set_cons_zero]
        apply wpList_nil
        have HB := Lib.hid (hB.trans (hW.mono hB.size))
        clear hB hW CK CK1
        go_wp2_with fail
        go_ret
        exact ⟨rfl, HB.out⟩
end Go.Proofs.Ytjblfpifhbmfoaa
