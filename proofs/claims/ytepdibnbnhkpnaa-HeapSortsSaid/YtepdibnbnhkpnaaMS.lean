/-
  The walk of the statement on the order in which a heap is emptied, over what the program's functions are held to.
-/
import Derived.Test.YtepdibnbnhkpnaaMR
import Derived.Test.YtepdibnbnhkpnaaHG
namespace Go.Proofs.Ytepdibnbnhkpnaa
open Go.RowKit
set_option linter.unusedSimpArgs false
set_option linter.unusedVariables false

/-- In which order the region's operations come that reads a row and stores another in its place. -/
def OrdD (b1 b3 b4 b5 b8 b9 b10 : Bool) : Prop := (b10 = true → b9 = true) ∧ (b9 = true → b4 = true ∧ b8 = true) ∧ (b4 = true → b3 = true) ∧ (b3 = true → b1 = true) ∧ (b8 = true → b5 = true)
section
variable {b1 b3 b4 b5 b8 b9 b10 : Bool}
theorem odd0 : OrdD false false false false false false false := by unfold OrdD; decide
theorem odf1 (h : OrdD false b3 b4 b5 b8 b9 b10) : b10 = false := by revert h; unfold OrdD; cases b3 <;> cases b4 <;> cases b5 <;> cases b8 <;> cases b9 <;> cases b10 <;> decide
theorem odf5 (h : OrdD b1 b3 b4 false b8 b9 b10) : b10 = false := by revert h; unfold OrdD; cases b1 <;> cases b3 <;> cases b4 <;> cases b8 <;> cases b9 <;> cases b10 <;> decide
theorem odf9 (h : OrdD b1 b3 b4 b5 b8 false b10) : b10 = false := by revert h; unfold OrdD; cases b1 <;> cases b3 <;> cases b4 <;> cases b5 <;> cases b8 <;> cases b10 <;> decide
theorem odd1 (h : OrdD false b3 b4 b5 b8 b9 b10) : OrdD true b3 b4 b5 b8 b9 b10 := by revert h; unfold OrdD; cases b3 <;> cases b4 <;> cases b5 <;> cases b8 <;> cases b9 <;> cases b10 <;> decide
theorem odd5 (h : OrdD b1 b3 b4 false b8 b9 b10) : OrdD b1 b3 b4 true b8 b9 b10 := by revert h; unfold OrdD; cases b1 <;> cases b3 <;> cases b4 <;> cases b8 <;> cases b9 <;> cases b10 <;> decide
theorem odd3 (h : OrdD true false b4 b5 b8 b9 b10) : OrdD true true b4 b5 b8 b9 b10 := by revert h; unfold OrdD; cases b4 <;> cases b5 <;> cases b8 <;> cases b9 <;> cases b10 <;> decide
theorem odd4 (h : OrdD b1 true false b5 b8 b9 b10) : OrdD b1 true true b5 b8 b9 b10 := by revert h; unfold OrdD; cases b1 <;> cases b5 <;> cases b8 <;> cases b9 <;> cases b10 <;> decide
theorem odd8 (h : OrdD b1 b3 b4 true false b9 b10) : OrdD b1 b3 b4 true true b9 b10 := by revert h; unfold OrdD; cases b1 <;> cases b3 <;> cases b4 <;> cases b9 <;> cases b10 <;> decide
theorem odd9 (h : OrdD b1 b3 true b5 true false b10) : OrdD b1 b3 true b5 true true b10 := by revert h; unfold OrdD; cases b1 <;> cases b3 <;> cases b5 <;> cases b10 <;> decide
theorem odd10 (h : OrdD b1 b3 b4 b5 b8 true false) : OrdD b1 b3 b4 b5 b8 true true := by revert h; unfold OrdD; cases b1 <;> cases b3 <;> cases b4 <;> cases b5 <;> cases b8 <;> decide
end
set_option maxRecDepth 100000 in
set_option maxHeartbeats 8000000 in
theorem sorts_core {R : HRep} (hC : HeapC R 13 15 17 20 19 23 21 11) (hS : SortN R 23) (a : Option Addr) (c : Nat) (L0 : List Int) (a1 : Option Addr) (c1 : Nat) (L1 : List Int) (w : World) (hL : Cs w a (icells L0)) (hl : L0.length ≤ 140737488355328) (hR : Cs w a1 (icells L1)) (hlr : L1.length ≤ 140737488355328) :
    Calls Try.prog 5 #[.slice a L0.length c, .slice a1 L1.length c1] w fun e w' => e = .returned (.bool true) ∧ Below w.heap.size w w' := by
  have hb1 : Below w.heap.size w (w.alloc (.cells #[.slice a L0.length c, .slice a1 L1.length c1] 25)) := (Below.refl _ w).alloc (Nat.le_refl _) _
  have hX1 : Bx (w.alloc (.cells #[.slice a L0.length c, .slice a1 L1.length c1] 25)) w.heap.size #[.slice a L0.length c, .slice a1 L1.length c1] 25 := heap_alloc_last w _
  have CLn := long_two w.heap.size a L0.length c a1 L1.length c1 _ hX1 (by omega)
  have HK := Lib.hid (fun V => known_true hC V)
  have HL := Lib.hid hL
  have HR := Lib.hid hR
  obtain ⟨n, hn⟩ : ∃ n, L0.length = n := ⟨_, rfl⟩
  obtain ⟨no, hno⟩ : ∃ no, L1.length = no := ⟨_, rfl⟩
  clear hX1 hL hR
  by_cases hm : 160 < L0.length + L1.length
  · have hd : decide ((160 : Int) < ((L0.length + L1.length : Nat) : Int)) = true := decide_eq_true (by omega)
    rw [hd] at CLn
    rw [hn, hno] at hb1 CLn ⊢
    clear hd HL HR hl hlr hm hn hno hS
    go_enter Try.func5, Try.ntmps5
    go_upto_region 1 with fail
    apply wp_region_lit
    refine gw_val (by kernel_rfl) (some 22) rfl (.slice a n c) (by kernel_rfl) ?_
    simp only [Act.put, List.setIfInBounds_toArray, List.set_cons_succ, List.set_cons_zero]
    refine gw_val (by kernel_rfl) (some 23) rfl (.slice a1 no c1) (by kernel_rfl) ?_
    simp only [Act.put, List.setIfInBounds_toArray, List.set_cons_succ, List.set_cons_zero]
    refine gw_build (by kernel_rfl) (some 24) rfl 54 2 #[(0, .tmp 22), (1, .tmp 23)] rfl #[(0, .slice a n c), (1, .slice a1 no c1)] (by kernel_rfl) (.slice (some ⟨w.heap.size, 0, none⟩) 2 2) _ (two_row a n c a1 no c1 w) ?_
    simp only [Act.put, List.setIfInBounds_toArray, List.set_cons_succ, List.set_cons_zero]
    generalize w.alloc (.cells #[.slice a n c, .slice a1 no c1] 25) = W1 at *
    refine gw_call (by kernel_rfl) (some 25) rfl 7 #[.slice (some ⟨w.heap.size, 0, none⟩) 2 2] (.bool true) (fun w' => W1 = w') (by kernel_rfl) CLn (fun W2 hW => ?_)
    subst hW
    simp only [Act.put, List.setIfInBounds_toArray, List.set_cons_succ, List.set_cons_zero]
    apply wpList_nil
    clear CLn
    go_upto_region 2 with fail
    apply wp_region_lit
    refine gw_call (by kernel_rfl) (some 26) rfl 8 #[] (.bool true) (fun w' => Below W1.heap.size W1 w') (by kernel_rfl) (HK.out W1) (fun W2 hb2 => ?_)
    simp only [Act.put, List.setIfInBounds_toArray, List.set_cons_succ, List.set_cons_zero]
    refine gw_val (by kernel_rfl) (some 4) rfl (.bool true) (by kernel_rfl) ?_
    simp only [Act.put, List.setIfInBounds_toArray, List.set_cons_succ, List.set_cons_zero]
    apply wpList_nil
    have HE := Lib.hid (hb1.trans (hb2.mono hb1.size))
    clear hb1 hb2 HK
    go_wp2_with fail
    go_ret
    exact ⟨rfl, HE.out⟩
  · have hd : decide ((160 : Int) < ((L0.length + L1.length : Nat) : Int)) = false := decide_eq_false (by omega)
    rw [hd] at CLn
    have hn160 : L0.length ≤ 160 := by omega
    have hno160 : L1.length ≤ 160 := by omega
    have HNX := Lib.hid (fun (gs N : Nat) (k : Int) (V : World) (hX : Bx V gs #[.slice a L0.length c, .int .i64 N] 42) (hb : Below w.heap.size w V) (hN : N ≤ 100000) (h0 : 0 < k) (h1 : k ≤ 1000000) => mk_next gs L0 a c N k V hX (HL.out.below hb) (by omega) hN h0 h1)
    have CF := mk_from a L0.length c
    have HNO := Lib.hid hno
    rw [hn, hno] at hb1 CLn ⊢
    rw [hn] at HNX CF hn160
    rw [hno] at hno160
    clear hd HL hl hlr hm hn hno
    go_enter Try.func5, Try.ntmps5
    go_upto_region 1 with fail
    apply wp_region_lit
    refine gw_val (by kernel_rfl) (some 22) rfl (.slice a n c) (by kernel_rfl) ?_
    simp only [Act.put, List.setIfInBounds_toArray, List.set_cons_succ, List.set_cons_zero]
    refine gw_val (by kernel_rfl) (some 23) rfl (.slice a1 no c1) (by kernel_rfl) ?_
    simp only [Act.put, List.setIfInBounds_toArray, List.set_cons_succ, List.set_cons_zero]
    refine gw_build (by kernel_rfl) (some 24) rfl 54 2 #[(0, .tmp 22), (1, .tmp 23)] rfl #[(0, .slice a n c), (1, .slice a1 no c1)] (by kernel_rfl) (.slice (some ⟨w.heap.size, 0, none⟩) 2 2) _ (two_row a n c a1 no c1 w) ?_
    simp only [Act.put, List.setIfInBounds_toArray, List.set_cons_succ, List.set_cons_zero]
    generalize w.alloc (.cells #[.slice a n c, .slice a1 no c1] 25) = W1 at *
    refine gw_call (by kernel_rfl) (some 25) rfl 7 #[.slice (some ⟨w.heap.size, 0, none⟩) 2 2] (.bool false) (fun w' => W1 = w') (by kernel_rfl) CLn (fun W2 hW => ?_)
    subst hW
    simp only [Act.put, List.setIfInBounds_toArray, List.set_cons_succ, List.set_cons_zero]
    apply wpList_nil
    clear CLn
    go_upto_region 3 with fail
    apply wp_region_lit
    refine gw_val (by kernel_rfl) (some 27) rfl (.slice a n c) (by kernel_rfl) ?_
    simp only [Act.put, List.setIfInBounds_toArray, List.set_cons_succ, List.set_cons_zero]
    refine gw_call (by kernel_rfl) (some 28) rfl 9 #[.slice a n c] (.pointer (some ⟨W1.heap.size, 0, none⟩)) (fun w' => w' = W1.alloc (.cells #[.slice a n c, .int .i64 0] 42)) (by kernel_rfl) (CF W1) (fun W3 hW3 => ?_)
    simp only [Act.put, List.setIfInBounds_toArray, List.set_cons_succ, List.set_cons_zero]
    refine gw_val (by kernel_rfl) (some 5) rfl (.pointer (some ⟨W1.heap.size, 0, none⟩)) (by kernel_rfl) ?_
    simp only [Act.put, List.setIfInBounds_toArray, List.set_cons_succ, List.set_cons_zero]
    apply wpList_nil
    have hb3 : Below W1.heap.size W1 W3 := by rw [hW3]; exact (Below.refl _ W1).alloc (Nat.le_refl _) _
    have hX3 : Bx W3 W1.heap.size #[.slice a n c, .int .i64 (0 : Nat)] 42 := by rw [hW3]; exact heap_alloc_last W1 _
    have hB3 := hb1.trans (hb3.mono hb1.size)
    have hgs := hb1.size
    clear hb1 hb3 hW3 CF
    generalize W1.heap.size = gs at *
    have HM0 : Hid (ML w a n c gs 0 (.slice none 0 0) [] W3) := Lib.hid ⟨hB3, hX3, hgs, World.ownsRow_nil _ _ _ _⟩
    clear hX3 hB3 hgs
    go_upto_region 4 with fail
    apply wp_region_lit
    refine gw_val (by kernel_rfl) (some 6) rfl (.slice none 0 0) (by kernel_rfl) ?_
    simp only [Act.put, List.setIfInBounds_toArray, List.set_cons_succ, List.set_cons_zero]
    apply wpList_nil
    go_upto_region 5 with fail
    apply wp_region_lit
    refine gw_val (by kernel_rfl) (some 7) rfl (.int .i64 0) (by kernel_rfl) ?_
    simp only [Act.put, List.setIfInBounds_toArray, List.set_cons_succ, List.set_cons_zero]
    apply wpList_nil
    go_wp2_with fail
    go_loopg [6, 7] (n + 2) (fun gg s6 s7 wx => ∃ i M am cm, s6 = .slice am (List.length M) cm ∧ s7 = .int .i64 (i : Nat) ∧ List.length M = i ∧ ML w a n c gs (2 * i) (.slice am (List.length M) cm) M wx ∧ Seq M ∧ 2 * i ≤ n + 1 ∧ n + 2 - 2 * i ≤ gg)
    case atStart => exact ⟨0, [], none, 0, rfl, rfl, rfl, HM0.out, Seq.nil, by omega, by omega⟩
    case round =>
      obtain ⟨i, M, am, cm, rfl, rfl, hMi, hM, hQ, hi, hg⟩ := hrel
      clear HM0
      by_cases hlt : 2 * i < n
      · have HD : Hid (decide (2 * i < n) = true) := Lib.hid (decide_eq_true hlt)
        go_upto_region 6 with fail
        apply wp_region_lit
        refine gw_val (by kernel_rfl) (some 29) rfl (.pointer (some ⟨gs, 0, none⟩)) (by kernel_rfl) ?_
        simp only [Act.put, List.setIfInBounds_toArray, List.set_cons_succ, List.set_cons_zero]
        refine gw_val (by kernel_rfl) (some 30) rfl (.pointer (some ⟨gs, 0, none⟩)) (by kernel_rfl) ?_
        simp only [Act.put, List.setIfInBounds_toArray, List.set_cons_succ, List.set_cons_zero]
        refine gw_val (by kernel_rfl) (some 31) rfl (.pointer (some ⟨gs, 1, none⟩)) (by kernel_rfl) ?_
        simp only [Act.put, List.setIfInBounds_toArray, List.set_cons_succ, List.set_cons_zero]
        refine gw_load (by kernel_rfl) (some 32) rfl 3 (.tmp 31) rfl ⟨gs, 1, none⟩ (.int .i64 (2 * i : Nat)) (by kernel_rfl) (hM.num.load (i := 1) rfl (by kernel_rfl)) ?_
        simp only [Act.put, List.setIfInBounds_toArray, List.set_cons_succ, List.set_cons_zero]
        refine gw_val (by kernel_rfl) (some 33) rfl (.slice a n c) (by kernel_rfl) ?_
        simp only [Act.put, List.setIfInBounds_toArray, List.set_cons_succ, List.set_cons_zero]
        refine gw_val (by kernel_rfl) (some 34) rfl (.int .i64 n) (by kernel_rfl) ?_
        simp only [Act.put, List.setIfInBounds_toArray, List.set_cons_succ, List.set_cons_zero]
        refine gw_val (by kernel_rfl) (some 35) rfl (.bool true) (by rw [← HD.out]; exact lt_nat rfl (2 * i) n (by kernel_rfl) (by kernel_rfl) _) ?_
        simp only [Act.put, List.setIfInBounds_toArray, List.set_cons_succ, List.set_cons_zero]
        apply wpList_nil
        have HG : Hid (n + 2 - 2 * i ≤ gk ∧ 2 * i < n) := Lib.hid ⟨hg, hlt⟩
        have C1 := HNX.out gs (2 * i) 5 wr hM.num hM.bel (by omega) (by omega) (by omega)
        have hp1 := pl_range (L0.getD (2 * i) 0) 5 (by omega)
        generalize pl (L0.getD (2 * i) 0) 5 = q1 at *
        go_upto_region 8 with fail
        apply wp_region_lit
        refine gw_val (by kernel_rfl) (some 38) rfl (.slice am M.length cm) (by kernel_rfl) ?_
        simp only [Act.put, List.setIfInBounds_toArray, List.set_cons_succ, List.set_cons_zero]
        refine gw_val (by kernel_rfl) (some 39) rfl (.int .i64 i) (by kernel_rfl) ?_
        simp only [Act.put, List.setIfInBounds_toArray, List.set_cons_succ, List.set_cons_zero]
        refine gw_val (by kernel_rfl) (some 40) rfl (.pointer (some ⟨gs, 0, none⟩)) (by kernel_rfl) ?_
        simp only [Act.put, List.setIfInBounds_toArray, List.set_cons_succ, List.set_cons_zero]
        refine gw_call (by kernel_rfl) (some 41) rfl 16 #[.pointer (some ⟨gs, 0, none⟩), .int .i64 5] (.int .i64 q1) (fun w' => But gs wr w' ∧ Bx w' gs #[.slice a n c, .int .i64 (2 * i + 1 : Nat)] 42) (by kernel_rfl) C1 (fun V1 hq => ?_)
        simp only [Act.put, List.setIfInBounds_toArray, List.set_cons_succ, List.set_cons_zero]
        have hM1 := hM.but hq.1 hq.2
        clear hq C1 hM
        refine gw_val (by kernel_rfl) (some 42) rfl (.int .u64 q1) (conv_u64 rfl q1 (by omega) (by omega) (by kernel_rfl) _) ?_
        simp only [Act.put, List.setIfInBounds_toArray, List.set_cons_succ, List.set_cons_zero]
        refine gw_val (by kernel_rfl) (some 43) rfl (.pointer (some ⟨gs, 0, none⟩)) (by kernel_rfl) ?_
        simp only [Act.put, List.setIfInBounds_toArray, List.set_cons_succ, List.set_cons_zero]
        have C1 := HNX.out gs (2 * i + 1) 4 V1 hM1.num hM1.bel (by omega) (by omega) (by omega)
        have hp2 := pl_range (L0.getD (2 * i + 1) 0) 4 (by omega)
        generalize pl (L0.getD (2 * i + 1) 0) 4 = q2 at *
        refine gw_call (by kernel_rfl) (some 44) rfl 16 #[.pointer (some ⟨gs, 0, none⟩), .int .i64 4] (.int .i64 q2) (fun w' => But gs V1 w' ∧ Bx w' gs #[.slice a n c, .int .i64 (2 * i + 1 + 1 : Nat)] 42) (by kernel_rfl) C1 (fun V2 hq => ?_)
        simp only [Act.put, List.setIfInBounds_toArray, List.set_cons_succ, List.set_cons_zero]
        have hM2 := hM1.but hq.1 hq.2
        clear hq C1 hM1
        refine gw_val (by kernel_rfl) (some 45) rfl (.agg (itA ((((i : Nat) : Int), q1, q2) : It))) (by kernel_rfl) ?_
        simp only [Act.put, List.setIfInBounds_toArray, List.set_cons_succ, List.set_cons_zero]
        refine gw_build (by kernel_rfl) (some 46) rfl 35 1 #[(0, .tmp 45)] rfl #[(0, .agg (itA ((((i : Nat) : Int), q1, q2) : It)))] (by kernel_rfl) (.slice (some ⟨V2.heap.size, 0, none⟩) 1 1) _ (build_it ((((i : Nat) : Int), q1, q2) : It) V2) ?_
        simp only [Act.put, List.setIfInBounds_toArray, List.set_cons_succ, List.set_cons_zero]
        have hM3 := hM2.below ((Below.refl _ V2).alloc (Nat.le_refl _) (.cells (itA ((((i : Nat) : Int), q1, q2) : It)) 24))
        have hbx : Bx (V2.alloc (.cells (itA ((((i : Nat) : Int), q1, q2) : It)) 24)) V2.heap.size (itA ((((i : Nat) : Int), q1, q2) : It)) 24 := heap_alloc_last V2 _
        obtain ⟨v3, V3, hap, hM4⟩ := hM3.app ((((i : Nat) : Int), q1, q2) : It) V2.heap.size hbx (by omega)
        have hS4 := hQ.app (x := ((((i : Nat) : Int), q1, q2) : It)) (by show (i : Int) = (M.length : Int); omega)
        have hl4 : (M ++ [((((i : Nat) : Int), q1, q2) : It)]).length = i + 1 := by rw [List.length_append, hMi]; rfl
        rw [show 2 * i + 1 + 1 = 2 * (i + 1) by omega] at hM4
        obtain ⟨a4, c4, rfl, -, -⟩ := own_it hM4.row
        generalize M ++ [((((i : Nat) : Int), q1, q2) : It)] = M4 at *
        clear hM2 hM3 hbx hQ hg hlt hp1 hp2
        generalize V2.alloc (.cells (itA ((((i : Nat) : Int), q1, q2) : It)) 24) = U2 at *
        refine append_step rfl (some 47) rfl 35 rfl (.tmp 38) (.tmp 46) 35 rfl (.slice am M.length cm) (.slice (some ⟨V2.heap.size, 0, none⟩) 1 1) (.slice a4 M4.length c4) V3 (by kernel_rfl) (by kernel_rfl) hap ?_
        simp only [Act.put, List.setIfInBounds_toArray, List.set_cons_succ, List.set_cons_zero]
        clear hap
        refine gw_val (by kernel_rfl) (some 6) rfl (.slice a4 M4.length c4) (by kernel_rfl) ?_
        simp only [Act.put, List.setIfInBounds_toArray, List.set_cons_succ, List.set_cons_zero]
        apply wpList_nil
        go_upto_region 7 with fail
        apply wp_region_lit
        refine gw_val (by kernel_rfl) (some 36) rfl (.int .i64 i) (by kernel_rfl) ?_
        simp only [Act.put, List.setIfInBounds_toArray, List.set_cons_succ, List.set_cons_zero]
        refine gw_val (by kernel_rfl) (some 37) rfl (.int .i64 (i + 1 : Nat)) (add_one rfl i (by omega) (by kernel_rfl) _) ?_
        simp only [Act.put, List.setIfInBounds_toArray, List.set_cons_succ, List.set_cons_zero]
        refine gw_val (by kernel_rfl) (some 7) rfl (.int .i64 (i + 1 : Nat)) (by kernel_rfl) ?_
        simp only [Act.put, List.setIfInBounds_toArray, List.set_cons_succ, List.set_cons_zero]
        apply wpList_nil
        have HM4 := Lib.hid (And.intro hM4 (And.intro hS4 hl4))
        clear hM4 hS4 hl4
        go_wp2_with fail
        go_roundg (n + 2 - 2 * (i + 1))
        case measure => have := HG.out; omega
        case rel => exact ⟨i + 1, M4, a4, c4, rfl, rfl, HM4.out.2.2, HM4.out.1, HM4.out.2.1, by have := HG.out; omega, Nat.le_refl _⟩
      · obtain ⟨N0, hN0⟩ : ∃ N0, 2 * i = N0 := ⟨_, rfl⟩
        rw [hN0] at hM hlt
        have HD : Hid (decide (N0 < n) = false) := Lib.hid (decide_eq_false hlt)
        go_upto_region 6 with fail
        apply wp_region_lit
        refine gw_val (by kernel_rfl) (some 29) rfl (.pointer (some ⟨gs, 0, none⟩)) (by kernel_rfl) ?_
        simp only [Act.put, List.setIfInBounds_toArray, List.set_cons_succ, List.set_cons_zero]
        refine gw_val (by kernel_rfl) (some 30) rfl (.pointer (some ⟨gs, 0, none⟩)) (by kernel_rfl) ?_
        simp only [Act.put, List.setIfInBounds_toArray, List.set_cons_succ, List.set_cons_zero]
        refine gw_val (by kernel_rfl) (some 31) rfl (.pointer (some ⟨gs, 1, none⟩)) (by kernel_rfl) ?_
        simp only [Act.put, List.setIfInBounds_toArray, List.set_cons_succ, List.set_cons_zero]
        refine gw_load (by kernel_rfl) (some 32) rfl 3 (.tmp 31) rfl ⟨gs, 1, none⟩ (.int .i64 N0) (by kernel_rfl) (hM.num.load (i := 1) rfl (by kernel_rfl)) ?_
        simp only [Act.put, List.setIfInBounds_toArray, List.set_cons_succ, List.set_cons_zero]
        refine gw_val (by kernel_rfl) (some 33) rfl (.slice a n c) (by kernel_rfl) ?_
        simp only [Act.put, List.setIfInBounds_toArray, List.set_cons_succ, List.set_cons_zero]
        refine gw_val (by kernel_rfl) (some 34) rfl (.int .i64 n) (by kernel_rfl) ?_
        simp only [Act.put, List.setIfInBounds_toArray, List.set_cons_succ, List.set_cons_zero]
        refine gw_val (by kernel_rfl) (some 35) rfl (.bool false) (by rw [← HD.out]; exact lt_nat rfl N0 n (by kernel_rfl) (by kernel_rfl) _) ?_
        simp only [Act.put, List.setIfInBounds_toArray, List.set_cons_succ, List.set_cons_zero]
        apply wpList_nil
        have HND := Lib.hid hQ.ids
        have hM81 : M.length ≤ 81 := by omega
        have hlt0 : ∀ x, am = some x → x.block < wr.heap.size := fun x hx => (hM.row.lt x.block (by rw [hx]; rfl)).2
        obtain ⟨a5, c5, e5, hcs, hcm⟩ := own_it hM.row
        simp only [Value.slice.injEq, true_and] at e5
        obtain ⟨rfl, rfl⟩ := e5
        have hB := hM.bel
        clear hM hQ hi hg hlt HD HNX
        generalize wr = wR at *
        generalize gk = gO at *
        have CN := hC.new wR
        go_upto_region 9 with fail
        apply wp_region_lit
        refine gw_callE (by kernel_rfl) (some 48) rfl 13 #[] (fun v w' => ∃ g S, v = .pointer (some ⟨g, 0, none⟩) ∧ R w' g S [] ∧ (∀ k, S k → wR.heap.size ≤ k) ∧ Below wR.heap.size wR w') (by kernel_rfl) (CN.mono fun e w' h => by obtain ⟨g, S, he, h⟩ := h; exact ⟨_, he, g, S, rfl, h⟩) (fun v W5 hq => ?_)
        obtain ⟨ga, Sa, rfl, hr5, hs5, hb5⟩ := hq
        simp only [Act.put, List.setIfInBounds_toArray, List.set_cons_succ, List.set_cons_zero]
        clear CN
        have CN := hC.new W5
        refine gw_callE (by kernel_rfl) (some 49) rfl 13 #[] (fun v w' => ∃ g S, v = .pointer (some ⟨g, 0, none⟩) ∧ R w' g S [] ∧ (∀ k, S k → W5.heap.size ≤ k) ∧ Below W5.heap.size W5 w') (by kernel_rfl) (CN.mono fun e w' h => by obtain ⟨g, S, he, h⟩ := h; exact ⟨_, he, g, S, rfl, h⟩) (fun v W6 hq => ?_)
        obtain ⟨gb, Sb, rfl, hr6, hs6, hb6⟩ := hq
        simp only [Act.put, List.setIfInBounds_toArray, List.set_cons_succ, List.set_cons_zero]
        refine gw_val (by kernel_rfl) (some 8) rfl (.pointer (some ⟨ga, 0, none⟩)) (by kernel_rfl) ?_
        simp only [Act.put, List.setIfInBounds_toArray, List.set_cons_succ, List.set_cons_zero]
        refine gw_val (by kernel_rfl) (some 9) rfl (.pointer (some ⟨gb, 0, none⟩)) (by kernel_rfl) ?_
        simp only [Act.put, List.setIfInBounds_toArray, List.set_cons_succ, List.set_cons_zero]
        apply wpList_nil
        have hM2 : M2 R w ga gb Sa Sb [] [] W6 :=
          { bel := (hB.trans (hb5.mono hB.size)).trans (hb6.mono (Nat.le_trans hB.size hb5.size)), rb := hr6
            ra := hC.keep hr5 fun k hk => hb6.block k (hC.inn hr5 k hk)
            sa := fun k hk => Nat.le_trans hB.size (hs5 k hk), sb := fun k hk => Nat.le_trans hB.size (Nat.le_trans hb5.size (hs6 k hk))
            ap := fun k h1 h2 => by have h3 := hC.inn hr5 k h1; have h4 := hs6 k h2; omega }
        have hQ2 : R2 W6 Sa Sb am M := ⟨(hcs.below hb5).below hb6, fun x hx => by
          have h1 := hlt0 x hx
          have h2 := hb5.size
          have h3 := hb6.size
          exact ⟨by omega, fun h => by have := hs5 _ h; omega, fun h => by have := hs6 _ h; omega⟩⟩
        have HM0 := Lib.hid (And.intro hM2 hQ2)
        clear hM2 hQ2 hcs hlt0 hB hr5 hs5 hb5 hr6 hs6 hb6 CN
        go_upto_region 10 with fail
        apply wp_region_lit
        refine gw_val (by kernel_rfl) (some 50) rfl (.pointer (some ⟨ga, 0, none⟩)) (by kernel_rfl) ?_
        simp only [Act.put, List.setIfInBounds_toArray, List.set_cons_succ, List.set_cons_zero]
        refine gw_val (by kernel_rfl) (some 51) rfl (.bool false) (by kernel_rfl) ?_
        simp only [Act.put, List.setIfInBounds_toArray, List.set_cons_succ, List.set_cons_zero]
        refine gw_val (by kernel_rfl) (some 52) rfl (.bool false) (by kernel_rfl) ?_
        simp only [Act.put, List.setIfInBounds_toArray, List.set_cons_succ, List.set_cons_zero]
        refine gw_val (by kernel_rfl) (some 53) rfl (.pointer (some ⟨gb, 0, none⟩)) (by kernel_rfl) ?_
        simp only [Act.put, List.setIfInBounds_toArray, List.set_cons_succ, List.set_cons_zero]
        refine gw_val (by kernel_rfl) (some 54) rfl (.bool false) (by kernel_rfl) ?_
        simp only [Act.put, List.setIfInBounds_toArray, List.set_cons_succ, List.set_cons_zero]
        refine gw_val (by kernel_rfl) (some 55) rfl (.bool false) (by kernel_rfl) ?_
        simp only [Act.put, List.setIfInBounds_toArray, List.set_cons_succ, List.set_cons_zero]
        apply wpList_nil
        go_upto_region 12 with fail
        apply wp_region_lit
        refine gw_val (by kernel_rfl) (some 56) rfl (.slice am M.length cm) (by kernel_rfl) ?_
        simp only [Act.put, List.setIfInBounds_toArray, List.set_cons_succ, List.set_cons_zero]
        refine gw_val (by kernel_rfl) (some 57) rfl (.int .i64 M.length) (by kernel_rfl) ?_
        simp only [Act.put, List.setIfInBounds_toArray, List.set_cons_succ, List.set_cons_zero]
        refine gw_val (by kernel_rfl) (some 58) rfl (.int .i64 0) (by kernel_rfl) ?_
        simp only [Act.put, List.setIfInBounds_toArray, List.set_cons_succ, List.set_cons_zero]
        apply wpList_nil
        go_wp2_with fail
        go_loopg [58] (List.length M) (fun gg s58 wx => ∃ j S A, s58 = .int .i64 (j : Nat) ∧ M2 R w ga gb S Sb A [] wx ∧ R2 wx S Sb am M ∧ Wh A ∧ A.Perm (M.take j) ∧ j ≤ M.length ∧ M.length - j = gg)
        case atStart => exact ⟨0, Sa, [], rfl, HM0.out.1, HM0.out.2, Wh.nil, List.Perm.refl _, by omega, by omega⟩
        case round =>
          obtain ⟨j, S, A, rfl, hM, hQ, hW, hP, hj, hg⟩ := hrel
          clear HM0
          by_cases hlt : j < M.length
          · have HD : Hid (decide (j < M.length) = true) := Lib.hid (decide_eq_true hlt)
            have HG : Hid (M.length - (j + 1) = gk - 1 ∧ 0 < gk ∧ j + 1 ≤ M.length) := Lib.hid ⟨by omega, by omega, by omega⟩
            have hA81 : A.length ≤ 80000 := by have := hP.length_eq; rw [List.length_take] at this; omega
            obtain ⟨b, off, rfl, -, hrx⟩ := it_range hQ.cs (k := j) hlt
            have HLD := Lib.hid (load_it hrx)
            have hP2 := grow_perm hP HND.out hlt
            have hW2 := hW.ins (ita M j)
            have CPr := Lib.hid (fun V (h : M2 R w ga gb S Sb A [] V) => hC.push V ga S A (ita M j) w.heap.size h.ra hW hA81 h.sa h.bel.size)
            generalize insM A (ita M j) = D at *
            generalize ita M j = x at *
            obtain ⟨V1, hst, hgd, hbx⟩ := new_box wr x
            have hM1 := hM.below hC hgd.1
            have hQ1 := hQ.below hgd.1
            have hX1 := hM.box hC hbx
            clear hg hrx hM hQ hbx hgd hP hW hA81
            go_upto_region 13 with fail
            apply wp_region_lit
            refine gw_val (by kernel_rfl) (some 59) rfl (.bool true) (by rw [← HD.out]; exact lt_nat rfl j M.length (by kernel_rfl) (by kernel_rfl) _) ?_
            simp only [Act.put, List.setIfInBounds_toArray, List.set_cons_succ, List.set_cons_zero]
            apply wpList_nil
            go_upto_region 14 with fail
            apply wp_region_lit
            refine gw_val (by kernel_rfl) (some 60) rfl (.pointer (some ⟨b, off + j * 3, none⟩)) (idx_it b off M.length cm j hlt _ _ _ rfl (by kernel_rfl) (by kernel_rfl)) ?_
            simp only [Act.put, List.setIfInBounds_toArray, List.set_cons_succ, List.set_cons_zero]
            refine gw_load (by kernel_rfl) (some 61) rfl 24 (.tmp 60) rfl ⟨b, off + j * 3, none⟩ (.agg (itA x)) (by kernel_rfl) HLD.out ?_
            simp only [Act.put, List.setIfInBounds_toArray, List.set_cons_succ, List.set_cons_zero]
            refine run_to rfl (some 11) rfl (.pointer (some ⟨wr.heap.size, 0, none⟩)) (wr.alloc (.cells (itA zIt) 24)) (by kernel_rfl) ?_
            simp only [Act.put, List.setIfInBounds_toArray, List.set_cons_succ, List.set_cons_zero]
            refine gw_store (by kernel_rfl) rfl 24 (.tmp 11) (.tmp 61) rfl (.pointer (some ⟨wr.heap.size, 0, none⟩)) (.agg (itA x)) (by kernel_rfl) (by kernel_rfl) V1 hst ?_
            apply wpList_nil
            obtain ⟨g11, hg11⟩ : ∃ g11, wr.heap.size = g11 := ⟨_, rfl⟩
            rw [hg11] at hX1 ⊢
            clear hg11
            clear hst HLD
            go_upto_region 15 with fail
            apply wp_region_lit
            refine gw_val (by kernel_rfl) (some 62) rfl (.pointer (some ⟨ga, 0, none⟩)) (by kernel_rfl) ?_
            simp only [Act.put, List.setIfInBounds_toArray, List.set_cons_succ, List.set_cons_zero]
            refine gw_load (by kernel_rfl) (some 63) rfl 24 (.tmp 11) rfl ⟨g11, 0, none⟩ (.agg (itA x)) (by kernel_rfl) (load_box hX1.bx) ?_
            simp only [Act.put, List.setIfInBounds_toArray, List.set_cons_succ, List.set_cons_zero]
            refine gw_call (by kernel_rfl) (some 64) rfl 15 #[.pointer (some ⟨ga, 0, none⟩), .agg (itA x)] (.bool D.2) (fun w' => UpdH R ga w.heap.size S D.1 V1 w') (by kernel_rfl) (CPr.out V1 hM1) (fun V6 hu => ?_)
            simp only [Act.put, List.setIfInBounds_toArray, List.set_cons_succ, List.set_cons_zero]
            obtain ⟨S6, hM6, hq6, -⟩ := hM1.pa hC hu
            have hQ6 := hq6 _ _ hQ1
            clear hM1 hQ1 hX1 hu hq6 CPr hlt
            apply wpList_nil
            go_upto_region 16 with fail
            apply wp_region_lit
            refine gw_val (by kernel_rfl) (some 65) rfl (.int .i64 (j + 1 : Nat)) (add_one rfl j (by have := HG.out; omega) (by kernel_rfl) _) ?_
            simp only [Act.put, List.setIfInBounds_toArray, List.set_cons_succ, List.set_cons_zero]
            refine gw_val (by kernel_rfl) (some 58) rfl (.int .i64 (j + 1 : Nat)) (by kernel_rfl) ?_
            simp only [Act.put, List.setIfInBounds_toArray, List.set_cons_succ, List.set_cons_zero]
            apply wpList_nil
            have HM6 := Lib.hid (And.intro hM6 (And.intro hQ6 (And.intro hW2 hP2)))
            clear hM6 hQ6 hW2 hP2
            go_wp2_with fail
            go_roundg (gk - 1)
            case measure => have := HG.out; omega
            case rel => exact ⟨j + 1, S6, D.1, rfl, HM6.out.1, HM6.out.2.1, HM6.out.2.2.1, HM6.out.2.2.2, HG.out.2.2, HG.out.1⟩
          · have HD : Hid (decide (j < M.length) = false) := Lib.hid (decide_eq_false hlt)
            go_upto_region 13 with fail
            apply wp_region_lit
            refine gw_val (by kernel_rfl) (some 59) rfl (.bool false) (by rw [← HD.out]; exact lt_nat rfl j M.length (by kernel_rfl) (by kernel_rfl) _) ?_
            simp only [Act.put, List.setIfInBounds_toArray, List.set_cons_succ, List.set_cons_zero]
            apply wpList_nil
            rw [List.take_of_length_le (by omega)] at hP
            have HA := Lib.hid (And.intro hW hP)
            have HM0 := Lib.hid (And.intro hM (And.intro hQ hcm))
            have hA81 : A.length ≤ 81 := by have := hP.length_eq; omega
            clear hM hQ hW hP hj hg hlt HD hcm
            generalize wr = wS at *
            generalize gk = gP at *
            go_wp2_with fail
            go_loopg [6] (List.length M) (fun gg s6 wx => ∃ S9 B9 K ar cr, s6 = .slice ar (List.length K) cr ∧ M2 R w ga gb S S9 A B9 wx ∧ R2 wx S S9 ar K ∧ List.length K ≤ cr ∧ Wh B9 ∧ (B9 ++ K).Perm M ∧ List.length K = gg)
            case atStart => exact ⟨Sb, [], M, am, cm, rfl, HM0.out.1, HM0.out.2.1, HM0.out.2.2, Wh.nil, List.Perm.refl _, rfl⟩
            case round =>
              obtain ⟨S9, B9, K, ar, cr, rfl, hM, hQ, hcr, hW, hP, hg⟩ := hrel
              clear HM0
              have hPl := hP.length_eq
              rw [List.length_append] at hPl
              have hK81 : K.length ≤ 1000 := by omega
              by_cases h0 : 0 < K.length
              · have HGT : Hid (decide ((0 : Int) < (K.length : Int)) = true) := Lib.hid (decide_eq_true (by omega))
                have HG : Hid (K.length = gk ∧ 0 < K.length) := Lib.hid ⟨hg, h0⟩
                obtain ⟨b, off, rfl, -, -⟩ := it_range hQ.cs (k := 0) h0
                clear hg
                go_upto_region 17 with fail
                apply wp_region_lit
                refine gw_val (by kernel_rfl) (some 66) rfl (.slice (some ⟨b, off, none⟩) K.length cr) (by kernel_rfl) ?_
                simp only [Act.put, List.setIfInBounds_toArray, List.set_cons_succ, List.set_cons_zero]
                refine gw_val (by kernel_rfl) (some 67) rfl (.int .i64 K.length) (by kernel_rfl) ?_
                simp only [Act.put, List.setIfInBounds_toArray, List.set_cons_succ, List.set_cons_zero]
                refine gw_val (by kernel_rfl) (some 68) rfl (.bool true) (gtr_q rfl K.length 0 HGT.out (by kernel_rfl) (by kernel_rfl) _) ?_
                simp only [Act.put, List.setIfInBounds_toArray, List.set_cons_succ, List.set_cons_zero]
                apply wpList_nil
                go_upto_region 18 with fail
                apply wp_region_lit
                refine gw_val (by kernel_rfl) (some 12) rfl (.int .i64 0) (by kernel_rfl) ?_
                simp only [Act.put, List.setIfInBounds_toArray, List.set_cons_succ, List.set_cons_zero]
                apply wpList_nil
                go_upto_region 19 with fail
                by_cases ho : 0 < no
                · have HO : Hid (decide ((0 : Int) < (no : Int)) = true) := Lib.hid (decide_eq_true (by omega))
                  obtain ⟨bq, oq, rfl, -, hcell⟩ := int_at (HR.out.below hM.bel) (k := K.length % no) (by rw [HNO.out]; exact Nat.mod_lt _ ho)
                  have HC := Lib.hid (load_cell (t := 3) hcell (by kernel_rfl))
                  generalize L1.getD (K.length % no) 0 = y at *
                  obtain ⟨i2, hi, CP⟩ := place_nat y K.length wr h0 (by omega)
                  have hml := Nat.mod_lt K.length ho
                  clear hcell
                  apply wp_region_lit
                  refine gw_val (by kernel_rfl) (some 69) rfl (.slice (some ⟨bq, oq, none⟩) no c1) (by kernel_rfl) ?_
                  simp only [Act.put, List.setIfInBounds_toArray, List.set_cons_succ, List.set_cons_zero]
                  refine gw_val (by kernel_rfl) (some 70) rfl (.int .i64 no) (by kernel_rfl) ?_
                  simp only [Act.put, List.setIfInBounds_toArray, List.set_cons_succ, List.set_cons_zero]
                  refine gw_val (by kernel_rfl) (some 71) rfl (.bool true) (gtr_q rfl no 0 HO.out (by kernel_rfl) (by kernel_rfl) _) ?_
                  simp only [Act.put, List.setIfInBounds_toArray, List.set_cons_succ, List.set_cons_zero]
                  apply wpList_nil
                  go_upto_region 20 with fail
                  apply wp_region_lit
                  refine gw_val (by kernel_rfl) (some 72) rfl (.slice (some ⟨bq, oq, none⟩) no c1) (by kernel_rfl) ?_
                  simp only [Act.put, List.setIfInBounds_toArray, List.set_cons_succ, List.set_cons_zero]
                  refine gw_val (by kernel_rfl) (some 73) rfl (.slice (some ⟨b, off, none⟩) K.length cr) (by kernel_rfl) ?_
                  simp only [Act.put, List.setIfInBounds_toArray, List.set_cons_succ, List.set_cons_zero]
                  refine gw_val (by kernel_rfl) (some 74) rfl (.int .i64 K.length) (by kernel_rfl) ?_
                  simp only [Act.put, List.setIfInBounds_toArray, List.set_cons_succ, List.set_cons_zero]
                  refine gw_val (by kernel_rfl) (some 75) rfl (.slice (some ⟨bq, oq, none⟩) no c1) (by kernel_rfl) ?_
                  simp only [Act.put, List.setIfInBounds_toArray, List.set_cons_succ, List.set_cons_zero]
                  refine gw_val (by kernel_rfl) (some 76) rfl (.int .i64 no) (by kernel_rfl) ?_
                  simp only [Act.put, List.setIfInBounds_toArray, List.set_cons_succ, List.set_cons_zero]
                  refine gw_val (by kernel_rfl) (some 77) rfl (.int .i64 (K.length % no : Nat)) (rem_nat rfl K.length no ho (by kernel_rfl) (by kernel_rfl) _) ?_
                  simp only [Act.put, List.setIfInBounds_toArray, List.set_cons_succ, List.set_cons_zero]
                  refine gw_val (by kernel_rfl) (some 78) rfl (.pointer (some ⟨bq, oq + K.length % no, none⟩)) (idx_int bq oq no c1 (K.length % no) hml _ _ _ rfl (by kernel_rfl) (by kernel_rfl)) ?_
                  simp only [Act.put, List.setIfInBounds_toArray, List.set_cons_succ, List.set_cons_zero]
                  refine gw_load (by kernel_rfl) (some 79) rfl 3 (.tmp 78) rfl ⟨bq, oq + K.length % no, none⟩ (.int .i64 y) (by kernel_rfl) HC.out ?_
                  simp only [Act.put, List.setIfInBounds_toArray, List.set_cons_succ, List.set_cons_zero]
                  refine gw_val (by kernel_rfl) (some 80) rfl (.slice (some ⟨b, off, none⟩) K.length cr) (by kernel_rfl) ?_
                  simp only [Act.put, List.setIfInBounds_toArray, List.set_cons_succ, List.set_cons_zero]
                  refine gw_val (by kernel_rfl) (some 81) rfl (.int .i64 K.length) (by kernel_rfl) ?_
                  simp only [Act.put, List.setIfInBounds_toArray, List.set_cons_succ, List.set_cons_zero]
                  refine gw_call (by kernel_rfl) (some 82) rfl 24 #[.int .i64 y, .int .i64 K.length] (.int .i64 i2) (fun w' => wr = w') (by kernel_rfl) CP (fun W2 hW0 => ?_)
                  subst hW0
                  simp only [Act.put, List.setIfInBounds_toArray, List.set_cons_succ, List.set_cons_zero]
                  refine gw_val (by kernel_rfl) (some 12) rfl (.int .i64 i2) (by kernel_rfl) ?_
                  simp only [Act.put, List.setIfInBounds_toArray, List.set_cons_succ, List.set_cons_zero]
                  apply wpList_nil
                  clear CP HC HO
                  have HLD := Lib.hid ((by
                    obtain ⟨b3, o3, e3, -, hrx⟩ := it_range hQ.cs (k := i2) hi
                    simp only [Option.some.injEq, Addr.mk.injEq, and_true] at e3
                    obtain ⟨rfl, rfl⟩ := e3
                    exact load_it hrx : (Instr.loadAt 24 (.pointer (some ⟨b, off + i2 * 3, none⟩))).run Try.prog wr = .ok (.agg (itA (ita K i2))) wr))
                  have CPr := hC.push wr gb S9 B9 (ita K i2) w.heap.size hM.rb hW (by omega) hM.sb hM.bel.size
                  have hmv := (move_perm hP HND.out hi).2
                  have hW2 := hW.ins (ita K i2)
                  generalize insM B9 (ita K i2) = D at *
                  generalize ita K i2 = x at *
                  clear hP hW hPl
                  go_upto_region 21 with fail
                  apply wp_region_lit
                  refine gw_val (by kernel_rfl) (some 83) rfl (.pointer (some ⟨gb, 0, none⟩)) (by kernel_rfl) ?_
                  simp only [Act.put, List.setIfInBounds_toArray, List.set_cons_succ, List.set_cons_zero]
                  refine gw_val (by kernel_rfl) (some 84) rfl (.slice (some ⟨b, off, none⟩) K.length cr) (by kernel_rfl) ?_
                  simp only [Act.put, List.setIfInBounds_toArray, List.set_cons_succ, List.set_cons_zero]
                  refine gw_val (by kernel_rfl) (some 85) rfl (.int .i64 i2) (by kernel_rfl) ?_
                  simp only [Act.put, List.setIfInBounds_toArray, List.set_cons_succ, List.set_cons_zero]
                  refine gw_val (by kernel_rfl) (some 86) rfl (.pointer (some ⟨b, off + i2 * 3, none⟩)) (idx_it b off K.length cr i2 hi _ _ _ rfl (by kernel_rfl) (by kernel_rfl)) ?_
                  simp only [Act.put, List.setIfInBounds_toArray, List.set_cons_succ, List.set_cons_zero]
                  refine gw_load (by kernel_rfl) (some 87) rfl 24 (.tmp 86) rfl ⟨b, off + i2 * 3, none⟩ (.agg (itA x)) (by kernel_rfl) HLD.out ?_
                  simp only [Act.put, List.setIfInBounds_toArray, List.set_cons_succ, List.set_cons_zero]
                  refine gw_call (by kernel_rfl) (some 88) rfl 15 #[.pointer (some ⟨gb, 0, none⟩), .agg (itA x)] (.bool D.2) (fun w' => UpdH R gb w.heap.size S9 D.1 wr w') (by kernel_rfl) CPr (fun V5 hu => ?_)
                  simp only [Act.put, List.setIfInBounds_toArray, List.set_cons_succ, List.set_cons_zero]
                  obtain ⟨S6, hM6, hq6, -⟩ := hM.pb hC hu
                  have hQ6 := hq6 _ _ hQ
                  clear hM hQ hu hq6 CPr HLD
                  apply wpList_nil
                  have HTL : Hid ((K.take i2).length = i2) := Lib.hid (by rw [List.length_take]; omega)
                  have HDL : Hid ((K.drop (i2 + 1)).length = K.length - (i2 + 1)) := Lib.hid (by rw [List.length_drop])
                  have HLL : Hid ((K.take i2 ++ K.drop (i2 + 1)).length = K.length - 1) := Lib.hid (by rw [List.length_append, HTL.out, HDL.out]; omega)
                  have HA3 := Lib.hid hQ6.cs
                  have HM6 := Lib.hid hM6
                  have HW2 := Lib.hid (And.intro hW2 hmv)
                  have h0 := CH.start V5 x (K.take i2) (K.take i2 ++ K.drop (i2 + 1)) [] u89 u93 u98 undef undef
                  clear hM6 hQ6 hW2 hmv
                  go_upto_region 22 with fail
                  refine wp_region_inv (fun listed act9 V => ∃ b0 b1 b2 b3 b4 b5 b6 b7 b8 b9 b10 : Bool, ∃ x89 x93 x98 : Value, listed = #[b0, b1, b2, b3, b4, b5, b6, b7, b8, b9, b10] ∧ act9 = { tmps := #[.slice a n c, .slice (some ⟨bq, oq, none⟩) no c1, undef, undef, .bool false, .pointer (some ⟨gs, 0, none⟩), (cond b10 (x98) (.slice (some ⟨b, off, none⟩) K.length cr)), .int .i64 i, .pointer (some ⟨ga, 0, none⟩), .pointer (some ⟨gb, 0, none⟩), undef, u11, .int .i64 i2, undef, undef, undef, undef, undef, undef, undef, undef, undef, .slice a n c, .slice (some ⟨bq, oq, none⟩) no c1, .slice (some ⟨w.heap.size, 0, none⟩) 2 2, .bool false, undef, .slice a n c, .pointer (some ⟨gs, 0, none⟩), .pointer (some ⟨gs, 0, none⟩), .pointer (some ⟨gs, 0, none⟩), .pointer (some ⟨gs, 1, none⟩), .int .i64 N0, .slice a n c, .int .i64 n, .bool false, u36, u37, u38, u39, u40, u41, u42, u43, u44, u45, u46, u47, .pointer (some ⟨ga, 0, none⟩), .pointer (some ⟨gb, 0, none⟩), .pointer (some ⟨ga, 0, none⟩), .bool false, .bool false, .pointer (some ⟨gb, 0, none⟩), .bool false, .bool false, .slice am M.length cm, .int .i64 M.length, .int .i64 j, .bool false, u60, u61, u62, u63, u64, u65, .slice (some ⟨b, off, none⟩) K.length cr, .int .i64 K.length, .bool true, .slice (some ⟨bq, oq, none⟩) no c1, .int .i64 no, .bool true, .slice (some ⟨bq, oq, none⟩) no c1, .slice (some ⟨b, off, none⟩) K.length cr, .int .i64 K.length, .slice (some ⟨bq, oq, none⟩) no c1, .int .i64 no, .int .i64 (K.length % no : Nat), .pointer (some ⟨bq, oq + K.length % no, none⟩), .int .i64 y, .slice (some ⟨b, off, none⟩) K.length cr, .int .i64 K.length, .int .i64 i2, .pointer (some ⟨gb, 0, none⟩), .slice (some ⟨b, off, none⟩) K.length cr, .int .i64 i2, .pointer (some ⟨b, off + i2 * 3, none⟩), .agg (itA x), .bool D.2, x89, (cond b1 (.slice (some ⟨b, off, none⟩) K.length cr) (u90)), (cond b2 (.int .i64 i2) (u91)), (cond b3 (.slice (some ⟨b, off, none⟩) i2 cr) (u92)), x93, (cond b5 (.slice (some ⟨b, off, none⟩) K.length cr) (u94)), (cond b6 (.int .i64 i2) (u95)), (cond b7 (.int .i64 (i2 + 1 : Nat)) (u96)), (cond b8 (.slice (fromS 3 (some ⟨b, off, none⟩) cr (i2 + 1)) (K.length - (i2 + 1)) (cr - (i2 + 1))) (u97)), x98, undef, undef, undef, undef, undef, undef, undef, undef, undef, undef, undef, undef, undef, undef, undef, undef, undef, undef, undef, undef, undef, undef, undef, undef, undef, undef, undef, undef, undef, undef, undef, undef, undef, undef, undef, undef, undef, undef, undef, undef, undef, undef, undef, undef, undef, undef, undef, undef, undef, undef, undef, undef, undef, undef, undef], defers := [] } ∧ CH V5 x (K.take i2) (K.take i2 ++ K.drop (i2 + 1)) [] b0 b4 b9 false false x89 x93 x98 undef undef V ∧ OrdD b1 b3 b4 b5 b8 b9 b10) (by kernel_rfl) (by kernel_rfl) ?_ ?_ ?_
                  · exact ⟨false, false, false, false, false, false, false, false, false, false, false, u89, u93, u98, rfl, rfl, h0, odd0⟩
                  · intro i9 listed act9 V hi9 hr hJ
                    obtain ⟨b0, b1, b2, b3, b4, b5, b6, b7, b8, b9, b10, x89, x93, x98, rfl, rfl, hF, hA⟩ := hJ
                    have hi2 : i9 < 11 := hi9
                    have hi3 : i9 = 0 ∨ i9 = 1 ∨ i9 = 2 ∨ i9 = 3 ∨ i9 = 4 ∨ i9 = 5 ∨ i9 = 6 ∨ i9 = 7 ∨ i9 = 8 ∨ i9 = 9 ∨ i9 = 10 := by omega
                    rcases hi3 with rfl | rfl | rfl | rfl | rfl | rfl | rfl | rfl | rfl | rfl | rfl
                    · obtain rfl : b0 = false := ready_self hr
                      obtain rfl : b4 = false := by cases b4; rfl; exact absurd (hF.c1 rfl) (by decide)
                      obtain rfl : b9 = false := by cases b9; rfl; exact absurd (hF.c2 rfl) (by decide)
                      refine st_build rfl (by kernel_rfl) (some 89) rfl 35 0 #[] rfl #[] (by kernel_rfl) (.slice (some ⟨V.heap.size, 0, none⟩) 0 0) _ (nil_it V) ?_
                      exact ⟨true, b1, b2, b3, false, b5, b6, b7, b8, false, b10, _, x93, x98, rfl, rfl, hF.nil, hA⟩
                    · obtain rfl : b1 = false := ready_self hr
                      obtain rfl : b10 = false := odf1 hA
                      refine st_val rfl (by kernel_rfl) (some 90) rfl (.slice (some ⟨b, off, none⟩) K.length cr) V (by kernel_rfl) ?_
                      exact ⟨b0, true, b2, b3, b4, b5, b6, b7, b8, b9, false, x89, x93, x98, rfl, rfl, hF, (odd1 hA)⟩
                    · obtain rfl : b2 = false := ready_self hr
                      refine st_val rfl (by kernel_rfl) (some 91) rfl (.int .i64 i2) V (by kernel_rfl) ?_
                      exact ⟨b0, b1, true, b3, b4, b5, b6, b7, b8, b9, b10, x89, x93, x98, rfl, rfl, hF, hA⟩
                    · obtain rfl : b3 = false := ready_self hr
                      obtain rfl : b1 = true := ready_dep hr 1 (by kernel_rfl)
                      obtain rfl : b2 = true := ready_dep hr 2 (by kernel_rfl)
                      refine st_slice_to rfl (by kernel_rfl) (some 92) rfl 35 (.tmp 90) (.tmp 91) rfl (.slice (some ⟨b, off, none⟩) K.length cr) (.int .i64 (i2 : Int)) (.slice (some ⟨b, off, none⟩) i2 cr) (by kernel_rfl) (by kernel_rfl) (cut_it_to (some ⟨b, off, none⟩) K.length cr i2 V (by omega)) ?_
                      exact ⟨b0, true, true, true, b4, b5, b6, b7, b8, b9, b10, x89, x93, x98, rfl, rfl, hF, (odd3 hA)⟩
                    · obtain rfl : b4 = false := ready_self hr
                      obtain rfl : b0 = true := ready_dep hr 0 (by kernel_rfl)
                      obtain rfl : b3 = true := ready_dep hr 3 (by kernel_rfl)
                      obtain rfl : b9 = false := by cases b9; rfl; exact absurd (hF.c2 rfl) (by decide)
                      have hO := hF.r0 rfl rfl
                      obtain ⟨v, V2, hap, hO2, hb2, hg2, hat2⟩ := hO.app hF.bel.size (some ⟨b, off, none⟩) i2 cr (K.take i2) (by rw [← itc_take]; exact (HA3.out.below hF.bel).take _) HTL.out (by simp) (by omega)
                      refine st_append rfl (by kernel_rfl) (some 93) rfl 35 rfl (.tmp 89) (.tmp 92) 35 rfl x89 (.slice (some ⟨b, off, none⟩) i2 cr) v V2 (by kernel_rfl) (by kernel_rfl) hap ?_
                      exact ⟨true, b1, b2, true, true, b5, b6, b7, b8, false, b10, x89, v, x98, rfl, rfl, hF.one (by rw [List.nil_append] at hO2; exact hO2) hb2 hg2 hat2, (odd4 hA)⟩
                    · obtain rfl : b5 = false := ready_self hr
                      obtain rfl : b10 = false := odf5 hA
                      refine st_val rfl (by kernel_rfl) (some 94) rfl (.slice (some ⟨b, off, none⟩) K.length cr) V (by kernel_rfl) ?_
                      exact ⟨b0, b1, b2, b3, b4, true, b6, b7, b8, b9, false, x89, x93, x98, rfl, rfl, hF, (odd5 hA)⟩
                    · obtain rfl : b6 = false := ready_self hr
                      refine st_val rfl (by kernel_rfl) (some 95) rfl (.int .i64 i2) V (by kernel_rfl) ?_
                      exact ⟨b0, b1, b2, b3, b4, b5, true, b7, b8, b9, b10, x89, x93, x98, rfl, rfl, hF, hA⟩
                    · obtain rfl : b7 = false := ready_self hr
                      obtain rfl : b6 = true := ready_dep hr 6 (by kernel_rfl)
                      refine st_val rfl (by kernel_rfl) (some 96) rfl (.int .i64 (i2 + 1 : Nat)) V (add_one rfl i2 (by omega) (by kernel_rfl) V) ?_
                      exact ⟨b0, b1, b2, b3, b4, b5, true, true, b8, b9, b10, x89, x93, x98, rfl, rfl, hF, hA⟩
                    · obtain rfl : b8 = false := ready_self hr
                      obtain rfl : b5 = true := ready_dep hr 5 (by kernel_rfl)
                      obtain rfl : b7 = true := ready_dep hr 7 (by kernel_rfl)
                      refine st_slice_from rfl (by kernel_rfl) (some 97) rfl 35 (.tmp 94) (.tmp 96) rfl (.slice (some ⟨b, off, none⟩) K.length cr) (.int .i64 ((i2 + 1 : Nat) : Int)) (.slice (fromS 3 (some ⟨b, off, none⟩) cr (i2 + 1)) (K.length - (i2 + 1)) (cr - (i2 + 1))) (by kernel_rfl) (by kernel_rfl) (cut_it_from (some ⟨b, off, none⟩) K.length cr (i2 + 1) V (by omega)) ?_
                      exact ⟨b0, b1, b2, b3, b4, true, b6, true, true, b9, b10, x89, x93, x98, rfl, rfl, hF, (odd8 hA)⟩
                    · obtain rfl : b9 = false := ready_self hr
                      obtain rfl : b4 = true := ready_dep hr 4 (by kernel_rfl)
                      obtain rfl : b8 = true := ready_dep hr 8 (by kernel_rfl)
                      obtain rfl : b10 = false := odf9 hA
                      have hO := hF.r1 rfl rfl
                      obtain ⟨v, V2, hap, hO2, hb2, hg2, hat2⟩ := hO.app hF.bel.size (fromS 3 (some ⟨b, off, none⟩) cr (i2 + 1)) (K.length - (i2 + 1)) (cr - (i2 + 1)) (K.drop (i2 + 1)) (by rw [← itc_drop]; exact (HA3.out.below hF.bel).from 3 cr (i2 + 1) (by rw [itc_len]; omega)) HDL.out (by rw [HTL.out]; omega) (by omega)
                      refine st_append rfl (by kernel_rfl) (some 98) rfl 35 rfl (.tmp 93) (.tmp 97) 35 rfl x93 (.slice (fromS 3 (some ⟨b, off, none⟩) cr (i2 + 1)) (K.length - (i2 + 1)) (cr - (i2 + 1))) v V2 (by kernel_rfl) (by kernel_rfl) hap ?_
                      exact ⟨b0, b1, b2, b3, true, b5, b6, b7, true, true, false, x89, x93, v, rfl, rfl, hF.two hO2 hb2 hg2 hat2, (odd9 hA)⟩
                    · obtain rfl : b10 = false := ready_self hr
                      obtain rfl : b9 = true := ready_dep hr 9 (by kernel_rfl)
                      refine st_val rfl (by kernel_rfl) (some 6) rfl (x98) V (by kernel_rfl) ?_
                      exact ⟨b0, b1, b2, b3, b4, b5, b6, b7, b8, true, true, x89, x93, x98, rfl, rfl, hF, (odd10 hA)⟩
                  · intro act9 V hJ
                    obtain ⟨b0, b1, b2, b3, b4, b5, b6, b7, b8, b9, b10, x89, x93, x98, he, rfl, hF, hA⟩ := hJ
                    have he : (#[true, true, true, true, true, true, true, true, true, true, true] : Array Bool) = #[b0, b1, b2, b3, b4, b5, b6, b7, b8, b9, b10] := he
                    simp only [Array.mk.injEq, List.cons.injEq, and_true] at he
                    obtain ⟨rfl, rfl, rfl, rfl, rfl, rfl, rfl, rfl, rfl, rfl, rfl⟩ := he
                    simp only [cond_true]
                    have hO := hF.r2 rfl rfl
                    obtain ⟨a9, c9, rfl, hR9, hc9⟩ := HM6.out.new hC hF.bel rfl hO
                    have HF := Lib.hid (And.intro (HM6.out.below hC hF.bel) hR9)
                    clear hF h0 hO HA3 hR9
                    generalize K.take i2 ++ K.drop (i2 + 1) = L9 at *
                    go_wp2_with fail
                    go_roundg (K.length - 1)
                    case measure => have := HG.out; omega
                    case rel => exact ⟨S6, D.1, L9, a9, c9, rfl, HF.out.1, HF.out.2, hc9, HW2.out.1, HW2.out.2, HLL.out⟩
                · have HO : Hid (decide ((0 : Int) < (no : Int)) = false) := Lib.hid (decide_eq_false (by omega))
                  have hi := h0
                  apply wp_region_lit
                  refine gw_val (by kernel_rfl) (some 69) rfl (.slice a1 no c1) (by kernel_rfl) ?_
                  simp only [Act.put, List.setIfInBounds_toArray, List.set_cons_succ, List.set_cons_zero]
                  refine gw_val (by kernel_rfl) (some 70) rfl (.int .i64 no) (by kernel_rfl) ?_
                  simp only [Act.put, List.setIfInBounds_toArray, List.set_cons_succ, List.set_cons_zero]
                  refine gw_val (by kernel_rfl) (some 71) rfl (.bool false) (gtr_q rfl no 0 HO.out (by kernel_rfl) (by kernel_rfl) _) ?_
                  simp only [Act.put, List.setIfInBounds_toArray, List.set_cons_succ, List.set_cons_zero]
                  apply wpList_nil
                  clear HO
                  have HLD := Lib.hid ((by
                    obtain ⟨b3, o3, e3, -, hrx⟩ := it_range hQ.cs (k := 0) hi
                    simp only [Option.some.injEq, Addr.mk.injEq, and_true] at e3
                    obtain ⟨rfl, rfl⟩ := e3
                    exact load_it hrx : (Instr.loadAt 24 (.pointer (some ⟨b, off + 0 * 3, none⟩))).run Try.prog wr = .ok (.agg (itA (ita K 0))) wr))
                  have CPr := hC.push wr gb S9 B9 (ita K 0) w.heap.size hM.rb hW (by omega) hM.sb hM.bel.size
                  have hmv := (move_perm hP HND.out hi).2
                  have hW2 := hW.ins (ita K 0)
                  generalize insM B9 (ita K 0) = D at *
                  generalize ita K 0 = x at *
                  clear hP hW hPl
                  go_upto_region 21 with fail
                  apply wp_region_lit
                  refine gw_val (by kernel_rfl) (some 83) rfl (.pointer (some ⟨gb, 0, none⟩)) (by kernel_rfl) ?_
                  simp only [Act.put, List.setIfInBounds_toArray, List.set_cons_succ, List.set_cons_zero]
                  refine gw_val (by kernel_rfl) (some 84) rfl (.slice (some ⟨b, off, none⟩) K.length cr) (by kernel_rfl) ?_
                  simp only [Act.put, List.setIfInBounds_toArray, List.set_cons_succ, List.set_cons_zero]
                  refine gw_val (by kernel_rfl) (some 85) rfl (.int .i64 0) (by kernel_rfl) ?_
                  simp only [Act.put, List.setIfInBounds_toArray, List.set_cons_succ, List.set_cons_zero]
                  refine gw_val (by kernel_rfl) (some 86) rfl (.pointer (some ⟨b, off + 0 * 3, none⟩)) (idx_it b off K.length cr 0 hi _ _ _ rfl (by kernel_rfl) (by kernel_rfl)) ?_
                  simp only [Act.put, List.setIfInBounds_toArray, List.set_cons_succ, List.set_cons_zero]
                  refine gw_load (by kernel_rfl) (some 87) rfl 24 (.tmp 86) rfl ⟨b, off + 0 * 3, none⟩ (.agg (itA x)) (by kernel_rfl) HLD.out ?_
                  simp only [Act.put, List.setIfInBounds_toArray, List.set_cons_succ, List.set_cons_zero]
                  refine gw_call (by kernel_rfl) (some 88) rfl 15 #[.pointer (some ⟨gb, 0, none⟩), .agg (itA x)] (.bool D.2) (fun w' => UpdH R gb w.heap.size S9 D.1 wr w') (by kernel_rfl) CPr (fun V5 hu => ?_)
                  simp only [Act.put, List.setIfInBounds_toArray, List.set_cons_succ, List.set_cons_zero]
                  obtain ⟨S6, hM6, hq6, -⟩ := hM.pb hC hu
                  have hQ6 := hq6 _ _ hQ
                  clear hM hQ hu hq6 CPr HLD
                  apply wpList_nil
                  have HTL : Hid ((K.take 0).length = 0) := Lib.hid (by rw [List.length_take]; omega)
                  have HDL : Hid ((K.drop (0 + 1)).length = K.length - (0 + 1)) := Lib.hid (by rw [List.length_drop])
                  have HLL : Hid ((K.take 0 ++ K.drop (0 + 1)).length = K.length - 1) := Lib.hid (by rw [List.length_append, HTL.out, HDL.out]; omega)
                  have HA3 := Lib.hid hQ6.cs
                  have HM6 := Lib.hid hM6
                  have HW2 := Lib.hid (And.intro hW2 hmv)
                  have h0 := CH.start V5 x (K.take 0) (K.take 0 ++ K.drop (0 + 1)) [] u89 u93 u98 undef undef
                  clear hM6 hQ6 hW2 hmv
                  go_upto_region 22 with fail
                  refine wp_region_inv (fun listed act9 V => ∃ b0 b1 b2 b3 b4 b5 b6 b7 b8 b9 b10 : Bool, ∃ x89 x93 x98 : Value, listed = #[b0, b1, b2, b3, b4, b5, b6, b7, b8, b9, b10] ∧ act9 = { tmps := #[.slice a n c, .slice a1 no c1, undef, undef, .bool false, .pointer (some ⟨gs, 0, none⟩), (cond b10 (x98) (.slice (some ⟨b, off, none⟩) K.length cr)), .int .i64 i, .pointer (some ⟨ga, 0, none⟩), .pointer (some ⟨gb, 0, none⟩), undef, u11, .int .i64 0, undef, undef, undef, undef, undef, undef, undef, undef, undef, .slice a n c, .slice a1 no c1, .slice (some ⟨w.heap.size, 0, none⟩) 2 2, .bool false, undef, .slice a n c, .pointer (some ⟨gs, 0, none⟩), .pointer (some ⟨gs, 0, none⟩), .pointer (some ⟨gs, 0, none⟩), .pointer (some ⟨gs, 1, none⟩), .int .i64 N0, .slice a n c, .int .i64 n, .bool false, u36, u37, u38, u39, u40, u41, u42, u43, u44, u45, u46, u47, .pointer (some ⟨ga, 0, none⟩), .pointer (some ⟨gb, 0, none⟩), .pointer (some ⟨ga, 0, none⟩), .bool false, .bool false, .pointer (some ⟨gb, 0, none⟩), .bool false, .bool false, .slice am M.length cm, .int .i64 M.length, .int .i64 j, .bool false, u60, u61, u62, u63, u64, u65, .slice (some ⟨b, off, none⟩) K.length cr, .int .i64 K.length, .bool true, .slice a1 no c1, .int .i64 no, .bool false, u72, u73, u74, u75, u76, u77, u78, u79, u80, u81, u82, .pointer (some ⟨gb, 0, none⟩), .slice (some ⟨b, off, none⟩) K.length cr, .int .i64 0, .pointer (some ⟨b, off + 0 * 3, none⟩), .agg (itA x), .bool D.2, x89, (cond b1 (.slice (some ⟨b, off, none⟩) K.length cr) (u90)), (cond b2 (.int .i64 0) (u91)), (cond b3 (.slice (some ⟨b, off, none⟩) 0 cr) (u92)), x93, (cond b5 (.slice (some ⟨b, off, none⟩) K.length cr) (u94)), (cond b6 (.int .i64 0) (u95)), (cond b7 (.int .i64 (0 + 1 : Nat)) (u96)), (cond b8 (.slice (fromS 3 (some ⟨b, off, none⟩) cr (0 + 1)) (K.length - (0 + 1)) (cr - (0 + 1))) (u97)), x98, undef, undef, undef, undef, undef, undef, undef, undef, undef, undef, undef, undef, undef, undef, undef, undef, undef, undef, undef, undef, undef, undef, undef, undef, undef, undef, undef, undef, undef, undef, undef, undef, undef, undef, undef, undef, undef, undef, undef, undef, undef, undef, undef, undef, undef, undef, undef, undef, undef, undef, undef, undef, undef, undef, undef], defers := [] } ∧ CH V5 x (K.take 0) (K.take 0 ++ K.drop (0 + 1)) [] b0 b4 b9 false false x89 x93 x98 undef undef V ∧ OrdD b1 b3 b4 b5 b8 b9 b10) (by kernel_rfl) (by kernel_rfl) ?_ ?_ ?_
                  · exact ⟨false, false, false, false, false, false, false, false, false, false, false, u89, u93, u98, rfl, rfl, h0, odd0⟩
                  · intro i9 listed act9 V hi9 hr hJ
                    obtain ⟨b0, b1, b2, b3, b4, b5, b6, b7, b8, b9, b10, x89, x93, x98, rfl, rfl, hF, hA⟩ := hJ
                    have hi2 : i9 < 11 := hi9
                    have hi3 : i9 = 0 ∨ i9 = 1 ∨ i9 = 2 ∨ i9 = 3 ∨ i9 = 4 ∨ i9 = 5 ∨ i9 = 6 ∨ i9 = 7 ∨ i9 = 8 ∨ i9 = 9 ∨ i9 = 10 := by omega
                    rcases hi3 with rfl | rfl | rfl | rfl | rfl | rfl | rfl | rfl | rfl | rfl | rfl
                    · obtain rfl : b0 = false := ready_self hr
                      obtain rfl : b4 = false := by cases b4; rfl; exact absurd (hF.c1 rfl) (by decide)
                      obtain rfl : b9 = false := by cases b9; rfl; exact absurd (hF.c2 rfl) (by decide)
                      refine st_build rfl (by kernel_rfl) (some 89) rfl 35 0 #[] rfl #[] (by kernel_rfl) (.slice (some ⟨V.heap.size, 0, none⟩) 0 0) _ (nil_it V) ?_
                      exact ⟨true, b1, b2, b3, false, b5, b6, b7, b8, false, b10, _, x93, x98, rfl, rfl, hF.nil, hA⟩
                    · obtain rfl : b1 = false := ready_self hr
                      obtain rfl : b10 = false := odf1 hA
                      refine st_val rfl (by kernel_rfl) (some 90) rfl (.slice (some ⟨b, off, none⟩) K.length cr) V (by kernel_rfl) ?_
                      exact ⟨b0, true, b2, b3, b4, b5, b6, b7, b8, b9, false, x89, x93, x98, rfl, rfl, hF, (odd1 hA)⟩
                    · obtain rfl : b2 = false := ready_self hr
                      refine st_val rfl (by kernel_rfl) (some 91) rfl (.int .i64 0) V (by kernel_rfl) ?_
                      exact ⟨b0, b1, true, b3, b4, b5, b6, b7, b8, b9, b10, x89, x93, x98, rfl, rfl, hF, hA⟩
                    · obtain rfl : b3 = false := ready_self hr
                      obtain rfl : b1 = true := ready_dep hr 1 (by kernel_rfl)
                      obtain rfl : b2 = true := ready_dep hr 2 (by kernel_rfl)
                      refine st_slice_to rfl (by kernel_rfl) (some 92) rfl 35 (.tmp 90) (.tmp 91) rfl (.slice (some ⟨b, off, none⟩) K.length cr) (.int .i64 (0 : Int)) (.slice (some ⟨b, off, none⟩) 0 cr) (by kernel_rfl) (by kernel_rfl) (cut_it_to (some ⟨b, off, none⟩) K.length cr 0 V (by omega)) ?_
                      exact ⟨b0, true, true, true, b4, b5, b6, b7, b8, b9, b10, x89, x93, x98, rfl, rfl, hF, (odd3 hA)⟩
                    · obtain rfl : b4 = false := ready_self hr
                      obtain rfl : b0 = true := ready_dep hr 0 (by kernel_rfl)
                      obtain rfl : b3 = true := ready_dep hr 3 (by kernel_rfl)
                      obtain rfl : b9 = false := by cases b9; rfl; exact absurd (hF.c2 rfl) (by decide)
                      have hO := hF.r0 rfl rfl
                      obtain ⟨v, V2, hap, hO2, hb2, hg2, hat2⟩ := hO.app hF.bel.size (some ⟨b, off, none⟩) 0 cr (K.take 0) (by rw [← itc_take]; exact (HA3.out.below hF.bel).take _) HTL.out (by simp) (by omega)
                      refine st_append rfl (by kernel_rfl) (some 93) rfl 35 rfl (.tmp 89) (.tmp 92) 35 rfl x89 (.slice (some ⟨b, off, none⟩) 0 cr) v V2 (by kernel_rfl) (by kernel_rfl) hap ?_
                      exact ⟨true, b1, b2, true, true, b5, b6, b7, b8, false, b10, x89, v, x98, rfl, rfl, hF.one (by rw [List.nil_append] at hO2; exact hO2) hb2 hg2 hat2, (odd4 hA)⟩
                    · obtain rfl : b5 = false := ready_self hr
                      obtain rfl : b10 = false := odf5 hA
                      refine st_val rfl (by kernel_rfl) (some 94) rfl (.slice (some ⟨b, off, none⟩) K.length cr) V (by kernel_rfl) ?_
                      exact ⟨b0, b1, b2, b3, b4, true, b6, b7, b8, b9, false, x89, x93, x98, rfl, rfl, hF, (odd5 hA)⟩
                    · obtain rfl : b6 = false := ready_self hr
                      refine st_val rfl (by kernel_rfl) (some 95) rfl (.int .i64 0) V (by kernel_rfl) ?_
                      exact ⟨b0, b1, b2, b3, b4, b5, true, b7, b8, b9, b10, x89, x93, x98, rfl, rfl, hF, hA⟩
                    · obtain rfl : b7 = false := ready_self hr
                      obtain rfl : b6 = true := ready_dep hr 6 (by kernel_rfl)
                      refine st_val rfl (by kernel_rfl) (some 96) rfl (.int .i64 (0 + 1 : Nat)) V (add_one rfl 0 (by omega) (by kernel_rfl) V) ?_
                      exact ⟨b0, b1, b2, b3, b4, b5, true, true, b8, b9, b10, x89, x93, x98, rfl, rfl, hF, hA⟩
                    · obtain rfl : b8 = false := ready_self hr
                      obtain rfl : b5 = true := ready_dep hr 5 (by kernel_rfl)
                      obtain rfl : b7 = true := ready_dep hr 7 (by kernel_rfl)
                      refine st_slice_from rfl (by kernel_rfl) (some 97) rfl 35 (.tmp 94) (.tmp 96) rfl (.slice (some ⟨b, off, none⟩) K.length cr) (.int .i64 ((0 + 1 : Nat) : Int)) (.slice (fromS 3 (some ⟨b, off, none⟩) cr (0 + 1)) (K.length - (0 + 1)) (cr - (0 + 1))) (by kernel_rfl) (by kernel_rfl) (cut_it_from (some ⟨b, off, none⟩) K.length cr (0 + 1) V (by omega)) ?_
                      exact ⟨b0, b1, b2, b3, b4, true, b6, true, true, b9, b10, x89, x93, x98, rfl, rfl, hF, (odd8 hA)⟩
                    · obtain rfl : b9 = false := ready_self hr
                      obtain rfl : b4 = true := ready_dep hr 4 (by kernel_rfl)
                      obtain rfl : b8 = true := ready_dep hr 8 (by kernel_rfl)
                      obtain rfl : b10 = false := odf9 hA
                      have hO := hF.r1 rfl rfl
                      obtain ⟨v, V2, hap, hO2, hb2, hg2, hat2⟩ := hO.app hF.bel.size (fromS 3 (some ⟨b, off, none⟩) cr (0 + 1)) (K.length - (0 + 1)) (cr - (0 + 1)) (K.drop (0 + 1)) (by rw [← itc_drop]; exact (HA3.out.below hF.bel).from 3 cr (0 + 1) (by rw [itc_len]; omega)) HDL.out (by rw [HTL.out]; omega) (by omega)
                      refine st_append rfl (by kernel_rfl) (some 98) rfl 35 rfl (.tmp 93) (.tmp 97) 35 rfl x93 (.slice (fromS 3 (some ⟨b, off, none⟩) cr (0 + 1)) (K.length - (0 + 1)) (cr - (0 + 1))) v V2 (by kernel_rfl) (by kernel_rfl) hap ?_
                      exact ⟨b0, b1, b2, b3, true, b5, b6, b7, true, true, false, x89, x93, v, rfl, rfl, hF.two hO2 hb2 hg2 hat2, (odd9 hA)⟩
                    · obtain rfl : b10 = false := ready_self hr
                      obtain rfl : b9 = true := ready_dep hr 9 (by kernel_rfl)
                      refine st_val rfl (by kernel_rfl) (some 6) rfl (x98) V (by kernel_rfl) ?_
                      exact ⟨b0, b1, b2, b3, b4, b5, b6, b7, b8, true, true, x89, x93, x98, rfl, rfl, hF, (odd10 hA)⟩
                  · intro act9 V hJ
                    obtain ⟨b0, b1, b2, b3, b4, b5, b6, b7, b8, b9, b10, x89, x93, x98, he, rfl, hF, hA⟩ := hJ
                    have he : (#[true, true, true, true, true, true, true, true, true, true, true] : Array Bool) = #[b0, b1, b2, b3, b4, b5, b6, b7, b8, b9, b10] := he
                    simp only [Array.mk.injEq, List.cons.injEq, and_true] at he
                    obtain ⟨rfl, rfl, rfl, rfl, rfl, rfl, rfl, rfl, rfl, rfl, rfl⟩ := he
                    simp only [cond_true]
                    have hO := hF.r2 rfl rfl
                    obtain ⟨a9, c9, rfl, hR9, hc9⟩ := HM6.out.new hC hF.bel rfl hO
                    have HF := Lib.hid (And.intro (HM6.out.below hC hF.bel) hR9)
                    clear hF h0 hO HA3 hR9
                    generalize K.take 0 ++ K.drop (0 + 1) = L9 at *
                    go_wp2_with fail
                    go_roundg (K.length - 1)
                    case measure => have := HG.out; omega
                    case rel => exact ⟨S6, D.1, L9, a9, c9, rfl, HF.out.1, HF.out.2, hc9, HW2.out.1, HW2.out.2, HLL.out⟩
              · have HGT : Hid (decide ((0 : Int) < (K.length : Int)) = false) := Lib.hid (decide_eq_false (by omega))
                go_upto_region 17 with fail
                apply wp_region_lit
                refine gw_val (by kernel_rfl) (some 66) rfl (.slice ar K.length cr) (by kernel_rfl) ?_
                simp only [Act.put, List.setIfInBounds_toArray, List.set_cons_succ, List.set_cons_zero]
                refine gw_val (by kernel_rfl) (some 67) rfl (.int .i64 K.length) (by kernel_rfl) ?_
                simp only [Act.put, List.setIfInBounds_toArray, List.set_cons_succ, List.set_cons_zero]
                refine gw_val (by kernel_rfl) (some 68) rfl (.bool false) (gtr_q rfl K.length 0 HGT.out (by kernel_rfl) (by kernel_rfl) _) ?_
                simp only [Act.put, List.setIfInBounds_toArray, List.set_cons_succ, List.set_cons_zero]
                apply wpList_nil
                obtain rfl : K = [] := List.eq_nil_of_length_eq_zero (by omega)
                rw [List.append_nil] at hP
                obtain rfl : A = B9 := srt_uniq (HA.out.2.trans hP.symm) HA.out.1.srt hW.srt
                have CSO := hS wr ga S A hM.ra hW (by omega)
                have HW := Lib.hid hW
                clear HA hP hPl hW hQ hcr HGT hg h0 HND HR HNO
                generalize wr = wT at *
                generalize gk = gQ at *
                go_upto_region 23 with fail
                apply wp_region_lit
                refine gw_val (by kernel_rfl) (some 99) rfl (.pointer (some ⟨ga, 0, none⟩)) (by kernel_rfl) ?_
                simp only [Act.put, List.setIfInBounds_toArray, List.set_cons_succ, List.set_cons_zero]
                refine gw_callE (by kernel_rfl) (some 100) rfl 23 #[.pointer (some ⟨ga, 0, none⟩)] (fun v w' => ∃ ak ck, v = .slice ak A.length ck ∧ Cs w' ak (itc A) ∧ A.length ≤ ck ∧ Below wT.heap.size wT w' ∧ New wT w' ak) (by kernel_rfl) (CSO.mono fun e w' q => by obtain ⟨ak, ck, he, h⟩ := q; exact ⟨_, he, ak, ck, rfl, h⟩) (fun v V1 hq => ?_)
                obtain ⟨ak, ck, rfl, hcs, hck, hb1, hnw⟩ := hq
                simp only [Act.put, List.setIfInBounds_toArray, List.set_cons_succ, List.set_cons_zero]
                refine gw_val (by kernel_rfl) (some 13) rfl (.slice ak A.length ck) (by kernel_rfl) ?_
                simp only [Act.put, List.setIfInBounds_toArray, List.set_cons_succ, List.set_cons_zero]
                apply wpList_nil
                have hQ1 : R2 V1 S S9 ak A := ⟨hcs, fun x hx => ⟨(hnw x hx).2, fun h => by have h1 := hC.inn hM.ra _ h; have h2 := (hnw x hx).1; omega, fun h => by have h1 := hC.inn hM.rb _ h; have h2 := (hnw x hx).1; omega⟩⟩
                have HM0 := Lib.hid (And.intro (hM.below hC hb1) hQ1)
                clear hM hcs hck hb1 hnw hQ1 CSO
                go_upto_region 24 with fail
                apply wp_region_lit
                refine gw_val (by kernel_rfl) (some 101) rfl (.slice ak A.length ck) (by kernel_rfl) ?_
                simp only [Act.put, List.setIfInBounds_toArray, List.set_cons_succ, List.set_cons_zero]
                refine gw_val (by kernel_rfl) (some 102) rfl (.int .i64 A.length) (by kernel_rfl) ?_
                simp only [Act.put, List.setIfInBounds_toArray, List.set_cons_succ, List.set_cons_zero]
                refine gw_val (by kernel_rfl) (some 103) rfl (.int .i64 0) (by kernel_rfl) ?_
                simp only [Act.put, List.setIfInBounds_toArray, List.set_cons_succ, List.set_cons_zero]
                apply wpList_nil
                go_wp2_with fail
                go_loopg [103] (List.length A) (fun gg s103 wx => ∃ j T1 T2, s103 = .int .i64 (j : Nat) ∧ M2 R w ga gb T1 T2 (A.drop j) (A.drop j) wx ∧ R2 wx T1 T2 ak A ∧ j ≤ A.length ∧ A.length - j = gg)
                case atStart => exact ⟨0, S, S9, rfl, HM0.out.1, HM0.out.2, by omega, by omega⟩
                case round =>
                  obtain ⟨j4, T1, T2, rfl, hM, hQ, hj, hg⟩ := hrel
                  clear HM0
                  by_cases hlt : j4 < A.length
                  · have HD : Hid (decide (j4 < A.length) = true) := Lib.hid (decide_eq_true hlt)
                    have HG : Hid (A.length - (j4 + 1) = gk - 1 ∧ 0 < gk ∧ j4 + 1 ≤ A.length) := Lib.hid ⟨by omega, by omega, by omega⟩
                    have hl4 : (A.drop j4).length ≤ 80000 := by rw [List.length_drop]; omega
                    have hW4 := HW.out.sub (List.drop_sublist j4 A)
                    obtain ⟨b, off, rfl, -, hrx⟩ := it_range hQ.cs (k := j4) hlt
                    have HLD := Lib.hid (load_it hrx)
                    have CPA := Lib.hid (fun V (h : M2 R w ga gb T1 T2 (A.drop j4) (A.drop j4) V) => (by
                      have := hC.pop V ga T1 (A.drop j4) w.heap.size h.ra hW4 hl4 h.sa h.bel.size
                      rw [drop_head9 hlt, drop_pos9 hlt, drop_tail9] at this
                      exact this : Calls Try.prog 17 #[.pointer (some ⟨ga, 0, none⟩)] V fun e w' => e = .returned (.tuple #[.agg (itA (ita A j4)), .bool true]) ∧ UpdH R ga w.heap.size T1 (A.drop (j4 + 1)) V w'))
                    have CPB := Lib.hid (fun V S1 (h : M2 R w ga gb S1 T2 (A.drop (j4 + 1)) (A.drop j4) V) => (by
                      have := hC.pop V gb T2 (A.drop j4) w.heap.size h.rb hW4 hl4 h.sb h.bel.size
                      rw [drop_head9 hlt, drop_pos9 hlt, drop_tail9] at this
                      exact this : Calls Try.prog 17 #[.pointer (some ⟨gb, 0, none⟩)] V fun e w' => e = .returned (.tuple #[.agg (itA (ita A j4)), .bool true]) ∧ UpdH R gb w.heap.size T2 (A.drop (j4 + 1)) V w'))
                    generalize ita A j4 = x at *
                    generalize A.drop j4 = A1 at *
                    obtain ⟨A2, hA2⟩ : ∃ A2, A.drop (j4 + 1) = A2 := ⟨_, rfl⟩
                    rw [hA2] at CPA CPB
                    obtain ⟨V1, hst, hgd, hbx⟩ := new_box wr x
                    have hM1 := hM.below hC hgd.1
                    have hQ1 := hQ.below hgd.1
                    have hX1 := hM.box hC hbx
                    clear hg hrx hM hQ hbx hgd hW4 hl4
                    go_upto_region 25 with fail
                    apply wp_region_lit
                    refine gw_val (by kernel_rfl) (some 104) rfl (.bool true) (by rw [← HD.out]; exact lt_nat rfl j4 A.length (by kernel_rfl) (by kernel_rfl) _) ?_
                    simp only [Act.put, List.setIfInBounds_toArray, List.set_cons_succ, List.set_cons_zero]
                    apply wpList_nil
                    go_upto_region 26 with fail
                    apply wp_region_lit
                    refine gw_val (by kernel_rfl) (some 105) rfl (.pointer (some ⟨b, off + j4 * 3, none⟩)) (idx_it b off A.length ck j4 hlt _ _ _ rfl (by kernel_rfl) (by kernel_rfl)) ?_
                    simp only [Act.put, List.setIfInBounds_toArray, List.set_cons_succ, List.set_cons_zero]
                    refine gw_load (by kernel_rfl) (some 106) rfl 24 (.tmp 105) rfl ⟨b, off + j4 * 3, none⟩ (.agg (itA x)) (by kernel_rfl) HLD.out ?_
                    simp only [Act.put, List.setIfInBounds_toArray, List.set_cons_succ, List.set_cons_zero]
                    refine run_to rfl (some 15) rfl (.pointer (some ⟨wr.heap.size, 0, none⟩)) (wr.alloc (.cells (itA zIt) 24)) (by kernel_rfl) ?_
                    simp only [Act.put, List.setIfInBounds_toArray, List.set_cons_succ, List.set_cons_zero]
                    refine gw_store (by kernel_rfl) rfl 24 (.tmp 15) (.tmp 106) rfl (.pointer (some ⟨wr.heap.size, 0, none⟩)) (.agg (itA x)) (by kernel_rfl) (by kernel_rfl) V1 hst ?_
                    apply wpList_nil
                    obtain ⟨g15, hg15⟩ : ∃ g15, wr.heap.size = g15 := ⟨_, rfl⟩
                    rw [hg15] at hX1 ⊢
                    clear hg15
                    clear hst HLD
                    go_upto_region 27 with fail
                    apply wp_region_lit
                    refine gw_val (by kernel_rfl) (some 108) rfl (.pointer (some ⟨ga, 0, none⟩)) (by kernel_rfl) ?_
                    simp only [Act.put, List.setIfInBounds_toArray, List.set_cons_succ, List.set_cons_zero]
                    refine gw_call (by kernel_rfl) (some 109) rfl 17 #[.pointer (some ⟨ga, 0, none⟩)] (.tuple #[.agg (itA x), .bool true]) (fun w' => UpdH R ga w.heap.size T1 A2 V1 w') (by kernel_rfl) (CPA.out V1 hM1) (fun V2 hu => ?_)
                    simp only [Act.put, List.setIfInBounds_toArray, List.set_cons_succ, List.set_cons_zero]
                    obtain ⟨SV2, hMV2, hqV2, hxV2⟩ := hM1.pa hC hu
                    have hQV2 := hqV2 _ _ hQ1
                    have hXV20 := hxV2 _ _ hX1
                    obtain ⟨V3, hst, hgd, hbx⟩ := new_box V2 x
                    have hMV3 := hMV2.below hC hgd.1
                    have hQV3 := hQV2.below hgd.1
                    have hXV30 := hXV20.below hgd.1
                    have hXV31 := hMV2.box hC hbx
                    clear hu hqV2 hxV2 hgd hbx hM1 hQ1 hMV2 hQV2 hX1 hXV20
                    refine gw_val (by kernel_rfl) (some 107) rfl (.tuple #[.agg (itA x), .bool true]) (by kernel_rfl) ?_
                    simp only [Act.put, List.setIfInBounds_toArray, List.set_cons_succ, List.set_cons_zero]
                    refine gw_val (by kernel_rfl) (some 110) rfl (.agg (itA x)) (by kernel_rfl) ?_
                    simp only [Act.put, List.setIfInBounds_toArray, List.set_cons_succ, List.set_cons_zero]
                    refine gw_val (by kernel_rfl) (some 111) rfl (.bool true) (by kernel_rfl) ?_
                    simp only [Act.put, List.setIfInBounds_toArray, List.set_cons_succ, List.set_cons_zero]
                    refine run_to rfl (some 16) rfl (.pointer (some ⟨V2.heap.size, 0, none⟩)) (V2.alloc (.cells (itA zIt) 24)) (by kernel_rfl) ?_
                    simp only [Act.put, List.setIfInBounds_toArray, List.set_cons_succ, List.set_cons_zero]
                    refine gw_store (by kernel_rfl) rfl 24 (.tmp 16) (.tmp 110) rfl (.pointer (some ⟨V2.heap.size, 0, none⟩)) (.agg (itA x)) (by kernel_rfl) (by kernel_rfl) V3 hst ?_
                    refine gw_val (by kernel_rfl) (some 17) rfl (.bool true) (by kernel_rfl) ?_
                    simp only [Act.put, List.setIfInBounds_toArray, List.set_cons_succ, List.set_cons_zero]
                    apply wpList_nil
                    obtain ⟨g16, hg16⟩ : ∃ g16, V2.heap.size = g16 := ⟨_, rfl⟩
                    rw [hg16] at hXV31 ⊢
                    clear hg16
                    clear hst
                    clear CPA
                    go_upto_region 28 with fail
                    apply wp_region_lit
                    refine gw_val (by kernel_rfl) (some 113) rfl (.pointer (some ⟨gb, 0, none⟩)) (by kernel_rfl) ?_
                    simp only [Act.put, List.setIfInBounds_toArray, List.set_cons_succ, List.set_cons_zero]
                    refine gw_call (by kernel_rfl) (some 114) rfl 17 #[.pointer (some ⟨gb, 0, none⟩)] (.tuple #[.agg (itA x), .bool true]) (fun w' => UpdH R gb w.heap.size T2 A2 V3 w') (by kernel_rfl) (CPB.out V3 _ hMV3) (fun V4 hu => ?_)
                    simp only [Act.put, List.setIfInBounds_toArray, List.set_cons_succ, List.set_cons_zero]
                    obtain ⟨SV4, hMV4, hqV4, hxV4⟩ := hMV3.pb hC hu
                    have hQV4 := hqV4 _ _ hQV3
                    have hXV40 := hxV4 _ _ hXV30
                    have hXV41 := hxV4 _ _ hXV31
                    obtain ⟨V5, hst, hgd, hbx⟩ := new_box V4 x
                    have hMV5 := hMV4.below hC hgd.1
                    have hQV5 := hQV4.below hgd.1
                    have hXV50 := hXV40.below hgd.1
                    have hXV51 := hXV41.below hgd.1
                    have hXV52 := hMV4.box hC hbx
                    clear hu hqV4 hxV4 hgd hbx hMV3 hQV3 hMV4 hQV4 hXV30 hXV31 hXV40 hXV41
                    refine gw_val (by kernel_rfl) (some 112) rfl (.tuple #[.agg (itA x), .bool true]) (by kernel_rfl) ?_
                    simp only [Act.put, List.setIfInBounds_toArray, List.set_cons_succ, List.set_cons_zero]
                    refine gw_val (by kernel_rfl) (some 115) rfl (.agg (itA x)) (by kernel_rfl) ?_
                    simp only [Act.put, List.setIfInBounds_toArray, List.set_cons_succ, List.set_cons_zero]
                    refine gw_val (by kernel_rfl) (some 116) rfl (.bool true) (by kernel_rfl) ?_
                    simp only [Act.put, List.setIfInBounds_toArray, List.set_cons_succ, List.set_cons_zero]
                    refine run_to rfl (some 18) rfl (.pointer (some ⟨V4.heap.size, 0, none⟩)) (V4.alloc (.cells (itA zIt) 24)) (by kernel_rfl) ?_
                    simp only [Act.put, List.setIfInBounds_toArray, List.set_cons_succ, List.set_cons_zero]
                    refine gw_store (by kernel_rfl) rfl 24 (.tmp 18) (.tmp 115) rfl (.pointer (some ⟨V4.heap.size, 0, none⟩)) (.agg (itA x)) (by kernel_rfl) (by kernel_rfl) V5 hst ?_
                    refine gw_val (by kernel_rfl) (some 19) rfl (.bool true) (by kernel_rfl) ?_
                    simp only [Act.put, List.setIfInBounds_toArray, List.set_cons_succ, List.set_cons_zero]
                    apply wpList_nil
                    obtain ⟨g18, hg18⟩ : ∃ g18, V4.heap.size = g18 := ⟨_, rfl⟩
                    rw [hg18] at hXV52 ⊢
                    clear hg18
                    clear hst
                    clear CPB
                    have HX0 := Lib.hid (load_box hXV50.bx)
                    have HX1 := Lib.hid (load_box hXV51.bx)
                    have HX2 := Lib.hid (load_box hXV52.bx)
                    have HM5 := Lib.hid (And.intro hMV5 hQV5)
                    clear hXV50 hXV51 hXV52 hMV5 hQV5 hlt
                    go_upto_region 29 with fail
                    apply wp_region_lit
                    refine gw_val (by kernel_rfl) (some 117) rfl (.bool true) (by kernel_rfl) ?_
                    simp only [Act.put, List.setIfInBounds_toArray, List.set_cons_succ, List.set_cons_zero]
                    refine gw_val (by kernel_rfl) (some 118) rfl (.bool false) (by kernel_rfl) ?_
                    simp only [Act.put, List.setIfInBounds_toArray, List.set_cons_succ, List.set_cons_zero]
                    refine gw_val (by kernel_rfl) (some 119) rfl (.bool false) (by kernel_rfl) ?_
                    simp only [Act.put, List.setIfInBounds_toArray, List.set_cons_succ, List.set_cons_zero]
                    refine gw_val (by kernel_rfl) (some 120) rfl (.bool true) (by kernel_rfl) ?_
                    simp only [Act.put, List.setIfInBounds_toArray, List.set_cons_succ, List.set_cons_zero]
                    refine gw_val (by kernel_rfl) (some 121) rfl (.bool false) (by kernel_rfl) ?_
                    simp only [Act.put, List.setIfInBounds_toArray, List.set_cons_succ, List.set_cons_zero]
                    refine gw_val (by kernel_rfl) (some 122) rfl (.bool false) (by kernel_rfl) ?_
                    simp only [Act.put, List.setIfInBounds_toArray, List.set_cons_succ, List.set_cons_zero]
                    refine gw_val (by kernel_rfl) (some 123) rfl (.bool false) (by kernel_rfl) ?_
                    simp only [Act.put, List.setIfInBounds_toArray, List.set_cons_succ, List.set_cons_zero]
                    refine gw_load (by kernel_rfl) (some 124) rfl 24 (.tmp 15) rfl ⟨g15, 0, none⟩ (.agg (itA x)) (by kernel_rfl) (HX0.out) ?_
                    simp only [Act.put, List.setIfInBounds_toArray, List.set_cons_succ, List.set_cons_zero]
                    refine gw_load (by kernel_rfl) (some 125) rfl 24 (.tmp 16) rfl ⟨g16, 0, none⟩ (.agg (itA x)) (by kernel_rfl) (HX1.out) ?_
                    simp only [Act.put, List.setIfInBounds_toArray, List.set_cons_succ, List.set_cons_zero]
                    refine gw_val (by kernel_rfl) (some 126) rfl (.bool false) (same_it rfl x (by kernel_rfl) (by kernel_rfl) _) ?_
                    simp only [Act.put, List.setIfInBounds_toArray, List.set_cons_succ, List.set_cons_zero]
                    refine gw_val (by kernel_rfl) (some 127) rfl (.bool false) (by kernel_rfl) ?_
                    simp only [Act.put, List.setIfInBounds_toArray, List.set_cons_succ, List.set_cons_zero]
                    refine gw_val (by kernel_rfl) (some 128) rfl (.bool false) (by kernel_rfl) ?_
                    simp only [Act.put, List.setIfInBounds_toArray, List.set_cons_succ, List.set_cons_zero]
                    refine gw_load (by kernel_rfl) (some 129) rfl 24 (.tmp 15) rfl ⟨g15, 0, none⟩ (.agg (itA x)) (by kernel_rfl) (HX0.out) ?_
                    simp only [Act.put, List.setIfInBounds_toArray, List.set_cons_succ, List.set_cons_zero]
                    refine gw_load (by kernel_rfl) (some 130) rfl 24 (.tmp 18) rfl ⟨g18, 0, none⟩ (.agg (itA x)) (by kernel_rfl) (HX2.out) ?_
                    simp only [Act.put, List.setIfInBounds_toArray, List.set_cons_succ, List.set_cons_zero]
                    refine gw_val (by kernel_rfl) (some 131) rfl (.bool false) (same_it rfl x (by kernel_rfl) (by kernel_rfl) _) ?_
                    simp only [Act.put, List.setIfInBounds_toArray, List.set_cons_succ, List.set_cons_zero]
                    refine gw_val (by kernel_rfl) (some 132) rfl (.bool false) (by kernel_rfl) ?_
                    simp only [Act.put, List.setIfInBounds_toArray, List.set_cons_succ, List.set_cons_zero]
                    apply wpList_nil
                    clear HX0 HX1 HX2
                    go_upto_region 31 with fail
                    apply wp_region_lit
                    refine gw_val (by kernel_rfl) (some 133) rfl (.int .i64 (j4 + 1 : Nat)) (add_one rfl j4 (by have := HG.out; omega) (by kernel_rfl) _) ?_
                    simp only [Act.put, List.setIfInBounds_toArray, List.set_cons_succ, List.set_cons_zero]
                    refine gw_val (by kernel_rfl) (some 103) rfl (.int .i64 (j4 + 1 : Nat)) (by kernel_rfl) ?_
                    simp only [Act.put, List.setIfInBounds_toArray, List.set_cons_succ, List.set_cons_zero]
                    apply wpList_nil
                    go_wp2_with fail
                    go_roundg (gk - 1)
                    case measure => have := HG.out; omega
                    case rel => exact ⟨j4 + 1, _, _, rfl, by rw [hA2]; exact HM5.out.1, HM5.out.2, HG.out.2.2, HG.out.1⟩
                  · have HD : Hid (decide (j4 < A.length) = false) := Lib.hid (decide_eq_false hlt)
                    go_upto_region 25 with fail
                    apply wp_region_lit
                    refine gw_val (by kernel_rfl) (some 104) rfl (.bool false) (by rw [← HD.out]; exact lt_nat rfl j4 A.length (by kernel_rfl) (by kernel_rfl) _) ?_
                    simp only [Act.put, List.setIfInBounds_toArray, List.set_cons_succ, List.set_cons_zero]
                    apply wpList_nil
                    rw [List.drop_eq_nil_of_le (by omega)] at hM
                    have CPA : Calls Try.prog 17 #[.pointer (some ⟨ga, 0, none⟩)] wr fun e w' => e = .returned (.tuple #[.agg (itA zIt), .bool false]) ∧ UpdH R ga w.heap.size T1 [] wr w' := hC.pop wr ga T1 [] w.heap.size hM.ra Wh.nil (by simp) hM.sa hM.bel.size
                    clear HD hlt hj hg HW
                    go_upto_region 32 with fail
                    apply wp_region_lit
                    refine gw_val (by kernel_rfl) (some 135) rfl (.pointer (some ⟨ga, 0, none⟩)) (by kernel_rfl) ?_
                    simp only [Act.put, List.setIfInBounds_toArray, List.set_cons_succ, List.set_cons_zero]
                    refine gw_call (by kernel_rfl) (some 136) rfl 17 #[.pointer (some ⟨ga, 0, none⟩)] (.tuple #[.agg (itA zIt), .bool false]) (fun w' => UpdH R ga w.heap.size T1 [] wr w') (by kernel_rfl) (CPA) (fun V2 hu => ?_)
                    simp only [Act.put, List.setIfInBounds_toArray, List.set_cons_succ, List.set_cons_zero]
                    obtain ⟨SV2, hMV2, hqV2, hxV2⟩ := hM.pa hC hu
                    have hQV2 := hqV2 _ _ hQ
                    obtain ⟨V3, hst, hgd, hbx⟩ := new_box V2 zIt
                    have hMV3 := hMV2.below hC hgd.1
                    have hQV3 := hQV2.below hgd.1
                    have hXV30 := hMV2.box hC hbx
                    clear hu hqV2 hxV2 hgd hbx hM hQ hMV2 hQV2  
                    refine gw_val (by kernel_rfl) (some 134) rfl (.tuple #[.agg (itA zIt), .bool false]) (by kernel_rfl) ?_
                    simp only [Act.put, List.setIfInBounds_toArray, List.set_cons_succ, List.set_cons_zero]
                    refine gw_val (by kernel_rfl) (some 137) rfl (.agg (itA zIt)) (by kernel_rfl) ?_
                    simp only [Act.put, List.setIfInBounds_toArray, List.set_cons_succ, List.set_cons_zero]
                    refine gw_val (by kernel_rfl) (some 138) rfl (.bool false) (by kernel_rfl) ?_
                    simp only [Act.put, List.setIfInBounds_toArray, List.set_cons_succ, List.set_cons_zero]
                    refine run_to rfl (some 20) rfl (.pointer (some ⟨V2.heap.size, 0, none⟩)) (V2.alloc (.cells (itA zIt) 24)) (by kernel_rfl) ?_
                    simp only [Act.put, List.setIfInBounds_toArray, List.set_cons_succ, List.set_cons_zero]
                    refine gw_store (by kernel_rfl) rfl 24 (.tmp 20) (.tmp 137) rfl (.pointer (some ⟨V2.heap.size, 0, none⟩)) (.agg (itA zIt)) (by kernel_rfl) (by kernel_rfl) V3 hst ?_
                    refine gw_val (by kernel_rfl) (some 21) rfl (.bool false) (by kernel_rfl) ?_
                    simp only [Act.put, List.setIfInBounds_toArray, List.set_cons_succ, List.set_cons_zero]
                    apply wpList_nil
                    obtain ⟨g20, hg20⟩ : ∃ g20, V2.heap.size = g20 := ⟨_, rfl⟩
                    rw [hg20] at hXV30 ⊢
                    clear hg20
                    clear hst
                    clear CPA hQV3 hXV30
                    have CLA : Calls Try.prog 21 #[.pointer (some ⟨ga, 0, none⟩)] V3 fun e w' => e = .returned (.int .i64 0) ∧ Below V3.heap.size V3 w' := hC.len V3 ga SV2 [] hMV3.ra Wh.nil (by simp)
                    have CLB := Lib.hid (fun V (h : M2 R w ga gb SV2 T2 [] [] V) => (hC.len V gb T2 [] h.rb Wh.nil (by simp) : Calls Try.prog 21 #[.pointer (some ⟨gb, 0, none⟩)] V fun e w' => e = .returned (.int .i64 0) ∧ Below V.heap.size V w'))
                    go_upto_region 33 with fail
                    apply wp_region_lit
                    refine gw_val (by kernel_rfl) (some 139) rfl (.bool false) (by kernel_rfl) ?_
                    simp only [Act.put, List.setIfInBounds_toArray, List.set_cons_succ, List.set_cons_zero]
                    refine gw_val (by kernel_rfl) (some 140) rfl (.bool true) (by kernel_rfl) ?_
                    simp only [Act.put, List.setIfInBounds_toArray, List.set_cons_succ, List.set_cons_zero]
                    refine gw_val (by kernel_rfl) (some 141) rfl (.bool true) (by kernel_rfl) ?_
                    simp only [Act.put, List.setIfInBounds_toArray, List.set_cons_succ, List.set_cons_zero]
                    refine gw_val (by kernel_rfl) (some 142) rfl (.pointer (some ⟨ga, 0, none⟩)) (by kernel_rfl) ?_
                    simp only [Act.put, List.setIfInBounds_toArray, List.set_cons_succ, List.set_cons_zero]
                    refine gw_call (by kernel_rfl) (some 143) rfl 21 #[.pointer (some ⟨ga, 0, none⟩)] (.int .i64 0) (fun w' => Below V3.heap.size V3 w') (by kernel_rfl) (CLA) (fun V6 hb => ?_)
                    simp only [Act.put, List.setIfInBounds_toArray, List.set_cons_succ, List.set_cons_zero]
                    have hMV6 := hMV3.below hC hb
                    clear hb CLA hMV3
                    refine gw_val (by kernel_rfl) (some 144) rfl (.bool true) (by kernel_rfl) ?_
                    simp only [Act.put, List.setIfInBounds_toArray, List.set_cons_succ, List.set_cons_zero]
                    refine gw_val (by kernel_rfl) (some 145) rfl (.bool true) (by kernel_rfl) ?_
                    simp only [Act.put, List.setIfInBounds_toArray, List.set_cons_succ, List.set_cons_zero]
                    refine gw_val (by kernel_rfl) (some 146) rfl (.bool true) (by kernel_rfl) ?_
                    simp only [Act.put, List.setIfInBounds_toArray, List.set_cons_succ, List.set_cons_zero]
                    refine gw_val (by kernel_rfl) (some 147) rfl (.pointer (some ⟨gb, 0, none⟩)) (by kernel_rfl) ?_
                    simp only [Act.put, List.setIfInBounds_toArray, List.set_cons_succ, List.set_cons_zero]
                    refine gw_call (by kernel_rfl) (some 148) rfl 21 #[.pointer (some ⟨gb, 0, none⟩)] (.int .i64 0) (fun w' => Below V6.heap.size V6 w') (by kernel_rfl) (CLB.out V6 hMV6) (fun V7 hb => ?_)
                    simp only [Act.put, List.setIfInBounds_toArray, List.set_cons_succ, List.set_cons_zero]
                    have hMV7 := hMV6.below hC hb
                    clear hb CLB hMV6
                    refine gw_val (by kernel_rfl) (some 149) rfl (.bool true) (by kernel_rfl) ?_
                    simp only [Act.put, List.setIfInBounds_toArray, List.set_cons_succ, List.set_cons_zero]
                    refine gw_val (by kernel_rfl) (some 150) rfl (.bool true) (by kernel_rfl) ?_
                    simp only [Act.put, List.setIfInBounds_toArray, List.set_cons_succ, List.set_cons_zero]
                    refine gw_val (by kernel_rfl) (some 151) rfl (.bool true) (by kernel_rfl) ?_
                    simp only [Act.put, List.setIfInBounds_toArray, List.set_cons_succ, List.set_cons_zero]
                    refine gw_call (by kernel_rfl) (some 152) rfl 8 #[] (.bool true) (fun w' => Below V7.heap.size V7 w') (by kernel_rfl) (HK.out V7) (fun V8 hb => ?_)
                    simp only [Act.put, List.setIfInBounds_toArray, List.set_cons_succ, List.set_cons_zero]
                    have HE := Lib.hid (hMV7.bel.trans (hb.mono hMV7.bel.size))
                    clear hb hMV7 HK
                    refine gw_val (by kernel_rfl) (some 153) rfl (.bool true) (by kernel_rfl) ?_
                    simp only [Act.put, List.setIfInBounds_toArray, List.set_cons_succ, List.set_cons_zero]
                    refine gw_val (by kernel_rfl) (some 4) rfl (.bool true) (by kernel_rfl) ?_
                    simp only [Act.put, List.setIfInBounds_toArray, List.set_cons_succ, List.set_cons_zero]
                    apply wpList_nil
                    go_wp2_with fail
                    go_ret
                    exact ⟨rfl, HE.out⟩
end Go.Proofs.Ytepdibnbnhkpnaa
