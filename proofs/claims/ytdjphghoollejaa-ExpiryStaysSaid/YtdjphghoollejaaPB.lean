/-
 cmp.Compare, cmp.Or, the program's compare, the library's binary search over waits: contracts.
-/
import Derived.Test.YtdjphghoollejaaMP
import Derived.Test.YtdjphghoollejaaSQC
namespace Go.Proofs.Ytdjphghoollejaa
attribute [local irreducible] wpList wpQuiet
open Go.RowKit
set_option maxRecDepth 100000
set_option linter.unusedSimpArgs false
set_option linter.unusedVariables false

/-- Two numbers compared; two waits. -/
def cpI (x y : Int) : Int := if x < y then -1 else if y < x then 1 else 0
def cp2 (a b : Eo) : Int := if cpI a.1 b.1 = 0 then cpI a.2 b.2 else cpI a.1 b.1
theorem cpI_neg {x y : Int} : cpI x y < 0 ↔ x < y := by
 unfold cpI
 split
 ·omega
 ·split <;> omega
theorem cpI_zero {x y : Int} : cpI x y = 0 ↔ x = y := by
 unfold cpI
 split
 ·omega
 ·split <;> omega
theorem cp2_lt (a b : Eo) : decide (cp2 a b < 0) = lt2 a b := by
 unfold cp2
 rw [Bool.eq_iff_iff, decide_eq_true_iff, lt2_iff]
 by_cases h : cpI a.1 b.1 = 0
 ·rw [if_pos h, cpI_neg]
  rw [cpI_zero] at h
  omega
 ·rw [if_neg h, cpI_neg]
  rw [cpI_zero] at h
  omega
def fnz : List Int → Int
 | [] => 0
 | x :: r => if x = 0 then fnz r else x
theorem fnz_at (L : List Int) (k : Nat) (h : k < L.length) : fnz (L.drop k) = if L.getD k 0 = 0 then fnz (L.drop (k + 1)) else L.getD k 0 := by
 rw [List.drop_eq_getElem_cons h, getD_lt L k 0 h]
 rfl
theorem fnz2 (a b : Eo) : fnz [cpI a.1 b.1, cpI a.2 b.2] = cp2 a b := by
 unfold cp2 fnz fnz fnz
 by_cases h : cpI a.1 b.1 = 0
 ·rw [if_pos h, if_pos h]
  by_cases h2 : cpI a.2 b.2 = 0
  ·rw [if_pos h2, h2]
  ·rw [if_neg h2]
 ·rw [if_neg h, if_neg h]
def ena (A : List Eo) (j : Nat) : Eo := A.getD j zen
/-- Is it there? -/
def hasE (A : List Eo) (q : Eo) : Bool := decide (cntE A q < A.length ∧ cp2 (ena A (cntE A q)) q = 0)
def SrtI (A : List Eo) : Prop := ∀ i j, i < j → j < A.length → lt2 (ena A i) (ena A j) = true
theorem srtI {A : List Eo} (h : SrtE A) : SrtI A := fun i j hij hj => by
 have := List.pairwise_iff_getElem.1 h i j (by omega) hj hij
 unfold ena
 rwa [getD_lt A i zen (by omega), getD_lt A j zen hj]
theorem en_rga {w : World} {a : Option Addr} {L : List Eo} (h : Cs w a (encs L)) {i : Nat} (hi : i < L.length) : ∃ b off, a = some ⟨b, off, none⟩ ∧ b < w.heap.size ∧ w.rangeAt b (off + i * 2) (enl (ena L i)) := en_rg h hi
theorem ena_mem {A : List Eo} {j : Nat} (h : j < A.length) : ena A j ∈ A := by unfold ena; rw [getD_lt A j zen h]; exact List.getElem_mem h
theorem bs_is {A : List Eo} {i : Nat} (hi : i ≤ A.length) {q : Eo} (h1 : ∀ t, t < i → lt2 (ena A t) q = true) (h2 : ∀ t, i ≤ t → t < A.length → lt2 (ena A t) q = false) : i = cntE A q := by
 have hA : ∀ e ∈ A.take i, lt2 e q = true := fun e he => by
  obtain ⟨t, ht, rfl⟩ := List.mem_take_iff_getElem.1 he
  have := h1 t (by omega)
  unfold ena at this
  rwa [getD_lt A t zen (by omega)] at this
 have hB : ∀ e ∈ A.drop i, lt2 e q = false := fun e he => by
  obtain ⟨t, ht, rfl⟩ := List.mem_drop_iff_getElem.1 he
  have h3 := h2 (i + t) (by omega) (by omega)
  unfold ena at h3
  rwa [getD_lt A (i + t) zen (by omega)] at h3
 conv => rhs; rw [← List.take_append_drop i A]
 rw [cnt_is hA hB, List.length_take]; omega
theorem two_boxe (x y : Eo) (w : World) : Below w.heap.size w ((w.alloc (.cells (enA x) 62)).alloc (.cells (enA y) 62)) ∧ Bx ((w.alloc (.cells (enA x) 62)).alloc (.cells (enA y) 62)) w.heap.size (enA x) 62 ∧ Bx ((w.alloc (.cells (enA x) 62)).alloc (.cells (enA y) 62)) (w.heap.size + 1) (enA y) 62 := by
 have hs : (w.alloc (.cells (enA x) 62)).heap.size = w.heap.size + 1 := by simp
 refine ⟨((Below.refl _ w).alloc (Nat.le_refl _) _).alloc (by rw [hs]; omega) _, ?_, ?_⟩
 ·have h0 : Bx (w.alloc (.cells (enA x) 62)) w.heap.size (enA x) 62 := heap_alloc_last w _
  exact h0.below h0.lt ((Below.refl _ _).alloc (Nat.le_refl _) _)
 ·have h1 := heap_alloc_last (w.alloc (.cells (enA x) 62)) (.cells (enA y) 62)
  rw [hs] at h1
  exact h1
theorem two_int (a b : Int) (w : World) : (Instr.buildSlice 22 2 #[(0, .int .i64 a), (1, .int .i64 b)]).run Try.prog w = .ok (.slice (some ⟨w.heap.size, 0, none⟩) 2 2) (w.alloc (.cells (icells [a, b]).toArray 3)) := by
 obtain ⟨i0, hi, hz0, hz1, hz2⟩ := info_parts infoI
 refine run_buildSlice w 22 3 2 _ (icells [a, b]).toArray i0 _ Try.underlying22 hi hz0 (by rw [hz1]; omega) (by rw [hz1]; omega) ?_
 rw [hz1]
 kernel_rfl
theorem conv_iB {ρ : Operand → Value} {o : Oper} {x : Operand} (ho : o.op = .convert 3 73 x) (a : Nat) (h : a ≤ 9223372036854775807) (hx : ρ x = .int .i64 a) (w : World) : (execOp ρ o).run Try.prog w = .ok (.value (.int .u64 a)) w := by
 have e : IntKind.u64.wrap (a : Int) = a := by rw [IntKind.wrap_u64]; omega
 unfold execOp
 simp only [ho, hx]
 go_simp
theorem conv_uB {ρ : Operand → Value} {o : Oper} {x : Operand} (ho : o.op = .convert 73 3 x) (a : Nat) (h : a ≤ 9223372036854775807) (hx : ρ x = .int .u64 a) (w : World) : (execOp ρ o).run Try.prog w = .ok (.value (.int .i64 a)) w := by
 have e : IntKind.i64.wrap (a : Int) = a := by rw [IntKind.wrap_i64]; omega
 unfold execOp
 simp only [ho, hx]
 go_simp
theorem half_u {ρ : Operand → Value} {o : Oper} {x y : Operand} (ho : o.op = .binOp .shr 73 x y 73) (a : Nat) (h : a ≤ 9223372036854775807) (hx : ρ x = .int .u64 a) (hy : ρ y = .int .u64 1) (w : World) : (execOp ρ o).run Try.prog w = .ok (.value (.int .u64 (a / 2 : Nat))) w := by
 unfold execOp
 simp only [ho, hx, hy]
 go_simp
set_option maxRecDepth 100000 in
set_option maxHeartbeats 8000000 in
theorem q_nan (x : Int) (w : World) : Calls Try.prog 50 #[.int .i64 x] w fun e w' => e = .returned (.bool false) ∧ w = w' := by
 go_enter Try.func50, Try.ntmps50
 go_upto_region 1 with fail
 refine wl <| gz2 (.int .i64 x) (.int .i64 x) <| gzb (neq_n rfl x x (decide_eq_false (fun h => h rfl))) <| gz1 (.bool false) <| wn ?_
 simp only [pu]
 go_wp2_with fail
 go_ret
 exact ⟨rfl, rfl⟩
set_option maxRecDepth 100000 in
set_option maxHeartbeats 8000000 in
theorem q_cmp (a b : Int) (w : World) : Calls Try.prog 36 #[.int .i64 a, .int .i64 b] w fun e w' => e = .returned (.int .i64 (cpI a b)) ∧ w = w' := by
 have C1 := q_nan a w
 have C2 := q_nan b w
 obtain ⟨q, hq⟩ : ∃ q, cpI a b = q := ⟨_, rfl⟩
 have HQ : Hid ((a < b → q = -1) ∧ (¬ a < b → b < a → q = 1) ∧ (¬ a < b → ¬ b < a → q = 0)) := Lib.hid ⟨fun h => by rw [← hq]; exact if_pos h, fun h h2 => by rw [← hq]; unfold cpI; rw [if_neg h, if_pos h2], fun h h2 => by rw [← hq]; unfold cpI; rw [if_neg h, if_neg h2]⟩
 rw [hq]
 clear hq
 go_enter Try.func36, Try.ntmps36
 go_upto_region 1 with fail
 refine wl <| gz1 (.int .i64 a) <| gzc (.bool false) (fun w' => w = w') (C1) (fun V9 hV9 => ?_)
 subst hV9
 simp only [pu]
 refine gz1 (.bool false) <| wn ?_
 simp only [pu]
 go_upto_region 2 with fail
 refine wl <| gz1 (.int .i64 b) <| gzc (.bool false) (fun w' => w = w') (C2) (fun V9 hV9 => ?_)
 subst hV9
 simp only [pu]
 refine gz1 (.bool false) <| wn ?_
 simp only [pu]
 clear C1 C2
 go_upto_region 3 with fail
 refine wl <| gz1 (.bool false) <| wn ?_
 simp only [pu]
 go_upto_region 7 with fail
 refine wl <| gz1 (.bool false) <| wn ?_
 simp only [pu]
 by_cases h1 : a < b
 ·skip
  obtain rfl := HQ.out.1 h1
  go_upto_region 9 with fail
  refine wl <| gz2 (.int .i64 a) (.int .i64 b) <| gzb (lss_n rfl a b (decide_eq_true h1)) <| wn ?_
  simp only [pu]
  go_upto_region 10 with fail
  refine wl <| gz1 (.int .i64 (-1)) <| wn ?_
  simp only [pu]
  go_wp2_with fail
  go_ret
  exact ⟨rfl, rfl⟩
 ·skip
  go_upto_region 9 with fail
  refine wl <| gz2 (.int .i64 a) (.int .i64 b) <| gzb (lss_n rfl a b (decide_eq_false h1)) <| wn ?_
  simp only [pu]
  by_cases h2 : b < a
  ·skip
   obtain rfl := HQ.out.2.1 h1 h2
   go_upto_region 11 with fail
   refine wl <| gz2 (.int .i64 a) (.int .i64 b) <| gzb (gtr_n rfl a b (decide_eq_true h2)) <| wn ?_
   simp only [pu]
   go_upto_region 12 with fail
   refine wl <| gz1 (.int .i64 1) <| wn ?_
   simp only [pu]
   go_wp2_with fail
   go_ret
   exact ⟨rfl, rfl⟩
  ·skip
   obtain rfl := HQ.out.2.2 h1 h2
   go_upto_region 11 with fail
   refine wl <| gz2 (.int .i64 a) (.int .i64 b) <| gzb (gtr_n rfl a b (decide_eq_false h2)) <| wn ?_
   simp only [pu]
   go_upto_region 13 with fail
   refine wl <| gz1 (.int .i64 0) <| wn ?_
   simp only [pu]
   go_wp2_with fail
   go_ret
   exact ⟨rfl, rfl⟩
set_option maxRecDepth 100000 in
set_option maxHeartbeats 8000000 in
theorem or_any (L : List Int) (gb c : Nat) (w : World) (hl : L.length ≤ 1000) (hX : Cs w (some ⟨gb, 0, none⟩) (icells L)) : Calls Try.prog 35 #[.slice (some ⟨gb, 0, none⟩) L.length c] w fun e w' => e = .returned (.int .i64 (fnz L)) ∧ w = w' := by
 have HR := Lib.hid (show fnz (L.drop 0) = fnz L from rfl)
 have HC := Lib.hid hX
 have HA : Hid (∀ i, i < L.length → fnz (L.drop i) = if L.getD i 0 = 0 then fnz (L.drop (i + 1)) else L.getD i 0) := Lib.hid fun i hi => fnz_at L i hi
 have HD : Hid (fnz (L.drop L.length) = 0) := Lib.hid (by rw [List.drop_length]; rfl)
 generalize fnz L = R at *
 obtain ⟨n, hn⟩ : ∃ n, L.length = n := ⟨_, rfl⟩
 have HN := Lib.hid hn
 rw [hn] at hl HA HD ⊢
 clear hn hX
 go_enter Try.func35, Try.ntmps35
 go_upto_region 1 with fail
 refine wl <| gz1 (.int .i64 0) <| wn ?_
 simp only [pu]
 go_upto_region 2 with fail
 refine wl <| gz3 (.slice (some ⟨gb, 0, none⟩) n c) (.int .i64 n) (.int .i64 0) <| wn ?_
 simp only [pu]
 go_wp2_with fail
 go_loopg [8] n (fun gg s8 wx => ∃ i : Nat, s8 = .int .i64 i ∧ i ≤ n ∧ Hid (fnz (L.drop i) = R) ∧ w = wx ∧ n - i = gg)
 case atStart => exact ⟨0, rfl, by omega, HR, rfl, rfl⟩
 case round =>
  obtain ⟨i, rfl, hi, hR, rfl, hg⟩ := hrel
  have HGK := Lib.hid hg
  clear hg
  by_cases hlt : i < n
  ·skip
   obtain ⟨b, off, e2, hbb, hrx⟩ := int_at HC.out (k := i) (by rw [HN.out]; exact hlt)
   simp only [Option.some.injEq, Addr.mk.injEq, and_true] at e2
   obtain ⟨rfl, rfl⟩ := e2
   have hR1 := hR.out
   rw [HA.out i hlt] at hR1
   generalize L.getD i 0 = x at *
   have HR1 := Lib.hid hR1
   have HX := Lib.hid hrx
   clear hR1 hR hrx
   go_upto_region 3 with fail
   refine wl <| gzb (lss_n rfl (i) (n) dT) <| wn ?_
   simp only [pu]
   go_upto_region 4 with fail
   refine wl <| gzv (.pointer (some ⟨gb, 0 + i, none⟩)) (idx_int gb 0 n c i hlt _ _ _ rfl (by kernel_rfl) (by kernel_rfl)) <| gzl rfl ⟨gb, 0 + i, none⟩ (.int .i64 x) (load_cell HX.out (by kernel_rfl)) <| gz1 (.int .i64 x) <| wn ?_
   simp only [pu]
   by_cases hx0 : x = 0
   ·skip
    have hR2 := HR1.out
    rw [if_pos hx0] at hR2
    have HR2 := Lib.hid hR2
    clear hR2 HR1 HX
    go_upto_region 5 with fail
    refine wl <| gz2 (.int .i64 x) (.int .i64 0) <| gzb (neq_n rfl x 0 (decide_eq_false (fun h => h hx0))) <| wn ?_
    simp only [pu]
    clear hx0
    go_upto_region 7 with fail
    refine wl <| gzv (.int .i64 (i + 1 : Nat)) (add_one rfl i (by omega) (by kernel_rfl) _) <| gz1 (.int .i64 (i + 1 : Nat)) <| wn ?_
    simp only [pu]
    go_wp2_with fail
    go_roundg (n - (i + 1))
    case measure => have := HGK.out; omega
    case rel => exact ⟨i + 1, rfl, by omega, HR2, rfl, rfl⟩
   ·skip
    have hR2 := HR1.out
    rw [if_neg hx0] at hR2
    have HR2 := Lib.hid hR2
    clear hR2 HR1 HX
    go_upto_region 5 with fail
    refine wl <| gz2 (.int .i64 x) (.int .i64 0) <| gzb (neq_n rfl x 0 (decide_eq_true hx0)) <| wn ?_
    simp only [pu]
    have HX0 := Lib.hid hx0
    clear hx0
    go_upto_region 6 with fail
    refine wl <| gz2 (.int .i64 x) (.int .i64 x) <| wn ?_
    simp only [pu]
    go_wp2_with fail
    go_ret
    exact ⟨by rw [HR2.out]; rfl, rfl⟩
  ·skip
   obtain rfl : i = n := by omega
   have hR1 := hR.out
   rw [HD.out] at hR1
   have HR1 := Lib.hid hR1
   clear hR1 hR
   go_upto_region 3 with fail
   refine wl <| gzb (lss_n rfl (i) (i) dF) <| wn ?_
   simp only [pu]
   go_upto_region 8 with fail
   refine wl <| gz2 (.int .i64 0) (.int .i64 0) <| wn ?_
   simp only [pu]
   go_wp2_with fail
   go_ret
   exact ⟨by rw [← HR1.out]; rfl, rfl⟩
set_option maxRecDepth 100000 in
set_option maxHeartbeats 8000000 in
theorem q_compare (x y : Eo) (w : World) : Calls Try.prog 29 #[.agg (enA x), .agg (enA y)] w fun e w' => e = .returned (.int .i64 (cp2 x y)) ∧ Below w.heap.size w w' := by
 have HF := Lib.hid (fnz2 x y)
 generalize cp2 x y = R at *
 obtain ⟨hg, h1, h2⟩ := two_boxe x y w
 obtain ⟨W, hW⟩ : ∃ W, (w.alloc (.cells (enA x) 62)).alloc (.cells (enA y) 62) = W := ⟨_, rfl⟩
 rw [hW] at hg h1 h2
 obtain ⟨g0, e0⟩ : ∃ g0, w.heap.size = g0 := ⟨_, rfl⟩
 rw [e0] at h1 h2
 go_enter Try.func29, Try.ntmps29
 go_upto_region 1 with fail
 have HG := Lib.hid hg
 clear e0 hg hW
 refine wp_region_class_tail (C := fun U => Below W.heap.size W U) 10 (by kernel_rfl) (by kernel_rfl) ((Below.refl _ W).drew) ?_
 simp only [List.take_succ_cons, List.take_zero, List.drop_succ_cons, List.drop_zero]
 refine gy (.pointer (some ⟨g0, 0, none⟩)) <| gyl rfl ⟨g0, 0, none⟩ (.int .i64 x.1) (fun U hU => (h1.below h1.lt hU).load (i := 0) rfl (by kernel_rfl)) <| gy (.pointer (some ⟨g0 + 1, 0, none⟩)) <|
   gyl rfl ⟨g0 + 1, 0, none⟩ (.int .i64 y.1) (fun U hU => (h2.below h2.lt hU).load (i := 0) rfl (by kernel_rfl)) ?_
 simp only [pu]
 refine gq_call (by kernel_rfl) (some 9) rfl 36 #[.int .i64 x.1, .int .i64 y.1] (.int .i64 (cpI x.1 y.1)) (fun U hU => by kernel_rfl) (fun U hU => (q_cmp x.1 y.1 U).mono fun e w2 q => ⟨q.1, q.2 ▸ hU⟩) ?_
 simp only [pu]
 refine gy (.pointer (some ⟨g0, 1, none⟩)) <| gyl rfl ⟨g0, 1, none⟩ (.int .i64 x.2) (fun U hU => (h1.below h1.lt hU).load (i := 1) rfl (by kernel_rfl)) <| gy (.pointer (some ⟨g0 + 1, 1, none⟩)) <|
   gyl rfl ⟨g0 + 1, 1, none⟩ (.int .i64 y.2) (fun U hU => (h2.below h2.lt hU).load (i := 1) rfl (by kernel_rfl)) ?_
 simp only [pu]
 refine gq_call (by kernel_rfl) (some 14) rfl 36 #[.int .i64 x.2, .int .i64 y.2] (.int .i64 (cpI x.2 y.2)) (fun U hU => by kernel_rfl) (fun U hU => (q_cmp x.2 y.2 U).mono fun e w2 q => ⟨q.1, q.2 ▸ hU⟩) ?_
 simp only [pu]
 apply wpQuiet_nil
 intro V hV
 have HV := Lib.hid (HG.out.trans (hV.mono HG.out.size))
 clear hV h1 h2
 obtain ⟨V2, hV2⟩ : ∃ V2, V.alloc (.cells (icells [cpI x.1 y.1, cpI x.2 y.2]).toArray 3) = V2 := ⟨_, rfl⟩
 have hbd := two_int (cpI x.1 y.1) (cpI x.2 y.2) V
 have CS : Cs V2 (some ⟨V.heap.size, 0, none⟩) (icells [cpI x.1 y.1, cpI x.2 y.2]) := Cs.block (by rw [← hV2]; exact heap_alloc_last V _)
 have HV2 : Hid (Below w.heap.size w V2) := Lib.hid (HV.out.trans (by rw [← hV2]; exact (Below.refl _ V).alloc HV.out.size _))
 rw [hV2] at hbd
 have CO := or_any [cpI x.1 y.1, cpI x.2 y.2] V.heap.size 2 V2 (by simp) CS
 rw [HF.out] at CO
 clear CS hV2 HF HV
 refine gw_build (by kernel_rfl) (some 15) rfl 22 2 #[(0, .tmp 9), (1, .tmp 14)] rfl #[(0, .int .i64 (cpI x.1 y.1)), (1, .int .i64 (cpI x.2 y.2))] (by kernel_rfl) (.slice (some ⟨V.heap.size, 0, none⟩) 2 2) _ hbd ?_
 simp only [pu]
 refine gzc (.int .i64 R) (fun w9 => V2 = w9) CO (fun w9 h9 => ?_)
 simp only [pu]
 subst h9
 refine gz1 (.int .i64 R) <| wn ?_
 simp only [pu]
 clear CO hbd
 go_wp2_with fail
 go_ret
 exact ⟨rfl, HV2.out⟩
set_option maxRecDepth 100000 in
set_option maxHeartbeats 8000000 in
theorem q_bs (a : Option Addr) (k : Nat) (A : List Eo) (q : Eo) (w : World) (hR0 : Cs w a (encs A)) (hs : SrtI A) (hn : A.length ≤ 1000000) :
  Calls Try.prog 28 #[.slice a A.length k, .agg (enA q), .func (.func 29) #[] #[]] w fun e w' => e = .returned (.tuple #[.int .i64 (cntE A q), .bool (hasE A q)]) ∧ Below w.heap.size w w' := by
 have hb0 : Below w.heap.size w (w.alloc (.cells (enA q) 62)) := (Below.refl _ w).alloc (Nat.le_refl _) _
 have hX0 : Bx (w.alloc (.cells (enA q) 62)) w.heap.size (enA q) 62 := heap_alloc_last w _
 obtain ⟨W, hW⟩ : ∃ W, w.alloc (.cells (enA q) 62) = W := ⟨_, rfl⟩
 rw [hW] at hb0 hX0
 have HA := Lib.hid (hR0.below hb0)
 have HX0 := Lib.hid hX0
 have HLT := Lib.hid (fun i => cp2_lt (ena A i) q)
 have HS := Lib.hid hs
 obtain ⟨n, hnn⟩ : ∃ n, A.length = n := ⟨_, rfl⟩
 have HN := Lib.hid hnn
 have HNL : Hid (n ≤ 1000000) := Lib.hid (by omega)
 obtain ⟨lL, hlL⟩ : ∃ l, cntE A q = l := ⟨_, rfl⟩
 have HRS : Hid (∀ i, i ≤ n → (∀ t, t < i → lt2 (ena A t) q = true) → (∀ t, i ≤ t → t < n → lt2 (ena A t) q = false) → i = lL) := Lib.hid fun i h1 h2 h3 => by
  rw [← hlL]
  exact bs_is (by omega) h2 (fun t h4 h5 => h3 t h4 (by omega))
 have HWB := Lib.hid hb0
 obtain ⟨fF, hfF⟩ : ∃ f, hasE A q = f := ⟨_, rfl⟩
 have HFF : Hid (fF = decide (lL < n ∧ cp2 (ena A lL) q = 0)) := Lib.hid (by rw [← hfF, ← hlL, ← hnn]; rfl)
 rw [hnn, hlL, hfF]
 obtain ⟨g4, hg4⟩ : ∃ g4, w.heap.size = g4 := ⟨_, rfl⟩
 rw [hg4] at HX0
 have HG4 := Lib.hid hg4
 clear hlL hfF hR0 hs hn hnn hb0 hX0
 go_enter Try.func28, Try.ntmps28
 go_upto_region 1 with fail
 clear hW hg4
 refine wl <| gz3 (.slice a n k) (.int .i64 n) (.int .i64 n) <| wn ?_
 simp only [pu]
 go_upto_region 2 with fail
 refine wl <| gz3 (.int .i64 n) (.int .i64 0) (.int .i64 n) <| wn ?_
 simp only [pu]
 go_wp2_with fail
 go_loopg [9, 10] n (fun gg s9 s10 wx => ∃ i j : Nat, s9 = .int .i64 i ∧ s10 = .int .i64 j ∧ i ≤ j ∧ j ≤ n ∧ Hid ((∀ t, t < i → lt2 (ena A t) q = true) ∧ (∀ t, j ≤ t → t < n → lt2 (ena A t) q = false)) ∧ Hid (Below W.heap.size W wx) ∧ j - i = gg)
 case atStart => exact ⟨0, n, rfl, rfl, by omega, by omega, Lib.hid ⟨fun t h => by omega, fun t h h2 => by omega⟩, Lib.hid (Below.refl _ _), by omega⟩
 case round =>
  obtain ⟨i, j, rfl, rfl, hij, hjn, HO, HB, hg⟩ := hrel
  have hn9 := HNL.out
  by_cases hlt : i < j
  ·skip
   go_upto_region 3 with fail
   refine wl <| gz2 (.int .i64 i) (.int .i64 j) <| gzb (lss_n rfl (i) (j) dT) <| wn ?_
   simp only [pu]
   go_upto_region 4 with fail
   refine wl <| gz2 (.int .i64 i) (.int .i64 j) <| gzw (.int .i64 (i + j : Nat)) (add_nat rfl i j (by omega)) <| gzv (.int .u64 (i + j : Nat)) (conv_iB rfl (i + j) (by omega) (by kernel_rfl) _) <|
    gzw (.int .u64 ((i + j) / 2 : Nat)) (half_u rfl (i + j) (by omega)) <| gzv (.int .i64 ((i + j) / 2 : Nat)) (conv_uB rfl ((i + j) / 2) (by omega) (by kernel_rfl) _) <| gz1 (.int .i64 ((i + j) / 2 : Nat)) <| wn ?_
   simp only [pu]
   obtain ⟨h, hh⟩ : ∃ h, (i + j) / 2 = h := ⟨_, rfl⟩
   have HH : Hid (i ≤ h ∧ h < j) := Lib.hid (by omega)
   have hhn : h < n := by have := HH.out; omega
   rw [hh]
   clear hh
   obtain ⟨b, off, rfl, -, hrx⟩ := en_rga (HA.out.below HB.out) (i := h) (by rw [HN.out]; exact hhn)
   have hXq := HX0.out.below HX0.out.lt HB.out
   have hl1 := HLT.out h
   generalize hy : ena A h = y at *
   obtain ⟨r, hr⟩ : ∃ r, cp2 y q = r := ⟨_, rfl⟩
   have HR := Lib.hid hr
   rw [hr] at hl1
   have HY := Lib.hid hy
   have HG := Lib.hid hg
   clear hr hy hg
   go_upto_region 5 with fail
   by_cases hqq : r < 0
   ·skip
    rw [decide_eq_true hqq] at hl1
    refine wp_region_class (C := fun U => Below wr.heap.size wr U) (by kernel_rfl) (by kernel_rfl) ((Below.refl _ wr).drew) ?_
    refine gy (.func (.func 29) #[] #[]) <| gy (.slice (some ⟨b, off, none⟩) n k) <| gy (.int .i64 h) <| gyv (.pointer (some ⟨b, off + h * 2, none⟩)) (fun U hU => idx_en b off n k h hhn U _ _ rfl (by kernel_rfl) (by kernel_rfl)) <|
      gyl rfl ⟨b, off + h * 2, none⟩ (.agg (enA y)) (fun U hU => load_en (rg_below hrx hU)) <| gyl rfl ⟨g4, 0, none⟩ (.agg (enA q)) (fun U hU => load_enb (hXq.below hXq.lt hU)) ?_
    simp only [pu]
    refine gq_call (by kernel_rfl) (some 30) rfl 29 #[.agg (enA y), .agg (enA q)] (.int .i64 r) (fun U hU => by kernel_rfl) (fun U hU => (q_compare y q U).mono fun e w2 z => ⟨by rw [z.1, HR.out], hU.trans (z.2.mono hU.size)⟩) ?_
    simp only [pu]
    refine gyv (.bool true) (fun U hU => lss_n rfl r 0 (decide_eq_true hqq) (by kernel_rfl) (by kernel_rfl) U) ?_
    simp only [pu]
    apply wpQuiet_nil
    intro V9 hV9
    have HB9 := Lib.hid (HB.out.trans (hV9.mono HB.out.size))
    clear hV9 HB hrx hXq hqq
    have HO9 : Hid ((∀ t, t < h + 1 → lt2 (ena A t) q = true) ∧ (∀ t, j ≤ t → t < n → lt2 (ena A t) q = false)) := Lib.hid ⟨fun t ht => (by rcases Nat.lt_or_ge t h with h7 | h7; exact lt2_tr (HS.out t h h7 (by rw [HN.out]; exact hhn)) (by rw [HY.out]; exact hl1.symm); have e7 : t = h := (by omega); rw [e7, HY.out]; exact hl1.symm), HO.out.2⟩
    go_upto_region 6 with fail
    refine wl <| gz1 (.int .i64 h) <| gzw (.int .i64 (h + 1 : Nat)) (add_nat rfl h 1 (by omega)) <| gz1 (.int .i64 (h + 1 : Nat)) <| wn ?_
    simp only [pu]
    clear HO hl1
    go_wp2_with fail
    go_roundg (j - (h + 1))
    case measure => have := HG.out; have := HH.out; omega
    case rel => exact ⟨h + 1, j, rfl, rfl, by have := HH.out; omega, hjn, HO9, HB9, rfl⟩
   ·skip
    rw [decide_eq_false hqq] at hl1
    refine wp_region_class (C := fun U => Below wr.heap.size wr U) (by kernel_rfl) (by kernel_rfl) ((Below.refl _ wr).drew) ?_
    refine gy (.func (.func 29) #[] #[]) <| gy (.slice (some ⟨b, off, none⟩) n k) <| gy (.int .i64 h) <| gyv (.pointer (some ⟨b, off + h * 2, none⟩)) (fun U hU => idx_en b off n k h hhn U _ _ rfl (by kernel_rfl) (by kernel_rfl)) <|
      gyl rfl ⟨b, off + h * 2, none⟩ (.agg (enA y)) (fun U hU => load_en (rg_below hrx hU)) <| gyl rfl ⟨g4, 0, none⟩ (.agg (enA q)) (fun U hU => load_enb (hXq.below hXq.lt hU)) ?_
    simp only [pu]
    refine gq_call (by kernel_rfl) (some 30) rfl 29 #[.agg (enA y), .agg (enA q)] (.int .i64 r) (fun U hU => by kernel_rfl) (fun U hU => (q_compare y q U).mono fun e w2 z => ⟨by rw [z.1, HR.out], hU.trans (z.2.mono hU.size)⟩) ?_
    simp only [pu]
    refine gyv (.bool false) (fun U hU => lss_n rfl r 0 (decide_eq_false hqq) (by kernel_rfl) (by kernel_rfl) U) ?_
    simp only [pu]
    apply wpQuiet_nil
    intro V9 hV9
    have HB9 := Lib.hid (HB.out.trans (hV9.mono HB.out.size))
    clear hV9 HB hrx hXq hqq
    have HO9 : Hid ((∀ t, t < i → lt2 (ena A t) q = true) ∧ (∀ t, h ≤ t → t < n → lt2 (ena A t) q = false)) := Lib.hid ⟨HO.out.1, fun t ht htn => (by have h0 : lt2 (ena A h) q = false := (by rw [HY.out]; exact hl1.symm); rcases Nat.lt_or_ge h t with h7 | h7; have h8 := HS.out h t h7 (by rw [HN.out]; exact htn); by_cases h9 : lt2 (ena A t) q = true; rw [lt2_tr h8 h9] at h0; cases h0; simpa using h9; have e7 : t = h := (by omega); rw [e7]; exact h0)⟩
    go_upto_region 7 with fail
    refine wl <| gz2 (.int .i64 h) (.int .i64 h) <| wn ?_
    simp only [pu]
    clear HO hl1
    go_wp2_with fail
    go_roundg (h - i)
    case measure => have := HG.out; have := HH.out; omega
    case rel => exact ⟨i, h, rfl, rfl, by have := HH.out; omega, by have := HH.out; omega, HO9, HB9, rfl⟩
  ·skip
   obtain rfl : i = j := by omega
   have hil := HRS.out i hjn HO.out.1 HO.out.2
   have hff := HFF.out
   rw [← hil] at hff
   clear HFF
   subst hil
   clear HO HRS hg hij
   by_cases hin : i < n
   ·skip
    obtain ⟨b, off, rfl, -, hrx⟩ := en_rga (HA.out.below HB.out) (i := i) (by rw [HN.out]; exact hin)
    have hXq := HX0.out.below HX0.out.lt HB.out
    generalize ena A i = y at *
    obtain ⟨r, hr⟩ : ∃ r, cp2 y q = r := ⟨_, rfl⟩
    have HR := Lib.hid hr
    have ht : decide (r = 0) = fF := by rw [hff, hr, decide_eq_decide]; exact ⟨fun h => ⟨hin, h⟩, fun h => h.2⟩
    have HT := Lib.hid ht
    clear hr ht hff HLT
    go_upto_region 3 with fail
    refine wl <| gz2 (.int .i64 i) (.int .i64 i) <| gzb (lss_n rfl (i) (i) dF) <| wn ?_
    simp only [pu]
    go_upto_region 8 with fail
    refine wp_region_class (C := fun U => Below wr.heap.size wr U) (by kernel_rfl) (by kernel_rfl) ((Below.refl _ wr).drew) ?_
    refine gy (.int .i64 i) <| gy (.int .i64 i) <| gy (.int .i64 n) <| gyv (.bool true) (fun U hU => lss_n rfl i n dT (by kernel_rfl) (by kernel_rfl) U) <| gy (.bool true) <| gy (.func (.func 29) #[] #[]) <| gy (.slice (some ⟨b, off, none⟩) n k) <| gy (.int .i64 i) <|
      gyv (.pointer (some ⟨b, off + i * 2, none⟩)) (fun U hU => idx_en b off n k i hin U _ _ rfl (by kernel_rfl) (by kernel_rfl)) <| gyl rfl ⟨b, off + i * 2, none⟩ (.agg (enA y)) (fun U hU => load_en (rg_below hrx hU)) <|
      gyl rfl ⟨g4, 0, none⟩ (.agg (enA q)) (fun U hU => load_enb (hXq.below hXq.lt hU)) ?_
    simp only [pu]
    refine gq_call (by kernel_rfl) (some 46) rfl 29 #[.agg (enA y), .agg (enA q)] (.int .i64 r) (fun U hU => by kernel_rfl) (fun U hU => (q_compare y q U).mono fun e w2 z => ⟨by rw [z.1, HR.out], hU.trans (z.2.mono hU.size)⟩) ?_
    simp only [pu]
    refine gyv (.bool fF) (fun U hU => eql_n rfl r 0 HT.out (by kernel_rfl) (by kernel_rfl) U) <| gy (.bool fF) <| gy (.int .i64 i) <| gy (.bool fF) ?_
    simp only [pu]
    apply wpQuiet_nil
    intro V9 hV9
    have HB9 := Lib.hid (HWB.out.trans ((HB.out.trans (hV9.mono HB.out.size)).mono HWB.out.size))
    clear hV9 HB hrx hXq HR HT
    go_wp2_with fail
    go_ret2
    exact ⟨rfl, HB9.out⟩
   ·skip
    rw [decide_eq_false (fun h => hin h.1)] at hff
    subst hff
    go_upto_region 3 with fail
    refine wl <| gz2 (.int .i64 i) (.int .i64 i) <| gzb (lss_n rfl (i) (i) dF) <| wn ?_
    simp only [pu]
    go_upto_region 8 with fail
    refine wp_region_class (C := fun U => Below wr.heap.size wr U) (by kernel_rfl) (by kernel_rfl) ((Below.refl _ wr).drew) ?_
    refine gy (.int .i64 i) <| gy (.int .i64 i) <| gy (.int .i64 n) <| gyv (.bool false) (fun U hU => lss_n rfl i n dF (by kernel_rfl) (by kernel_rfl) U) <| gy (.bool false) <| gyn <| gyn <| gyn <| gyn <| gyn <| gyn <| gyn <| gyn <| gy (.bool false) <| gy (.int .i64 i) <| gy (.bool false) ?_
    simp only [pu]
    apply wpQuiet_nil
    intro V9 hV9
    have HB9 := Lib.hid (HWB.out.trans ((HB.out.trans (hV9.mono HB.out.size)).mono HWB.out.size))
    clear hV9 HB
    go_wp2_with fail
    go_ret2
    exact ⟨rfl, HB9.out⟩
/-- Where a wait stands in a row of waits, or would stand. -/
theorem q_place {w : World} {B : Nat} {v : Value} {E : List Eo} (h : Rowen w B v E) (hs : SrtE E) (hl : E.length ≤ 1000000) (q : Eo) : Calls Try.prog 28 #[v, .agg (enA q), .func (.func 29) #[] #[]] w fun e w' => e = .returned (.tuple #[.int .i64 (cntE E q), .bool (hasE E q)]) ∧ Below w.heap.size w w' := by
 obtain ⟨a, c, rfl, h1, -⟩ := h.cs
 exact q_bs a c E q w h1 (srtI hs) hl
end Go.Proofs.Ytdjphghoollejaa
