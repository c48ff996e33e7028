/-
 cmp.Compare, the library's binary search over entries, the program's place: contracts.
-/
import Derived.Test.YtjononjpoeobcaaMP
namespace Go.Proofs.Ytjononjpoeobcaa
attribute [local irreducible] wpList wpQuiet
open Go.RowKit
set_option maxRecDepth 100000
set_option linter.unusedSimpArgs false
set_option linter.unusedVariables false

/-- Two numbers compared. -/
def cpI (x y : Int) : Int := if x < y then -1 else if y < x then 1 else 0
def ltE (x y : Int) : Bool := decide (x < y)
theorem cp_lt (x y : Int) : decide (cpI x y < 0) = ltE x y := by
 unfold ltE cpI
 refine decide_eq_decide.2 ?_
 split
 ·omega
 ·split <;> omega
theorem cp_eq (x y : Int) : decide (cpI x y = 0) = decide (x = y) := by
 unfold cpI
 refine decide_eq_decide.2 ?_
 split
 ·omega
 ·split <;> omega
theorem ltE_tr {a b c : Int} (h : ltE a b = true) (g : ltE b c = true) : ltE a c = true := decide_eq_true (Int.lt_trans (of_decide_eq_true h) (of_decide_eq_true g))
def ena (A : List Eo) (j : Nat) : Eo := A.getD j zen
def SrtI (A : List Eo) : Prop := ∀ i j, i < j → j < A.length → ltE (ena A i).1 (ena A j).1 = true
theorem srtI {A : List Eo} (h : SrtE A) : SrtI A := fun i j hij hj => by
 have := List.pairwise_iff_getElem.1 h i j (by omega) hj hij
 unfold ena
 rw [getD_lt A i zen (by omega), getD_lt A j zen hj]
 exact decide_eq_true this
theorem en_rga {w : World} {a : Option Addr} {L : List Eo} (h : Cs w a (encs L)) {i : Nat} (hi : i < L.length) : ∃ b off, a = some ⟨b, off, none⟩ ∧ b < w.heap.size ∧ w.rangeAt b (off + i * 2) (enl (ena L i)) := en_rg h hi
theorem ena_mem {A : List Eo} {j : Nat} (h : j < A.length) : ena A j ∈ A := by unfold ena; rw [getD_lt A j zen h]; exact List.getElem_mem h
theorem bs_is {A : List Eo} (hs : SrtI A) {i : Nat} (hi : i ≤ A.length) {q : Int} (h1 : ∀ t, t < i → ltE (ena A t).1 q = true) (h2 : ∀ t, i ≤ t → t < A.length → ltE (ena A t).1 q = false) : i = cntE A q ∧ hasE A q = decide (i < A.length ∧ (ena A i).1 = q) := by
 have hA : ∀ e ∈ A.take i, e.1 < q := fun e he => by
  obtain ⟨t, ht, rfl⟩ := List.mem_take_iff_getElem.1 he
  have := h1 t (by omega)
  unfold ena at this
  rw [getD_lt A t zen (by omega)] at this
  exact of_decide_eq_true this
 have hB : ∀ e ∈ A.drop i, q ≤ e.1 := fun e he => by
  obtain ⟨t, ht, rfl⟩ := List.mem_drop_iff_getElem.1 he
  have h3 := h2 (i + t) (by omega) (by omega)
  unfold ena at h3
  rw [getD_lt A (i + t) zen (by omega)] at h3
  have h4 := of_decide_eq_false h3
  exact Int.not_lt.1 h4
 refine ⟨?_, ?_⟩
 ·conv => rhs; rw [← List.take_append_drop i A]
  rw [cnt_is hA hB, List.length_take]; omega
 ·unfold hasE
  rw [Bool.eq_iff_iff, decide_eq_true_iff, List.any_eq_true]
  simp only [decide_eq_true_eq]
  constructor
  ·rintro ⟨e, he, rfl⟩
   obtain ⟨t, ht, rfl⟩ := List.mem_iff_getElem.1 he
   have e2 : (ena A t) = A[t] := by unfold ena; exact getD_lt A t zen ht
   rcases Nat.lt_or_ge t i with h3 | h3
   ·have := of_decide_eq_true (h1 t h3)
    rw [e2] at this; omega
   ·rcases Nat.lt_or_ge i t with h4 | h4
    ·have h5 := of_decide_eq_true (hs i t h4 ht)
     have h6 := of_decide_eq_false (h2 i (Nat.le_refl _) (by omega))
     rw [e2] at h5; omega
    ·obtain rfl : i = t := by omega
     exact ⟨ht, by rw [e2]⟩
  ·rintro ⟨h3, h4⟩
   exact ⟨_, ena_mem h3, h4⟩
set_option maxRecDepth 100000 in
set_option maxHeartbeats 8000000 in
theorem q_nan (x : Int) (w : World) : Calls Try.prog 49 #[.int .u64 x] w fun e w' => e = .returned (.bool false) ∧ w = w' := by
 go_enter Try.func49, Try.ntmps49
 go_upto_region 1 with fail
 refine wl <| gz2 (.int .u64 x) (.int .u64 x) <| gzb (neq_w rfl x x (decide_eq_false (fun h => h rfl))) <| gz1 (.bool false) <| wn ?_
 simp only [pu]
 go_wp2_with fail
 go_ret
 exact ⟨rfl, rfl⟩
set_option maxRecDepth 100000 in
set_option maxHeartbeats 8000000 in
theorem q_cmp (a b : Int) (w : World) : Calls Try.prog 42 #[.int .u64 a, .int .u64 b] w fun e w' => e = .returned (.int .i64 (cpI a b)) ∧ w = w' := by
 have C1 := q_nan a w
 have C2 := q_nan b w
 obtain ⟨q, hq⟩ : ∃ q, cpI a b = q := ⟨_, rfl⟩
 have HQ : Hid ((a < b → q = -1) ∧ (¬ a < b → b < a → q = 1) ∧ (¬ a < b → ¬ b < a → q = 0)) := Lib.hid ⟨fun h => by rw [← hq]; exact if_pos h, fun h h2 => by rw [← hq]; unfold cpI; rw [if_neg h, if_pos h2], fun h h2 => by rw [← hq]; unfold cpI; rw [if_neg h, if_neg h2]⟩
 rw [hq]
 clear hq
 go_enter Try.func42, Try.ntmps42
 go_upto_region 1 with fail
 refine wl <| gz1 (.int .u64 a) <| gzc (.bool false) (fun w' => w = w') (C1) (fun V9 hV9 => ?_)
 subst hV9
 simp only [pu]
 refine gz1 (.bool false) <| wn ?_
 simp only [pu]
 go_upto_region 2 with fail
 refine wl <| gz1 (.int .u64 b) <| gzc (.bool false) (fun w' => w = w') (C2) (fun V9 hV9 => ?_)
 subst hV9
 simp only [pu]
 refine gz1 (.bool false) <| wn ?_
 simp only [pu]
 clear C1 C2
 go_upto_region 3 with fail
 refine wl <| gz1 (.bool false) <| wn ?_
 simp only [pu]
 go_upto_region 7 with fail
 refine wl <| gz1 (.bool false) <| wn ?_
 simp only [pu]
 by_cases h1 : a < b
 ·skip
  obtain rfl := HQ.out.1 h1
  go_upto_region 9 with fail
  refine wl <| gz2 (.int .u64 a) (.int .u64 b) <| gzb (lss_w rfl a b (decide_eq_true h1)) <| wn ?_
  simp only [pu]
  go_upto_region 10 with fail
  refine wl <| gz1 (.int .i64 (-1)) <| wn ?_
  simp only [pu]
  go_wp2_with fail
  go_ret
  exact ⟨rfl, rfl⟩
 ·skip
  go_upto_region 9 with fail
  refine wl <| gz2 (.int .u64 a) (.int .u64 b) <| gzb (lss_w rfl a b (decide_eq_false h1)) <| wn ?_
  simp only [pu]
  by_cases h2 : b < a
  ·skip
   obtain rfl := HQ.out.2.1 h1 h2
   go_upto_region 11 with fail
   refine wl <| gz2 (.int .u64 a) (.int .u64 b) <| gzb (gtr_w rfl a b (decide_eq_true h2)) <| wn ?_
   simp only [pu]
   go_upto_region 12 with fail
   refine wl <| gz1 (.int .i64 1) <| wn ?_
   simp only [pu]
   go_wp2_with fail
   go_ret
   exact ⟨rfl, rfl⟩
  ·skip
   obtain rfl := HQ.out.2.2 h1 h2
   go_upto_region 11 with fail
   refine wl <| gz2 (.int .u64 a) (.int .u64 b) <| gzb (gtr_w rfl a b (decide_eq_false h2)) <| wn ?_
   simp only [pu]
   go_upto_region 13 with fail
   refine wl <| gz1 (.int .i64 0) <| wn ?_
   simp only [pu]
   go_wp2_with fail
   go_ret
   exact ⟨rfl, rfl⟩
set_option maxRecDepth 100000 in
set_option maxHeartbeats 8000000 in
theorem q_place1 (x : Eo) (s : Int) (w : World) : Calls Try.prog 41 #[.agg (enA x), .int .u64 s] w fun e w' => e = .returned (.int .i64 (cpI x.1 s)) ∧ Below w.heap.size w w' := by
 have hb0 : Below w.heap.size w (w.alloc (.cells (enA x) 73)) := (Below.refl _ w).alloc (Nat.le_refl _) _
 have hX : Bx (w.alloc (.cells (enA x) 73)) w.heap.size (enA x) 73 := heap_alloc_last w _
 have CB := q_cmp x.1 s (w.alloc (.cells (enA x) 73))
 obtain ⟨q, hq⟩ : ∃ q, cpI x.1 s = q := ⟨_, rfl⟩
 rw [hq] at CB ⊢
 clear hq
 go_enter Try.func41, Try.ntmps41
 go_upto_region 1 with fail
 change Code.wp _ _ _ _ (w.alloc (.cells (enA x) 73))
 generalize w.alloc (.cells (enA x) 73) = W at *
 have HB := Lib.hid hb0
 clear hb0
 refine wl <| gz1 (.pointer (some ⟨w.heap.size, 0, none⟩)) <| gzl rfl ⟨w.heap.size, 0, none⟩ (.int .u64 x.1) (hX.load (i := 0) rfl (by kernel_rfl)) <| gz1 (.int .u64 s) <| gzc (.int .i64 q) (fun w' => W = w') (CB) (fun V9 hV9 => ?_)
 subst hV9
 simp only [pu]
 refine gz1 (.int .i64 q) <| wn ?_
 simp only [pu]
 clear CB hX
 go_wp2_with fail
 go_ret
 exact ⟨rfl, HB.out⟩
theorem conv_iB {ρ : Operand → Value} {o : Oper} {x : Operand} (ho : o.op = .convert 3 89 x) (a : Nat) (h : a ≤ 9223372036854775807) (hx : ρ x = .int .i64 a) (w : World) : (execOp ρ o).run Try.prog w = .ok (.value (.int .u64 a)) w := by
 have e : IntKind.u64.wrap (a : Int) = a := by rw [IntKind.wrap_u64]; omega
 unfold execOp
 simp only [ho, hx]
 go_simp
theorem conv_uB {ρ : Operand → Value} {o : Oper} {x : Operand} (ho : o.op = .convert 89 3 x) (a : Nat) (h : a ≤ 9223372036854775807) (hx : ρ x = .int .u64 a) (w : World) : (execOp ρ o).run Try.prog w = .ok (.value (.int .i64 a)) w := by
 have e : IntKind.i64.wrap (a : Int) = a := by rw [IntKind.wrap_i64]; omega
 unfold execOp
 simp only [ho, hx]
 go_simp
theorem half_u {ρ : Operand → Value} {o : Oper} {x y : Operand} (ho : o.op = .binOp .shr 89 x y 89) (a : Nat) (h : a ≤ 9223372036854775807) (hx : ρ x = .int .u64 a) (hy : ρ y = .int .u64 1) (w : World) : (execOp ρ o).run Try.prog w = .ok (.value (.int .u64 (a / 2 : Nat))) w := by
 unfold execOp
 simp only [ho, hx, hy]
 go_simp
set_option maxRecDepth 100000 in
set_option maxHeartbeats 8000000 in
theorem q_bs (a : Option Addr) (k : Nat) (A : List Eo) (s : Int) (w : World) (hR : Cs w a (encs A)) (hs : SrtI A) (hn : A.length ≤ 1000000) :
  Calls Try.prog 40 #[.slice a A.length k, .int .u64 s, .func (.func 41) #[] #[]] w fun e w' => e = .returned (.tuple #[.int .i64 (cntE A s), .bool (hasE A s)]) ∧ Below w.heap.size w w' := by
 have HA := Lib.hid hR
 have HLT := Lib.hid (fun i => cp_lt (ena A i).1 s)
 have HEQ := Lib.hid (fun i => cp_eq (ena A i).1 s)
 have HS := Lib.hid hs
 obtain ⟨n, hnn⟩ : ∃ n, A.length = n := ⟨_, rfl⟩
 have HN := Lib.hid hnn
 have HNL : Hid (n ≤ 1000000) := Lib.hid (by omega)
 obtain ⟨lL, hlL⟩ : ∃ l, cntE A s = l := ⟨_, rfl⟩
 obtain ⟨fF, hfF⟩ : ∃ f, hasE A s = f := ⟨_, rfl⟩
 have HRS : Hid (∀ i, i ≤ n → (∀ t, t < i → ltE (ena A t).1 s = true) → (∀ t, i ≤ t → t < n → ltE (ena A t).1 s = false) → i = lL ∧ fF = decide (i < n ∧ (ena A i).1 = s)) := Lib.hid fun i h1 h2 h3 => by
  have e := bs_is hs (i := i) (by omega) h2 (fun t h4 h5 => h3 t h4 (by omega))
  rw [← hlL, ← hfF, ← hnn]
  exact e
 rw [hnn, hlL, hfF]
 clear hlL hfF hR hs hn hnn
 go_enter Try.func40, Try.ntmps40
 go_upto_region 1 with fail
 refine wl <| gz3 (.slice a n k) (.int .i64 n) (.int .i64 n) <| wn ?_
 simp only [pu]
 go_upto_region 2 with fail
 refine wl <| gz3 (.int .i64 n) (.int .i64 0) (.int .i64 n) <| wn ?_
 simp only [pu]
 go_wp2_with fail
 go_loopg [9, 10] n (fun gg s9 s10 wx => ∃ i j : Nat, s9 = .int .i64 i ∧ s10 = .int .i64 j ∧ i ≤ j ∧ j ≤ n ∧ Hid ((∀ t, t < i → ltE (ena A t).1 s = true) ∧ (∀ t, j ≤ t → t < n → ltE (ena A t).1 s = false)) ∧ Hid (Below w.heap.size w wx) ∧ j - i = gg)
 case atStart => exact ⟨0, n, rfl, rfl, by omega, by omega, Lib.hid ⟨fun t h => by omega, fun t h h2 => by omega⟩, Lib.hid (Below.refl _ _), by omega⟩
 case round =>
  obtain ⟨i, j, rfl, rfl, hij, hjn, HO, HB, hg⟩ := hrel
  have hn9 := HNL.out
  by_cases hlt : i < j
  ·skip
   go_upto_region 3 with fail
   refine wl <| gz2 (.int .i64 i) (.int .i64 j) <| gzb (lss_n rfl (i) (j) dT) <| wn ?_
   simp only [pu]
   go_upto_region 4 with fail
   refine wl <| gz2 (.int .i64 i) (.int .i64 j) <| gzw (.int .i64 (i + j : Nat)) (add_nat rfl i j (by omega)) <| gzv (.int .u64 (i + j : Nat)) (conv_iB rfl (i + j) (by omega) (by kernel_rfl) _) <|
    gzw (.int .u64 ((i + j) / 2 : Nat)) (half_u rfl (i + j) (by omega)) <| gzv (.int .i64 ((i + j) / 2 : Nat)) (conv_uB rfl ((i + j) / 2) (by omega) (by kernel_rfl) _) <| gz1 (.int .i64 ((i + j) / 2 : Nat)) <| wn ?_
   simp only [pu]
   obtain ⟨h, hh⟩ : ∃ h, (i + j) / 2 = h := ⟨_, rfl⟩
   have HH : Hid (i ≤ h ∧ h < j) := Lib.hid (by omega)
   have hhn : h < n := by have := HH.out; omega
   rw [hh]
   clear hh
   obtain ⟨b, off, rfl, -, hrx⟩ := en_rga (HA.out.below HB.out) (i := h) (by rw [HN.out]; exact hhn)
   have HLD := Lib.hid (load_en hrx)
   have hl1 := HLT.out h
   generalize hy : ena A h = y at *
   have CP := q_place1 y s wr
   obtain ⟨q, hq⟩ : ∃ q, cpI y.1 s = q := ⟨_, rfl⟩
   rw [hq] at CP hl1
   have HY := Lib.hid hy
   have HG := Lib.hid hg
   clear hrx hq hy hg
   go_upto_region 5 with fail
   by_cases hqq : q < 0
   ·skip
    rw [decide_eq_true hqq] at hl1
    refine wl <| gz3 (.func (.func 41) #[] #[]) (.slice (some ⟨b, off, none⟩) n k) (.int .i64 h) <| gzv (.pointer (some ⟨b, off + h * 2, none⟩)) (idx_en b off n k h hhn _ _ _ rfl (by kernel_rfl) (by kernel_rfl)) <| gzl rfl ⟨b, off + h * 2, none⟩ (.agg (enA y)) (HLD.out) <|
     gz1 (.int .u64 s) <| gzc (.int .i64 q) (fun w' => Below wr.heap.size wr w') (CP) (fun V9 hV9 => ?_)
    have HB9 := Lib.hid (HB.out.trans (hV9.mono HB.out.size))
    simp only [pu]
    refine gzb (lss_n rfl (q) (0) (decide_eq_true (hqq))) <| wn ?_
    simp only [pu]
    clear hV9 HB HLD CP hqq
    have HO9 : Hid ((∀ t, t < h + 1 → ltE (ena A t).1 s = true) ∧ (∀ t, j ≤ t → t < n → ltE (ena A t).1 s = false)) := Lib.hid ⟨fun t ht => (by rcases Nat.lt_or_ge t h with h7 | h7; exact ltE_tr (HS.out t h h7 (by rw [HN.out]; exact hhn)) (by rw [HY.out]; exact hl1.symm); have e7 : t = h := (by omega); rw [e7, HY.out]; exact hl1.symm), HO.out.2⟩
    go_upto_region 6 with fail
    refine wl <| gz1 (.int .i64 h) <| gzw (.int .i64 (h + 1 : Nat)) (add_nat rfl h 1 (by omega)) <| gz1 (.int .i64 (h + 1 : Nat)) <| wn ?_
    simp only [pu]
    clear HO hl1
    go_wp2_with fail
    go_roundg (j - (h + 1))
    case measure => have := HG.out; have := HH.out; omega
    case rel => exact ⟨h + 1, j, rfl, rfl, by have := HH.out; omega, hjn, HO9, HB9, rfl⟩
   ·skip
    rw [decide_eq_false hqq] at hl1
    refine wl <| gz3 (.func (.func 41) #[] #[]) (.slice (some ⟨b, off, none⟩) n k) (.int .i64 h) <| gzv (.pointer (some ⟨b, off + h * 2, none⟩)) (idx_en b off n k h hhn _ _ _ rfl (by kernel_rfl) (by kernel_rfl)) <| gzl rfl ⟨b, off + h * 2, none⟩ (.agg (enA y)) (HLD.out) <|
     gz1 (.int .u64 s) <| gzc (.int .i64 q) (fun w' => Below wr.heap.size wr w') (CP) (fun V9 hV9 => ?_)
    have HB9 := Lib.hid (HB.out.trans (hV9.mono HB.out.size))
    simp only [pu]
    refine gzb (lss_n rfl (q) (0) (decide_eq_false (hqq))) <| wn ?_
    simp only [pu]
    clear hV9 HB HLD CP hqq
    have HO9 : Hid ((∀ t, t < i → ltE (ena A t).1 s = true) ∧ (∀ t, h ≤ t → t < n → ltE (ena A t).1 s = false)) := Lib.hid ⟨HO.out.1, fun t ht htn => (by have h0 : ltE (ena A h).1 s = false := (by rw [HY.out]; exact hl1.symm); rcases Nat.lt_or_ge h t with h7 | h7; have h8 := HS.out h t h7 (by rw [HN.out]; exact htn); by_cases h9 : ltE (ena A t).1 s = true; rw [ltE_tr h8 h9] at h0; cases h0; simpa using h9; have e7 : t = h := (by omega); rw [e7]; exact h0)⟩
    go_upto_region 7 with fail
    refine wl <| gz2 (.int .i64 h) (.int .i64 h) <| wn ?_
    simp only [pu]
    clear HO hl1
    go_wp2_with fail
    go_roundg (h - i)
    case measure => have := HG.out; have := HH.out; omega
    case rel => exact ⟨i, h, rfl, rfl, by have := HH.out; omega, by have := HH.out; omega, HO9, HB9, rfl⟩
  ·skip
   obtain rfl : i = j := by omega
   obtain ⟨hil, hff⟩ := HRS.out i hjn HO.out.1 HO.out.2
   subst hil
   clear HO HRS hg hij
   by_cases hin : i < n
   ·skip
    obtain ⟨b, off, rfl, -, hrx⟩ := en_rga (HA.out.below HB.out) (i := i) (by rw [HN.out]; exact hin)
    have HLD := Lib.hid (load_en hrx)
    have hl1 := HEQ.out i
    have hff2 : fF = decide ((ena A i).1 = s) := by rw [hff, decide_eq_decide]; exact ⟨fun h => h.2, fun h => ⟨hin, h⟩⟩
    clear hff
    generalize ena A i = y at *
    rw [← hl1] at hff2
    have CP := q_place1 y s wr
    obtain ⟨q, hq⟩ : ∃ q, cpI y.1 s = q := ⟨_, rfl⟩
    rw [hq] at CP hff2
    have HFF := Lib.hid hff2.symm
    clear hrx hq hl1 hff2
    go_upto_region 3 with fail
    refine wl <| gz2 (.int .i64 i) (.int .i64 i) <| gzb (lss_n rfl (i) (i) dF) <| wn ?_
    simp only [pu]
    go_upto_region 8 with fail
    refine wl <| gz3 (.int .i64 i) (.int .i64 i) (.int .i64 n) <| gzb (lss_n rfl (i) (n) dT) <| gz4 (.bool true) (.func (.func 41) #[] #[]) (.slice (some ⟨b, off, none⟩) n k) (.int .i64 i) <|
     gzv (.pointer (some ⟨b, off + i * 2, none⟩)) (idx_en b off n k i hin _ _ _ rfl (by kernel_rfl) (by kernel_rfl)) <| gzl rfl ⟨b, off + i * 2, none⟩ (.agg (enA y)) (HLD.out) <| gz1 (.int .u64 s) <| gzc (.int .i64 q) (fun w' => Below wr.heap.size wr w') (CP) (fun V9 hV9 => ?_)
    have HB9 := Lib.hid (HB.out.trans (hV9.mono HB.out.size))
    simp only [pu]
    refine gzw (.bool fF) (eql_n rfl q 0 HFF.out) <| gz3 (.bool fF) (.int .i64 i) (.bool fF) <| wn ?_
    simp only [pu]
    clear hV9 HB HLD CP HFF
    go_wp2_with fail
    go_ret2
    exact ⟨rfl, HB9.out⟩
   ·skip
    rw [decide_eq_false (fun h => hin h.1)] at hff
    subst hff
    go_upto_region 3 with fail
    refine wl <| gz2 (.int .i64 i) (.int .i64 i) <| gzb (lss_n rfl (i) (i) dF) <| wn ?_
    simp only [pu]
    go_upto_region 8 with fail
    refine wl <| gz3 (.int .i64 i) (.int .i64 i) (.int .i64 n) <| gzb (lss_n rfl (i) (n) dF) <| gz6 (.bool false) undef undef undef undef undef <| gz6 undef undef undef (.bool false) (.int .i64 i) (.bool false) <|
     wpList_nil ?_
    simp only [pu]
    go_wp2_with fail
    go_ret2
    exact ⟨rfl, HB.out⟩
set_option maxRecDepth 100000 in
set_option maxHeartbeats 8000000 in
theorem q_place (a : Option Addr) (k : Nat) (A : List Eo) (s : Int) (w : World) (hR : Cs w a (encs A)) (hs : SrtI A) (hn : A.length ≤ 1000000) :
  Calls Try.prog 32 #[.slice a A.length k, .int .u64 s] w fun e w' => e = .returned (.tuple #[.int .i64 (cntE A s), .bool (hasE A s)]) ∧ Below w.heap.size w w' := by
 have CB := q_bs a k A s w hR hs hn
 obtain ⟨lL, hlL⟩ : ∃ l, cntE A s = l := ⟨_, rfl⟩
 obtain ⟨fF, hfF⟩ : ∃ f, hasE A s = f := ⟨_, rfl⟩
 rw [hlL, hfF] at CB ⊢
 generalize A.length = n at *
 clear hlL hfF hR hs hn
 go_enter Try.func32, Try.ntmps32
 go_upto_region 1 with fail
 refine wl <| gz2 (.slice a n k) (.int .u64 s) <| gzc (.tuple #[.int .i64 lL, .bool fF]) (fun w' => Below w.heap.size w w') (CB) (fun V9 hV9 => ?_)
 have HB9 := Lib.hid hV9
 simp only [pu]
 refine gz4 (.int .i64 lL) (.bool fF) (.int .i64 lL) (.bool fF) <| wn ?_
 simp only [pu]
 clear hV9 CB
 go_wp2_with fail
 go_ret2
 exact ⟨rfl, HB9.out⟩
/-- Where a sequence stands in a row of entries. -/
theorem q_place' {w : World} {B : Nat} {v : Value} {E : List Eo} (h : Rowen w B v E) (hs : SrtE E) (hl : E.length ≤ 1000000) (q : Int) : Calls Try.prog 32 #[v, .int .u64 q] w fun e w' => e = .returned (.tuple #[.int .i64 (cntE E q), .bool (hasE E q)]) ∧ Below w.heap.size w w' := by
 obtain ⟨a, c, rfl, h1, -⟩ := h.cs
 exact q_place a c E q w h1 (srtI hs) hl
end Go.Proofs.Ytjononjpoeobcaa
