/-
  The program's Encode, the reference's EncodeTx: contracts.
-/
import Derived.Test.YtaaeepanelmgnaaRF
namespace Go.Proofs.Ytaaeepanelmgnaa
open Go.RowKit
set_option linter.unusedSimpArgs false
set_option linter.unusedVariables false

/-- The numbers are words, the strings fit into a memory. -/
structure TxB (t : Txd) : Prop where
  sq : W64 t.sq
  gas : W64 t.gas
  fee : W64 t.fee
  am : ∀ x, x ∈ t.tr → W64 x.2
  s1 : t.snd.size ≤ 140737488355328
  s2 : t.memo.size ≤ 140737488355328
  s3 : ∀ x, x ∈ t.tr → x.1.size ≤ 140737488355328
theorem OkX.b {t : Txd} (h : OkX t) : TxB t := ⟨h.sq, h.gas, h.fee, h.am, by have := h.wt; unfold wtX at this; omega, by have := h.wt; unfold wtX at this; omega, fun x hx => by have := (h.tr hx).1; omega⟩
def EncO (w : World) (t : Txd) (e : Ending) (w' : World) : Prop := ∃ v, e = .returned (.tuple #[v, .int .i64 (encX t).2]) ∧ Own w' w.heap.size v (encX t).1 ∧ Below w.heap.size w w'
theorem tx_range {w : World} {g k : Nat} {x : Txd} {a : Option Addr} {c : Nat} (h : Bx w g (txA x a c) k) : w.rangeAt g 0 (txA x a c).toList := fun j v hv => by
  rw [cell_of_row w g _ _ _ (0, 0) h]
  simpa using hv
theorem load_txb {w : World} {g k : Nat} {x : Txd} {a : Option Addr} {c : Nat} (h : Bx w g (txA x a c) k) : (Instr.loadAt 29 (.pointer (some ⟨g, 0, none⟩))).run Try.prog w = .ok (.agg (txA x a c)) w :=
  run_loadAt_mid w g 0 29 _ _ (tx_range h) Try.underlying29 rfl (by kernel_rfl)
theorem neq_e {ρ : Operand → Value} {o : Oper} {x y : Operand} (ho : o.op = .binOp .neq 35 x y 35) (a b : Int) {t : Bool} (ht : decide (a = b) = t) (hx : ρ x = .int .i64 a) (hy : ρ y = .int .i64 b) (w : World) : (execOp ρ o).run Try.prog w = .ok (.value (.bool (!t))) w := by
  have e : (a != b) = !t := by rw [← ht]; rfl
  unfold execOp
  simp only [ho, hx, hy]
  go_simp
theorem eql_e {ρ : Operand → Value} {o : Oper} {x y : Operand} (ho : o.op = .binOp .eql 35 x y 35) (a b : Int) {t : Bool} (ht : decide (a = b) = t) (hx : ρ x = .int .i64 a) (hy : ρ y = .int .i64 b) (w : World) : (execOp ρ o).run Try.prog w = .ok (.value (.bool t)) w := by
  have e : (a == b) = t := ht
  unfold execOp
  simp only [ho, hx, hy]
  go_simp
set_option maxRecDepth 100000 in
set_option maxHeartbeats 8000000 in
theorem q_encode (x : Txd) (a : Option Addr) (c : Nat) (w : World) (hR : Cs w a (tfc x.tr)) (h2 : TxB x) :
    Calls Try.prog 19 #[.agg (txA x a c)] w (EncO w x) := by
  have hb0 : Below w.heap.size w (w.alloc (.cells (txA x a c) 29)) := (Below.refl _ w).alloc (Nat.le_refl _) _
  have hX0 : Bx (w.alloc (.cells (txA x a c) 29)) w.heap.size (txA x a c) 29 := heap_alloc_last w _
  have HA := Lib.hid (hR.below hb0)
  have CV := Lib.hid (fun V (h1 : Cs V a (tfc x.tr)) => q_validate x a c V h1 h2.s2)
  have CW := Lib.hid (fun V (h1 : Cs V a (tfc x.tr)) (hv : valX x = 0) => have hok := (val_ok hv h2.sq h2.gas h2.fee h2.am).1; q_write x a c V h1 hok)
  have HE1 : Hid (valX x ≠ 0 → encX x = ([], valX x)) := Lib.hid fun h => by unfold encX; rw [if_pos h]
  have HE2 : Hid (valX x = 0 → 4096 < (form x).length → encX x = ([], 3)) := Lib.hid fun h h3 => by unfold encX; rw [if_neg (by rw [h]; decide), if_pos h3]
  have HE3 : Hid (valX x = 0 → ¬ 4096 < (form x).length → encX x = (form x, 0)) := Lib.hid fun h h3 => by unfold encX; rw [if_neg (by rw [h]; decide), if_neg h3]
  have HEO : Hid (∀ v V r, encX x = r → Own V w.heap.size v r.1 → Below w.heap.size w V → EncO w x (.returned (.tuple #[v, .int .i64 r.2])) V) := Lib.hid fun v V r h1 h3 h4 => ⟨v, by rw [h1], by rw [h1]; exact h3, h4⟩
  generalize encX x = EX at *
  generalize valX x = vx at *
  generalize form x = FO at *
  clear hR h2
  go_enter Try.func19, Try.ntmps19
  go_upto_region 1 with fail
  change Code.wp _ _ _ _ (w.alloc (.cells (txA x a c) 29))
  generalize w.alloc (.cells (txA x a c) 29) = W at *
  obtain ⟨g0, hg0⟩ : ∃ g0, w.heap.size = g0 := ⟨_, rfl⟩
  have HB0 := Lib.hid hb0
  rw [hg0] at hX0
  simp only [hg0]
  have CVW := CV.out W HA.out
  clear hb0 hg0 CV
  apply wp_region_lit
  refine gw_load (by kernel_rfl) (some 6) rfl 29 (.tmp 1) rfl ⟨g0, 0, none⟩ (.agg (txA x a c)) (by kernel_rfl) (load_txb hX0) ?_
  simp only [pu1, pu2, pu3, pu4]
  refine gw_call (by kernel_rfl) (some 7) rfl 17 #[.agg (txA x a c)] (.int .i64 vx) (fun w' => Below W.heap.size W w') (by kernel_rfl) CVW (fun V hV => ?_)
  simp only [pu1, pu2, pu3, pu4]
  refine gw_val (by kernel_rfl) (some 4) rfl (.int .i64 vx) (by kernel_rfl) ?_
  simp only [pu1, pu2, pu3, pu4]
  apply wpList_nil
  have hX1 := hX0.below hX0.lt hV
  have HB1 := Lib.hid (HB0.out.trans (hV.mono HB0.out.size))
  have HA1 := Lib.hid (HA.out.below hV)
  clear hV CVW hX0 HB0 HA
  go_upto_region 2 with fail
  by_cases hv : vx = 0
  · skip
    have CWV := CW.out V HA1.out hv
    clear CW
    apply wp_region_lit
    refine gw_val (by kernel_rfl) (some 8) rfl (.int .i64 vx) (by kernel_rfl) ?_
    simp only [pu1, pu2, pu3, pu4]
    refine gw_val (by kernel_rfl) (some 9) rfl (.bool false) (neq_e rfl vx 0 (decide_eq_true hv) (by kernel_rfl) (by kernel_rfl) _) ?_
    simp only [pu1, pu2, pu3, pu4]
    apply wpList_nil
    go_upto_region 4 with fail
    apply wp_region_lit
    refine gw_load (by kernel_rfl) (some 11) rfl 29 (.tmp 1) rfl ⟨g0, 0, none⟩ (.agg (txA x a c)) (by kernel_rfl) (load_txb hX1) ?_
    simp only [pu1, pu2, pu3, pu4]
    refine gw_callE (by kernel_rfl) (some 12) rfl 35 #[.agg (txA x a c)] (fun v w' => Own w' V.heap.size v FO ∧ Below V.heap.size V w') (by kernel_rfl) CWV (fun u U hq => ?_)
    obtain ⟨hO, hb⟩ := hq
    obtain ⟨b5, d5, rfl, -, -⟩ := hO.sl
    simp only [pu1, pu2, pu3, pu4]
    refine gw_val (by kernel_rfl) (some 5) rfl (.slice b5 FO.length d5) (by kernel_rfl) ?_
    simp only [pu1, pu2, pu3, pu4]
    apply wpList_nil
    have HB2 := Lib.hid (HB1.out.trans (hb.mono HB1.out.size))
    have HO := Lib.hid (hO.base HB1.out.size)
    clear hO hb CWV hX1 HA1 HB1
    go_upto_region 5 with fail
    by_cases hl : 4096 < FO.length
    · skip
      have HE := Lib.hid (HEO.out (.slice none 0 0) U _ (HE2.out hv hl) (Own.nil _ _) HB2.out)
      clear HEO HE1 HE2 HE3 HO HB2
      apply wp_region_lit
      refine gw_val (by kernel_rfl) (some 13) rfl (.slice b5 FO.length d5) (by kernel_rfl) ?_
      simp only [pu1, pu2, pu3, pu4]
      refine gw_val (by kernel_rfl) (some 14) rfl (.int .i64 FO.length) (by kernel_rfl) ?_
      simp only [pu1, pu2, pu3, pu4]
      refine gw_val (by kernel_rfl) (some 15) rfl (.bool true) (gtr_n rfl (FO.length) (4096) (decide_eq_true (by omega)) (by kernel_rfl) (by kernel_rfl) _) ?_
      simp only [pu1, pu2, pu3, pu4]
      apply wpList_nil
      go_upto_region 6 with fail
      apply wp_region_lit
      refine gw_val (by kernel_rfl) (some 2) rfl (.slice none 0 0) (by kernel_rfl) ?_
      simp only [pu1, pu2, pu3, pu4]
      refine gw_val (by kernel_rfl) (some 3) rfl (.int .i64 3) (by kernel_rfl) ?_
      simp only [pu1, pu2, pu3, pu4]
      apply wpList_nil
      go_wp2_with fail
      go_ret2
      exact HE.out
    · skip
      have HE := Lib.hid (HEO.out (.slice b5 FO.length d5) U _ (HE3.out hv hl) HO.out HB2.out)
      clear HEO HE1 HE2 HE3 HO HB2
      apply wp_region_lit
      refine gw_val (by kernel_rfl) (some 13) rfl (.slice b5 FO.length d5) (by kernel_rfl) ?_
      simp only [pu1, pu2, pu3, pu4]
      refine gw_val (by kernel_rfl) (some 14) rfl (.int .i64 FO.length) (by kernel_rfl) ?_
      simp only [pu1, pu2, pu3, pu4]
      refine gw_val (by kernel_rfl) (some 15) rfl (.bool false) (gtr_n rfl (FO.length) (4096) (decide_eq_false (by omega)) (by kernel_rfl) (by kernel_rfl) _) ?_
      simp only [pu1, pu2, pu3, pu4]
      apply wpList_nil
      go_upto_region 7 with fail
      apply wp_region_lit
      refine gw_val (by kernel_rfl) (some 16) rfl (.slice b5 FO.length d5) (by kernel_rfl) ?_
      simp only [pu1, pu2, pu3, pu4]
      refine gw_val (by kernel_rfl) (some 2) rfl (.slice b5 FO.length d5) (by kernel_rfl) ?_
      simp only [pu1, pu2, pu3, pu4]
      refine gw_val (by kernel_rfl) (some 3) rfl (.int .i64 0) (by kernel_rfl) ?_
      simp only [pu1, pu2, pu3, pu4]
      apply wpList_nil
      go_wp2_with fail
      go_ret2
      exact HE.out
  · skip
    have HE := Lib.hid (HEO.out (.slice none 0 0) V _ (HE1.out hv) (Own.nil _ _) HB1.out)
    clear HEO HE1 HE2 HE3 HA1 HB1 CW hX1
    apply wp_region_lit
    refine gw_val (by kernel_rfl) (some 8) rfl (.int .i64 vx) (by kernel_rfl) ?_
    simp only [pu1, pu2, pu3, pu4]
    refine gw_val (by kernel_rfl) (some 9) rfl (.bool true) (neq_e rfl vx 0 (decide_eq_false hv) (by kernel_rfl) (by kernel_rfl) _) ?_
    simp only [pu1, pu2, pu3, pu4]
    apply wpList_nil
    go_upto_region 3 with fail
    apply wp_region_lit
    refine gw_val (by kernel_rfl) (some 10) rfl (.int .i64 vx) (by kernel_rfl) ?_
    simp only [pu1, pu2, pu3, pu4]
    refine gw_val (by kernel_rfl) (some 2) rfl (.slice none 0 0) (by kernel_rfl) ?_
    simp only [pu1, pu2, pu3, pu4]
    refine gw_val (by kernel_rfl) (some 3) rfl (.int .i64 vx) (by kernel_rfl) ?_
    simp only [pu1, pu2, pu3, pu4]
    apply wpList_nil
    go_wp2_with fail
    go_ret2
    exact HE.out
set_option maxRecDepth 100000 in
set_option maxHeartbeats 8000000 in
theorem ref_encode (x : Txd) (a : Option Addr) (c : Nat) (w : World) (hR : Cs w a (tfc x.tr)) (h2 : TxB x) :
    Calls Try.prog 20 #[.agg (txA x a c)] w (EncO w x) := by
  have hb0 : Below w.heap.size w (w.alloc (.cells (txA x a c) 29)) := (Below.refl _ w).alloc (Nat.le_refl _) _
  have hX0 : Bx (w.alloc (.cells (txA x a c) 29)) w.heap.size (txA x a c) 29 := heap_alloc_last w _
  have HA := Lib.hid (hR.below hb0)
  have CV := Lib.hid (fun V (h1 : Cs V a (tfc x.tr)) => ref_validate x a c V h1 h2.s1 h2.s2 h2.s3)
  have CW := Lib.hid (fun V (h1 : Cs V a (tfc x.tr)) (hv : valX x = 0) => have hok := (val_ok hv h2.sq h2.gas h2.fee h2.am).1; ref_form x a c V h1 hok)
  have HE1 : Hid (valX x ≠ 0 → encX x = ([], valX x)) := Lib.hid fun h => by unfold encX; rw [if_pos h]
  have HE2 : Hid (valX x = 0 → 4096 < (form x).length → encX x = ([], 3)) := Lib.hid fun h h3 => by unfold encX; rw [if_neg (by rw [h]; decide), if_pos h3]
  have HE3 : Hid (valX x = 0 → ¬ 4096 < (form x).length → encX x = (form x, 0)) := Lib.hid fun h h3 => by unfold encX; rw [if_neg (by rw [h]; decide), if_neg h3]
  have HEO : Hid (∀ v V r, encX x = r → Own V w.heap.size v r.1 → Below w.heap.size w V → EncO w x (.returned (.tuple #[v, .int .i64 r.2])) V) := Lib.hid fun v V r h1 h3 h4 => ⟨v, by rw [h1], by rw [h1]; exact h3, h4⟩
  generalize encX x = EX at *
  generalize valX x = vx at *
  generalize form x = FO at *
  clear hR h2
  go_enter Try.func20, Try.ntmps20
  go_upto_region 1 with fail
  change Code.wp _ _ _ _ (w.alloc (.cells (txA x a c) 29))
  generalize w.alloc (.cells (txA x a c) 29) = W at *
  obtain ⟨g0, hg0⟩ : ∃ g0, w.heap.size = g0 := ⟨_, rfl⟩
  have HB0 := Lib.hid hb0
  rw [hg0] at hX0
  simp only [hg0]
  have CVW := CV.out W HA.out
  clear hb0 hg0 CV
  apply wp_region_lit
  refine gw_load (by kernel_rfl) (some 6) rfl 29 (.tmp 1) rfl ⟨g0, 0, none⟩ (.agg (txA x a c)) (by kernel_rfl) (load_txb hX0) ?_
  simp only [pu1, pu2, pu3, pu4]
  refine gw_call (by kernel_rfl) (some 7) rfl 18 #[.agg (txA x a c)] (.int .i64 vx) (fun w' => Below W.heap.size W w') (by kernel_rfl) CVW (fun V hV => ?_)
  simp only [pu1, pu2, pu3, pu4]
  refine gw_val (by kernel_rfl) (some 4) rfl (.int .i64 vx) (by kernel_rfl) ?_
  simp only [pu1, pu2, pu3, pu4]
  apply wpList_nil
  have hX1 := hX0.below hX0.lt hV
  have HB1 := Lib.hid (HB0.out.trans (hV.mono HB0.out.size))
  have HA1 := Lib.hid (HA.out.below hV)
  clear hV CVW hX0 HB0 HA
  go_upto_region 2 with fail
  by_cases hv : vx = 0
  · skip
    have CWV := CW.out V HA1.out hv
    clear CW
    apply wp_region_lit
    refine gw_val (by kernel_rfl) (some 8) rfl (.int .i64 vx) (by kernel_rfl) ?_
    simp only [pu1, pu2, pu3, pu4]
    refine gw_val (by kernel_rfl) (some 9) rfl (.bool false) (neq_e rfl vx 0 (decide_eq_true hv) (by kernel_rfl) (by kernel_rfl) _) ?_
    simp only [pu1, pu2, pu3, pu4]
    apply wpList_nil
    go_upto_region 4 with fail
    apply wp_region_lit
    refine gw_load (by kernel_rfl) (some 11) rfl 29 (.tmp 1) rfl ⟨g0, 0, none⟩ (.agg (txA x a c)) (by kernel_rfl) (load_txb hX1) ?_
    simp only [pu1, pu2, pu3, pu4]
    refine gw_callE (by kernel_rfl) (some 12) rfl 24 #[.agg (txA x a c)] (fun v w' => Own w' V.heap.size v FO ∧ Below V.heap.size V w') (by kernel_rfl) CWV (fun u U hq => ?_)
    obtain ⟨hO, hb⟩ := hq
    obtain ⟨b5, d5, rfl, -, -⟩ := hO.sl
    simp only [pu1, pu2, pu3, pu4]
    refine gw_val (by kernel_rfl) (some 5) rfl (.slice b5 FO.length d5) (by kernel_rfl) ?_
    simp only [pu1, pu2, pu3, pu4]
    apply wpList_nil
    have HB2 := Lib.hid (HB1.out.trans (hb.mono HB1.out.size))
    have HO := Lib.hid (hO.base HB1.out.size)
    clear hO hb CWV hX1 HA1 HB1
    go_upto_region 5 with fail
    by_cases hl : 4096 < FO.length
    · skip
      have HE := Lib.hid (HEO.out (.slice none 0 0) U _ (HE2.out hv hl) (Own.nil _ _) HB2.out)
      clear HEO HE1 HE2 HE3 HO HB2
      apply wp_region_lit
      refine gw_val (by kernel_rfl) (some 13) rfl (.slice b5 FO.length d5) (by kernel_rfl) ?_
      simp only [pu1, pu2, pu3, pu4]
      refine gw_val (by kernel_rfl) (some 14) rfl (.int .i64 FO.length) (by kernel_rfl) ?_
      simp only [pu1, pu2, pu3, pu4]
      refine gw_val (by kernel_rfl) (some 15) rfl (.bool true) (gtr_n rfl (FO.length) (4096) (decide_eq_true (by omega)) (by kernel_rfl) (by kernel_rfl) _) ?_
      simp only [pu1, pu2, pu3, pu4]
      apply wpList_nil
      go_upto_region 6 with fail
      apply wp_region_lit
      refine gw_val (by kernel_rfl) (some 2) rfl (.slice none 0 0) (by kernel_rfl) ?_
      simp only [pu1, pu2, pu3, pu4]
      refine gw_val (by kernel_rfl) (some 3) rfl (.int .i64 3) (by kernel_rfl) ?_
      simp only [pu1, pu2, pu3, pu4]
      apply wpList_nil
      go_wp2_with fail
      go_ret2
      exact HE.out
    · skip
      have HE := Lib.hid (HEO.out (.slice b5 FO.length d5) U _ (HE3.out hv hl) HO.out HB2.out)
      clear HEO HE1 HE2 HE3 HO HB2
      apply wp_region_lit
      refine gw_val (by kernel_rfl) (some 13) rfl (.slice b5 FO.length d5) (by kernel_rfl) ?_
      simp only [pu1, pu2, pu3, pu4]
      refine gw_val (by kernel_rfl) (some 14) rfl (.int .i64 FO.length) (by kernel_rfl) ?_
      simp only [pu1, pu2, pu3, pu4]
      refine gw_val (by kernel_rfl) (some 15) rfl (.bool false) (gtr_n rfl (FO.length) (4096) (decide_eq_false (by omega)) (by kernel_rfl) (by kernel_rfl) _) ?_
      simp only [pu1, pu2, pu3, pu4]
      apply wpList_nil
      go_upto_region 7 with fail
      apply wp_region_lit
      refine gw_val (by kernel_rfl) (some 16) rfl (.slice b5 FO.length d5) (by kernel_rfl) ?_
      simp only [pu1, pu2, pu3, pu4]
      refine gw_val (by kernel_rfl) (some 2) rfl (.slice b5 FO.length d5) (by kernel_rfl) ?_
      simp only [pu1, pu2, pu3, pu4]
      refine gw_val (by kernel_rfl) (some 3) rfl (.int .i64 0) (by kernel_rfl) ?_
      simp only [pu1, pu2, pu3, pu4]
      apply wpList_nil
      go_wp2_with fail
      go_ret2
      exact HE.out
  · skip
    have HE := Lib.hid (HEO.out (.slice none 0 0) V _ (HE1.out hv) (Own.nil _ _) HB1.out)
    clear HEO HE1 HE2 HE3 HA1 HB1 CW hX1
    apply wp_region_lit
    refine gw_val (by kernel_rfl) (some 8) rfl (.int .i64 vx) (by kernel_rfl) ?_
    simp only [pu1, pu2, pu3, pu4]
    refine gw_val (by kernel_rfl) (some 9) rfl (.bool true) (neq_e rfl vx 0 (decide_eq_false hv) (by kernel_rfl) (by kernel_rfl) _) ?_
    simp only [pu1, pu2, pu3, pu4]
    apply wpList_nil
    go_upto_region 3 with fail
    apply wp_region_lit
    refine gw_val (by kernel_rfl) (some 10) rfl (.int .i64 vx) (by kernel_rfl) ?_
    simp only [pu1, pu2, pu3, pu4]
    refine gw_val (by kernel_rfl) (some 2) rfl (.slice none 0 0) (by kernel_rfl) ?_
    simp only [pu1, pu2, pu3, pu4]
    refine gw_val (by kernel_rfl) (some 3) rfl (.int .i64 vx) (by kernel_rfl) ?_
    simp only [pu1, pu2, pu3, pu4]
    apply wpList_nil
    go_wp2_with fail
    go_ret2
    exact HE.out
end Go.Proofs.Ytaaeepanelmgnaa
