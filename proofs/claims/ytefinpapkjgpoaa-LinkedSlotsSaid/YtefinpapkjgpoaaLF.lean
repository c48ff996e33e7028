/-
  The contracts of mempoolmake's Place, From, Next.
-/
import Derived.Test.YtefinpapkjgpoaaLE
namespace Go.Proofs.Ytefinpapkjgpoaa
open Go.RowKit
set_option linter.unusedSimpArgs false
set_option linter.unusedVariables false

def I64 (x : Int) : Prop := -9223372036854775808 ≤ x ∧ x ≤ 9223372036854775807
/-- A number from 0 to below n that depends on any number. -/
def pl (x n : Int) : Int := if x.tmod n < 0 then x.tmod n + n else x.tmod n
theorem tmod_range (x n : Int) (hn : 0 < n) : -n < x.tmod n ∧ x.tmod n < n := by
  rcases Int.le_total 0 x with h | h
  · have h1 := Int.tmod_nonneg n h
    have h2 := Int.tmod_lt_of_pos x hn
    omega
  · have h1 := Int.tmod_nonneg n (show 0 ≤ -x by omega)
    have h2 := Int.tmod_lt_of_pos (-x) hn
    rw [Int.neg_tmod] at h1 h2
    omega
theorem pl_range (x n : Int) (hn : 0 < n) : 0 ≤ pl x n ∧ pl x n < n := by
  have := tmod_range x n hn
  unfold pl
  split <;> omega
theorem rem_i64 {ρ : Operand → Value} {o : Oper} {x y : Operand} (ho : o.op = .binOp .rem 3 x y 3) (a b : Int) (hb : b ≠ 0) (hx : ρ x = .int .i64 a) (hy : ρ y = .int .i64 b) (w : World) :
    (execOp ρ o).run Try.prog w = .ok (.value (.int .i64 (a.tmod b))) w := by
  unfold execOp
  simp only [ho, hx, hy]
  simp [hb, go_sem]
set_option maxHeartbeats 1000000 in
theorem mk_place (x n : Int) (w : World) (hn : 0 < n) (hn2 : n ≤ 1000000) :
    Calls Try.prog 37 #[.int .i64 x, .int .i64 n] w fun e w' => e = .returned (.int .i64 (pl x n)) ∧ w = w' := by
  have hr := tmod_range x n hn
  have hnz : ¬ n = 0 := by omega
  unfold pl
  obtain ⟨r, hr0⟩ : ∃ r, x.tmod n = r := ⟨_, rfl⟩
  have hw : IntKind.i64.wrap r = r := by rw [IntKind.wrap_i64]; omega
  rw [hr0] at hr ⊢
  have HR := Lib.hid hr0
  clear hr0
  obtain ⟨Q, hQ⟩ : ∃ Q, Q = if r < 0 then r + n else r := ⟨_, rfl⟩
  rw [← hQ]
  have HQ := Lib.hid hQ
  clear hQ
  go_enter Try.func37, Try.ntmps37
  go_upto_region 1 with fail
  apply wp_region_lit
  refine gw_val (by kernel_rfl) (some 5) rfl (.int .i64 x) (by kernel_rfl) ?_
  simp only [Act.put, List.setIfInBounds_toArray, List.set_cons_succ, List.set_cons_zero]
  refine gw_val (by kernel_rfl) (some 6) rfl (.int .i64 n) (by kernel_rfl) ?_
  simp only [Act.put, List.setIfInBounds_toArray, List.set_cons_succ, List.set_cons_zero]
  refine gw_val (by kernel_rfl) (some 7) rfl (.int .i64 (x.tmod n)) (rem_i64 rfl x n hnz (by kernel_rfl) (by kernel_rfl) w) ?_
  rw [HR.out]
  simp only [Act.put, List.setIfInBounds_toArray, List.set_cons_succ, List.set_cons_zero]
  refine gw_val (by kernel_rfl) (some 0) rfl (.int .i64 r) (by kernel_rfl) ?_
  simp only [Act.put, List.setIfInBounds_toArray, List.set_cons_succ, List.set_cons_zero]
  apply wpList_nil
  by_cases h0 : r < 0
  · have hd : decide (r < 0) = true := decide_eq_true h0
    have HQ2 : Hid (Q = r + n) := Lib.hid (by rw [HQ.out, if_pos h0])
    have hw3 : IntKind.i64.wrap (r + n) = r + n := by rw [IntKind.wrap_i64]; omega
    clear HQ HR
    go_wp2_with fail
    go_ret
    exact ⟨by rw [HQ2.out]; rfl, rfl⟩
  · have hd : decide (r < 0) = false := decide_eq_false h0
    have HQ2 : Hid (Q = r) := Lib.hid (by rw [HQ.out, if_neg h0])
    clear HQ HR
    go_wp2_with fail
    go_ret
    exact ⟨by rw [HQ2.out]; rfl, rfl⟩
set_option maxHeartbeats 1000000 in
theorem mk_from (a : Option Addr) (n c : Nat) (w : World) : Calls Try.prog 24 #[.slice a n c] w fun e w' => e = .returned (.pointer (some ⟨w.heap.size, 0, none⟩)) ∧ w' = w.alloc (.cells #[.slice a n c, .int .i64 0] 48) := by
  go_enter Try.func24, Try.ntmps24
  go_upto_region 1 with fail
  apply wp_region_lit
  refine gw_val (by kernel_rfl) (some 3) rfl (.slice a n c) (by kernel_rfl) ?_
  simp only [Act.put, List.setIfInBounds_toArray, List.set_cons_succ, List.set_cons_zero]
  refine gw_val (by kernel_rfl) (some 4) rfl (.agg #[.slice a n c, .int .i64 0]) (by kernel_rfl) ?_
  simp only [Act.put, List.setIfInBounds_toArray, List.set_cons_succ, List.set_cons_zero]
  refine run_to rfl (some 5) rfl (.pointer (some ⟨w.heap.size, 0, none⟩)) (w.alloc (.cells #[.slice a n c, .int .i64 0] 48)) (by kernel_rfl) ?_
  simp only [Act.put, List.setIfInBounds_toArray, List.set_cons_succ, List.set_cons_zero]
  refine gw_val (by kernel_rfl) (some 2) rfl (.pointer (some ⟨w.heap.size, 0, none⟩)) (by kernel_rfl) ?_
  simp only [Act.put, List.setIfInBounds_toArray, List.set_cons_succ, List.set_cons_zero]
  apply wpList_nil
  go_wp2_with fail
  go_ret
  exact ⟨rfl, rfl⟩
theorem add_one {ρ : Operand → Value} {o : Oper} {x : Operand} (ho : o.op = .binOp .add 3 x (.const (.int .i64 1)) 3) (m : Nat) (hm : m ≤ 1000000) (hx : ρ x = .int .i64 m) (w : World) (hρ : ρ (.const (.int .i64 1)) = .int .i64 1 := by rfl) : (execOp ρ o).run Try.prog w = .ok (.value (.int .i64 (m + 1 : Nat))) w := by
  unfold execOp
  simp only [ho, hx, hρ]
  simp [go_sem]
  rw [IntKind.wrap_i64]
  omega
theorem lt_nat {ρ : Operand → Value} {o : Oper} {x y : Operand} (ho : o.op = .binOp .lss 3 x y 3) (a b : Nat) (hx : ρ x = .int .i64 a) (hy : ρ y = .int .i64 b) (w : World) : (execOp ρ o).run Try.prog w = .ok (.value (.bool (decide (a < b)))) w := by
  unfold execOp
  simp only [ho, hx, hy]
  simp [go_sem]
set_option maxRecDepth 100000 in
set_option maxHeartbeats 2000000 in
theorem mk_next (g : Nat) (L : List Int) (a : Option Addr) (c N : Nat) (n : Int) (w : World) (hX : Bx w g #[.slice a L.length c, .int .i64 N] 48) (hL : Cs w a (icells L)) (hl : L.length ≤ 100000) (hN : N ≤ 100000) (hn : 0 < n) (hn2 : n ≤ 1000000) :
    Calls Try.prog 26 #[.pointer (some ⟨g, 0, none⟩), .int .i64 n] w fun e w' => e = .returned (.int .i64 (pl (L.getD N 0) n)) ∧ But g w w' ∧ Bx w' g #[.slice a L.length c, .int .i64 (N + 1 : Nat)] 48 := by
  have CP := fun x V => mk_place x n V hn hn2
  have tail : ∀ (V : World) (x : Int), x = L.getD N 0 → But g w V → Bx V g #[.slice a L.length c, .int .i64 N] 48 → True := fun _ _ _ _ _ => trivial
  by_cases hlt : N < L.length
  · obtain ⟨b, off, rfl, hb, hc⟩ := int_at hL hlt
    have hd : decide (N < L.length) = true := decide_eq_true hlt
    obtain ⟨x, hx⟩ : ∃ x, L.getD N 0 = x := ⟨_, rfl⟩
    rw [hx] at hc ⊢
    generalize L.length = k at *
    clear hx hL tail
    go_enter Try.func26, Try.ntmps26
    go_upto_region 2 with fail
    refine wp_region_class (C := fun w' => Below w.heap.size w w') (by kernel_rfl) (by kernel_rfl) (Below.refl _ w).drew ?_
    refine gq_val (by kernel_rfl) (some 6) rfl (.pointer (some ⟨g, 0, none⟩)) (fun w' _ => by kernel_rfl) ?_
    simp only [Act.put, List.setIfInBounds_toArray, List.set_cons_succ, List.set_cons_zero]
    refine gq_val (by kernel_rfl) (some 7) rfl (.pointer (some ⟨g, 0, none⟩)) (fun w' _ => by kernel_rfl) ?_
    simp only [Act.put, List.setIfInBounds_toArray, List.set_cons_succ, List.set_cons_zero]
    refine gq_val (by kernel_rfl) (some 8) rfl (.pointer (some ⟨g, 1, none⟩)) (fun w' _ => by kernel_rfl) ?_
    simp only [Act.put, List.setIfInBounds_toArray, List.set_cons_succ, List.set_cons_zero]
    refine gq_load (by kernel_rfl) (some 9) rfl 3 (.tmp 8) rfl ⟨g, 1, none⟩ (.int .i64 N) (by kernel_rfl) (fun w' hC => (hX.below hX.lt hC).load rfl (by kernel_rfl)) ?_
    simp only [Act.put, List.setIfInBounds_toArray, List.set_cons_succ, List.set_cons_zero]
    refine gq_val (by kernel_rfl) (some 10) rfl (.pointer (some ⟨g, 0, none⟩)) (fun w' _ => by kernel_rfl) ?_
    simp only [Act.put, List.setIfInBounds_toArray, List.set_cons_succ, List.set_cons_zero]
    refine gq_val (by kernel_rfl) (some 11) rfl (.pointer (some ⟨g, 0, none⟩)) (fun w' _ => by kernel_rfl) ?_
    simp only [Act.put, List.setIfInBounds_toArray, List.set_cons_succ, List.set_cons_zero]
    refine gq_val (by kernel_rfl) (some 12) rfl (.pointer (some ⟨g, 0, none⟩)) (fun w' _ => by kernel_rfl) ?_
    simp only [Act.put, List.setIfInBounds_toArray, List.set_cons_succ, List.set_cons_zero]
    refine gq_load (by kernel_rfl) (some 13) rfl 22 (.tmp 12) rfl ⟨g, 0, none⟩ (.slice (some ⟨b, off, none⟩) k c) (by kernel_rfl) (fun w' hC => (hX.below hX.lt hC).load rfl (by kernel_rfl)) ?_
    simp only [Act.put, List.setIfInBounds_toArray, List.set_cons_succ, List.set_cons_zero]
    refine gq_val (by kernel_rfl) (some 14) rfl (.int .i64 k) (fun w' _ => by kernel_rfl) ?_
    simp only [Act.put, List.setIfInBounds_toArray, List.set_cons_succ, List.set_cons_zero]
    refine gq_val (by kernel_rfl) (some 15) rfl (.bool (decide (N < k))) (fun w' _ => lt_nat rfl N k (by kernel_rfl) (by kernel_rfl) w') ?_
    rw [hd]
    simp only [Act.put, List.setIfInBounds_toArray, List.set_cons_succ, List.set_cons_zero]
    refine wpQuiet_nil ?_
    intro V hV
    have hXV := hX.below hX.lt hV
    have hcV := (hV.cell (p := ⟨b, off + N, none⟩) hb).trans hc
    have hbV := Nat.lt_of_lt_of_le hb hV.size
    go_upto_region 3 with fail
    refine wp_region_class (C := fun w' => Below V.heap.size V w') (by kernel_rfl) (by kernel_rfl) (Below.refl _ V).drew ?_
    refine gq_val (by kernel_rfl) (some 16) rfl (.pointer (some ⟨g, 0, none⟩)) (fun w' _ => by kernel_rfl) ?_
    simp only [Act.put, List.setIfInBounds_toArray, List.set_cons_succ, List.set_cons_zero]
    refine gq_val (by kernel_rfl) (some 17) rfl (.pointer (some ⟨g, 0, none⟩)) (fun w' _ => by kernel_rfl) ?_
    simp only [Act.put, List.setIfInBounds_toArray, List.set_cons_succ, List.set_cons_zero]
    refine gq_val (by kernel_rfl) (some 18) rfl (.pointer (some ⟨g, 0, none⟩)) (fun w' _ => by kernel_rfl) ?_
    simp only [Act.put, List.setIfInBounds_toArray, List.set_cons_succ, List.set_cons_zero]
    refine gq_load (by kernel_rfl) (some 19) rfl 22 (.tmp 18) rfl ⟨g, 0, none⟩ (.slice (some ⟨b, off, none⟩) k c) (by kernel_rfl) (fun w' hC => (hXV.below hXV.lt hC).load rfl (by kernel_rfl)) ?_
    simp only [Act.put, List.setIfInBounds_toArray, List.set_cons_succ, List.set_cons_zero]
    refine gq_val (by kernel_rfl) (some 20) rfl (.pointer (some ⟨g, 0, none⟩)) (fun w' _ => by kernel_rfl) ?_
    simp only [Act.put, List.setIfInBounds_toArray, List.set_cons_succ, List.set_cons_zero]
    refine gq_val (by kernel_rfl) (some 21) rfl (.pointer (some ⟨g, 0, none⟩)) (fun w' _ => by kernel_rfl) ?_
    simp only [Act.put, List.setIfInBounds_toArray, List.set_cons_succ, List.set_cons_zero]
    refine gq_val (by kernel_rfl) (some 22) rfl (.pointer (some ⟨g, 1, none⟩)) (fun w' _ => by kernel_rfl) ?_
    simp only [Act.put, List.setIfInBounds_toArray, List.set_cons_succ, List.set_cons_zero]
    refine gq_load (by kernel_rfl) (some 23) rfl 3 (.tmp 22) rfl ⟨g, 1, none⟩ (.int .i64 N) (by kernel_rfl) (fun w' hC => (hXV.below hXV.lt hC).load rfl (by kernel_rfl)) ?_
    simp only [Act.put, List.setIfInBounds_toArray, List.set_cons_succ, List.set_cons_zero]
    refine gq_val (by kernel_rfl) (some 24) rfl (.pointer (some ⟨b, off + N, none⟩)) (fun w' _ => idx_int b off k c N hlt w' _ _ rfl (by kernel_rfl) (by kernel_rfl)) ?_
    simp only [Act.put, List.setIfInBounds_toArray, List.set_cons_succ, List.set_cons_zero]
    refine gq_load (by kernel_rfl) (some 25) rfl 3 (.tmp 24) rfl ⟨b, off + N, none⟩ (.int .i64 x) (by kernel_rfl) (fun w' hC => load_cell ((hC.cell (p := ⟨b, off + N, none⟩) hbV).trans hcV) (by kernel_rfl)) ?_
    simp only [Act.put, List.setIfInBounds_toArray, List.set_cons_succ, List.set_cons_zero]
    refine gq_val (by kernel_rfl) (some 5) rfl (.int .i64 x) (fun w' _ => by kernel_rfl) ?_
    simp only [Act.put, List.setIfInBounds_toArray, List.set_cons_succ, List.set_cons_zero]
    refine wpQuiet_nil ?_
    intro V2 hV2
    have hX2 := hXV.below hXV.lt hV2
    have hB2 := hV.trans (hV2.mono hV.size)
    clear hXV hcV hbV hV hV2 hc hb
    go_upto_region 4 with fail
    apply wp_region_lit
    refine gw_val (by kernel_rfl) (some 26) rfl (.pointer (some ⟨g, 0, none⟩)) (by kernel_rfl) ?_
    simp only [Act.put, List.setIfInBounds_toArray, List.set_cons_succ, List.set_cons_zero]
    refine gw_val (by kernel_rfl) (some 27) rfl (.pointer (some ⟨g, 0, none⟩)) (by kernel_rfl) ?_
    simp only [Act.put, List.setIfInBounds_toArray, List.set_cons_succ, List.set_cons_zero]
    refine gw_val (by kernel_rfl) (some 28) rfl (.pointer (some ⟨g, 1, none⟩)) (by kernel_rfl) ?_
    simp only [Act.put, List.setIfInBounds_toArray, List.set_cons_succ, List.set_cons_zero]
    refine gw_load (by kernel_rfl) (some 29) rfl 3 (.tmp 28) rfl ⟨g, 1, none⟩ (.int .i64 N) (by kernel_rfl) (hX2.load rfl (by kernel_rfl)) ?_
    simp only [Act.put, List.setIfInBounds_toArray, List.set_cons_succ, List.set_cons_zero]
    refine gw_val (by kernel_rfl) (some 30) rfl (.int .i64 (N + 1 : Nat)) (add_one rfl N (by omega) (by kernel_rfl) V2) ?_
    simp only [Act.put, List.setIfInBounds_toArray, List.set_cons_succ, List.set_cons_zero]
    refine gw_val (by kernel_rfl) (some 31) rfl (.pointer (some ⟨g, 0, none⟩)) (by kernel_rfl) ?_
    simp only [Act.put, List.setIfInBounds_toArray, List.set_cons_succ, List.set_cons_zero]
    refine gw_val (by kernel_rfl) (some 32) rfl (.pointer (some ⟨g, 1, none⟩)) (by kernel_rfl) ?_
    simp only [Act.put, List.setIfInBounds_toArray, List.set_cons_succ, List.set_cons_zero]
    refine gw_store (by kernel_rfl) rfl 3 (.tmp 32) (.tmp 30) rfl (.pointer (some ⟨g, 1, none⟩)) (.int .i64 (N + 1 : Nat)) (by kernel_rfl) (by kernel_rfl) _ (run_store_cell hX2 (by simp) rfl (by kernel_rfl)) ?_
    apply wpList_nil
    have hX3 : Bx (V2.setCell ⟨g, 1, none⟩ (.int .i64 (N + 1 : Nat))) g #[.slice (some ⟨b, off, none⟩) k c, .int .i64 (N + 1 : Nat)] 48 := hX2.setC _
    have hB3 := (But.of_below hB2 (Nat.le_of_lt hX.lt)).trans (But.setCell (g := g) V2 1 (.int .i64 (N + 1 : Nat)))
    generalize V2.setCell ⟨g, 1, none⟩ (.int .i64 (N + 1 : Nat)) = V3 at *
    have HX3 := Lib.hid hX3
    have HB3 := Lib.hid hB3
    clear hX2 hB2 hX3 hB3 hX
    go_wp2_with (go_at_call 37; refine (CP _ _).mono ?_; rintro e w9 ⟨rfl, rfl⟩)
    go_ret
    exact ⟨rfl, HB3.out, HX3.out⟩
  · have hd : decide (N < L.length) = false := decide_eq_false hlt
    have hx : L.getD N 0 = 0 := by simp [List.getD, List.getElem?_eq_none (show L.length ≤ N by omega)]
    rw [hx]
    generalize L.length = k at *
    obtain ⟨x, hx0⟩ : ∃ x : Int, x = 0 := ⟨_, rfl⟩
    clear hx hL tail
    go_enter Try.func26, Try.ntmps26
    go_upto_region 2 with fail
    refine wp_region_class (C := fun w' => Below w.heap.size w w') (by kernel_rfl) (by kernel_rfl) (Below.refl _ w).drew ?_
    refine gq_val (by kernel_rfl) (some 6) rfl (.pointer (some ⟨g, 0, none⟩)) (fun w' _ => by kernel_rfl) ?_
    simp only [Act.put, List.setIfInBounds_toArray, List.set_cons_succ, List.set_cons_zero]
    refine gq_val (by kernel_rfl) (some 7) rfl (.pointer (some ⟨g, 0, none⟩)) (fun w' _ => by kernel_rfl) ?_
    simp only [Act.put, List.setIfInBounds_toArray, List.set_cons_succ, List.set_cons_zero]
    refine gq_val (by kernel_rfl) (some 8) rfl (.pointer (some ⟨g, 1, none⟩)) (fun w' _ => by kernel_rfl) ?_
    simp only [Act.put, List.setIfInBounds_toArray, List.set_cons_succ, List.set_cons_zero]
    refine gq_load (by kernel_rfl) (some 9) rfl 3 (.tmp 8) rfl ⟨g, 1, none⟩ (.int .i64 N) (by kernel_rfl) (fun w' hC => (hX.below hX.lt hC).load rfl (by kernel_rfl)) ?_
    simp only [Act.put, List.setIfInBounds_toArray, List.set_cons_succ, List.set_cons_zero]
    refine gq_val (by kernel_rfl) (some 10) rfl (.pointer (some ⟨g, 0, none⟩)) (fun w' _ => by kernel_rfl) ?_
    simp only [Act.put, List.setIfInBounds_toArray, List.set_cons_succ, List.set_cons_zero]
    refine gq_val (by kernel_rfl) (some 11) rfl (.pointer (some ⟨g, 0, none⟩)) (fun w' _ => by kernel_rfl) ?_
    simp only [Act.put, List.setIfInBounds_toArray, List.set_cons_succ, List.set_cons_zero]
    refine gq_val (by kernel_rfl) (some 12) rfl (.pointer (some ⟨g, 0, none⟩)) (fun w' _ => by kernel_rfl) ?_
    simp only [Act.put, List.setIfInBounds_toArray, List.set_cons_succ, List.set_cons_zero]
    refine gq_load (by kernel_rfl) (some 13) rfl 22 (.tmp 12) rfl ⟨g, 0, none⟩ (.slice a k c) (by kernel_rfl) (fun w' hC => (hX.below hX.lt hC).load rfl (by kernel_rfl)) ?_
    simp only [Act.put, List.setIfInBounds_toArray, List.set_cons_succ, List.set_cons_zero]
    refine gq_val (by kernel_rfl) (some 14) rfl (.int .i64 k) (fun w' _ => by kernel_rfl) ?_
    simp only [Act.put, List.setIfInBounds_toArray, List.set_cons_succ, List.set_cons_zero]
    refine gq_val (by kernel_rfl) (some 15) rfl (.bool (decide (N < k))) (fun w' _ => lt_nat rfl N k (by kernel_rfl) (by kernel_rfl) w') ?_
    rw [hd]
    simp only [Act.put, List.setIfInBounds_toArray, List.set_cons_succ, List.set_cons_zero]
    refine wpQuiet_nil ?_
    intro V2 hB2
    have hX2 := hX.below hX.lt hB2
    rw [← hx0]
    go_upto_region 4 with fail
    apply wp_region_lit
    refine gw_val (by kernel_rfl) (some 26) rfl (.pointer (some ⟨g, 0, none⟩)) (by kernel_rfl) ?_
    simp only [Act.put, List.setIfInBounds_toArray, List.set_cons_succ, List.set_cons_zero]
    refine gw_val (by kernel_rfl) (some 27) rfl (.pointer (some ⟨g, 0, none⟩)) (by kernel_rfl) ?_
    simp only [Act.put, List.setIfInBounds_toArray, List.set_cons_succ, List.set_cons_zero]
    refine gw_val (by kernel_rfl) (some 28) rfl (.pointer (some ⟨g, 1, none⟩)) (by kernel_rfl) ?_
    simp only [Act.put, List.setIfInBounds_toArray, List.set_cons_succ, List.set_cons_zero]
    refine gw_load (by kernel_rfl) (some 29) rfl 3 (.tmp 28) rfl ⟨g, 1, none⟩ (.int .i64 N) (by kernel_rfl) (hX2.load rfl (by kernel_rfl)) ?_
    simp only [Act.put, List.setIfInBounds_toArray, List.set_cons_succ, List.set_cons_zero]
    refine gw_val (by kernel_rfl) (some 30) rfl (.int .i64 (N + 1 : Nat)) (add_one rfl N (by omega) (by kernel_rfl) V2) ?_
    simp only [Act.put, List.setIfInBounds_toArray, List.set_cons_succ, List.set_cons_zero]
    refine gw_val (by kernel_rfl) (some 31) rfl (.pointer (some ⟨g, 0, none⟩)) (by kernel_rfl) ?_
    simp only [Act.put, List.setIfInBounds_toArray, List.set_cons_succ, List.set_cons_zero]
    refine gw_val (by kernel_rfl) (some 32) rfl (.pointer (some ⟨g, 1, none⟩)) (by kernel_rfl) ?_
    simp only [Act.put, List.setIfInBounds_toArray, List.set_cons_succ, List.set_cons_zero]
    refine gw_store (by kernel_rfl) rfl 3 (.tmp 32) (.tmp 30) rfl (.pointer (some ⟨g, 1, none⟩)) (.int .i64 (N + 1 : Nat)) (by kernel_rfl) (by kernel_rfl) _ (run_store_cell hX2 (by simp) rfl (by kernel_rfl)) ?_
    apply wpList_nil
    have hX3 : Bx (V2.setCell ⟨g, 1, none⟩ (.int .i64 (N + 1 : Nat))) g #[.slice a k c, .int .i64 (N + 1 : Nat)] 48 := hX2.setC _
    have hB3 := (But.of_below hB2 (Nat.le_of_lt hX.lt)).trans (But.setCell (g := g) V2 1 (.int .i64 (N + 1 : Nat)))
    generalize V2.setCell ⟨g, 1, none⟩ (.int .i64 (N + 1 : Nat)) = V3 at *
    have HX3 := Lib.hid hX3
    have HB3 := Lib.hid hB3
    clear hX2 hB2 hX3 hB3 hX
    go_wp2_with (go_at_call 37; refine (CP _ _).mono ?_; rintro e w9 ⟨rfl, rfl⟩)
    go_ret
    exact ⟨rfl, HB3.out, HX3.out⟩
end Go.Proofs.Ytefinpapkjgpoaa
