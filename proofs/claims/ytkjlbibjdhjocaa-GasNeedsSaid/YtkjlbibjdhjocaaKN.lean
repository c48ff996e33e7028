/-
  The priority's order, its exactness for small numbers, the fixed example, bounds of arguments.
-/
import Derived.Test.YtkjlbibjdhjocaaGM
import Derived.Deep.MidRow
import Derived.Deep.WholeRow
namespace Go.Proofs.Ytkjlbibjdhjocaa
set_option maxRecDepth 100000
open Go.RowKit
set_option linter.unusedVariables false

theorem word_of_wf {x : Int} (h : (Lit.int .u64 x).wf = true) : W64 x := by
  simp [Lit.wf, IntKind.min, IntKind.max, IntKind.signed, IntKind.bits] at h
  exact ⟨by omega, by omega⟩
theorem byte_of_wf {x : Int} (h : (Lit.int .u8 x).wf = true) : 0 ≤ x ∧ x ≤ 255 := by
  simp [Lit.wf, IntKind.min, IntKind.max, IntKind.signed, IntKind.bits] at h
  exact ⟨by omega, by omega⟩
theorem half_of_wf {x : Int} (h : (Lit.int .u32 x).wf = true) : 0 ≤ x ∧ x ≤ 4294967295 := by
  simp [Lit.wf, IntKind.min, IntKind.max, IntKind.signed, IntKind.bits] at h
  exact ⟨by omega, by omega⟩
theorem int_of_wf {x : Int} (h : (Lit.int .i64 x).wf = true) : -9223372036854775808 ≤ x ∧ x ≤ 9223372036854775807 := by
  simp [Lit.wf, IntKind.min, IntKind.max, IntKind.signed, IntKind.bits] at h
  exact ⟨by omega, by omega⟩
theorem shr_word (a : Int) (s : Nat) (h : W64 a) : W64 (a / 2 ^ s) :=
  ⟨Int.ediv_nonneg h.1 (Int.le_of_lt (Int.pow_pos (by omega))), Int.le_trans (Int.ediv_le_self _ h.1) h.2⟩

theorem prio_fee (f f' g : Int) (hf : W64 f) (hf' : W64 f') (hg : W64 g) (hg0 : 0 < g) (h : f ≤ f') : prioV f g ≤ prioV f' g := by
  have b := prio_range f g hf hg
  unfold prioV mdB mdV at *
  rw [if_neg (by omega : ¬ g = 0)] at b ⊢
  rw [if_neg (by omega : ¬ g = 0)]
  by_cases h1 : 1000 * f' < g * 18446744073709551616
  · have h2 : 1000 * f < g * 18446744073709551616 := by omega
    rw [decide_eq_true h1, decide_eq_true h2, if_pos rfl, if_pos rfl, if_pos h1, if_pos h2]
    exact Int.ediv_le_ediv hg0 (by omega)
  · rw [decide_eq_false h1]
    simp only [Bool.false_eq_true, if_false]
    exact b.2
theorem prio_gas (f g g' : Int) (hf : W64 f) (hg : W64 g) (hg' : W64 g') (hg0 : 0 < g) (h : g ≤ g') : prioV f g' ≤ prioV f g := by
  have b := prio_range f g' hf hg'
  have f0 := hf.1
  unfold prioV mdB mdV at *
  rw [if_neg (by omega : ¬ g' = 0)] at b ⊢
  rw [if_neg (by omega : ¬ g = 0)]
  by_cases h1 : 1000 * f < g * 18446744073709551616
  · have h2 : 1000 * f < g' * 18446744073709551616 := by omega
    rw [decide_eq_true h1, decide_eq_true h2, if_pos rfl, if_pos rfl, if_pos h1, if_pos h2]
    refine Int.le_ediv_of_mul_le hg0 (Int.le_trans (Int.mul_le_mul_of_nonneg_left h (Int.ediv_nonneg (by omega) (by omega))) (Int.ediv_mul_le _ (by omega)))
  · rw [decide_eq_false h1]
    simp only [Bool.false_eq_true, if_false]
    exact b.2
/-- For numbers whose products fit, the priority is the quotient. -/
theorem prio_small (f g : Int) (hf : 0 ≤ f ∧ f ≤ 4294967295) (hg : 1 ≤ g ∧ g ≤ 4294967296) :
    ∃ p, prioV f g = p ∧ 0 ≤ p ∧ p ≤ 4294967295000 ∧ 0 ≤ p * g ∧ p * g ≤ 1000 * f ∧ 1000 * f < (p + 1) * g ∧ (p + 1) * g ≤ 4299262262296 := by
  refine ⟨1000 * f / g, ?_, Int.ediv_nonneg (by omega) (by omega), Int.le_trans (Int.ediv_le_self _ (by omega)) (by omega), Int.mul_nonneg (Int.ediv_nonneg (by omega) (by omega)) (by omega), Int.ediv_mul_le _ (by omega), ?_, ?_⟩
  · unfold prioV mdB mdV
    have h : 1000 * f < g * 18446744073709551616 := by omega
    rw [if_neg (by omega : ¬ g = 0), decide_eq_true h, if_pos rfl, if_pos h]
  · exact Int.lt_ediv_add_one_mul_self _ (by omega)
  · have := Int.ediv_mul_le (1000 * f) (show g ≠ 0 by omega)
    rw [Int.add_mul]
    omega

theorem k_used : usedV 100 2 = 190 ∧ usedV 0 0 = 50 := by decide
theorem k_need1 : mulV 200 3 = 600 ∧ mulB 200 3 = true := by decide
theorem k_need2 : mulV 9223372036854775808 2 = 0 ∧ mulB 9223372036854775808 2 = false := by decide
theorem k_prio1 : prioV 1 3 = 333 := by decide
theorem k_prio2 : prioV 18446744073709551615 1 = 18446744073709551615 := by decide
theorem k_prio3 : prioV 5 0 = 0 := by decide
theorem known (w : World) : Calls Try.prog 11 #[] w fun e w' => e = .returned (.bool true) ∧ ∃ n, w' = w.drewN n := by
  have c1 := fun w => gas_need 200 3 w ⟨by omega, by omega⟩ ⟨by omega, by omega⟩
  have c2 := fun w => gas_need 9223372036854775808 2 w ⟨by omega, by omega⟩ ⟨by omega, by omega⟩
  have c3 := fun w => gas_used 100 2 w
  have c4 := fun w => gas_prio 1 3 w ⟨by omega, by omega⟩ ⟨by omega, by omega⟩
  have c5 := fun w => gas_prio 18446744073709551615 1 w ⟨by omega, by omega⟩ ⟨by omega, by omega⟩
  have c6 := fun w => gas_prio 5 0 w ⟨by omega, by omega⟩ ⟨by omega, by omega⟩
  rw [k_need1.1, k_need1.2] at c1
  rw [k_need2.1, k_need2.2] at c2
  rw [k_used.1] at c3
  rw [k_prio1] at c4
  rw [k_prio2] at c5
  rw [k_prio3] at c6
  go_enter Try.func11, Try.ntmps11
  go_wp2_with fail
  refine (c1 _).mono ?_
  rintro e w' ⟨rfl, rfl⟩
  go_wp2_with fail
  refine (c2 _).mono ?_
  rintro e w' ⟨rfl, rfl⟩
  go_wp2_with fail
  refine (c3 _).mono ?_
  rintro e w' ⟨rfl, rfl⟩
  go_wp2_with fail
  refine (c4 _).mono ?_
  rintro e w' ⟨rfl, n1, rfl⟩
  go_wp2_with fail
  refine (c5 _).mono ?_
  rintro e w' ⟨rfl, n2, rfl⟩
  go_wp2_with fail
  refine (c6 _).mono ?_
  rintro e w' ⟨rfl, n3, rfl⟩
  go_wp2
  go_ret
  exact ⟨rfl, n1 + n2 + n3, by simp only [World.drewN, Nat.add_assoc]⟩
def Bx (w : World) (g : Nat) (cs : Array Value) (t : Nat) : Prop := w.heap[g]? = some (.cells cs t (0, 0))
theorem Bx.lt {w : World} {g t : Nat} {cs : Array Value} (h : Bx w g cs t) : g < w.heap.size := (Array.getElem?_eq_some_iff.1 h).1
theorem Bx.below {w w' : World} {g t B : Nat} {cs : Array Value} (h : Bx w g cs t) (hg : g < B) (hb : Below B w w') : Bx w' g cs t := (hb.block g hg).trans h
theorem Bx.two {w : World} {g t : Nat} {cs : Array Value} (h : Bx w g cs t) (o : Nat) (x y : Value) (h0 : cs[o]? = some x) (h1 : cs[o + 1]? = some y) : w.rangeAt g o [x, y] := fun j v hj => by
  rw [cell_of_row w g _ _ _ (0, 0) h]
  rcases j with _ | _ | j
  · exact h0.trans hj
  · exact h1.trans hj
  · simp at hj
theorem Bx.u {w : World} {g t : Nat} {cs : Array Value} (h : Bx w g cs t) (o : Nat) (x y : Int) (h0 : cs[o]? = some (.int .u64 x)) (h1 : cs[o + 1]? = some (.int .u64 y)) : (Instr.loadAt 29 (.pointer (some ⟨g, o, none⟩))).run Try.prog w = .ok (.agg #[.int .u64 x, .int .u64 y]) w :=
  run_loadAt_mid w g o 29 _ _ (h.two o _ _ h0 h1) Try.underlying29 rfl (by kernel_rfl)
theorem Bx.i {w : World} {g t : Nat} {cs : Array Value} (h : Bx w g cs t) (o : Nat) (x y : Int) (h0 : cs[o]? = some (.int .i64 x)) (h1 : cs[o + 1]? = some (.int .i64 y)) : (Instr.loadAt 22 (.pointer (some ⟨g, o, none⟩))).run Try.prog w = .ok (.agg #[.int .i64 x, .int .i64 y]) w :=
  run_loadAt_mid w g o 22 _ _ (h.two o _ _ h0 h1) Try.underlying22 rfl (by kernel_rfl)
theorem grown_drewN {W w : World} (h : Grown W w) (n : Nat) : Grown W (w.drewN n) := h
end Go.Proofs.Ytkjlbibjdhjocaa
