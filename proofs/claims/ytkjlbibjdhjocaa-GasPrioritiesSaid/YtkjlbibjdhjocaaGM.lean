/-
  The contracts of gas.Used, gas.Need and gas.Priority and of their references, and of the statements' Place.
  Conditions: numbers of 64 bits.
-/
import Derived.Test.YtkjlbibjdhjocaaGS
import Derived.Test.YtkjlbibjdhjocaaM2
import Derived.Laws.Tables
import Derived.Lib.SmallJoins
namespace Go.Proofs.Ytkjlbibjdhjocaa
set_option maxRecDepth 100000
open Go.RowKit
set_option linter.unusedSimpArgs false
set_option linter.unusedVariables false

def pl (x n : Int) : Int := if x.tmod n < 0 then x.tmod n + n else x.tmod n
theorem tmod_range (x n : Int) (hn : 0 < n) : -n < x.tmod n ∧ x.tmod n < n := by
  rcases Int.le_total 0 x with h | h
  · have h1 := Int.tmod_nonneg n h
    have h2 := Int.tmod_lt_of_pos x hn
    omega
  · have h1 := Int.tmod_nonneg n (show 0 ≤ -x by omega)
    have h2 := Int.tmod_lt_of_pos (-x) hn
    rw [Int.neg_tmod] at h1 h2
    omega
theorem pl_range (x n : Int) (hn : 0 < n) : 0 ≤ pl x n ∧ pl x n < n := by
  have := tmod_range x n hn
  unfold pl
  split <;> omega
theorem rem_i64 {ρ : Operand → Value} {o : Oper} {x y : Operand} (ho : o.op = .binOp .rem 3 x y 3) (a b : Int) (hb : b ≠ 0) (hx : ρ x = .int .i64 a) (hy : ρ y = .int .i64 b) (w : World) :
    (execOp ρ o).run Try.prog w = .ok (.value (.int .i64 (a.tmod b))) w := by
  unfold execOp
  simp only [ho, hx, hy]
  simp [hb, go_sem]
set_option maxHeartbeats 1000000 in
theorem mk_place (x n : Int) (w : World) (hn : 0 < n) (hn2 : n ≤ 1000000) :
    Calls Try.prog 8 #[.int .i64 x, .int .i64 n] w fun e w' => e = .returned (.int .i64 (pl x n)) ∧ w = w' := by
  have hr := tmod_range x n hn
  have hnz : ¬ n = 0 := by omega
  unfold pl
  obtain ⟨r, hr0⟩ : ∃ r, x.tmod n = r := ⟨_, rfl⟩
  have hw : IntKind.i64.wrap r = r := by rw [IntKind.wrap_i64]; omega
  rw [hr0] at hr ⊢
  have HR := Lib.hid hr0
  clear hr0
  obtain ⟨Q, hQ⟩ : ∃ Q, Q = if r < 0 then r + n else r := ⟨_, rfl⟩
  rw [← hQ]
  have HQ := Lib.hid hQ
  clear hQ
  go_enter Try.func8, Try.ntmps8
  go_upto_region 1 with fail
  apply wp_region_lit
  refine gw_val (by kernel_rfl) (some 5) rfl (.int .i64 x) (by kernel_rfl) ?_
  simp only [pu1, pu2, pu3, pu4]
  refine gw_val (by kernel_rfl) (some 6) rfl (.int .i64 n) (by kernel_rfl) ?_
  simp only [pu1, pu2, pu3, pu4]
  refine gw_val (by kernel_rfl) (some 7) rfl (.int .i64 (x.tmod n)) (rem_i64 rfl x n hnz (by kernel_rfl) (by kernel_rfl) w) ?_
  rw [HR.out]
  simp only [pu1, pu2, pu3, pu4]
  refine gw_val (by kernel_rfl) (some 0) rfl (.int .i64 r) (by kernel_rfl) ?_
  simp only [pu1, pu2, pu3, pu4]
  apply wpList_nil
  by_cases h0 : r < 0
  · have hd : decide (r < 0) = true := decide_eq_true h0
    have HQ2 : Hid (Q = r + n) := Lib.hid (by rw [HQ.out, if_pos h0])
    have hw3 : IntKind.i64.wrap (r + n) = r + n := by rw [IntKind.wrap_i64]; omega
    clear HQ HR
    go_wp2_with fail
    go_ret
    exact ⟨by rw [HQ2.out]; rfl, rfl⟩
  · have hd : decide (r < 0) = false := decide_eq_false h0
    have HQ2 : Hid (Q = r) := Lib.hid (by rw [HQ.out, if_neg h0])
    clear HQ HR
    go_wp2_with fail
    go_ret
    exact ⟨by rw [HQ2.out]; rfl, rfl⟩

theorem max_int {ρ : Operand → Value} {o : Oper} {x y : Operand} (ho : o.op = .call { callee := .builtin .max, args := #[x, y], argTypes := #[3, 3] }) (a b : Int) (hx : ρ x = .int .i64 a) (hy : ρ y = .int .i64 b) (w : World) : (execOp ρ o).run Try.prog w = .ok (.value (.int .i64 (max a b))) w := by
  unfold execOp
  simp only [ho, hx, hy, resolve, invoke, builtin, Sem.run_bind, Sem.run_pure, Result.andThen_ok, List.map_toArray, List.map_cons, List.map_nil]
  simp [go_sem]
  by_cases hab : a < b
  · rw [if_pos hab, Int.max_eq_right (by omega)]
  · rw [if_neg hab, Int.max_eq_left (by omega)]
theorem min_int {ρ : Operand → Value} {o : Oper} {x y : Operand} (ho : o.op = .call { callee := .builtin .min, args := #[x, y], argTypes := #[3, 3] }) (a b : Int) (hx : ρ x = .int .i64 a) (hy : ρ y = .int .i64 b) (w : World) : (execOp ρ o).run Try.prog w = .ok (.value (.int .i64 (min a b))) w := by
  unfold execOp
  simp only [ho, hx, hy, resolve, invoke, builtin, Sem.run_bind, Sem.run_pure, Result.andThen_ok, List.map_toArray, List.map_cons, List.map_nil]
  simp [go_sem]
  by_cases hab : b < a
  · rw [if_pos hab, Int.min_eq_right (by omega)]
  · rw [if_neg hab, Int.min_eq_left (by omega)]
theorem conv_iu {ρ : Operand → Value} {o : Oper} {x : Operand} (ho : o.op = .convert 3 25 x) (a : Int) (h0 : 0 ≤ a) (h1 : a ≤ 9223372036854775807) (hx : ρ x = .int .i64 a) (w : World) : (execOp ρ o).run Try.prog w = .ok (.value (.int .u64 a)) w := by
  have hw : IntKind.u64.wrap a = a := by rw [IntKind.wrap_u64]; omega
  unfold execOp
  simp only [ho, hx]
  go_simp
/-- A number as gas counts it. -/
def lim (n : Int) : Int := max 0 (min n 1073741824)
def usedV (s t : Int) : Int := 50 + lim s + 20 * lim t
def prioV (f g : Int) : Int := if g = 0 then 0 else if mdB 1000 f g = true then mdV 1000 f g else 18446744073709551615
theorem lim_range (n : Int) : 0 ≤ lim n ∧ lim n ≤ 1073741824 := by unfold lim; omega
theorem used_range (s t : Int) : 50 ≤ usedV s t ∧ usedV s t ≤ 22548578354 := by
  have := lim_range s; have := lim_range t
  unfold usedV; omega
theorem md_comm (a b c : Int) : mdV b a c = mdV a b c ∧ mdB b a c = mdB a b c := by
  unfold mdV mdB
  rw [Int.mul_comm b a]
  exact ⟨rfl, rfl⟩
theorem md_range (a b c : Int) (ha : W64 a) (hb : W64 b) (hc : 0 < c) : W64 (mdV a b c) := by
  have h0 := Int.mul_nonneg ha.1 hb.1
  unfold mdV
  split
  · rename_i h
    refine ⟨Int.ediv_nonneg h0 (by omega), ?_⟩
    have := (Int.ediv_lt_iff_lt_mul (a := a * b) (b := 18446744073709551616) hc).2 (by rw [Int.mul_comm 18446744073709551616]; exact h)
    omega
  · exact ⟨by omega, by omega⟩
theorem prio_range (f g : Int) (hf : W64 f) (hg : W64 g) : W64 (prioV f g) := by
  unfold prioV
  have := hg.1
  split
  · exact ⟨by omega, by omega⟩
  · split
    · exact md_range _ _ _ ⟨by omega, by omega⟩ hf (by omega)
    · exact ⟨by omega, by omega⟩

theorem gas_count (n : Int) (w : World) : Calls Try.prog 16 #[.int .i64 n] w fun e w' => e = .returned (.int .u64 (lim n)) ∧ w = w' := by
  have hr := lim_range n
  have e1 : min (max n 0) 1073741824 = lim n := by unfold lim; omega
  generalize lim n = L at *
  go_enter Try.func16, Try.ntmps16
  go_upto_region 1 with fail
  apply wp_region_lit
  refine gw_val (by kernel_rfl) (some 3) rfl (.int .i64 n) rfl ?_
  simp only [pu1, pu2, pu3, pu4]
  refine gw_val (by kernel_rfl) (some 4) rfl (.int .i64 (max n 0)) (max_int rfl n 0 (by kernel_rfl) (by kernel_rfl) _) ?_
  simp only [pu1, pu2, pu3, pu4]
  refine gw_val (by kernel_rfl) (some 5) rfl (.int .i64 L) ((min_int rfl (max n 0) 1073741824 (by kernel_rfl) (by kernel_rfl) _).trans (by rw [e1])) ?_
  simp only [pu1, pu2, pu3, pu4]
  refine gw_val (by kernel_rfl) (some 6) rfl (.int .u64 L) (conv_iu rfl L (by omega) (by omega) (by kernel_rfl) _) ?_
  simp only [pu1, pu2, pu3, pu4]
  refine gw_val (by kernel_rfl) (some 2) rfl (.int .u64 L) (by kernel_rfl) ?_
  simp only [pu1, pu2, pu3, pu4]
  apply wpList_nil
  go_wp2_with fail
  go_ret
  exact ⟨rfl, rfl⟩
theorem ref_limited (n : Int) (w : World) : Calls Try.prog 17 #[.int .i64 n] w fun e w' => e = .returned (.int .u64 (lim n)) ∧ w = w' := by
  have hr := lim_range n
  have e1 : max 0 (min n 1073741824) = lim n := by unfold lim; omega
  generalize lim n = L at *
  go_enter Try.func17, Try.ntmps17
  go_upto_region 1 with fail
  apply wp_region_lit
  refine gw_val (by kernel_rfl) (some 3) rfl (.int .i64 n) rfl ?_
  simp only [pu1, pu2, pu3, pu4]
  refine gw_val (by kernel_rfl) (some 4) rfl (.int .i64 (min n 1073741824)) (min_int rfl n 1073741824 (by kernel_rfl) (by kernel_rfl) _) ?_
  simp only [pu1, pu2, pu3, pu4]
  refine gw_val (by kernel_rfl) (some 5) rfl (.int .i64 L) ((max_int rfl 0 (min n 1073741824) (by kernel_rfl) (by kernel_rfl) _).trans (by rw [e1])) ?_
  simp only [pu1, pu2, pu3, pu4]
  refine gw_val (by kernel_rfl) (some 6) rfl (.int .u64 L) (conv_iu rfl L (by omega) (by omega) (by kernel_rfl) _) ?_
  simp only [pu1, pu2, pu3, pu4]
  refine gw_val (by kernel_rfl) (some 2) rfl (.int .u64 L) (by kernel_rfl) ?_
  simp only [pu1, pu2, pu3, pu4]
  apply wpList_nil
  go_wp2_with fail
  go_ret
  exact ⟨rfl, rfl⟩
theorem gas_used (s t : Int) (w : World) : Calls Try.prog 9 #[.int .i64 s, .int .i64 t] w fun e w' => e = .returned (.int .u64 (usedV s t)) ∧ w = w' := by
  have h1 := lim_range s
  have h2 := lim_range t
  have c1 := fun w => gas_count s w
  have c2 := fun w => gas_count t w
  unfold usedV
  generalize lim s = a at *
  generalize lim t = b at *
  go_enter Try.func9, Try.ntmps9
  go_wp2_with fail
  refine (c1 _).mono ?_
  rintro e w' ⟨rfl, rfl⟩
  go_wp2_with fail
  refine (c2 _).mono ?_
  rintro e w' ⟨rfl, rfl⟩
  go_wp2
  go_ret
  exact ⟨rfl, rfl⟩
theorem ref_used (s t : Int) (w : World) : Calls Try.prog 10 #[.int .i64 s, .int .i64 t] w fun e w' => e = .returned (.int .u64 (usedV s t)) ∧ w = w' := by
  have h1 := lim_range s
  have h2 := lim_range t
  have c1 := fun w => ref_limited s w
  have c2 := fun w => ref_limited t w
  unfold usedV
  generalize lim s = a at *
  generalize lim t = b at *
  go_enter Try.func10, Try.ntmps10
  go_wp2_with fail
  refine (c1 _).mono ?_
  rintro e w' ⟨rfl, rfl⟩
  go_wp2_with fail
  refine (c2 _).mono ?_
  rintro e w' ⟨rfl, rfl⟩
  go_wp2
  go_ret
  exact ⟨rfl, rfl⟩
theorem gas_need (a b : Int) (w : World) (ha : W64 a) (hb : W64 b) :
    Calls Try.prog 12 #[.int .u64 a, .int .u64 b] w fun e w' => e = .returned (.tuple #[.int .u64 (mulV a b), .bool (mulB a b)]) ∧ w = w' := by
  have c := fun w => money_mul a b w ha hb
  generalize mulV a b = v at *
  generalize mulB a b = t at *
  go_enter Try.func12, Try.ntmps12
  go_wp2_with fail
  refine (c _).mono ?_
  rintro e w' ⟨rfl, rfl⟩
  go_wp2
  go_ret2
  exact ⟨rfl, rfl⟩
theorem ref_need (a b : Int) (w : World) (ha : W64 a) (hb : W64 b) :
    Calls Try.prog 13 #[.int .u64 a, .int .u64 b] w fun e w' => e = .returned (.tuple #[.int .u64 (mulV a b), .bool (mulB a b)]) ∧ w = w' := by
  have c := fun w => ref_mul a b w ha hb
  generalize mulV a b = v at *
  generalize mulB a b = t at *
  go_enter Try.func13, Try.ntmps13
  go_wp2_with fail
  refine (c _).mono ?_
  rintro e w' ⟨rfl, rfl⟩
  go_wp2
  go_ret2
  exact ⟨rfl, rfl⟩
theorem gas_prio (f g : Int) (w : World) (hf : W64 f) (hg : W64 g) :
    Calls Try.prog 14 #[.int .u64 f, .int .u64 g] w fun e w' => e = .returned (.int .u64 (prioV f g)) ∧ ∃ n, w' = w.drewN n := by
  by_cases h : g = 0
  · subst h
    go_enter Try.func14, Try.ntmps14
    go_wp2
    go_ret
    exact ⟨rfl, 0, rfl⟩
  · have h0 : (g == 0) = false := by simpa using h
    have c := fun w => money_muldiv 1000 f g w ⟨by omega, by omega⟩ hf hg
    have e : prioV f g = if mdB 1000 f g = true then mdV 1000 f g else 18446744073709551615 := by unfold prioV; rw [if_neg h]
    rw [e]
    clear e
    generalize mdV 1000 f g = v at *
    cases hb : mdB 1000 f g
    · rw [hb] at c
      clear hb
      go_enter Try.func14, Try.ntmps14
      go_wp2_with fail
      refine (c _).mono ?_
      rintro e w' ⟨rfl, n, rfl⟩
      go_wp2
      go_ret
      exact ⟨rfl, n, rfl⟩
    · rw [hb] at c
      clear hb
      go_enter Try.func14, Try.ntmps14
      go_wp2_with fail
      refine (c _).mono ?_
      rintro e w' ⟨rfl, n, rfl⟩
      go_wp2
      go_ret
      exact ⟨rfl, n, rfl⟩
theorem ref_prio (f g : Int) (w : World) (hf : W64 f) (hg : W64 g) :
    Calls Try.prog 15 #[.int .u64 f, .int .u64 g] w fun e w' => e = .returned (.int .u64 (prioV f g)) ∧ w = w' := by
  by_cases h : g = 0
  · subst h
    go_enter Try.func15, Try.ntmps15
    go_wp2
    go_ret
    exact ⟨rfl, rfl⟩
  · have h0 : (g == 0) = false := by simpa using h
    have c := fun w => ref_muldiv f 1000 g w hf ⟨by omega, by omega⟩ hg
    have e : prioV f g = if mdB 1000 f g = true then mdV 1000 f g else 18446744073709551615 := by unfold prioV; rw [if_neg h]
    rw [e]
    rw [(md_comm 1000 f g).1, (md_comm 1000 f g).2] at c
    clear e
    generalize mdV 1000 f g = v at *
    cases hb : mdB 1000 f g
    · rw [hb] at c
      clear hb
      go_enter Try.func15, Try.ntmps15
      go_wp2_with fail
      refine (c _).mono ?_
      rintro e w' ⟨rfl, rfl⟩
      go_wp2
      go_ret
      exact ⟨rfl, rfl⟩
    · rw [hb] at c
      clear hb
      go_enter Try.func15, Try.ntmps15
      go_wp2_with fail
      refine (c _).mono ?_
      rintro e w' ⟨rfl, rfl⟩
      go_wp2
      go_ret
      exact ⟨rfl, rfl⟩
end Go.Proofs.Ytkjlbibjdhjocaa
