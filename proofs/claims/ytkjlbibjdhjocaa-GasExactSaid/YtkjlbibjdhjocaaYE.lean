/-
  GasExact returns true for every input: a priority p is the greatest number with p * gas at most 1000 * fee, for fees of 32 bits and gas up to 2^32; the arguments read afterwards as before.
  Conditions: none beyond the statement's own.
-/
import Derived.Test.YtkjlbibjdhjocaaRows
import Derived.WalkKit
import Derived.Test.YtkjlbibjdhjocaaKN
import Derived.ProofKit
import Derived.OpenShut
import Derived.ShutString
namespace Go.Proofs.Ytkjlbibjdhjocaa.gasExact
open Go.ChangeShapes Go.WideShapes Go.ChangeAt Go.RowKit
open Go.ChangeMaps (open_string shut_string)
set_option linter.unusedVariables false      -- a walk need not use every 'w<i>' (that an integer argument fits its kind)

theorem own : ownKnob Try.prog.godebug = none := by kernel_rfl

/-! ### STEP 1: THE WALK: the Go text returns true. 'Grown w w'': the world has at most new blocks (Derived/RowKit3.lean). Part the cases AHEAD of 'go_enter' where a test parts the walk; take each callee by a contract of your own. -/
theorem mul_u {ρ : Operand → Value} {o : Oper} {x y : Operand} (ho : o.op = .binOp .mul 25 x y 25) (a b c : Int) (h : a * b = c) (h0 : 0 ≤ c) (h1 : c ≤ 18446744073709551615) (hx : ρ x = .int .u64 a) (hy : ρ y = .int .u64 b) (w : World) : (execOp ρ o).run Try.prog w = .ok (.value (.int .u64 c)) w := by
  have hw : IntKind.u64.wrap c = c := by rw [IntKind.wrap_u64]; omega
  unfold execOp
  simp only [ho, hx, hy]
  simp [go_sem, h, hw]
theorem add_u {ρ : Operand → Value} {o : Oper} {x y : Operand} (ho : o.op = .binOp .add 25 x y 25) (a b : Int) (h0 : 0 ≤ a + b) (h1 : a + b ≤ 18446744073709551615) (hx : ρ x = .int .u64 a) (hy : ρ y = .int .u64 b) (w : World) : (execOp ρ o).run Try.prog w = .ok (.value (.int .u64 (a + b))) w := by
  have hw : IntKind.u64.wrap (a + b) = a + b := by rw [IntKind.wrap_u64]; omega
  unfold execOp
  simp only [ho, hx, hy]
  simp [go_sem, hw]
theorem leq_u {ρ : Operand → Value} {o : Oper} {x y : Operand} (ho : o.op = .binOp .leq 25 x y 25) (a b : Int) (h : a ≤ b) (hx : ρ x = .int .u64 a) (hy : ρ y = .int .u64 b) (w : World) : (execOp ρ o).run Try.prog w = .ok (.value (.bool true)) w := by
  unfold execOp
  simp only [ho, hx, hy]
  simp [go_sem, h]
theorem gtr_u {ρ : Operand → Value} {o : Oper} {x y : Operand} (ho : o.op = .binOp .gtr 25 x y 25) (a b : Int) (h : b < a) (hx : ρ x = .int .u64 a) (hy : ρ y = .int .u64 b) (w : World) : (execOp ρ o).run Try.prog w = .ok (.value (.bool true)) w := by
  unfold execOp
  simp only [ho, hx, hy]
  simp [go_sem, h]
theorem walk (a0 : Int) (a1 : Int) (w0 : (Lit.int .u32 a0).wf = true) (w1 : (Lit.int .u32 a1).wf = true) (w : World) :
    Calls Try.prog 7 #[.int .u32 a0, .int .u32 a1] w fun e w' => e = .returned (.bool true) ∧ Grown w w' := by
  obtain ⟨f0, f1⟩ := half_of_wf w0
  obtain ⟨g0, g1⟩ := half_of_wf w1
  have cK := fun w => known w
  clear w0 w1
  have cP := fun w => gas_prio a0 (a1 + 1) w ⟨by omega, by omega⟩ ⟨by omega, by omega⟩
  obtain ⟨p, hp, p0, p1, m0, m1, m2, m3⟩ := prio_small a0 (a1 + 1) ⟨f0, f1⟩ ⟨by omega, by omega⟩
  rw [hp] at cP
  clear hp
  obtain ⟨q, hq⟩ : ∃ q, p * (a1 + 1) = q := ⟨_, rfl⟩
  obtain ⟨r, hr⟩ : ∃ r, (p + 1) * (a1 + 1) = r := ⟨_, rfl⟩
  rw [hq] at m0 m1
  rw [hr] at m2 m3
  have r0 : 0 ≤ r := by omega
  have d1 : decide (q ≤ 1000 * a0) = true := decide_eq_true m1
  have d2 : decide (1000 * a0 < r) = true := decide_eq_true m2
  go_enter Try.func7, Try.ntmps7
  go_wp2_with fail
  refine (cP _).mono ?_
  rintro e w' ⟨rfl, n1, rfl⟩
  go_upto_region 3 with fail
  apply wp_region_lit
  refine gw_val (by kernel_rfl) (some 16) rfl (.int .u64 p) (by kernel_rfl) ?_
  simp only [pu1, pu2, pu3, pu4]
  refine gw_val (by kernel_rfl) (some 17) rfl (.int .u64 (a1 + 1)) (by kernel_rfl) ?_
  simp only [pu1, pu2, pu3, pu4]
  refine gw_val (by kernel_rfl) (some 18) rfl (.int .u64 q) (mul_u rfl p (a1 + 1) q hq m0 (by omega) (by kernel_rfl) (by kernel_rfl) _) ?_
  simp only [pu1, pu2, pu3, pu4]
  refine gw_val (by kernel_rfl) (some 19) rfl (.int .u64 a0) (by kernel_rfl) ?_
  simp only [pu1, pu2, pu3, pu4]
  refine gw_val (by kernel_rfl) (some 20) rfl (.int .u64 (1000 * a0)) (mul_u rfl 1000 a0 (1000 * a0) rfl (by omega) (by omega) (by kernel_rfl) (by kernel_rfl) _) ?_
  simp only [pu1, pu2, pu3, pu4]
  refine gw_val (by kernel_rfl) (some 21) rfl (.bool true) (leq_u rfl q (1000 * a0) m1 (by kernel_rfl) (by kernel_rfl) _) ?_
  simp only [pu1, pu2, pu3, pu4]
  refine gw_val (by kernel_rfl) (some 22) rfl (.bool true) (by kernel_rfl) ?_
  simp only [pu1, pu2, pu3, pu4]
  refine gw_val (by kernel_rfl) (some 23) rfl (.int .u64 p) (by kernel_rfl) ?_
  simp only [pu1, pu2, pu3, pu4]
  refine gw_val (by kernel_rfl) (some 24) rfl (.int .u64 (p + 1)) (add_u rfl p 1 (by omega) (by omega) (by kernel_rfl) (by kernel_rfl) _) ?_
  simp only [pu1, pu2, pu3, pu4]
  refine gw_val (by kernel_rfl) (some 25) rfl (.int .u64 (a1 + 1)) (by kernel_rfl) ?_
  simp only [pu1, pu2, pu3, pu4]
  refine gw_val (by kernel_rfl) (some 26) rfl (.int .u64 r) (mul_u rfl (p + 1) (a1 + 1) r hr r0 (by omega) (by kernel_rfl) (by kernel_rfl) _) ?_
  simp only [pu1, pu2, pu3, pu4]
  refine gw_val (by kernel_rfl) (some 27) rfl (.int .u64 a0) (by kernel_rfl) ?_
  simp only [pu1, pu2, pu3, pu4]
  refine gw_val (by kernel_rfl) (some 28) rfl (.int .u64 (1000 * a0)) (mul_u rfl 1000 a0 (1000 * a0) rfl (by omega) (by omega) (by kernel_rfl) (by kernel_rfl) _) ?_
  simp only [pu1, pu2, pu3, pu4]
  refine gw_val (by kernel_rfl) (some 29) rfl (.bool true) (gtr_u rfl r (1000 * a0) m2 (by kernel_rfl) (by kernel_rfl) _) ?_
  simp only [pu1, pu2, pu3, pu4]
  refine gw_val (by kernel_rfl) (some 30) rfl (.bool true) (by kernel_rfl) ?_
  simp only [pu1, pu2, pu3, pu4]
  refine gw_val (by kernel_rfl) (some 31) rfl (.bool true) (by kernel_rfl) ?_
  simp only [pu1, pu2, pu3, pu4]
  refine gw_call (by kernel_rfl) (some 32) rfl 11 #[] (.bool true) (fun w' => ∃ n, w' = (w.drewN n1).drewN n) (by kernel_rfl) (cK _) (fun V9 hV9 => ?_)
  obtain ⟨n2, rfl⟩ := hV9
  simp only [pu1, pu2, pu3, pu4]
  refine gw_val (by kernel_rfl) (some 33) rfl (.bool true) (by kernel_rfl) ?_
  simp only [pu1, pu2, pu3, pu4]
  refine gw_val (by kernel_rfl) (some 4) rfl (.bool true) (by kernel_rfl) ?_
  simp only [pu1, pu2, pu3, pu4]
  apply wpList_nil
  go_wp2_with fail
  go_ret
  exact ⟨rfl, grown_drewN (grown_drewN (Grown.refl w) n1) n2⟩

/-! ### THE ROW's STEP: WRITTEN OUT: LEAVE IT -/
set_option maxRecDepth 100000 in
theorem lifted (os : Os) (started : os.Started) (H : Type) (enc : TypeId × Value → H) :
    ReturnsInHanded {} Try.checked os 7 .any (Rows.gasExactSpec.pre6 enc Try.prog Try.f7 Rows.gasExactRow.domain false) (Rows.gasExactSpec.post enc Try.prog Try.f7 false true false false) := by
  refine returnsInHanded_of_change (C := Try.checked) own started (by kernel_rfl) Try.func7
    (ChangeSpec.witness6 (enc := enc) (C := Try.checked) false ⟨#[], #[.int .u32 0, .int .u32 0], []⟩ 8 (by kernel_rfl) (by kernel_rfl) (by kernel_rfl) (by kernel_rfl)) ?_
  intro W base args ds gs before hval0 hW hcnd _
  have hval : ∀ (j : Nat) t v, Try.f7.params[j]? = some t → args[j]? = some v → Value.okWide Try.prog W .any base t v := hval0
  have hW' := hW
  obtain ⟨p, q, hA0, hV, rfl, hfz, hnd⟩ := hW
  have hA : DataW.TrodAll enc Try.prog W 0 (fun _ => true) true Try.f7.params.toList args.toList ds p := hA0
  rw [Try.params7] at hA hval
  obtain ⟨v0, vs0, d0, ds0, p0, q0, hargs, rfl, rfl, h0, r0⟩ := trodAll_cons hA
  obtain ⟨v1, vs1, d1, ds1, p1, q1, rfl, rfl, rfl, h1, r1⟩ := trodAll_cons r0
  obtain ⟨rfl, rfl, rfl⟩ := trodAll_nil r1
  obtain rfl : args = #[v0, v1] := by cases args; simp_all
  obtain ⟨rfl, rfl⟩ := trodVars_none hV
  obtain ⟨a0, rfl, rfl, rfl, w0⟩ := open_int Try.underlying37 (hval 0 37 v0 rfl rfl) h0
  obtain ⟨a1, rfl, rfl, rfl, w1⟩ := open_int Try.underlying37 (hval 1 37 v1 rfl rfl) h1
  clear hA0 hval0
  simp only [List.append_nil] at hW'
  refine (walk a0 a1 w0 w1 W).mono fun e W' ⟨he, hg⟩ => ?_
  subst he
  exact ⟨_, rfl, post_of_same (pa := []) (pv := []) hW' (fun _ _ _ => (trodAll_cons_mk (shut_bool Try.underlying4 _) trodAll_mk0)) (fun sp _ => (trodAll_cons_mk (shut_int Try.underlying37 w0) (trodAll_cons_mk (shut_int Try.underlying37 w1) trodAll_mk0))) (fun _ _ => rfl) rfl
    (hg.frame _) hg.2.1 (ok_one (by kernel_rfl) rfl (okWide_bool_mk Try.underlying4 _))⟩

theorem over : Rows.gasExactRow.holds Try.pinned (OpenSpec.ofChange Rows.gasExactSpec) :=
  OpenClaim.holds_of_wide 7 Try.f7 rfl rfl rfl rfl rfl rfl rfl ⟨rfl, rfl, rfl, rfl, rfl⟩ rfl rfl rfl rfl rfl (by kernel_rfl) Try.func7 (by kernel_rfl)
    (of_decide_eq_true (by kernel_rfl)) (by unfold Func.isWrapper; first | (rw [if_pos (by decide +kernel)]; kernel_rfl) | (rw [if_neg (by decide +kernel)]; exact ⟨rfl, rfl⟩))
    (fun os started H enc _ => lifted os started H enc)

/-- THE STATEMENT -/
theorem proved : Rows.GasExactSaid :=
  over
#print axioms proved
end Go.Proofs.Ytkjlbibjdhjocaa.gasExact
