/-
  MoneyQuotients returns true for every input: the quotient of MulDiv is the greatest number q with q * c at most a * b, for numbers of 32 bits; the arguments read afterwards as before.
  Conditions: none beyond the statement's own.
-/
import Derived.Test.YtpabdkblmfeopaaRows
import Derived.WalkKit
import Derived.Test.YtpabdkblmfeopaaM3
import Derived.ProofKit
import Derived.OpenShut
import Derived.ShutString
namespace Go.Proofs.Ytpabdkblmfeopaa.moneyQuotients
open Go.ChangeShapes Go.WideShapes Go.ChangeAt Go.RowKit
open Go.ChangeMaps (open_string shut_string)
set_option linter.unusedVariables false      -- a walk need not use every 'w<i>' (that an integer argument fits its kind)

theorem own : ownKnob Try.prog.godebug = none := by kernel_rfl

/-! ### STEP 1: THE WALK: the Go text returns true. 'Grown w w'': the world has at most new blocks (Derived/RowKit3.lean). Part the cases AHEAD of 'go_enter' where a test parts the walk; take each callee by a contract of your own. -/
theorem half_of_wf {x : Int} (h : (Lit.int .u32 x).wf = true) : 0 ≤ x ∧ x ≤ 4294967295 := by
  simp [Lit.wf, IntKind.min, IntKind.max, IntKind.signed, IntKind.bits] at h
  exact ⟨by omega, by omega⟩

theorem md_zero' (a b : Int) (ha : 0 ≤ a) (hb : 0 ≤ b) : mdB a b 0 = false := by
  unfold mdB
  have := Int.mul_nonneg ha hb
  simp
  omega
theorem md_half (a b c : Int) (ha : 0 ≤ a ∧ a ≤ 4294967295) (hb : 0 ≤ b ∧ b ≤ 4294967295) (hc : 0 < c) : (0 ≤ a * b ∧ a * b ≤ 18446744065119617025) ∧ mdV a b c = a * b / c ∧ mdB a b c = true := by
  have h1 : 0 ≤ a * b := Int.mul_nonneg ha.1 hb.1
  have h2 : a * b ≤ 4294967295 * 4294967295 := Int.mul_le_mul ha.2 hb.2 hb.1 (by omega)
  have h : a * b < c * 18446744073709551616 := by omega
  exact ⟨⟨h1, by omega⟩, if_pos h, decide_eq_true h⟩

theorem walk (a0 : Int) (a1 : Int) (a2 : Int) (w0 : (Lit.int .u32 a0).wf = true) (w1 : (Lit.int .u32 a1).wf = true) (w2 : (Lit.int .u32 a2).wf = true) (w : World) :
    Calls Try.prog 5 #[.int .u32 a0, .int .u32 a1, .int .u32 a2] w fun e w' => e = .returned (.bool true) ∧ Grown w w' := by
  have A := half_of_wf w0
  have B := half_of_wf w1
  have C := half_of_wf w2
  have cK := fun w => known w
  clear w0 w1 w2
  by_cases h : a2 = 0
  · subst h
    have c1 := fun w => money_muldiv a0 a1 0 w ⟨A.1, by omega⟩ ⟨B.1, by omega⟩ ⟨by omega, by omega⟩
    rw [md_zero' a0 a1 A.1 B.1] at c1
    generalize mdV a0 a1 0 = v at *
    go_enter Try.func5, Try.ntmps5
    go_wp2_with fail
    refine (c1 _).mono ?_
    rintro e w' ⟨rfl, n1, rfl⟩
    go_wp2_with fail
    refine (cK _).mono ?_
    rintro e w' ⟨rfl, n4, rfl⟩
    go_wp2
    go_ret
    exact ⟨rfl, ((grown_drewN (Grown.refl _) _).alloc _ _)⟩
  · have hp : 0 < a2 := by omega
    have c1 := fun w => money_muldiv a0 a1 a2 w ⟨A.1, by omega⟩ ⟨B.1, by omega⟩ ⟨C.1, by omega⟩
    obtain ⟨⟨p0, p1⟩, e1, e2⟩ := md_half a0 a1 a2 A B hp
    rw [e1, e2] at c1
    have h0 : (a2 == 0) = false := by simpa using h
    have q0 : 0 ≤ a0 * a1 / a2 := Int.ediv_nonneg p0 C.1
    have q1 : a0 * a1 / a2 ≤ 18446744065119617025 := Int.le_trans (Int.ediv_le_self _ p0) p1
    clear e1 e2 h
    go_enter Try.func5, Try.ntmps5
    go_wp2_with fail
    refine (c1 _).mono ?_
    rintro e w' ⟨rfl, n1, rfl⟩
    clear c1
    go_wp2_with fail
    refine (cK _).mono ?_
    rintro e w' ⟨rfl, n4, rfl⟩
    go_wp2
    go_ret
    exact ⟨rfl, ((grown_drewN (Grown.refl _) _).alloc _ _)⟩

/-! ### THE ROW's STEP: WRITTEN OUT: LEAVE IT -/
set_option maxRecDepth 100000 in
theorem lifted (os : Os) (started : os.Started) (H : Type) (enc : TypeId × Value → H) :
    ReturnsInHanded {} Try.checked os 5 .any (Rows.moneyQuotientsSpec.pre6 enc Try.prog Try.f5 Rows.moneyQuotientsRow.domain false) (Rows.moneyQuotientsSpec.post enc Try.prog Try.f5 false true false false) := by
  refine returnsInHanded_of_change (C := Try.checked) own started (by kernel_rfl) Try.func5
    (ChangeSpec.witness6 (enc := enc) (C := Try.checked) false ⟨#[], #[.int .u32 0, .int .u32 0, .int .u32 0], []⟩ 8 (by kernel_rfl) (by kernel_rfl) (by kernel_rfl) (by kernel_rfl)) ?_
  intro W base args ds gs before hval0 hW hcnd _
  have hval : ∀ (j : Nat) t v, Try.f5.params[j]? = some t → args[j]? = some v → Value.okWide Try.prog W .any base t v := hval0
  have hW' := hW
  obtain ⟨p, q, hA0, hV, rfl, hfz, hnd⟩ := hW
  have hA : DataW.TrodAll enc Try.prog W 0 (fun _ => true) true Try.f5.params.toList args.toList ds p := hA0
  rw [Try.params5] at hA hval
  obtain ⟨v0, vs0, d0, ds0, p0, q0, hargs, rfl, rfl, h0, r0⟩ := trodAll_cons hA
  obtain ⟨v1, vs1, d1, ds1, p1, q1, rfl, rfl, rfl, h1, r1⟩ := trodAll_cons r0
  obtain ⟨v2, vs2, d2, ds2, p2, q2, rfl, rfl, rfl, h2, r2⟩ := trodAll_cons r1
  obtain ⟨rfl, rfl, rfl⟩ := trodAll_nil r2
  obtain rfl : args = #[v0, v1, v2] := by cases args; simp_all
  obtain ⟨rfl, rfl⟩ := trodVars_none hV
  obtain ⟨a0, rfl, rfl, rfl, w0⟩ := open_int Try.underlying34 (hval 0 34 v0 rfl rfl) h0
  obtain ⟨a1, rfl, rfl, rfl, w1⟩ := open_int Try.underlying34 (hval 1 34 v1 rfl rfl) h1
  obtain ⟨a2, rfl, rfl, rfl, w2⟩ := open_int Try.underlying34 (hval 2 34 v2 rfl rfl) h2
  clear hA0 hval0
  simp only [List.append_nil] at hW'
  refine (walk a0 a1 a2 w0 w1 w2 W).mono fun e W' ⟨he, hg⟩ => ?_
  subst he
  exact ⟨_, rfl, post_of_same (pa := []) (pv := []) hW' (fun _ _ _ => (trodAll_cons_mk (shut_bool Try.underlying4 _) trodAll_mk0)) (fun sp _ => (trodAll_cons_mk (shut_int Try.underlying34 w0) (trodAll_cons_mk (shut_int Try.underlying34 w1) (trodAll_cons_mk (shut_int Try.underlying34 w2) trodAll_mk0)))) (fun _ _ => rfl) rfl
    (hg.frame _) hg.2.1 (ok_one (by kernel_rfl) rfl (okWide_bool_mk Try.underlying4 _))⟩

theorem over : Rows.moneyQuotientsRow.holds Try.pinned (OpenSpec.ofChange Rows.moneyQuotientsSpec) :=
  OpenClaim.holds_of_wide 5 Try.f5 rfl rfl rfl rfl rfl rfl rfl ⟨rfl, rfl, rfl, rfl, rfl⟩ rfl rfl rfl rfl rfl (by kernel_rfl) Try.func5 (by kernel_rfl)
    (of_decide_eq_true (by kernel_rfl)) (by unfold Func.isWrapper; first | (rw [if_pos (by decide +kernel)]; kernel_rfl) | (rw [if_neg (by decide +kernel)]; exact ⟨rfl, rfl⟩))
    (fun os started H enc _ => lifted os started H enc)

/-- THE STATEMENT -/
theorem proved : Rows.MoneyQuotientsSaid :=
  over
#print axioms proved
end Go.Proofs.Ytpabdkblmfeopaa.moneyQuotients
