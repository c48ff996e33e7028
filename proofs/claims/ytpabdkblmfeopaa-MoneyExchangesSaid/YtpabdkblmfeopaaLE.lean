/-
  MoneyExchanges returns true for every input: the factors of MulDiv can be exchanged, and dividing by a factor gives the other one; the arguments read afterwards as before.
  Conditions: none beyond the statement's own.
-/
import Derived.Test.YtpabdkblmfeopaaRows
import Derived.WalkKit
import Derived.Test.YtpabdkblmfeopaaM3
import Derived.ProofKit
import Derived.OpenShut
import Derived.ShutString
namespace Go.Proofs.Ytpabdkblmfeopaa.moneyExchanges
open Go.ChangeShapes Go.WideShapes Go.ChangeAt Go.RowKit
open Go.ChangeMaps (open_string shut_string)
set_option linter.unusedVariables false      -- a walk need not use every 'w<i>' (that an integer argument fits its kind)

theorem own : ownKnob Try.prog.godebug = none := by kernel_rfl

/-! ### STEP 1: THE WALK: the Go text returns true. 'Grown w w'': the world has at most new blocks (Derived/RowKit3.lean). Part the cases AHEAD of 'go_enter' where a test parts the walk; take each callee by a contract of your own. -/
theorem word_of_wf {x : Int} (h : (Lit.int .u64 x).wf = true) : W64 x := by
  simp [Lit.wf, IntKind.min, IntKind.max, IntKind.signed, IntKind.bits] at h
  exact ⟨by omega, by omega⟩

theorem md_comm (a b c : Int) : mdV b a c = mdV a b c ∧ mdB b a c = mdB a b c := by
  unfold mdV mdB
  rw [Int.mul_comm b a]
  exact ⟨rfl, rfl⟩
theorem md_self (a b : Int) (ha : W64 a) (hb : 0 < b) : mdV a b b = a ∧ mdB a b b = true := by
  have h : a * b < b * 18446744073709551616 := by
    rw [Int.mul_comm b]
    exact Int.mul_lt_mul_of_pos_right (by have := ha.2; omega) hb
  exact ⟨(if_pos h).trans (Int.mul_ediv_cancel a (by omega)), decide_eq_true h⟩
theorem md_zero (a : Int) : mdV a 0 0 = 0 ∧ mdB a 0 0 = false := by
  unfold mdV mdB
  simp

theorem walk (a0 : Int) (a1 : Int) (a2 : Int) (w0 : (Lit.int .u64 a0).wf = true) (w1 : (Lit.int .u64 a1).wf = true) (w2 : (Lit.int .u64 a2).wf = true) (w : World) :
    Calls Try.prog 6 #[.int .u64 a0, .int .u64 a1, .int .u64 a2] w fun e w' => e = .returned (.bool true) ∧ Grown w w' := by
  have A := word_of_wf w0
  have B := word_of_wf w1
  have C := word_of_wf w2
  have c1 := fun w => money_muldiv a0 a1 a2 w A B C
  have c2 := fun w => money_muldiv a1 a0 a2 w B A C
  have c3 := fun w => money_muldiv a0 a1 a1 w A B B
  have cK := fun w => known w
  rw [(md_comm a0 a1 a2).1, (md_comm a0 a1 a2).2] at c2
  generalize mdV a0 a1 a2 = v at *
  generalize mdB a0 a1 a2 = bb at *
  by_cases h : a1 = 0
  · subst h
    rw [(md_zero a0).1, (md_zero a0).2] at c3
    clear w0 w1 w2 A B C
    go_enter Try.func6, Try.ntmps6
    go_wp2_with fail
    refine (c1 _).mono ?_
    rintro e w' ⟨rfl, n1, rfl⟩
    go_wp2_with fail
    refine (c2 _).mono ?_
    rintro e w' ⟨rfl, n2, rfl⟩
    go_wp2_with fail
    refine (c3 _).mono ?_
    rintro e w' ⟨rfl, n3, rfl⟩
    go_wp2_with fail
    refine (cK _).mono ?_
    rintro e w' ⟨rfl, n4, rfl⟩
    go_wp2
    go_ret
    exact ⟨rfl, ((grown_drewN (Grown.refl _) _).alloc _ _)⟩
  · have hp : 0 < a1 := by have := B.1; omega
    rw [(md_self a0 a1 A hp).1, (md_self a0 a1 A hp).2] at c3
    have h0 : (a1 == 0) = false := by simpa using h
    clear w0 w1 w2 A B C
    go_enter Try.func6, Try.ntmps6
    go_wp2_with fail
    refine (c1 _).mono ?_
    rintro e w' ⟨rfl, n1, rfl⟩
    go_wp2_with fail
    refine (c2 _).mono ?_
    rintro e w' ⟨rfl, n2, rfl⟩
    go_wp2_with fail
    refine (c3 _).mono ?_
    rintro e w' ⟨rfl, n3, rfl⟩
    go_wp2_with fail
    refine (cK _).mono ?_
    rintro e w' ⟨rfl, n4, rfl⟩
    go_wp2
    go_ret
    exact ⟨rfl, ((grown_drewN (Grown.refl _) _).alloc _ _)⟩

/-! ### THE ROW's STEP: WRITTEN OUT: LEAVE IT -/
set_option maxRecDepth 100000 in
theorem lifted (os : Os) (started : os.Started) (H : Type) (enc : TypeId × Value → H) :
    ReturnsInHanded {} Try.checked os 6 .any (Rows.moneyExchangesSpec.pre6 enc Try.prog Try.f6 Rows.moneyExchangesRow.domain false) (Rows.moneyExchangesSpec.post enc Try.prog Try.f6 false true false false) := by
  refine returnsInHanded_of_change (C := Try.checked) own started (by kernel_rfl) Try.func6
    (ChangeSpec.witness6 (enc := enc) (C := Try.checked) false ⟨#[], #[.int .u64 0, .int .u64 0, .int .u64 0], []⟩ 8 (by kernel_rfl) (by kernel_rfl) (by kernel_rfl) (by kernel_rfl)) ?_
  intro W base args ds gs before hval0 hW hcnd _
  have hval : ∀ (j : Nat) t v, Try.f6.params[j]? = some t → args[j]? = some v → Value.okWide Try.prog W .any base t v := hval0
  have hW' := hW
  obtain ⟨p, q, hA0, hV, rfl, hfz, hnd⟩ := hW
  have hA : DataW.TrodAll enc Try.prog W 0 (fun _ => true) true Try.f6.params.toList args.toList ds p := hA0
  rw [Try.params6] at hA hval
  obtain ⟨v0, vs0, d0, ds0, p0, q0, hargs, rfl, rfl, h0, r0⟩ := trodAll_cons hA
  obtain ⟨v1, vs1, d1, ds1, p1, q1, rfl, rfl, rfl, h1, r1⟩ := trodAll_cons r0
  obtain ⟨v2, vs2, d2, ds2, p2, q2, rfl, rfl, rfl, h2, r2⟩ := trodAll_cons r1
  obtain ⟨rfl, rfl, rfl⟩ := trodAll_nil r2
  obtain rfl : args = #[v0, v1, v2] := by cases args; simp_all
  obtain ⟨rfl, rfl⟩ := trodVars_none hV
  obtain ⟨a0, rfl, rfl, rfl, w0⟩ := open_int Try.underlying22 (hval 0 22 v0 rfl rfl) h0
  obtain ⟨a1, rfl, rfl, rfl, w1⟩ := open_int Try.underlying22 (hval 1 22 v1 rfl rfl) h1
  obtain ⟨a2, rfl, rfl, rfl, w2⟩ := open_int Try.underlying22 (hval 2 22 v2 rfl rfl) h2
  clear hA0 hval0
  simp only [List.append_nil] at hW'
  refine (walk a0 a1 a2 w0 w1 w2 W).mono fun e W' ⟨he, hg⟩ => ?_
  subst he
  exact ⟨_, rfl, post_of_same (pa := []) (pv := []) hW' (fun _ _ _ => (trodAll_cons_mk (shut_bool Try.underlying4 _) trodAll_mk0)) (fun sp _ => (trodAll_cons_mk (shut_int Try.underlying22 w0) (trodAll_cons_mk (shut_int Try.underlying22 w1) (trodAll_cons_mk (shut_int Try.underlying22 w2) trodAll_mk0)))) (fun _ _ => rfl) rfl
    (hg.frame _) hg.2.1 (ok_one (by kernel_rfl) rfl (okWide_bool_mk Try.underlying4 _))⟩

theorem over : Rows.moneyExchangesRow.holds Try.pinned (OpenSpec.ofChange Rows.moneyExchangesSpec) :=
  OpenClaim.holds_of_wide 6 Try.f6 rfl rfl rfl rfl rfl rfl rfl ⟨rfl, rfl, rfl, rfl, rfl⟩ rfl rfl rfl rfl rfl (by kernel_rfl) Try.func6 (by kernel_rfl)
    (of_decide_eq_true (by kernel_rfl)) (by unfold Func.isWrapper; first | (rw [if_pos (by decide +kernel)]; kernel_rfl) | (rw [if_neg (by decide +kernel)]; exact ⟨rfl, rfl⟩))
    (fun os started H enc _ => lifted os started H enc)

/-- THE STATEMENT -/
theorem proved : Rows.MoneyExchangesSaid :=
  over
#print axioms proved
end Go.Proofs.Ytpabdkblmfeopaa.moneyExchanges
