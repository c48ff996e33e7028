/-
  MoneyBasics returns true for every input: Add, Sub and Mul return the exact value, or that there is none; the arguments read afterwards as before.
  Conditions: none beyond the statement's own.
-/
import Derived.Test.YtpabdkblmfeopaaRows
import Derived.WalkKit
import Derived.Test.YtpabdkblmfeopaaM3
import Derived.ProofKit
import Derived.OpenShut
import Derived.ShutString
namespace Go.Proofs.Ytpabdkblmfeopaa.moneyBasics
open Go.ChangeShapes Go.WideShapes Go.ChangeAt Go.RowKit
open Go.ChangeMaps (open_string shut_string)
set_option linter.unusedVariables false      -- a walk need not use every 'w<i>' (that an integer argument fits its kind)

theorem own : ownKnob Try.prog.godebug = none := by kernel_rfl

/-! ### STEP 1: THE WALK: the Go text returns true. 'Grown w w'': the world has at most new blocks (Derived/RowKit3.lean). Part the cases AHEAD of 'go_enter' where a test parts the walk; take each callee by a contract of your own. -/
theorem word_of_wf {x : Int} (h : (Lit.int .u64 x).wf = true) : W64 x := by
  simp [Lit.wf, IntKind.min, IntKind.max, IntKind.signed, IntKind.bits] at h
  exact ⟨by omega, by omega⟩

theorem xor_word (a b : Int) : W64 (bits BinOp.xor IntKind.u64 a b) := by
  obtain ⟨z, hz⟩ : ∃ z, bits BinOp.xor IntKind.u64 a b = IntKind.u64.wrap z := ⟨_, rfl⟩
  rw [hz, IntKind.wrap_u64]
  exact ⟨by omega, by omega⟩

theorem el0 (x y : Value) (w : World) : (Instr.index 23 (.agg #[x, y]) (.int .i64 0)).run Try.prog w = .ok x w := by kernel_rfl
theorem el1 (x y : Value) (w : World) : (Instr.index 23 (.agg #[x, y]) (.int .i64 1)).run Try.prog w = .ok y w := by kernel_rfl
theorem idx0 (a b c d e f : Int) (w : World) : (Instr.index 25 (.agg #[.int .u64 a, .int .u64 b, .int .u64 c, .int .u64 d, .int .u64 e, .int .u64 f]) (.int .i64 0)).run Try.prog w = .ok (.agg #[.int .u64 a, .int .u64 b]) w := by kernel_rfl
theorem idx1 (a b c d e f : Int) (w : World) : (Instr.index 25 (.agg #[.int .u64 a, .int .u64 b, .int .u64 c, .int .u64 d, .int .u64 e, .int .u64 f]) (.int .i64 1)).run Try.prog w = .ok (.agg #[.int .u64 c, .int .u64 d]) w := by kernel_rfl
theorem idx2 (a b c d e f : Int) (w : World) : (Instr.index 25 (.agg #[.int .u64 a, .int .u64 b, .int .u64 c, .int .u64 d, .int .u64 e, .int .u64 f]) (.int .i64 2)).run Try.prog w = .ok (.agg #[.int .u64 e, .int .u64 f]) w := by kernel_rfl

set_option maxHeartbeats 4000000 in
set_option maxRecDepth 100000 in
theorem walk (a0 : Int) (a1 : Int) (w0 : (Lit.int .u64 a0).wf = true) (w1 : (Lit.int .u64 a1).wf = true) (w : World) :
    Calls Try.prog 3 #[.int .u64 a0, .int .u64 a1] w fun e w' => e = .returned (.bool true) ∧ Grown w w' := by
  have A := word_of_wf w0
  have B := word_of_wf w1
  have cK := fun w => known w
  clear w0 w1
  obtain ⟨xa, hxa⟩ : ∃ xa, bits BinOp.xor IntKind.u64 IntKind.u64.max a0 = xa := ⟨_, rfl⟩
  obtain ⟨sa, has⟩ : ∃ s, a0 / 4294967296 = s := ⟨_, rfl⟩
  obtain ⟨bs, hbs⟩ : ∃ s, a1 / 4294967296 = s := ⟨_, rfl⟩
  have XA : W64 xa := by rw [← hxa]; exact xor_word _ _
  have AS : W64 sa := ⟨by have := A.1; omega, by have := A.2; omega⟩
  have BS : W64 bs := ⟨by have := B.1; omega, by have := B.2; omega⟩
  have i0 := fun w => idx0 a0 a1 a0 xa sa bs w
  have i1 := fun w => idx1 a0 a1 a0 xa sa bs w
  have i2 := fun w => idx2 a0 a1 a0 xa sa bs w
  have j0 := el0
  have j1 := el1
  go_enter Try.func3, Try.ntmps3
  go_wp2_with fail
  clear hxa has hbs
  go_loopg [32] 3 (fun g s32 wx => Grown w wx ∧ ∃ i : Int, 0 ≤ i ∧ i ≤ 3 ∧ s32 = .int .i64 i ∧ (3 - i).toNat = g)
  case atStart => exact ⟨Grown.refl _, 0, by omega, by omega, rfl, rfl⟩
  case round =>
    obtain ⟨hg, i, hi0, hi4, rfl, rfl⟩ := hrel
    have HG := Lib.hid hg
    clear hg
    obtain rfl | rfl | rfl | rfl : i = 0 ∨ i = 1 ∨ i = 2 ∨ i = 3 := by omega
    · have c1 := fun w => money_add a0 a1 w A B
      have c2 := fun w => ref_add a0 a1 w A B
      have c3 := fun w => money_sub a0 a1 w A B
      have c4 := fun w => ref_sub a0 a1 w A B
      have c5 := fun w => money_mul a0 a1 w A B
      have c6 := fun w => ref_mul a0 a1 w A B
      generalize addV a0 a1 = v1 at *
      generalize addB a0 a1 = b1 at *
      generalize subV a0 a1 = v2 at *
      generalize subB a0 a1 = b2 at *
      generalize mulV a0 a1 = v3 at *
      generalize mulB a0 a1 = b3 at *
      go_wp2_with fail
      refine (c1 _).mono ?_
      rintro e w' ⟨rfl, rfl⟩
      clear c1
      go_wp2_with fail
      refine (c2 _).mono ?_
      rintro e w' ⟨rfl, rfl⟩
      clear c2
      go_wp2_with fail
      refine (c3 _).mono ?_
      rintro e w' ⟨rfl, rfl⟩
      clear c3
      go_wp2_with fail
      refine (c4 _).mono ?_
      rintro e w' ⟨rfl, rfl⟩
      clear c4
      go_wp2_with fail
      refine (c5 _).mono ?_
      rintro e w' ⟨rfl, rfl⟩
      clear c5
      go_wp2_with fail
      refine (c6 _).mono ?_
      rintro e w' ⟨rfl, rfl⟩
      clear c6
      go_wp2_with fail
      go_roundg 2
      case measure => omega
      case rel => exact ⟨HG.out.alloc _ _, 1, by omega, by omega, by first | rfl | go_num, by omega⟩
    · have c1 := fun w => money_add a0 xa w A XA
      have c2 := fun w => ref_add a0 xa w A XA
      have c3 := fun w => money_sub a0 xa w A XA
      have c4 := fun w => ref_sub a0 xa w A XA
      have c5 := fun w => money_mul a0 xa w A XA
      have c6 := fun w => ref_mul a0 xa w A XA
      generalize addV a0 xa = v1 at *
      generalize addB a0 xa = b1 at *
      generalize subV a0 xa = v2 at *
      generalize subB a0 xa = b2 at *
      generalize mulV a0 xa = v3 at *
      generalize mulB a0 xa = b3 at *
      go_wp2_with fail
      refine (c1 _).mono ?_
      rintro e w' ⟨rfl, rfl⟩
      clear c1
      go_wp2_with fail
      refine (c2 _).mono ?_
      rintro e w' ⟨rfl, rfl⟩
      clear c2
      go_wp2_with fail
      refine (c3 _).mono ?_
      rintro e w' ⟨rfl, rfl⟩
      clear c3
      go_wp2_with fail
      refine (c4 _).mono ?_
      rintro e w' ⟨rfl, rfl⟩
      clear c4
      go_wp2_with fail
      refine (c5 _).mono ?_
      rintro e w' ⟨rfl, rfl⟩
      clear c5
      go_wp2_with fail
      refine (c6 _).mono ?_
      rintro e w' ⟨rfl, rfl⟩
      clear c6
      go_wp2_with fail
      go_roundg 1
      case measure => omega
      case rel => exact ⟨HG.out.alloc _ _, 2, by omega, by omega, by first | rfl | go_num, by omega⟩
    · have c1 := fun w => money_add sa bs w AS BS
      have c2 := fun w => ref_add sa bs w AS BS
      have c3 := fun w => money_sub sa bs w AS BS
      have c4 := fun w => ref_sub sa bs w AS BS
      have c5 := fun w => money_mul sa bs w AS BS
      have c6 := fun w => ref_mul sa bs w AS BS
      generalize addV sa bs = v1 at *
      generalize addB sa bs = b1 at *
      generalize subV sa bs = v2 at *
      generalize subB sa bs = b2 at *
      generalize mulV sa bs = v3 at *
      generalize mulB sa bs = b3 at *
      go_wp2_with fail
      refine (c1 _).mono ?_
      rintro e w' ⟨rfl, rfl⟩
      clear c1
      go_wp2_with fail
      refine (c2 _).mono ?_
      rintro e w' ⟨rfl, rfl⟩
      clear c2
      go_wp2_with fail
      refine (c3 _).mono ?_
      rintro e w' ⟨rfl, rfl⟩
      clear c3
      go_wp2_with fail
      refine (c4 _).mono ?_
      rintro e w' ⟨rfl, rfl⟩
      clear c4
      go_wp2_with fail
      refine (c5 _).mono ?_
      rintro e w' ⟨rfl, rfl⟩
      clear c5
      go_wp2_with fail
      refine (c6 _).mono ?_
      rintro e w' ⟨rfl, rfl⟩
      clear c6
      go_wp2_with fail
      go_roundg 0
      case measure => omega
      case rel => exact ⟨HG.out.alloc _ _, 3, by omega, by omega, by first | rfl | go_num, by omega⟩
    · clear i0 i1 i2 j0 j1
      go_wp2_with fail
      refine (cK _).mono ?_
      rintro e w' ⟨rfl, n4, rfl⟩
      go_wp2
      go_ret
      exact ⟨rfl, ((grown_drewN HG.out _).alloc _ _)⟩

/-! ### THE ROW's STEP: WRITTEN OUT: LEAVE IT -/
set_option maxRecDepth 100000 in
theorem lifted (os : Os) (started : os.Started) (H : Type) (enc : TypeId × Value → H) :
    ReturnsInHanded {} Try.checked os 3 .any (Rows.moneyBasicsSpec.pre6 enc Try.prog Try.f3 Rows.moneyBasicsRow.domain false) (Rows.moneyBasicsSpec.post enc Try.prog Try.f3 false true false false) := by
  refine returnsInHanded_of_change (C := Try.checked) own started (by kernel_rfl) Try.func3
    (ChangeSpec.witness6 (enc := enc) (C := Try.checked) false ⟨#[], #[.int .u64 0, .int .u64 0], []⟩ 8 (by kernel_rfl) (by kernel_rfl) (by kernel_rfl) (by kernel_rfl)) ?_
  intro W base args ds gs before hval0 hW hcnd _
  have hval : ∀ (j : Nat) t v, Try.f3.params[j]? = some t → args[j]? = some v → Value.okWide Try.prog W .any base t v := hval0
  have hW' := hW
  obtain ⟨p, q, hA0, hV, rfl, hfz, hnd⟩ := hW
  have hA : DataW.TrodAll enc Try.prog W 0 (fun _ => true) true Try.f3.params.toList args.toList ds p := hA0
  rw [Try.params3] at hA hval
  obtain ⟨v0, vs0, d0, ds0, p0, q0, hargs, rfl, rfl, h0, r0⟩ := trodAll_cons hA
  obtain ⟨v1, vs1, d1, ds1, p1, q1, rfl, rfl, rfl, h1, r1⟩ := trodAll_cons r0
  obtain ⟨rfl, rfl, rfl⟩ := trodAll_nil r1
  obtain rfl : args = #[v0, v1] := by cases args; simp_all
  obtain ⟨rfl, rfl⟩ := trodVars_none hV
  obtain ⟨a0, rfl, rfl, rfl, w0⟩ := open_int Try.underlying22 (hval 0 22 v0 rfl rfl) h0
  obtain ⟨a1, rfl, rfl, rfl, w1⟩ := open_int Try.underlying22 (hval 1 22 v1 rfl rfl) h1
  clear hA0 hval0
  simp only [List.append_nil] at hW'
  refine (walk a0 a1 w0 w1 W).mono fun e W' ⟨he, hg⟩ => ?_
  subst he
  exact ⟨_, rfl, post_of_same (pa := []) (pv := []) hW' (fun _ _ _ => (trodAll_cons_mk (shut_bool Try.underlying4 _) trodAll_mk0)) (fun sp _ => (trodAll_cons_mk (shut_int Try.underlying22 w0) (trodAll_cons_mk (shut_int Try.underlying22 w1) trodAll_mk0))) (fun _ _ => rfl) rfl
    (hg.frame _) hg.2.1 (ok_one (by kernel_rfl) rfl (okWide_bool_mk Try.underlying4 _))⟩

theorem over : Rows.moneyBasicsRow.holds Try.pinned (OpenSpec.ofChange Rows.moneyBasicsSpec) :=
  OpenClaim.holds_of_wide 3 Try.f3 rfl rfl rfl rfl rfl rfl rfl ⟨rfl, rfl, rfl, rfl, rfl⟩ rfl rfl rfl rfl rfl (by kernel_rfl) Try.func3 (by kernel_rfl)
    (of_decide_eq_true (by kernel_rfl)) (by unfold Func.isWrapper; first | (rw [if_pos (by decide +kernel)]; kernel_rfl) | (rw [if_neg (by decide +kernel)]; exact ⟨rfl, rfl⟩))
    (fun os started H enc _ => lifted os started H enc)

/-- THE STATEMENT -/
theorem proved : Rows.MoneyBasicsSaid :=
  over
#print axioms proved
end Go.Proofs.Ytpabdkblmfeopaa.moneyBasics
