/-
  MoneyDivides returns true for every input: MulDiv returns the exact quotient rounded down, or that there is none, also for products of 128 bits; the arguments read afterwards as before.
  Conditions: none beyond the statement's own.
-/
import Derived.Test.YtpabdkblmfeopaaRows
import Derived.WalkKit
import Derived.Test.YtpabdkblmfeopaaM3
import Derived.ProofKit
import Derived.OpenShut
import Derived.ShutString
namespace Go.Proofs.Ytpabdkblmfeopaa.moneyDivides
open Go.ChangeShapes Go.WideShapes Go.ChangeAt Go.RowKit
open Go.ChangeMaps (open_string shut_string)
set_option linter.unusedVariables false      -- a walk need not use every 'w<i>' (that an integer argument fits its kind)

theorem own : ownKnob Try.prog.godebug = none := by kernel_rfl

/-! ### STEP 1: THE WALK: the Go text returns true. 'Grown w w'': the world has at most new blocks (Derived/RowKit3.lean). Part the cases AHEAD of 'go_enter' where a test parts the walk; take each callee by a contract of your own. -/
theorem word_of_wf {x : Int} (h : (Lit.int .u64 x).wf = true) : W64 x := by
  simp [Lit.wf, IntKind.min, IntKind.max, IntKind.signed, IntKind.bits] at h
  exact ⟨by omega, by omega⟩

theorem byte_of_wf {x : Int} (h : (Lit.int .u8 x).wf = true) : 0 ≤ x ∧ x ≤ 255 := by
  simp [Lit.wf, IntKind.min, IntKind.max, IntKind.signed, IntKind.bits] at h
  exact ⟨by omega, by omega⟩
theorem shr_word (a : Int) (s : Nat) (h : W64 a) : W64 (a / 2 ^ s) :=
  ⟨Int.ediv_nonneg h.1 (Int.le_of_lt (Int.pow_pos (by omega))), Int.le_trans (Int.ediv_le_self _ h.1) h.2⟩

theorem el0 (x y z : Value) (w : World) : (Instr.index 30 (.agg #[x, y, z]) (.int .i64 0)).run Try.prog w = .ok x w := by kernel_rfl
theorem el1 (x y z : Value) (w : World) : (Instr.index 30 (.agg #[x, y, z]) (.int .i64 1)).run Try.prog w = .ok y w := by kernel_rfl
theorem el2 (x y z : Value) (w : World) : (Instr.index 30 (.agg #[x, y, z]) (.int .i64 2)).run Try.prog w = .ok z w := by kernel_rfl
def arr (a b c d e f g h i j k l : Int) : Value := .agg #[.int .u64 a, .int .u64 b, .int .u64 c, .int .u64 d, .int .u64 e, .int .u64 f, .int .u64 g, .int .u64 h, .int .u64 i, .int .u64 j, .int .u64 k, .int .u64 l]
theorem idx0 (a b c d e f g h i j k l : Int) (w : World) : (Instr.index 31 (.agg #[.int .u64 a, .int .u64 b, .int .u64 c, .int .u64 d, .int .u64 e, .int .u64 f, .int .u64 g, .int .u64 h, .int .u64 i, .int .u64 j, .int .u64 k, .int .u64 l]) (.int .i64 0)).run Try.prog w = .ok (.agg #[.int .u64 a, .int .u64 b, .int .u64 c]) w := by kernel_rfl
theorem idx1 (a b c d e f g h i j k l : Int) (w : World) : (Instr.index 31 (.agg #[.int .u64 a, .int .u64 b, .int .u64 c, .int .u64 d, .int .u64 e, .int .u64 f, .int .u64 g, .int .u64 h, .int .u64 i, .int .u64 j, .int .u64 k, .int .u64 l]) (.int .i64 1)).run Try.prog w = .ok (.agg #[.int .u64 d, .int .u64 e, .int .u64 f]) w := by kernel_rfl
theorem idx2 (a b c d e f g h i j k l : Int) (w : World) : (Instr.index 31 (.agg #[.int .u64 a, .int .u64 b, .int .u64 c, .int .u64 d, .int .u64 e, .int .u64 f, .int .u64 g, .int .u64 h, .int .u64 i, .int .u64 j, .int .u64 k, .int .u64 l]) (.int .i64 2)).run Try.prog w = .ok (.agg #[.int .u64 g, .int .u64 h, .int .u64 i]) w := by kernel_rfl
theorem idx3 (a b c d e f g h i j k l : Int) (w : World) : (Instr.index 31 (.agg #[.int .u64 a, .int .u64 b, .int .u64 c, .int .u64 d, .int .u64 e, .int .u64 f, .int .u64 g, .int .u64 h, .int .u64 i, .int .u64 j, .int .u64 k, .int .u64 l]) (.int .i64 3)).run Try.prog w = .ok (.agg #[.int .u64 j, .int .u64 k, .int .u64 l]) w := by kernel_rfl

set_option maxHeartbeats 2000000 in
theorem walk (a0 : Int) (a1 : Int) (a2 : Int) (a3 : Int) (w0 : (Lit.int .u64 a0).wf = true) (w1 : (Lit.int .u64 a1).wf = true) (w2 : (Lit.int .u64 a2).wf = true) (w3 : (Lit.int .u8 a3).wf = true) (w : World) :
    Calls Try.prog 4 #[.int .u64 a0, .int .u64 a1, .int .u64 a2, .int .u8 a3] w fun e w' => e = .returned (.bool true) ∧ Grown w w' := by
  have A := word_of_wf w0
  have B := word_of_wf w1
  have C := word_of_wf w2
  have k01 := byte_of_wf w3
  have cK := fun w => known w
  clear w0 w1 w2 w3
  obtain ⟨bs, hbs⟩ : ∃ bs, a1 / 2 ^ (a3 % 64).toNat = bs := ⟨_, rfl⟩
  obtain ⟨cs, hcs⟩ : ∃ cs, a2 / 2 ^ (a3 % 64).toNat = cs := ⟨_, rfl⟩
  have BS : W64 bs := by rw [← hbs]; exact shr_word a1 _ B
  have CS : W64 cs := by rw [← hcs]; exact shr_word a2 _ C
  have i0 := fun w => idx0 a0 a1 a2 a0 a1 cs a0 bs a2 a0 a2 a2 w
  have i1 := fun w => idx1 a0 a1 a2 a0 a1 cs a0 bs a2 a0 a2 a2 w
  have i2 := fun w => idx2 a0 a1 a2 a0 a1 cs a0 bs a2 a0 a2 a2 w
  have i3 := fun w => idx3 a0 a1 a2 a0 a1 cs a0 bs a2 a0 a2 a2 w
  have j0 := el0
  have j1 := el1
  have j2 := el2
  go_enter Try.func4, Try.ntmps4
  go_wp2_with fail
  clear hbs hcs k01
  go_loopg [39] 4 (fun g s39 wx => Grown w wx ∧ ∃ i : Int, 0 ≤ i ∧ i ≤ 4 ∧ s39 = .int .i64 i ∧ (4 - i).toNat = g)
  case atStart => exact ⟨Grown.refl _, 0, by omega, by omega, rfl, rfl⟩
  case round =>
    obtain ⟨hg, i, hi0, hi4, rfl, rfl⟩ := hrel
    have HG := Lib.hid hg
    clear hg
    obtain rfl | rfl | rfl | rfl | rfl : i = 0 ∨ i = 1 ∨ i = 2 ∨ i = 3 ∨ i = 4 := by omega
    · have c1 := fun w => money_muldiv a0 a1 a2 w A B C
      have c2 := fun w => ref_muldiv a0 a1 a2 w A B C
      generalize mdV a0 a1 a2 = v at *
      generalize mdB a0 a1 a2 = bb at *
      go_wp2_with fail
      refine (c1 _).mono ?_
      rintro e w' ⟨rfl, n1, rfl⟩
      go_wp2_with fail
      refine (c2 _).mono ?_
      rintro e w' ⟨rfl, rfl⟩
      clear c1 c2
      go_wp2_with fail
      go_roundg 3
      case measure => omega
      case rel => exact ⟨grown_drewN (HG.out.alloc _ _) _, 1, by omega, by omega, by first | rfl | go_num, by omega⟩
    · have c1 := fun w => money_muldiv a0 a1 cs w A B CS
      have c2 := fun w => ref_muldiv a0 a1 cs w A B CS
      generalize mdV a0 a1 cs = v at *
      generalize mdB a0 a1 cs = bb at *
      go_wp2_with fail
      refine (c1 _).mono ?_
      rintro e w' ⟨rfl, n1, rfl⟩
      go_wp2_with fail
      refine (c2 _).mono ?_
      rintro e w' ⟨rfl, rfl⟩
      clear c1 c2
      go_wp2_with fail
      go_roundg 2
      case measure => omega
      case rel => exact ⟨grown_drewN (HG.out.alloc _ _) _, 2, by omega, by omega, by first | rfl | go_num, by omega⟩
    · have c1 := fun w => money_muldiv a0 bs a2 w A BS C
      have c2 := fun w => ref_muldiv a0 bs a2 w A BS C
      generalize mdV a0 bs a2 = v at *
      generalize mdB a0 bs a2 = bb at *
      go_wp2_with fail
      refine (c1 _).mono ?_
      rintro e w' ⟨rfl, n1, rfl⟩
      go_wp2_with fail
      refine (c2 _).mono ?_
      rintro e w' ⟨rfl, rfl⟩
      clear c1 c2
      go_wp2_with fail
      go_roundg 1
      case measure => omega
      case rel => exact ⟨grown_drewN (HG.out.alloc _ _) _, 3, by omega, by omega, by first | rfl | go_num, by omega⟩
    · have c1 := fun w => money_muldiv a0 a2 a2 w A C C
      have c2 := fun w => ref_muldiv a0 a2 a2 w A C C
      generalize mdV a0 a2 a2 = v at *
      generalize mdB a0 a2 a2 = bb at *
      go_wp2_with fail
      refine (c1 _).mono ?_
      rintro e w' ⟨rfl, n1, rfl⟩
      go_wp2_with fail
      refine (c2 _).mono ?_
      rintro e w' ⟨rfl, rfl⟩
      clear c1 c2
      go_wp2_with fail
      go_roundg 0
      case measure => omega
      case rel => exact ⟨grown_drewN (HG.out.alloc _ _) _, 4, by omega, by omega, by first | rfl | go_num, by omega⟩
    · clear i0 i1 i2 i3 j0 j1 j2
      go_wp2_with fail
      refine (cK _).mono ?_
      rintro e w' ⟨rfl, n4, rfl⟩
      go_wp2
      go_ret
      exact ⟨rfl, ((grown_drewN HG.out _).alloc _ _)⟩

/-! ### THE ROW's STEP: WRITTEN OUT: LEAVE IT -/
set_option maxRecDepth 100000 in
theorem lifted (os : Os) (started : os.Started) (H : Type) (enc : TypeId × Value → H) :
    ReturnsInHanded {} Try.checked os 4 .any (Rows.moneyDividesSpec.pre6 enc Try.prog Try.f4 Rows.moneyDividesRow.domain false) (Rows.moneyDividesSpec.post enc Try.prog Try.f4 false true false false) := by
  refine returnsInHanded_of_change (C := Try.checked) own started (by kernel_rfl) Try.func4
    (ChangeSpec.witness6 (enc := enc) (C := Try.checked) false ⟨#[], #[.int .u64 0, .int .u64 0, .int .u64 0, .int .u8 0], []⟩ 8 (by kernel_rfl) (by kernel_rfl) (by kernel_rfl) (by kernel_rfl)) ?_
  intro W base args ds gs before hval0 hW hcnd _
  have hval : ∀ (j : Nat) t v, Try.f4.params[j]? = some t → args[j]? = some v → Value.okWide Try.prog W .any base t v := hval0
  have hW' := hW
  obtain ⟨p, q, hA0, hV, rfl, hfz, hnd⟩ := hW
  have hA : DataW.TrodAll enc Try.prog W 0 (fun _ => true) true Try.f4.params.toList args.toList ds p := hA0
  rw [Try.params4] at hA hval
  obtain ⟨v0, vs0, d0, ds0, p0, q0, hargs, rfl, rfl, h0, r0⟩ := trodAll_cons hA
  obtain ⟨v1, vs1, d1, ds1, p1, q1, rfl, rfl, rfl, h1, r1⟩ := trodAll_cons r0
  obtain ⟨v2, vs2, d2, ds2, p2, q2, rfl, rfl, rfl, h2, r2⟩ := trodAll_cons r1
  obtain ⟨v3, vs3, d3, ds3, p3, q3, rfl, rfl, rfl, h3, r3⟩ := trodAll_cons r2
  obtain ⟨rfl, rfl, rfl⟩ := trodAll_nil r3
  obtain rfl : args = #[v0, v1, v2, v3] := by cases args; simp_all
  obtain ⟨rfl, rfl⟩ := trodVars_none hV
  obtain ⟨a0, rfl, rfl, rfl, w0⟩ := open_int Try.underlying22 (hval 0 22 v0 rfl rfl) h0
  obtain ⟨a1, rfl, rfl, rfl, w1⟩ := open_int Try.underlying22 (hval 1 22 v1 rfl rfl) h1
  obtain ⟨a2, rfl, rfl, rfl, w2⟩ := open_int Try.underlying22 (hval 2 22 v2 rfl rfl) h2
  obtain ⟨a3, rfl, rfl, rfl, w3⟩ := open_int Try.underlying5 (hval 3 5 v3 rfl rfl) h3
  clear hA0 hval0
  simp only [List.append_nil] at hW'
  refine (walk a0 a1 a2 a3 w0 w1 w2 w3 W).mono fun e W' ⟨he, hg⟩ => ?_
  subst he
  exact ⟨_, rfl, post_of_same (pa := []) (pv := []) hW' (fun _ _ _ => (trodAll_cons_mk (shut_bool Try.underlying4 _) trodAll_mk0)) (fun sp _ => (trodAll_cons_mk (shut_int Try.underlying22 w0) (trodAll_cons_mk (shut_int Try.underlying22 w1) (trodAll_cons_mk (shut_int Try.underlying22 w2) (trodAll_cons_mk (shut_int Try.underlying5 w3) trodAll_mk0))))) (fun _ _ => rfl) rfl
    (hg.frame _) hg.2.1 (ok_one (by kernel_rfl) rfl (okWide_bool_mk Try.underlying4 _))⟩

theorem over : Rows.moneyDividesRow.holds Try.pinned (OpenSpec.ofChange Rows.moneyDividesSpec) :=
  OpenClaim.holds_of_wide 4 Try.f4 rfl rfl rfl rfl rfl rfl rfl ⟨rfl, rfl, rfl, rfl, rfl⟩ rfl rfl rfl rfl rfl (by kernel_rfl) Try.func4 (by kernel_rfl)
    (of_decide_eq_true (by kernel_rfl)) (by unfold Func.isWrapper; first | (rw [if_pos (by decide +kernel)]; kernel_rfl) | (rw [if_neg (by decide +kernel)]; exact ⟨rfl, rfl⟩))
    (fun os started H enc _ => lifted os started H enc)

/-- THE STATEMENT -/
theorem proved : Rows.MoneyDividesSaid :=
  over
#print axioms proved
end Go.Proofs.Ytpabdkblmfeopaa.moneyDivides
