/-
  GasNeeds returns true for every input: Need returns the least fee for any gas and price, or that it is too large; the arguments read afterwards as before.
  Conditions: none beyond the statement's own.
-/
import Derived.Test.YtkjlbibjdhjocaaRows
import Derived.WalkKit
import Derived.Test.YtkjlbibjdhjocaaKN
import Derived.ProofKit
import Derived.OpenShut
import Derived.ShutString
namespace Go.Proofs.Ytkjlbibjdhjocaa.gasNeeds
open Go.ChangeShapes Go.WideShapes Go.ChangeAt Go.RowKit
open Go.ChangeMaps (open_string shut_string)
set_option linter.unusedVariables false      -- a walk need not use every 'w<i>' (that an integer argument fits its kind)

theorem own : ownKnob Try.prog.godebug = none := by kernel_rfl

/-! ### STEP 1: THE WALK: the Go text returns true. 'Grown w w'': the world has at most new blocks (Derived/RowKit3.lean). Part the cases AHEAD of 'go_enter' where a test parts the walk; take each callee by a contract of your own. -/
theorem walk (a0 : Int) (a1 : Int) (a2 : Int) (w0 : (Lit.int .u64 a0).wf = true) (w1 : (Lit.int .u64 a1).wf = true) (w2 : (Lit.int .u8 a2).wf = true) (w : World) :
    Calls Try.prog 4 #[.int .u64 a0, .int .u64 a1, .int .u8 a2] w fun e w' => e = .returned (.bool true) ∧ Grown w w' := by
  have A := word_of_wf w0
  have B' := word_of_wf w1
  have k01 := byte_of_wf w2
  have cK := fun w => known w
  clear w0 w1 w2
  have A5 : W64 (a0 / 4294967296) := by obtain ⟨h0, h1⟩ := A; exact ⟨by omega, by omega⟩
  have B5 : W64 (a1 / 4294967296) := by obtain ⟨h0, h1⟩ := B'; exact ⟨by omega, by omega⟩
  obtain ⟨s, hs⟩ : ∃ s, a0 / 2 ^ (a2 % 64).toNat = s := ⟨_, rfl⟩
  have S : W64 s := by rw [← hs]; exact shr_word a0 _ A
  go_enter Try.func4, Try.ntmps4
  go_wp2_with fail
  have r0 : Bx (w.alloc (Obj.cells #[.int .u64 a0, .int .u64 a1, .int .u64 s, .int .u64 a1, .int .u64 (a0 / 4294967296), .int .u64 (a1 / 4294967296)] 29)) w.heap.size #[.int .u64 a0, .int .u64 a1, .int .u64 s, .int .u64 a1, .int .u64 (a0 / 4294967296), .int .u64 (a1 / 4294967296)] 29 := heap_alloc_last w _
  have g0 : Grown w (w.alloc (Obj.cells #[.int .u64 a0, .int .u64 a1, .int .u64 s, .int .u64 a1, .int .u64 (a0 / 4294967296), .int .u64 (a1 / 4294967296)] 29)) := (Grown.refl w).alloc _ _
  generalize w.alloc (Obj.cells #[.int .u64 a0, .int .u64 a1, .int .u64 s, .int .u64 a1, .int .u64 (a0 / 4294967296), .int .u64 (a1 / 4294967296)] 29) = W1 at *
  generalize w.heap.size = B at *
  have R0 := Lib.hid r0
  have G0 := Lib.hid g0
  clear r0 g0 hs k01
  go_loopg [29] 3 (fun g sx wx => Bx wx B #[.int .u64 a0, .int .u64 a1, .int .u64 s, .int .u64 a1, .int .u64 (a0 / 4294967296), .int .u64 (a1 / 4294967296)] 29 ∧ Grown w wx ∧ ∃ i : Int, 0 ≤ i ∧ i ≤ 3 ∧ sx = .int .i64 i ∧ (3 - i).toNat = g)
  case atStart => exact ⟨R0.out, G0.out, 0, by omega, by omega, rfl, rfl⟩
  case round =>
    obtain ⟨hr, hgr, i, hi0, hi3, rfl, hg⟩ := hrel
    have HG := Lib.hid hg
    have HR := Lib.hid hr
    have HGR := Lib.hid hgr
    clear hg R0 G0 hr hgr
    obtain rfl | rfl | rfl | rfl : i = 0 ∨ i = 1 ∨ i = 2 ∨ i = 3 := by omega
    · have c1 := fun w => gas_need a0 a1 w A B'
      have c2 := fun w => ref_need a0 a1 w A B'
      have h0 := (cell_of_row _ _ 0 _ _ _ HR.out).trans (rfl : _ = some (Value.int .u64 a0))
      have h1 := (cell_of_row _ _ 1 _ _ _ HR.out).trans (rfl : _ = some (Value.int .u64 a1))
      generalize mulV a0 a1 = v at *
      generalize mulB a0 a1 = bb at *
      go_wp2_with fail
      refine (c1 _).mono ?_
      rintro e w' ⟨rfl, rfl⟩
      go_wp2_with fail
      refine (c2 _).mono ?_
      rintro e w' ⟨rfl, rfl⟩
      clear c1 c2
      go_wp2_with fail
      go_roundg 2
      case measure => have := HG.out; omega
      case rel => exact ⟨HR.out.below HR.out.lt ((Below.refl _ _).alloc (Nat.le_refl _) _), HGR.out.alloc _ _, 1, by omega, by omega, by first | rfl | go_num, by omega⟩
    · have c1 := fun w => gas_need s a1 w S B'
      have c2 := fun w => ref_need s a1 w S B'
      have h0 := (cell_of_row _ _ 2 _ _ _ HR.out).trans (rfl : _ = some (Value.int .u64 s))
      have h1 := (cell_of_row _ _ 3 _ _ _ HR.out).trans (rfl : _ = some (Value.int .u64 a1))
      generalize mulV s a1 = v at *
      generalize mulB s a1 = bb at *
      go_wp2_with fail
      refine (c1 _).mono ?_
      rintro e w' ⟨rfl, rfl⟩
      go_wp2_with fail
      refine (c2 _).mono ?_
      rintro e w' ⟨rfl, rfl⟩
      clear c1 c2
      go_wp2_with fail
      go_roundg 1
      case measure => have := HG.out; omega
      case rel => exact ⟨HR.out.below HR.out.lt ((Below.refl _ _).alloc (Nat.le_refl _) _), HGR.out.alloc _ _, 2, by omega, by omega, by first | rfl | go_num, by omega⟩
    · have c1 := fun w => gas_need (a0 / 4294967296) (a1 / 4294967296) w A5 B5
      have c2 := fun w => ref_need (a0 / 4294967296) (a1 / 4294967296) w A5 B5
      have h0 := (cell_of_row _ _ 4 _ _ _ HR.out).trans (rfl : _ = some (Value.int .u64 (a0 / 4294967296)))
      have h1 := (cell_of_row _ _ 5 _ _ _ HR.out).trans (rfl : _ = some (Value.int .u64 (a1 / 4294967296)))
      generalize mulV (a0 / 4294967296) (a1 / 4294967296) = v at *
      generalize mulB (a0 / 4294967296) (a1 / 4294967296) = bb at *
      go_wp2_with fail
      refine (c1 _).mono ?_
      rintro e w' ⟨rfl, rfl⟩
      go_wp2_with fail
      refine (c2 _).mono ?_
      rintro e w' ⟨rfl, rfl⟩
      clear c1 c2
      go_wp2_with fail
      go_roundg 0
      case measure => have := HG.out; omega
      case rel => exact ⟨HR.out.below HR.out.lt ((Below.refl _ _).alloc (Nat.le_refl _) _), HGR.out.alloc _ _, 3, by omega, by omega, by first | rfl | go_num, by omega⟩
    · go_wp2_with fail
      refine (cK _).mono ?_
      rintro e w' ⟨rfl, n4, rfl⟩
      go_wp2
      go_ret
      exact ⟨rfl, grown_drewN HGR.out n4⟩

/-! ### THE ROW's STEP: WRITTEN OUT: LEAVE IT -/
set_option maxRecDepth 100000 in
theorem lifted (os : Os) (started : os.Started) (H : Type) (enc : TypeId × Value → H) :
    ReturnsInHanded {} Try.checked os 4 .any (Rows.gasNeedsSpec.pre6 enc Try.prog Try.f4 Rows.gasNeedsRow.domain false) (Rows.gasNeedsSpec.post enc Try.prog Try.f4 false true false false) := by
  refine returnsInHanded_of_change (C := Try.checked) own started (by kernel_rfl) Try.func4
    (ChangeSpec.witness6 (enc := enc) (C := Try.checked) false ⟨#[], #[.int .u64 0, .int .u64 0, .int .u8 0], []⟩ 8 (by kernel_rfl) (by kernel_rfl) (by kernel_rfl) (by kernel_rfl)) ?_
  intro W base args ds gs before hval0 hW hcnd _
  have hval : ∀ (j : Nat) t v, Try.f4.params[j]? = some t → args[j]? = some v → Value.okWide Try.prog W .any base t v := hval0
  have hW' := hW
  obtain ⟨p, q, hA0, hV, rfl, hfz, hnd⟩ := hW
  have hA : DataW.TrodAll enc Try.prog W 0 (fun _ => true) true Try.f4.params.toList args.toList ds p := hA0
  rw [Try.params4] at hA hval
  obtain ⟨v0, vs0, d0, ds0, p0, q0, hargs, rfl, rfl, h0, r0⟩ := trodAll_cons hA
  obtain ⟨v1, vs1, d1, ds1, p1, q1, rfl, rfl, rfl, h1, r1⟩ := trodAll_cons r0
  obtain ⟨v2, vs2, d2, ds2, p2, q2, rfl, rfl, rfl, h2, r2⟩ := trodAll_cons r1
  obtain ⟨rfl, rfl, rfl⟩ := trodAll_nil r2
  obtain rfl : args = #[v0, v1, v2] := by cases args; simp_all
  obtain ⟨rfl, rfl⟩ := trodVars_none hV
  obtain ⟨a0, rfl, rfl, rfl, w0⟩ := open_int Try.underlying25 (hval 0 25 v0 rfl rfl) h0
  obtain ⟨a1, rfl, rfl, rfl, w1⟩ := open_int Try.underlying25 (hval 1 25 v1 rfl rfl) h1
  obtain ⟨a2, rfl, rfl, rfl, w2⟩ := open_int Try.underlying5 (hval 2 5 v2 rfl rfl) h2
  clear hA0 hval0
  simp only [List.append_nil] at hW'
  refine (walk a0 a1 a2 w0 w1 w2 W).mono fun e W' ⟨he, hg⟩ => ?_
  subst he
  exact ⟨_, rfl, post_of_same (pa := []) (pv := []) hW' (fun _ _ _ => (trodAll_cons_mk (shut_bool Try.underlying4 _) trodAll_mk0)) (fun sp _ => (trodAll_cons_mk (shut_int Try.underlying25 w0) (trodAll_cons_mk (shut_int Try.underlying25 w1) (trodAll_cons_mk (shut_int Try.underlying5 w2) trodAll_mk0)))) (fun _ _ => rfl) rfl
    (hg.frame _) hg.2.1 (ok_one (by kernel_rfl) rfl (okWide_bool_mk Try.underlying4 _))⟩

theorem over : Rows.gasNeedsRow.holds Try.pinned (OpenSpec.ofChange Rows.gasNeedsSpec) :=
  OpenClaim.holds_of_wide 4 Try.f4 rfl rfl rfl rfl rfl rfl rfl ⟨rfl, rfl, rfl, rfl, rfl⟩ rfl rfl rfl rfl rfl (by kernel_rfl) Try.func4 (by kernel_rfl)
    (of_decide_eq_true (by kernel_rfl)) (by unfold Func.isWrapper; first | (rw [if_pos (by decide +kernel)]; kernel_rfl) | (rw [if_neg (by decide +kernel)]; exact ⟨rfl, rfl⟩))
    (fun os started H enc _ => lifted os started H enc)

/-- THE STATEMENT -/
theorem proved : Rows.GasNeedsSaid :=
  over
#print axioms proved
end Go.Proofs.Ytkjlbibjdhjocaa.gasNeeds
