/-
  WireAppends returns true for every input: Append gives the exact bytes of any valid field behind what came in, and ErrArgument for any other, and Size is their number; the arguments read afterwards as before.
  Conditions: none beyond the statement's own.
-/
import Derived.WalkKit
import Derived.Test.YtadngbpiepemjaaE1
import Derived.Test.YtadngbpiepemjaaP1
import Derived.ProofKit
import Derived.OpenShut
import Derived.ShutString
import Derived.ChangeOld
import Derived.Below
namespace Go.Proofs.Ytadngbpiepemjaa.wireAppends
open Go.ChangeShapes Go.WideShapes Go.ChangeAt Go.RowKit
set_option linter.unusedVariables false

theorem own : ownKnob Try.prog.godebug = none := by kernel_rfl
theorem laidOut : laidOutB Try.prog = true := by kernel_rfl

set_option maxHeartbeats 1000000 in
theorem long0 (a : Option Addr) (l c : Nat) (num kind val : Int) (b : Option Addr) (n d : Nat) (how : Int) (w : World) (hl : 200 < l ∨ 200 < n) :
    Calls Try.prog 3 #[.slice a l c, .agg #[.int .i64 num, .int .i64 kind, .int .u64 val, .slice b n d], .int .u8 how] w fun e w' => e = .returned (.bool true) ∧ Below w.heap.size w w' := by
  have hb := (Below.refl w.heap.size w).alloc (Nat.le_refl _) (.cells #[.int .i64 num, .int .i64 kind, .int .u64 val, .slice b n d] 25)
  rcases hl with hl | hl
  · have h1 : decide ((200 : Int) < (l : Int)) = true := decide_eq_true (by omega)
    go_enter Try.func3, Try.ntmps3
    go_wp2_with fail
    refine (known_true _).mono ?_
    rintro e w' ⟨rfl, hb2⟩
    have hbl := bnext hb hb2
    clear hb hb2
    go_wp2
    go_ret
    exact ⟨rfl, hbl⟩
  · have h2 : decide ((200 : Int) < (n : Int)) = true := decide_eq_true (by omega)
    by_cases hl1 : 200 < l
    all_goals
      first
        | have h1 : decide ((200 : Int) < (l : Int)) = true := decide_eq_true (by omega)
        | have h1 : decide ((200 : Int) < (l : Int)) = false := decide_eq_false (by omega)
      go_enter Try.func3, Try.ntmps3
      go_wp2_with fail
      refine (known_true _).mono ?_
      rintro e w' ⟨rfl, hb2⟩
      have hbl := bnext hb hb2
      clear hb hb2
      go_wp2
      go_ret
      exact ⟨rfl, hbl⟩

theorem walk (a0 : Option Addr) (c0 : Nat) (L0 : List Int) (n1 k1 x1 : Int) (a1 : Option Addr) (c1 : Nat) (L1 : List Int) (x2 : Int) (w : World) (r0 : Sl w a0 c0 L0) (l0 : L0.length ≤ c0) (b0 : ∀ x, x ∈ L0 → W8 x) (w1 : W64 x1) (r1 : Sl w a1 c1 L1) (l1 : L1.length ≤ c1) (b1 : ∀ x, x ∈ L1 → W8 x) (w2 : (Lit.int .u8 x2).wf = true) :
    Calls Try.prog 3 #[.slice a0 L0.length c0, .agg #[.int .i64 n1, .int .i64 k1, .int .u64 x1, .slice a1 L1.length c1], .int .u8 x2] w fun e w' => e = .returned (.bool true) ∧ Below w.heap.size w w' := by
  by_cases h0 : 200 < L0.length ∨ 200 < L1.length
  · exact long0 _ _ _ _ _ _ _ _ _ _ w h0
  · exact appends_core a0 c0 L0 n1 k1 x1 a1 c1 L1 x2 w (by omega) (by omega) r0 r1 w1 (byte_of_wf w2)


set_option maxHeartbeats 1000000 in
theorem contract (H : Type) (enc : TypeId × Value → H) (W : World) (base : Nat) (args : Array Value) (ds gs : List (DataW H)) (before : List MemPlace)
    (hval0 : ∀ (j : Nat) t v, Try.f3.params[j]? = some t → args[j]? = some v → Value.okWide Try.prog W .any base t v)
    (hW : DataW.Whole enc Try.prog Try.f3.params.toList Rows.wireAppendsSpec.vars false W args.toList ds gs before) :
    Calls Try.prog 3 args W fun e W' => ∃ v, e = .returned v ∧ Rows.wireAppendsSpec.post enc Try.prog Try.f3 false true false false W args v W' := by
  have hval : ∀ (j : Nat) t v, Try.f3.params[j]? = some t → args[j]? = some v → Value.okWide Try.prog W .any base t v := hval0
  have hW' := hW
  obtain ⟨p, q, hA0, hV, rfl, hfz, hnd⟩ := hW
  have hA : DataW.TrodAll enc Try.prog W 0 (fun _ => true) true Try.f3.params.toList args.toList ds p := hA0
  rw [Try.params3] at hA hval
  obtain ⟨v0, vs0, d0, ds0, p0, q0, hargs, rfl, rfl, h0, rr0⟩ := trodAll_cons hA
  obtain ⟨v1, vs1, d1, ds1, p1, q1, rfl, rfl, rfl, h1, rr1⟩ := trodAll_cons rr0
  obtain ⟨v2, vs2, d2, ds2, p2, q2, rfl, rfl, rfl, h2, rr2⟩ := trodAll_cons rr1
  obtain ⟨rfl, rfl, rfl⟩ := trodAll_nil rr2
  obtain rfl : args = #[v0, v1, v2] := by cases args; simp_all
  obtain ⟨rfl, rfl⟩ := trodVars_none hV
  have k0 := h0
  have lt0 : ∀ x ∈ p0, x.block < W.heap.size := by obtain ⟨m, hm⟩ := k0; exact DataW.trod_lt m _ _ _ hm
  obtain ⟨a0, _, c0, rfl⟩ := okWide_slice Try.underlying22 (hval 0 22 v0 rfl rfl)
  obtain ⟨_, hf0⟩ := h0
  obtain ⟨_, _, L0, e0, l0, r0, b0, u0⟩ := bytes_arg hf0
  simp only [Value.cells, List.cons.injEq, Value.slice.injEq, and_true] at e0
  obtain ⟨rfl, rfl, rfl⟩ := e0
  have k1 := h1
  have lt1 : ∀ x ∈ p1, x.block < W.heap.size := by obtain ⟨m, hm⟩ := k1; exact DataW.trod_lt m _ _ _ hm
  obtain ⟨⟨cs1⟩, rfl, _⟩ := okWide_struct Try.underlying25 (hval 1 25 v1 rfl rfl)
  obtain ⟨_, hf1⟩ := h1
  obtain ⟨nu1, ki1, va1, a1, c1, L1, e1, w1, l1, r1, b1, u1⟩ := field_arg hf1
  simp only [Value.cells] at e1
  subst e1
  obtain ⟨x2, rfl, rfl, rfl, w2⟩ := open_int Try.underlying5 (hval 2 5 v2 rfl rfl) h2
  clear hA0 hval0
  refine (walk a0 c0 L0 nu1 ki1 va1 a1 c1 L1 x2 W r0 l0 b0 w1 r1 l1 b1 w2).mono fun e W' ⟨he, bel⟩ => ?_
  subst he
  exact ⟨_, rfl, _, _, _, [], _, [], hW', trodAll_mk1 (shut_bool Try.underlying4 _), (trodAll_cons_mk (Below.trod laidOut (by kernel_rfl) (of_decide_eq_true (by kernel_rfl)) k0 bel lt0) (trodAll_cons_mk (Below.trod laidOut (by kernel_rfl) (of_decide_eq_true (by kernel_rfl)) k1 bel lt1) (trodAll_cons_mk (shut_int Try.underlying5 w2) trodAll_mk0))), rfl, bel.frame _, fun h => by cases h⟩

set_option maxRecDepth 100000 in
theorem lifted (os : Os) (started : os.Started) (H : Type) (enc : TypeId × Value → H) :
    ReturnsInHanded {} Try.checked os 3 .any (Rows.wireAppendsSpec.pre6 enc Try.prog Try.f3 Rows.wireAppendsRow.domain false) (Rows.wireAppendsSpec.post enc Try.prog Try.f3 false true false false) := by
  refine returnsInHanded_of_change (C := Try.checked) own started (by kernel_rfl) Try.func3
    (ChangeSpec.witness6 (enc := enc) (C := Try.checked) false ⟨#[], #[.slice none 0 0, .agg #[.int .i64 0, .int .i64 0, .int .u64 0, .slice none 0 0], .int .u8 0], []⟩ 8 (by kernel_rfl) (by kernel_rfl) (by kernel_rfl) (by kernel_rfl)) ?_
  intro W base args ds gs before hval hW _ _
  exact contract H enc W base args ds gs before hval hW

/-- THE STATEMENT -/
theorem proved : Rows.WireAppendsSaid :=
  OpenClaim.holds_of_wide 3 Try.f3 rfl rfl rfl rfl rfl rfl rfl ⟨rfl, rfl, rfl, rfl, rfl⟩ rfl rfl rfl rfl rfl (by kernel_rfl) Try.func3 (by kernel_rfl)
    (of_decide_eq_true (by kernel_rfl)) (by unfold Func.isWrapper; first | (rw [if_pos (by decide +kernel)]; kernel_rfl) | (rw [if_neg (by decide +kernel)]; exact ⟨rfl, rfl⟩))
    (fun os started H enc _ => lifted os started H enc)
#print axioms proved
end Go.Proofs.Ytadngbpiepemjaa.wireAppends
