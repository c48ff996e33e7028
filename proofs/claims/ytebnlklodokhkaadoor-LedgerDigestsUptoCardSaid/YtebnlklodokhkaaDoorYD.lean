/-
  LedgerDigests returns true for every input of bulk at most 1048576: the exact digest of any ledger; the arguments read afterwards as before. Conditions: the second form's bound; the two package-level variables of package sha read as the program's text lays them (tied by the card).
-/
import Derived.WalkKit
import Derived.Test.YtebnlklodokhkaaDoorPU
import Derived.Test.YtebnlklodokhkaaDoorCards
import Derived.Test.YtebnlklodokhkaaDoorTie
import Derived.SevenTiedAt
import Derived.JoinedCond
import Derived.LaidLaws
import Derived.ChangeMaps5
import Derived.ShutString
import Derived.ChangeMaps
namespace Go.Proofs.YtebnlklodokhkaaDoor.ledgerDigests
open Go.ChangeShapes Go.WideShapes Go.ChangeAt Go.RowKit Go.Proofs.YtebnlklodokhkaaDoor.Lg
set_option linter.unusedVariables false

set_option maxRecDepth 100000 in
set_option maxHeartbeats 1000000 in
theorem contract (H : Type) (enc : TypeId × Value → H) (W : World) (base : Nat) (args : Array Value) (ds gs : List (DataW H)) (before : List MemPlace)
    (hval0 : ∀ (j : Nat) t v, Tryd.f3.params[j]? = some t → args[j]? = some v → Value.okWide Tryd.prog W .any base t v)
    (hW : DataW.Whole enc Tryd.prog Tryd.f3.params.toList Rows.ledgerDigestsSpec.vars false W args.toList ds gs before) (hk : Rows.uptoSmall H (ds ++ gs) = true) (hG : Glob W) :
    Calls Tryd.prog 3 args W fun e W' => ∃ v, e = .returned v ∧ Rows.ledgerDigestsSpec.post enc Tryd.prog Tryd.f3 false true false false W args v W' := by
  have hval : ∀ (j : Nat) t v, Tryd.f3.params[j]? = some t → args[j]? = some v → Value.okWide Tryd.prog W .any base t v := hval0
  have hW' := hW
  obtain ⟨p, q, hA0, hV, rfl, hfz, hnd⟩ := hW
  have hA : DataW.TrodAll enc Tryd.prog W 0 (fun _ => true) true Tryd.f3.params.toList args.toList ds p := hA0
  rw [Tryd.params3] at hA hval
  obtain ⟨v0, vs0, d0, ds0, p0, q0, hargs, rfl, rfl, h0, rr0⟩ := trodAll_cons hA
  obtain ⟨v1, vs1, d1, ds1, p1, q1, rfl, rfl, rfl, h1, rr1⟩ := trodAll_cons rr0
  obtain ⟨rfl, rfl, rfl⟩ := trodAll_nil rr1
  obtain rfl : args = #[v0, v1] := by cases args; simp_all
  obtain ⟨rfl, rfl⟩ := trodVars_none hV
  have hb := of_decide_eq_true hk
  simp only [List.append_nil, Rows.uptoBulkAll] at hb
  have k0 := h0
  have lt0 : ∀ x ∈ p0, x.block < W.heap.size := by obtain ⟨m, hm⟩ := k0; exact DataW.trod_lt m _ _ _ hm
  obtain ⟨⟨cs0⟩, rfl, _⟩ := okWide_struct Tryd.underlying25 (hval 0 25 v0 rfl rfl)
  obtain ⟨_, hf0⟩ := h0
  obtain ⟨a0, c0, A0, l0, e0, k0c, r0, b0, g0, u0⟩ := led_arg hf0
  simp only [Value.cells] at e0
  subst e0
  have k1 := h1
  have lt1 : ∀ x ∈ p1, x.block < W.heap.size := by obtain ⟨m, hm⟩ := k1; exact DataW.trod_lt m _ _ _ hm
  obtain ⟨a1, _, c1, rfl⟩ := okWide_slice Tryd.underlying26 (hval 1 26 v1 rfl rfl)
  obtain ⟨_, hf1⟩ := h1
  obtain ⟨_, _, L1, e1, l1, r1⟩ := ints_arg hf1
  simp only [Value.cells, List.cons.injEq, Value.slice.injEq, and_true] at e1
  obtain ⟨rfl, rfl, rfl⟩ := e1
  clear hA0 hval0
  dsimp only at u0
  refine (digests_core a0 c0 A0 l0 a1 c1 L1 W r0 (by omega) (by omega) (acw_of b0) g0 r1 l1 hG).mono fun e W' ⟨he, bel⟩ => ?_
  subst he
  exact ⟨_, rfl, _, _, _, [], _, [], hW', trodAll_mk1 (shut_bool Tryd.underlying4 _), (trodAll_cons_mk (Below.trod laidOut (by kernel_rfl) (of_decide_eq_true (by kernel_rfl)) k0 bel lt0) (trodAll_cons_mk (Below.trod laidOut (by kernel_rfl) (of_decide_eq_true (by kernel_rfl)) k1 bel lt1) trodAll_mk0)), rfl, bel.frame _, fun h => by cases h⟩

set_option maxRecDepth 100000 in
theorem lifted (os : Os) (started : os.Started) (H : Type) (enc : TypeId × Value → H) (F : Stop.Interp) :
    ReturnsInHanded {} Tryd.checked os 3 .any (fun w args => ((Rows.OpenSpec.upto Rows.ledgerDigestsSpec).pre enc Tryd.prog Tryd.f3 [] false w args ∧ laidMetH Tryd.prog laid2 w) ∧ sizedMet enc Tryd.prog Tryd.f3 (Rows.OpenSpec.upto Rows.ledgerDigestsSpec) false w args)
      (((Rows.OpenSpec.upto Rows.ledgerDigestsSpec).at F).post enc Tryd.prog Tryd.f3 false true false false) := by
  have hk : (Rows.OpenSpec.upto Rows.ledgerDigestsSpec).cond = some Rows.uptoSmall := rfl
  refine returnsInHanded_of_calls own started (by kernel_rfl) ?_ ?_
  · have hok : Input.okWideB Tryd.prog ((World.doorLaid Tryd.prog 400 os).forCall (fun _ _ => 0) ⟨#[], #[.agg #[.slice none 0 0, .int .u64 0], .slice none 0 0], []⟩) 3 ⟨#[], #[.agg #[.slice none 0 0, .int .u64 0], .slice none 0 0], []⟩ = true := by kernel_rfl
    have hx : DataW.whole enc Tryd.prog ((World.doorLaid Tryd.prog 400 os).forCall (fun _ _ => 0) ⟨#[], #[.agg #[.slice none 0 0, .int .u64 0], .slice none 0 0], []⟩).memory Tryd.f3.params.toList (Rows.OpenSpec.upto Rows.ledgerDigestsSpec).vars false [.agg #[.slice none 0 0, .int .u64 0], .slice none 0 0] 8 = some (([.agg [.nil, .lit (.int .u64 0)], .nil], [], []) : List (DataW H) × List (DataW H) × List MemPlace) := by kernel_rfl
    refine ⟨World.doorLaid Tryd.prog 400 os, fun _ _ => 0, ⟨#[], #[.agg #[.slice none 0 0, .int .u64 0], .slice none 0 0], []⟩, rfl, World.shaped_of_RefB (by kernel_rfl) (by kernel_rfl), (Input.okWide_of_okWideB (base := 0) hok).1, (Input.okWide_of_okWideB hok).2,
      ⟨⟨(OpenSpec.pre_some hk [] false _ _).2 ⟨_, _, _, DataW.Whole_of_whole hx, rfl, by kernel_rfl⟩, door_met os _⟩, sizedMet_of_sizedB (fuel := 8) (by kernel_rfl)⟩, ?_⟩
    simp only [Assume.holds]
    exact ⟨by simp, by simp, fun _ => Modest.zero, by simp, by simp⟩
  · intro w tape i _ _ _ hok hpre _
    obtain ⟨_, _, _, fn', hfn', _, _, _, _, hval⟩ := hok
    have e : fn' = Tryd.f3 := Option.some.inj (hfn'.symm.trans Tryd.func3)
    subst e
    obtain ⟨⟨hp0, hL⟩, -⟩ := hpre
    obtain ⟨ds, gs, before, hw, -, hkk⟩ := (OpenSpec.pre_some hk [] false _ _).1 hp0
    have hw' := DataW.Whole.of_heap (w' := w.forCall tape i) (by rfl) hw
    have hG : Glob (w.forCall tape i) := glob_of_laid (hL.of_heap (by rfl))
    refine (contract H enc (w.forCall tape i) w.heap.size i.args ds gs before hval hw' hkk hG).mono fun e W' ⟨v, he, hp⟩ => ?_
    subst he
    exact ChangeSpec.post_blind hp

theorem over : Rows.ledgerDigestsUptoRow.holds Tryd.pinned (Rows.OpenSpec.upto Rows.ledgerDigestsSpec) :=
  OpenClaim.holds_of_cond 3 Tryd.f3 rfl rfl rfl rfl rfl rfl rfl ⟨rfl, rfl, rfl, rfl, rfl⟩ rfl rfl rfl rfl rfl (by kernel_rfl) Tryd.func3 (by kernel_rfl)
    (of_decide_eq_true (by kernel_rfl)) (by unfold Func.isWrapper; first | (rw [if_pos (by decide +kernel)]; kernel_rfl) | (rw [if_neg (by decide +kernel)]; exact ⟨rfl, rfl⟩))
    (fun os started H enc _ F => lifted os started H enc F)
end Go.Proofs.YtebnlklodokhkaaDoor.ledgerDigests
namespace Go.Proofs.YtebnlklodokhkaaDoor
open Go

/-- THE STATEMENT -/
theorem ledgerDigests_holds : Rows.LedgerDigestsUptoCardSaid :=
  Claim7.holds_tied_plain_at .later [] [.data, .data] true (true, "d678360652ca63540ca91df86507b68a4186e4cc5202ea01fd592949d29dc10d") false
    ledgerDigests.over (fun _ h => by cases h) (by kernel_rfl) (fun _ h => by cases h) ledgerDigestsUpto_row_tie rfl ⟨rfl, rfl⟩ (by kernel_rfl) rfl
    (fun f fn hf hfn => by
      obtain rfl : f = 3 := Option.some.inj ((show Tryd.prog.funcNamed "mempool/mempoollaw11.LedgerDigests" = some 3 by kernel_rfl).symm.trans hf) |>.symm
      obtain rfl : fn = Tryd.f3 := (Option.some.inj (Tryd.func3.symm.trans hfn)).symm
      exact ⟨by kernel_rfl, fun j t ht => by
        rw [Tryd.params3] at ht
        have hm : t ∈ [25, 26] := by simpa using Array.mem_of_getElem? ht
        have hall : ([25, 26].all fun u => !Tryd.prog.wantsStandIn u) = true := by kernel_rfl
        exact (show Tryd.prog.wantsStandIn t = false by simpa using List.all_eq_true.1 hall t hm)⟩)
    (by kernel_rfl)
#print axioms ledgerDigests_holds
end Go.Proofs.YtebnlklodokhkaaDoor
