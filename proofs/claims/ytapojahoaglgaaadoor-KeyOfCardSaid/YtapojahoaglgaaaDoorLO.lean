/-
  For every slice of bytes, the key of a transaction of at most 300 bytes is the reference's digest of its bytes, and the fixed example returns true. Condition: the two package-level variables of package sha read as the program's text lays them (tied by the card).
-/
import Derived.Test.YtapojahoaglgaaaDoorD1
import Derived.Test.YtapojahoaglgaaaDoorP2
import Derived.Test.YtapojahoaglgaaaDoorCards
import Derived.Test.YtapojahoaglgaaaDoorTie
import Derived.SevenTiedAt
import Derived.ChangeOld
namespace Go.Proofs.YtapojahoaglgaaaDoor.keyOf
open Go.ChangeShapes Go.WideShapes Go.ChangeAt Go.RowKit
set_option linter.unusedVariables false
set_option linter.unusedSimpArgs false

theorem walk (a0 : Option Addr) (c0 : Nat) (L0 : List Int) (w : World) (hc0 : L0.length ≤ c0) (hs0 : Sl w a0 c0 L0) (hb0 : ∀ x, x ∈ L0 → W8 x) (hG : Glob w) :
    Calls Tryd.prog 3 #[.slice a0 L0.length c0] w fun e w' => e = .returned (.bool true) ∧ Below w.heap.size w w' := by
  exact of_core a0 c0 L0 w hc0 hs0 hb0 hG

set_option maxRecDepth 100000 in
theorem lifted (os : Os) (started : os.Started) (H : Type) (enc : TypeId × Value → H) :
    ReturnsInHanded {} Tryd.checked os 3 .any (fun w args => (Rows.keyOfSpec.pre enc Tryd.prog Tryd.f3 [] false w args ∧ laidMetH Tryd.prog laid2 w) ∧ sizedMet enc Tryd.prog Tryd.f3 (OpenSpec.ofChange Rows.keyOfSpec) false w args)
      (Rows.keyOfSpec.post enc Tryd.prog Tryd.f3 false true false false) := by
  refine returnsInHanded_of_change_and (C := Tryd.checked) (X := fun w _ => laidMetH Tryd.prog laid2 w) (fun _ _ _ hh h => h.of_heap hh) own started (by kernel_rfl) Tryd.func3
    (ChangeSpec.witness_shaped (enc := enc) (C := Tryd.checked) (os := os) (X := fun w _ => laidMetH Tryd.prog laid2 w) false (World.doorLaid Tryd.prog 400 os) #[.slice none 0 0] 8 rfl (World.shaped_of_RefB (by kernel_rfl) (by kernel_rfl)) (by kernel_rfl) (by kernel_rfl) (by kernel_rfl) (door_met os _)) ?_
  intro W base args ds gs before hval0 hW _ hsz0 hL _
  have hval : ∀ (j : Nat) t v, Tryd.f3.params[j]? = some t → args[j]? = some v → Value.okWide Tryd.prog W .any base t v := hval0
  have hsz : (DataW.weightsEach Tryd.prog (Tryd.f3.params.toList ++ Rows.keyOfSpec.plain.varTypes Tryd.prog) (ds ++ gs)).all (· ≤ reachBytes) = true := hsz0
  have hW' := hW
  obtain ⟨p, q, hA0, hV, rfl, hfz, hnd⟩ := hW
  have hA : DataW.TrodAll enc Tryd.prog W 0 (fun _ => true) true Tryd.f3.params.toList args.toList ds p := hA0
  rw [Tryd.params3] at hA hval hsz
  obtain ⟨v0, vs0, d0, ds0, p0, q0, hargs, rfl, rfl, h0, r0⟩ := trodAll_cons hA
  obtain ⟨rfl, rfl, rfl⟩ := trodAll_nil r0
  obtain rfl : args = #[v0] := by cases args; simp_all
  obtain ⟨rfl, rfl⟩ := trodVars_none hV
  obtain ⟨b0, l0, cap0, rfl⟩ := okWide_slice Tryd.underlying22 (hval 0 22 v0 rfl rfl)
  have k0 := h0
  have lt0 : ∀ x ∈ p0, x.block < W.heap.size := by obtain ⟨m, hm⟩ := k0; exact DataW.trod_lt m _ _ _ hm
  obtain ⟨a0, c0, L0, e0, hc0, hs0, hb0⟩ : ∃ a c L, Value.slice b0 l0 cap0 = .slice a (List.length L) c ∧ L.length ≤ c ∧ Sl W a c L ∧ (∀ x, x ∈ L → W8 x) := by
    obtain ⟨fuel, hf⟩ := h0
    obtain ⟨a, c, L, e, hc, hs, hb, -, -⟩ := bytes_arg hf
    exact ⟨a, c, L, by simpa [Value.cells] using e, hc, hs, hb⟩
  obtain ⟨rfl, rfl, rfl⟩ : b0 = a0 ∧ l0 = L0.length ∧ cap0 = c0 := by simpa using e0
  clear hA0 hval0
  refine (walk b0 cap0 L0 W hc0 hs0 hb0 (glob_of_laid hL)).mono fun e W' ⟨he, bel⟩ => ?_
  subst he
  exact ⟨_, rfl, _, _, _, [], _, [], hW', trodAll_mk1 (shut_bool Tryd.underlying4 _), (trodAll_cons_mk (Below.trod laidOut (by kernel_rfl) (of_decide_eq_true (by kernel_rfl)) k0 bel lt0) trodAll_mk0), rfl, bel.frame _, fun h => by cases h⟩

theorem over : Rows.keyOfRow.holds Tryd.pinned (OpenSpec.ofChange Rows.keyOfSpec) :=
  OpenClaim.holds_of_wide 3 Tryd.f3 rfl rfl rfl rfl rfl rfl rfl ⟨rfl, rfl, rfl, rfl, rfl⟩ rfl rfl rfl rfl rfl (by kernel_rfl) Tryd.func3 (by kernel_rfl)
    (of_decide_eq_true (by kernel_rfl)) (by unfold Func.isWrapper; first | (rw [if_pos (by decide +kernel)]; kernel_rfl) | (rw [if_neg (by decide +kernel)]; exact ⟨rfl, rfl⟩))
    (fun os started H enc _ => lifted os started H enc)
end Go.Proofs.YtapojahoaglgaaaDoor.keyOf
namespace Go.Proofs.YtapojahoaglgaaaDoor
open Go

/-- ████ THE STATEMENT ████ -/
theorem keyOf_holds : Rows.KeyOfCardSaid :=
  Claim7.holds_tied_plain_at .later [] [.data, .data] true (true, "70b70e7da48b87d5b1ef5dcafc6a14e8484e50ca6e94e176ae98d4df4870a499") false
    keyOf.over (fun _ h => by cases h) (by kernel_rfl) (fun _ h => by cases h) keyOf_row_tie rfl ⟨rfl, rfl⟩ (by kernel_rfl) rfl
    (fun f fn hf hfn => by
      obtain rfl : f = 3 := Option.some.inj ((show Tryd.prog.funcNamed "mempool/mempoollaw5.KeyOf" = some 3 by kernel_rfl).symm.trans hf) |>.symm
      obtain rfl : fn = Tryd.f3 := (Option.some.inj (Tryd.func3.symm.trans hfn)).symm
      exact ⟨by kernel_rfl, fun j t ht => by
        rw [Tryd.params3] at ht
        have hm : t ∈ [22] := by simpa using Array.mem_of_getElem? ht
        have hall : ([22].all fun u => !Tryd.prog.wantsStandIn u) = true := by kernel_rfl
        exact (show Tryd.prog.wantsStandIn t = false by simpa using List.all_eq_true.1 hall t hm)⟩)
    (by kernel_rfl)
#print axioms keyOf_holds
end Go.Proofs.YtapojahoaglgaaaDoor
