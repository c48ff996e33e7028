/-
  For every three keys and every number of bytes in which the second is made like the first, Compare gives the reference's order, backwards its opposite, zero just for equal keys, never breaks transitivity, and agrees with the order of the texts; the fixed example returns true. Condition: the two package-level variables of package sha read as the program's text lays them (tied by the card).
-/
import Derived.Test.YtapojahoaglgaaaDoorD2
import Derived.Test.YtapojahoaglgaaaDoorP2
import Derived.Test.YtapojahoaglgaaaDoorCards
import Derived.Test.YtapojahoaglgaaaDoorTie
import Derived.SevenTiedAt
import Derived.ChangeOld
namespace Go.Proofs.YtapojahoaglgaaaDoor.keyCompares
open Go.ChangeShapes Go.WideShapes Go.ChangeAt Go.RowKit
set_option linter.unusedVariables false
set_option linter.unusedSimpArgs false

theorem walk (K0 : List Int) (K1 : List Int) (K2 : List Int) (a3 : Int) (w : World) (hl0 : K0.length = 32) (hb0 : ∀ x, x ∈ K0 → W8 x) (hl1 : K1.length = 32) (hb1 : ∀ x, x ∈ K1 → W8 x) (hl2 : K2.length = 32) (hb2 : ∀ x, x ∈ K2 → W8 x) (w3 : W8 a3) (hG : Glob w) :
    Calls Tryd.prog 4 #[.agg (w8s K0), .agg (w8s K1), .agg (w8s K2), .int .u8 a3] w fun e w' => e = .returned (.bool true) ∧ Below w.heap.size w w' := by
  exact cmp_core K0 K1 K2 a3 w hl0 hb0 hl1 hb1 hl2 hb2 w3 hG

set_option maxRecDepth 100000 in
theorem lifted (os : Os) (started : os.Started) (H : Type) (enc : TypeId × Value → H) :
    ReturnsInHanded {} Tryd.checked os 4 .any (fun w args => (Rows.keyComparesSpec.pre enc Tryd.prog Tryd.f4 [] false w args ∧ laidMetH Tryd.prog laid2 w) ∧ sizedMet enc Tryd.prog Tryd.f4 (OpenSpec.ofChange Rows.keyComparesSpec) false w args)
      (Rows.keyComparesSpec.post enc Tryd.prog Tryd.f4 false true false false) := by
  refine returnsInHanded_of_change_and (C := Tryd.checked) (X := fun w _ => laidMetH Tryd.prog laid2 w) (fun _ _ _ hh h => h.of_heap hh) own started (by kernel_rfl) Tryd.func4
    (ChangeSpec.witness_shaped (enc := enc) (C := Tryd.checked) (os := os) (X := fun w _ => laidMetH Tryd.prog laid2 w) false (World.doorLaid Tryd.prog 400 os) #[.agg (w8s (List.replicate 32 0)), .agg (w8s (List.replicate 32 0)), .agg (w8s (List.replicate 32 0)), .int .u8 0] 8 rfl (World.shaped_of_RefB (by kernel_rfl) (by kernel_rfl)) (by kernel_rfl) (by kernel_rfl) (by kernel_rfl) (door_met os _)) ?_
  intro W base args ds gs before hval0 hW _ hsz0 hL _
  have hval : ∀ (j : Nat) t v, Tryd.f4.params[j]? = some t → args[j]? = some v → Value.okWide Tryd.prog W .any base t v := hval0
  have hsz : (DataW.weightsEach Tryd.prog (Tryd.f4.params.toList ++ Rows.keyComparesSpec.plain.varTypes Tryd.prog) (ds ++ gs)).all (· ≤ reachBytes) = true := hsz0
  have hW' := hW
  obtain ⟨p, q, hA0, hV, rfl, hfz, hnd⟩ := hW
  have hA : DataW.TrodAll enc Tryd.prog W 0 (fun _ => true) true Tryd.f4.params.toList args.toList ds p := hA0
  rw [Tryd.params4] at hA hval hsz
  obtain ⟨v0, vs0, d0, ds0, p0, q0, hargs, rfl, rfl, h0, r0⟩ := trodAll_cons hA
  obtain ⟨v1, vs1, d1, ds1, p1, q1, rfl, rfl, rfl, h1, r1⟩ := trodAll_cons r0
  obtain ⟨v2, vs2, d2, ds2, p2, q2, rfl, rfl, rfl, h2, r2⟩ := trodAll_cons r1
  obtain ⟨v3, vs3, d3, ds3, p3, q3, rfl, rfl, rfl, h3, r3⟩ := trodAll_cons r2
  obtain ⟨rfl, rfl, rfl⟩ := trodAll_nil r3
  obtain rfl : args = #[v0, v1, v2, v3] := by cases args; simp_all
  obtain ⟨rfl, rfl⟩ := trodVars_none hV
  have k0 := h0
  have lt0 : ∀ x ∈ p0, x.block < W.heap.size := by obtain ⟨m, hm⟩ := k0; exact DataW.trod_lt m _ _ _ hm
  obtain ⟨K0, rfl, hl0, hb0⟩ : ∃ K : List Int, v0 = .agg (w8s K) ∧ K.length = 32 ∧ ∀ x, x ∈ K → W8 x := by
    have hv := hval 0 25 v0 rfl rfl
    simp only [Value.okWide, (show Tryd.prog.underlying 25 = some (.array 32 5) by kernel_rfl)] at hv
    obtain ⟨cs, rfl, -⟩ := hv
    obtain ⟨fuel, hf⟩ := h0
    obtain ⟨K, e, hl, hb⟩ := key_arg hf
    refine ⟨K, ?_, hl, hb⟩
    obtain ⟨cl⟩ := cs
    have e2 : cl = K.map (Value.int .u8) := e
    rw [e2]
  have k1 := h1
  have lt1 : ∀ x ∈ p1, x.block < W.heap.size := by obtain ⟨m, hm⟩ := k1; exact DataW.trod_lt m _ _ _ hm
  obtain ⟨K1, rfl, hl1, hb1⟩ : ∃ K : List Int, v1 = .agg (w8s K) ∧ K.length = 32 ∧ ∀ x, x ∈ K → W8 x := by
    have hv := hval 1 25 v1 rfl rfl
    simp only [Value.okWide, (show Tryd.prog.underlying 25 = some (.array 32 5) by kernel_rfl)] at hv
    obtain ⟨cs, rfl, -⟩ := hv
    obtain ⟨fuel, hf⟩ := h1
    obtain ⟨K, e, hl, hb⟩ := key_arg hf
    refine ⟨K, ?_, hl, hb⟩
    obtain ⟨cl⟩ := cs
    have e2 : cl = K.map (Value.int .u8) := e
    rw [e2]
  have k2 := h2
  have lt2 : ∀ x ∈ p2, x.block < W.heap.size := by obtain ⟨m, hm⟩ := k2; exact DataW.trod_lt m _ _ _ hm
  obtain ⟨K2, rfl, hl2, hb2⟩ : ∃ K : List Int, v2 = .agg (w8s K) ∧ K.length = 32 ∧ ∀ x, x ∈ K → W8 x := by
    have hv := hval 2 25 v2 rfl rfl
    simp only [Value.okWide, (show Tryd.prog.underlying 25 = some (.array 32 5) by kernel_rfl)] at hv
    obtain ⟨cs, rfl, -⟩ := hv
    obtain ⟨fuel, hf⟩ := h2
    obtain ⟨K, e, hl, hb⟩ := key_arg hf
    refine ⟨K, ?_, hl, hb⟩
    obtain ⟨cl⟩ := cs
    have e2 : cl = K.map (Value.int .u8) := e
    rw [e2]
  obtain ⟨a3, rfl, rfl, rfl, x3⟩ := open_int Tryd.underlying5 (hval 3 5 v3 rfl rfl) h3
  clear hA0 hval0
  refine (walk K0 K1 K2 a3 W hl0 hb0 hl1 hb1 hl2 hb2 (byte_of_wf x3) (glob_of_laid hL)).mono fun e W' ⟨he, bel⟩ => ?_
  subst he
  exact ⟨_, rfl, _, _, _, [], _, [], hW', trodAll_mk1 (shut_bool Tryd.underlying4 _), (trodAll_cons_mk (Below.trod laidOut (by kernel_rfl) (of_decide_eq_true (by kernel_rfl)) k0 bel lt0) (trodAll_cons_mk (Below.trod laidOut (by kernel_rfl) (of_decide_eq_true (by kernel_rfl)) k1 bel lt1) (trodAll_cons_mk (Below.trod laidOut (by kernel_rfl) (of_decide_eq_true (by kernel_rfl)) k2 bel lt2) (trodAll_cons_mk (shut_int Tryd.underlying5 x3) trodAll_mk0)))), rfl, bel.frame _, fun h => by cases h⟩

theorem over : Rows.keyComparesRow.holds Tryd.pinned (OpenSpec.ofChange Rows.keyComparesSpec) :=
  OpenClaim.holds_of_wide 4 Tryd.f4 rfl rfl rfl rfl rfl rfl rfl ⟨rfl, rfl, rfl, rfl, rfl⟩ rfl rfl rfl rfl rfl (by kernel_rfl) Tryd.func4 (by kernel_rfl)
    (of_decide_eq_true (by kernel_rfl)) (by unfold Func.isWrapper; first | (rw [if_pos (by decide +kernel)]; kernel_rfl) | (rw [if_neg (by decide +kernel)]; exact ⟨rfl, rfl⟩))
    (fun os started H enc _ => lifted os started H enc)
end Go.Proofs.YtapojahoaglgaaaDoor.keyCompares
namespace Go.Proofs.YtapojahoaglgaaaDoor
open Go

/-- ████ THE STATEMENT ████ -/
theorem keyCompares_holds : Rows.KeyComparesCardSaid :=
  Claim7.holds_tied_plain_at .later [] [.data, .data] true (true, "70b70e7da48b87d5b1ef5dcafc6a14e8484e50ca6e94e176ae98d4df4870a499") false
    keyCompares.over (fun _ h => by cases h) (by kernel_rfl) (fun _ h => by cases h) keyCompares_row_tie rfl ⟨rfl, rfl⟩ (by kernel_rfl) rfl
    (fun f fn hf hfn => by
      obtain rfl : f = 4 := Option.some.inj ((show Tryd.prog.funcNamed "mempool/mempoollaw5.KeyCompares" = some 4 by kernel_rfl).symm.trans hf) |>.symm
      obtain rfl : fn = Tryd.f4 := (Option.some.inj (Tryd.func4.symm.trans hfn)).symm
      exact ⟨by kernel_rfl, fun j t ht => by
        rw [Tryd.params4] at ht
        have hm : t ∈ [25, 25, 25, 5] := by simpa using Array.mem_of_getElem? ht
        have hall : ([25, 25, 25, 5].all fun u => !Tryd.prog.wantsStandIn u) = true := by kernel_rfl
        exact (show Tryd.prog.wantsStandIn t = false by simpa using List.all_eq_true.1 hall t hm)⟩)
    (by kernel_rfl)
#print axioms keyCompares_holds
end Go.Proofs.YtapojahoaglgaaaDoor
