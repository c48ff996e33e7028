/-
  For every list of at most 20 bytes, of which keys are made, every key, and every list of at most 20 keys, Has and Distinct give the reference's answers; the fixed example returns true. Condition: the two package-level variables of package sha read as the program's text lays them (tied by the card).
-/
import Derived.Test.YtapojahoaglgaaaDoorD4
import Derived.Test.YtapojahoaglgaaaDoorP2
import Derived.Test.YtapojahoaglgaaaDoorCards
import Derived.Test.YtapojahoaglgaaaDoorTie
import Derived.SevenTiedAt
import Derived.ChangeOld
namespace Go.Proofs.YtapojahoaglgaaaDoor.keyLists
open Go.ChangeShapes Go.WideShapes Go.ChangeAt Go.RowKit
set_option linter.unusedVariables false
set_option linter.unusedSimpArgs false

theorem walk (a0 : Option Addr) (c0 : Nat) (L0 : List Int) (K1 : List Int) (a2 : Option Addr) (c2 : Nat) (L2 : List (List Int)) (w : World) (hc0 : L0.length ≤ c0) (hs0 : Sl w a0 c0 L0) (hb0 : ∀ x, x ∈ L0 → W8 x) (hl1 : K1.length = 32) (hb1 : ∀ x, x ∈ K1 → W8 x) (hc2 : L2.length ≤ c2) (hr2 : Rk w a2 L2) (hG : Glob w) :
    Calls Tryd.prog 6 #[.slice a0 L0.length c0, .agg (w8s K1), .slice a2 L2.length c2] w fun e w' => e = .returned (.bool true) ∧ Below w.heap.size w w' := by
  exact lists_core a0 c0 L0 K1 a2 c2 L2 w hs0 hb0 hl1 hc2 hr2 hG

set_option maxRecDepth 100000 in
theorem lifted (os : Os) (started : os.Started) (H : Type) (enc : TypeId × Value → H) :
    ReturnsInHanded {} Tryd.checked os 6 .any (fun w args => (Rows.keyListsSpec.pre enc Tryd.prog Tryd.f6 [] false w args ∧ laidMetH Tryd.prog laid2 w) ∧ sizedMet enc Tryd.prog Tryd.f6 (OpenSpec.ofChange Rows.keyListsSpec) false w args)
      (Rows.keyListsSpec.post enc Tryd.prog Tryd.f6 false true false false) := by
  refine returnsInHanded_of_change_and (C := Tryd.checked) (X := fun w _ => laidMetH Tryd.prog laid2 w) (fun _ _ _ hh h => h.of_heap hh) own started (by kernel_rfl) Tryd.func6
    (ChangeSpec.witness_shaped (enc := enc) (C := Tryd.checked) (os := os) (X := fun w _ => laidMetH Tryd.prog laid2 w) false (World.doorLaid Tryd.prog 400 os) #[.slice none 0 0, .agg (w8s (List.replicate 32 0)), .slice none 0 0] 8 rfl (World.shaped_of_RefB (by kernel_rfl) (by kernel_rfl)) (by kernel_rfl) (by kernel_rfl) (by kernel_rfl) (door_met os _)) ?_
  intro W base args ds gs before hval0 hW _ hsz0 hL _
  have hval : ∀ (j : Nat) t v, Tryd.f6.params[j]? = some t → args[j]? = some v → Value.okWide Tryd.prog W .any base t v := hval0
  have hsz : (DataW.weightsEach Tryd.prog (Tryd.f6.params.toList ++ Rows.keyListsSpec.plain.varTypes Tryd.prog) (ds ++ gs)).all (· ≤ reachBytes) = true := hsz0
  have hW' := hW
  obtain ⟨p, q, hA0, hV, rfl, hfz, hnd⟩ := hW
  have hA : DataW.TrodAll enc Tryd.prog W 0 (fun _ => true) true Tryd.f6.params.toList args.toList ds p := hA0
  rw [Tryd.params6] at hA hval hsz
  obtain ⟨v0, vs0, d0, ds0, p0, q0, hargs, rfl, rfl, h0, r0⟩ := trodAll_cons hA
  obtain ⟨v1, vs1, d1, ds1, p1, q1, rfl, rfl, rfl, h1, r1⟩ := trodAll_cons r0
  obtain ⟨v2, vs2, d2, ds2, p2, q2, rfl, rfl, rfl, h2, r2⟩ := trodAll_cons r1
  obtain ⟨rfl, rfl, rfl⟩ := trodAll_nil r2
  obtain rfl : args = #[v0, v1, v2] := by cases args; simp_all
  obtain ⟨rfl, rfl⟩ := trodVars_none hV
  obtain ⟨b0, l0, cap0, rfl⟩ := okWide_slice Tryd.underlying22 (hval 0 22 v0 rfl rfl)
  have k0 := h0
  have lt0 : ∀ x ∈ p0, x.block < W.heap.size := by obtain ⟨m, hm⟩ := k0; exact DataW.trod_lt m _ _ _ hm
  obtain ⟨a0, c0, L0, e0, hc0, hs0, hb0⟩ : ∃ a c L, Value.slice b0 l0 cap0 = .slice a (List.length L) c ∧ L.length ≤ c ∧ Sl W a c L ∧ (∀ x, x ∈ L → W8 x) := by
    obtain ⟨fuel, hf⟩ := h0
    obtain ⟨a, c, L, e, hc, hs, hb, -, -⟩ := bytes_arg hf
    exact ⟨a, c, L, by simpa [Value.cells] using e, hc, hs, hb⟩
  obtain ⟨rfl, rfl, rfl⟩ : b0 = a0 ∧ l0 = L0.length ∧ cap0 = c0 := by simpa using e0
  have k1 := h1
  have lt1 : ∀ x ∈ p1, x.block < W.heap.size := by obtain ⟨m, hm⟩ := k1; exact DataW.trod_lt m _ _ _ hm
  obtain ⟨K1, rfl, hl1, hb1⟩ : ∃ K : List Int, v1 = .agg (w8s K) ∧ K.length = 32 ∧ ∀ x, x ∈ K → W8 x := by
    have hv := hval 1 25 v1 rfl rfl
    simp only [Value.okWide, (show Tryd.prog.underlying 25 = some (.array 32 5) by kernel_rfl)] at hv
    obtain ⟨cs, rfl, -⟩ := hv
    obtain ⟨fuel, hf⟩ := h1
    obtain ⟨K, e, hl, hb⟩ := key_arg hf
    refine ⟨K, ?_, hl, hb⟩
    obtain ⟨cl⟩ := cs
    have e2 : cl = K.map (Value.int .u8) := e
    rw [e2]
  obtain ⟨b2, l2, cap2, rfl⟩ := okWide_slice Tryd.underlying36 (hval 2 36 v2 rfl rfl)
  have k2 := h2
  have lt2 : ∀ x ∈ p2, x.block < W.heap.size := by obtain ⟨m, hm⟩ := k2; exact DataW.trod_lt m _ _ _ hm
  obtain ⟨a2, c2, L2, e2, hc2, hr2⟩ : ∃ a c Ks, Value.slice b2 l2 cap2 = .slice a (List.length Ks) c ∧ Ks.length ≤ c ∧ Rk W a Ks := by
    obtain ⟨fuel, hf⟩ := h2
    obtain ⟨a, c, Ks, e, hc, hr⟩ := keys_arg hf
    exact ⟨a, c, Ks, by simpa [Value.cells] using e, hc, hr⟩
  obtain ⟨rfl, rfl, rfl⟩ : b2 = a2 ∧ l2 = L2.length ∧ cap2 = c2 := by simpa using e2
  clear hA0 hval0
  refine (walk b0 cap0 L0 K1 b2 cap2 L2 W hc0 hs0 hb0 hl1 hb1 hc2 hr2 (glob_of_laid hL)).mono fun e W' ⟨he, bel⟩ => ?_
  subst he
  exact ⟨_, rfl, _, _, _, [], _, [], hW', trodAll_mk1 (shut_bool Tryd.underlying4 _), (trodAll_cons_mk (Below.trod laidOut (by kernel_rfl) (of_decide_eq_true (by kernel_rfl)) k0 bel lt0) (trodAll_cons_mk (Below.trod laidOut (by kernel_rfl) (of_decide_eq_true (by kernel_rfl)) k1 bel lt1) (trodAll_cons_mk (Below.trod laidOut (by kernel_rfl) (of_decide_eq_true (by kernel_rfl)) k2 bel lt2) trodAll_mk0))), rfl, bel.frame _, fun h => by cases h⟩

theorem over : Rows.keyListsRow.holds Tryd.pinned (OpenSpec.ofChange Rows.keyListsSpec) :=
  OpenClaim.holds_of_wide 6 Tryd.f6 rfl rfl rfl rfl rfl rfl rfl ⟨rfl, rfl, rfl, rfl, rfl⟩ rfl rfl rfl rfl rfl (by kernel_rfl) Tryd.func6 (by kernel_rfl)
    (of_decide_eq_true (by kernel_rfl)) (by unfold Func.isWrapper; first | (rw [if_pos (by decide +kernel)]; kernel_rfl) | (rw [if_neg (by decide +kernel)]; exact ⟨rfl, rfl⟩))
    (fun os started H enc _ => lifted os started H enc)
end Go.Proofs.YtapojahoaglgaaaDoor.keyLists
namespace Go.Proofs.YtapojahoaglgaaaDoor
open Go

/-- ████ THE STATEMENT ████ -/
theorem keyLists_holds : Rows.KeyListsCardSaid :=
  Claim7.holds_tied_plain_at .later [] [.data, .data] true (true, "70b70e7da48b87d5b1ef5dcafc6a14e8484e50ca6e94e176ae98d4df4870a499") false
    keyLists.over (fun _ h => by cases h) (by kernel_rfl) (fun _ h => by cases h) keyLists_row_tie rfl ⟨rfl, rfl⟩ (by kernel_rfl) rfl
    (fun f fn hf hfn => by
      obtain rfl : f = 6 := Option.some.inj ((show Tryd.prog.funcNamed "mempool/mempoollaw5.KeyLists" = some 6 by kernel_rfl).symm.trans hf) |>.symm
      obtain rfl : fn = Tryd.f6 := (Option.some.inj (Tryd.func6.symm.trans hfn)).symm
      exact ⟨by kernel_rfl, fun j t ht => by
        rw [Tryd.params6] at ht
        have hm : t ∈ [22, 25, 36] := by simpa using Array.mem_of_getElem? ht
        have hall : ([22, 25, 36].all fun u => !Tryd.prog.wantsStandIn u) = true := by kernel_rfl
        exact (show Tryd.prog.wantsStandIn t = false by simpa using List.all_eq_true.1 hall t hm)⟩)
    (by kernel_rfl)
#print axioms keyLists_holds
end Go.Proofs.YtapojahoaglgaaaDoor
