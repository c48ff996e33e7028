/-
  For every list of at most 100 bytes, of which leaves are made, every leaf among them, every way of changing its root, bytes, number, count or path, and any key and numbers, Verify gives the reference's answer; the fixed example returns true. Condition: the two package-level variables of package sha read as the program's text lays them (tied by the card).
-/
import Derived.Test.YtbhnbcpllhefgaaDoorMD4
import Derived.Test.YtbhnbcpllhefgaaDoorPC
import Derived.Test.YtbhnbcpllhefgaaDoorCards
import Derived.Test.YtbhnbcpllhefgaaDoorTie
import Derived.SevenTiedAt
import Derived.ChangeOld
namespace Go.Proofs.YtbhnbcpllhefgaaDoor.merkleRefuses
open Go.ChangeShapes Go.WideShapes Go.ChangeAt Go.RowKit
set_option linter.unusedVariables false
set_option linter.unusedSimpArgs false

theorem i64_of_wf {x : Int} (h : (Lit.int .i64 x).wf = true) : -9223372036854775808 ≤ x ∧ x ≤ 9223372036854775807 := by
  simp [Lit.wf, IntKind.min, IntKind.max, IntKind.signed, IntKind.bits] at h
  exact ⟨by omega, by omega⟩
theorem walk (a0 : Option Addr) (c0 : Nat) (L0 : List Int) (a1 : Int) (a2 : Int) (a3 : Int) (K4 : List Int) (a5 : Int) (a6 : Int) (w : World) (hc0 : L0.length ≤ c0) (hs0 : Sl w a0 c0 L0) (hb0 : ∀ x, x ∈ L0 → W8 x) (w1 : W8 a1) (w2 : W8 a2) (w3 : W8 a3) (hl4 : K4.length = 32) (hb4 : ∀ x, x ∈ K4 → W8 x) (w5 : -9223372036854775808 ≤ a5 ∧ a5 ≤ 9223372036854775807) (w6 : -9223372036854775808 ≤ a6 ∧ a6 ≤ 9223372036854775807) (hG : Glob w) :
    Calls Tryd.prog 6 #[.slice a0 L0.length c0, .int .u8 a1, .int .u8 a2, .int .u8 a3, .agg (w8s K4), .int .i64 a5, .int .i64 a6] w fun e w' => e = .returned (.bool true) ∧ Below w.heap.size w w' := by
  exact refuses_core ⟨proot_C, pinner_C, pleaf_C, pproof_any, pver_any⟩ a0 c0 L0 a1 a2 a3 K4 a5 a6 w hc0 hs0 hb0 w1 w2 w3 hl4 hb4 w5 w6 hG

set_option maxRecDepth 100000 in
theorem lifted (os : Os) (started : os.Started) (H : Type) (enc : TypeId × Value → H) :
    ReturnsInHanded {} Tryd.checked os 6 .any (fun w args => (Rows.merkleRefusesSpec.pre enc Tryd.prog Tryd.f6 [] false w args ∧ laidMetH Tryd.prog laid2 w) ∧ sizedMet enc Tryd.prog Tryd.f6 (OpenSpec.ofChange Rows.merkleRefusesSpec) false w args)
      (Rows.merkleRefusesSpec.post enc Tryd.prog Tryd.f6 false true false false) := by
  refine returnsInHanded_of_change_and (C := Tryd.checked) (X := fun w _ => laidMetH Tryd.prog laid2 w) (fun _ _ _ hh h => h.of_heap hh) own started (by kernel_rfl) Tryd.func6
    (ChangeSpec.witness_shaped (enc := enc) (C := Tryd.checked) (os := os) (X := fun w _ => laidMetH Tryd.prog laid2 w) false (World.doorLaid Tryd.prog 400 os) #[.slice none 0 0, .int .u8 0, .int .u8 0, .int .u8 0, .agg (w8s (List.replicate 32 0)), .int .i64 0, .int .i64 0] 8 rfl (World.shaped_of_RefB (by kernel_rfl) (by kernel_rfl)) (by kernel_rfl) (by kernel_rfl) (by kernel_rfl) (door_met os _)) ?_
  intro W base args ds gs before hval0 hW _ hsz0 hL _
  have hval : ∀ (j : Nat) t v, Tryd.f6.params[j]? = some t → args[j]? = some v → Value.okWide Tryd.prog W .any base t v := hval0
  have hsz : (DataW.weightsEach Tryd.prog (Tryd.f6.params.toList ++ Rows.merkleRefusesSpec.plain.varTypes Tryd.prog) (ds ++ gs)).all (· ≤ reachBytes) = true := hsz0
  have hW' := hW
  obtain ⟨p, q, hA0, hV, rfl, hfz, hnd⟩ := hW
  have hA : DataW.TrodAll enc Tryd.prog W 0 (fun _ => true) true Tryd.f6.params.toList args.toList ds p := hA0
  rw [Tryd.params6] at hA hval hsz
  obtain ⟨v0, vs0, d0, ds0, p0, q0, hargs, rfl, rfl, h0, r0⟩ := trodAll_cons hA
  obtain ⟨v1, vs1, d1, ds1, p1, q1, rfl, rfl, rfl, h1, r1⟩ := trodAll_cons r0
  obtain ⟨v2, vs2, d2, ds2, p2, q2, rfl, rfl, rfl, h2, r2⟩ := trodAll_cons r1
  obtain ⟨v3, vs3, d3, ds3, p3, q3, rfl, rfl, rfl, h3, r3⟩ := trodAll_cons r2
  obtain ⟨v4, vs4, d4, ds4, p4, q4, rfl, rfl, rfl, h4, r4⟩ := trodAll_cons r3
  obtain ⟨v5, vs5, d5, ds5, p5, q5, rfl, rfl, rfl, h5, r5⟩ := trodAll_cons r4
  obtain ⟨v6, vs6, d6, ds6, p6, q6, rfl, rfl, rfl, h6, r6⟩ := trodAll_cons r5
  obtain ⟨rfl, rfl, rfl⟩ := trodAll_nil r6
  obtain rfl : args = #[v0, v1, v2, v3, v4, v5, v6] := by cases args; simp_all
  obtain ⟨rfl, rfl⟩ := trodVars_none hV
  obtain ⟨b0, l0, cap0, rfl⟩ := okWide_slice Tryd.underlying25 (hval 0 25 v0 rfl rfl)
  have k0 := h0
  have lt0 : ∀ x ∈ p0, x.block < W.heap.size := by obtain ⟨m, hm⟩ := k0; exact DataW.trod_lt m _ _ _ hm
  obtain ⟨a0, c0, L0, e0, hc0, hs0, hb0⟩ : ∃ a c L, Value.slice b0 l0 cap0 = .slice a (List.length L) c ∧ L.length ≤ c ∧ Sl W a c L ∧ (∀ x, x ∈ L → W8 x) := by
    obtain ⟨fuel, hf⟩ := h0
    obtain ⟨a, c, L, e, hc, hs, hb, -, -⟩ := bytes_arg hf
    exact ⟨a, c, L, by simpa [Value.cells] using e, hc, hs, hb⟩
  obtain ⟨rfl, rfl, rfl⟩ : b0 = a0 ∧ l0 = L0.length ∧ cap0 = c0 := by simpa using e0
  obtain ⟨a1, rfl, rfl, rfl, x1⟩ := open_int Tryd.underlying5 (hval 1 5 v1 rfl rfl) h1
  obtain ⟨a2, rfl, rfl, rfl, x2⟩ := open_int Tryd.underlying5 (hval 2 5 v2 rfl rfl) h2
  obtain ⟨a3, rfl, rfl, rfl, x3⟩ := open_int Tryd.underlying5 (hval 3 5 v3 rfl rfl) h3
  have k4 := h4
  have lt4 : ∀ x ∈ p4, x.block < W.heap.size := by obtain ⟨m, hm⟩ := k4; exact DataW.trod_lt m _ _ _ hm
  obtain ⟨K4, rfl, hl4, hb4⟩ : ∃ K : List Int, v4 = .agg (w8s K) ∧ K.length = 32 ∧ ∀ x, x ∈ K → W8 x := by
    have hv := hval 4 24 v4 rfl rfl
    simp only [Value.okWide, (show Tryd.prog.underlying 24 = some (.array 32 5) by kernel_rfl)] at hv
    obtain ⟨cs, rfl, -⟩ := hv
    obtain ⟨fuel, hf⟩ := h4
    obtain ⟨K, e, hl, hb⟩ := key_arg hf
    refine ⟨K, ?_, hl, hb⟩
    obtain ⟨cl⟩ := cs
    have e2 : cl = K.map (Value.int .u8) := e
    rw [e2]
  obtain ⟨a5, rfl, rfl, rfl, x5⟩ := open_int Tryd.underlying3 (hval 5 3 v5 rfl rfl) h5
  obtain ⟨a6, rfl, rfl, rfl, x6⟩ := open_int Tryd.underlying3 (hval 6 3 v6 rfl rfl) h6
  clear hA0 hval0
  refine (walk b0 cap0 L0 a1 a2 a3 K4 a5 a6 W hc0 hs0 hb0 (byte_of_wf x1) (byte_of_wf x2) (byte_of_wf x3) hl4 hb4 (i64_of_wf x5) (i64_of_wf x6) (glob_of_laid hL)).mono fun e W' ⟨he, bel⟩ => ?_
  subst he
  exact ⟨_, rfl, _, _, _, [], _, [], hW', trodAll_mk1 (shut_bool Tryd.underlying4 _), (trodAll_cons_mk (Below.trod laidOut (by kernel_rfl) (of_decide_eq_true (by kernel_rfl)) k0 bel lt0) (trodAll_cons_mk (shut_int Tryd.underlying5 x1) (trodAll_cons_mk (shut_int Tryd.underlying5 x2) (trodAll_cons_mk (shut_int Tryd.underlying5 x3) (trodAll_cons_mk (Below.trod laidOut (by kernel_rfl) (of_decide_eq_true (by kernel_rfl)) k4 bel lt4) (trodAll_cons_mk (shut_int Tryd.underlying3 x5) (trodAll_cons_mk (shut_int Tryd.underlying3 x6) trodAll_mk0))))))), rfl, bel.frame _, fun h => by cases h⟩

theorem over : Rows.merkleRefusesRow.holds Tryd.pinned (OpenSpec.ofChange Rows.merkleRefusesSpec) :=
  OpenClaim.holds_of_wide 6 Tryd.f6 rfl rfl rfl rfl rfl rfl rfl ⟨rfl, rfl, rfl, rfl, rfl⟩ rfl rfl rfl rfl rfl (by kernel_rfl) Tryd.func6 (by kernel_rfl)
    (of_decide_eq_true (by kernel_rfl)) (by unfold Func.isWrapper; first | (rw [if_pos (by decide +kernel)]; kernel_rfl) | (rw [if_neg (by decide +kernel)]; exact ⟨rfl, rfl⟩))
    (fun os started H enc _ => lifted os started H enc)
end Go.Proofs.YtbhnbcpllhefgaaDoor.merkleRefuses
namespace Go.Proofs.YtbhnbcpllhefgaaDoor
open Go

/-- ████ THE STATEMENT ████ -/
theorem merkleRefuses_holds : Rows.MerkleRefusesCardSaid :=
  Claim7.holds_tied_plain_at .later [] [.data, .data] true (true, "6d5361ffce38a3cf248f058b9559807a6a0767e8c52b1a1e54adc433b3cfc4bc") false
    merkleRefuses.over (fun _ h => by cases h) (by kernel_rfl) (fun _ h => by cases h) merkleRefuses_row_tie rfl ⟨rfl, rfl⟩ (by kernel_rfl) rfl
    (fun f fn hf hfn => by
      obtain rfl : f = 6 := Option.some.inj ((show Tryd.prog.funcNamed "mempool/mempoollaw6.MerkleRefuses" = some 6 by kernel_rfl).symm.trans hf) |>.symm
      obtain rfl : fn = Tryd.f6 := (Option.some.inj (Tryd.func6.symm.trans hfn)).symm
      exact ⟨by kernel_rfl, fun j t ht => by
        rw [Tryd.params6] at ht
        have hm : t ∈ [25, 5, 5, 5, 24, 3, 3] := by simpa using Array.mem_of_getElem? ht
        have hall : ([25, 5, 5, 5, 24, 3, 3].all fun u => !Tryd.prog.wantsStandIn u) = true := by kernel_rfl
        exact (show Tryd.prog.wantsStandIn t = false by simpa using List.all_eq_true.1 hall t hm)⟩)
    (by kernel_rfl)
#print axioms merkleRefuses_holds
end Go.Proofs.YtbhnbcpllhefgaaDoor
