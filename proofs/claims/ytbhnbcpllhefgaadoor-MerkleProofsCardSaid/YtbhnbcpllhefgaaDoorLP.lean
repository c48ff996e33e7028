/-
  For every list of at most 40 leaves with at most 300 bytes and leaves together, every list of at most 100 bytes, of which leaves are made, and every number, Proof gives the reference's path, or says with it that there is none; the fixed example returns true. Condition: the two package-level variables of package sha read as the program's text lays them (tied by the card).
-/
import Derived.Test.YtbhnbcpllhefgaaDoorMD2
import Derived.Test.YtbhnbcpllhefgaaDoorPC
import Derived.Test.YtbhnbcpllhefgaaDoorCards
import Derived.Test.YtbhnbcpllhefgaaDoorTie
import Derived.SevenTiedAt
import Derived.ChangeOld
namespace Go.Proofs.YtbhnbcpllhefgaaDoor.merkleProofs
open Go.ChangeShapes Go.WideShapes Go.ChangeAt Go.RowKit
set_option linter.unusedVariables false
set_option linter.unusedSimpArgs false

theorem i64_of_wf {x : Int} (h : (Lit.int .i64 x).wf = true) : -9223372036854775808 ≤ x ∧ x ≤ 9223372036854775807 := by
  simp [Lit.wf, IntKind.min, IntKind.max, IntKind.signed, IntKind.bits] at h
  exact ⟨by omega, by omega⟩
theorem walk (a0 : Option Addr) (c0 : Nat) (L0 : List (List Int)) (a1 : Int) (a2 : Option Addr) (c2 : Nat) (L2 : List Int) (a3 : Int) (a4 : Int) (w : World) (hc0 : L0.length ≤ c0) (hr0 : RA w a0 L0) (hn0 : L0.length ≤ 140737488351232) (w1 : -9223372036854775808 ≤ a1 ∧ a1 ≤ 9223372036854775807) (hc2 : L2.length ≤ c2) (hs2 : Sl w a2 c2 L2) (hb2 : ∀ x, x ∈ L2 → W8 x) (w3 : W8 a3) (w4 : W8 a4) (hG : Glob w) :
    Calls Tryd.prog 4 #[.slice a0 L0.length c0, .int .i64 a1, .slice a2 L2.length c2, .int .u8 a3, .int .u8 a4] w fun e w' => e = .returned (.bool true) ∧ Below w.heap.size w w' := by
  exact proofs_core ⟨proot_C, pinner_C, pleaf_C, pproof_any, pver_any⟩ a0 c0 L0 a1 a2 c2 L2 a3 a4 w hc0 hr0 hn0 w1 hc2 hs2 hb2 w3 w4 hG

set_option maxRecDepth 100000 in
theorem lifted (os : Os) (started : os.Started) (H : Type) (enc : TypeId × Value → H) :
    ReturnsInHanded {} Tryd.checked os 4 .any (fun w args => (Rows.merkleProofsSpec.pre enc Tryd.prog Tryd.f4 [] false w args ∧ laidMetH Tryd.prog laid2 w) ∧ sizedMet enc Tryd.prog Tryd.f4 (OpenSpec.ofChange Rows.merkleProofsSpec) false w args)
      (Rows.merkleProofsSpec.post enc Tryd.prog Tryd.f4 false true false false) := by
  refine returnsInHanded_of_change_and (C := Tryd.checked) (X := fun w _ => laidMetH Tryd.prog laid2 w) (fun _ _ _ hh h => h.of_heap hh) own started (by kernel_rfl) Tryd.func4
    (ChangeSpec.witness_shaped (enc := enc) (C := Tryd.checked) (os := os) (X := fun w _ => laidMetH Tryd.prog laid2 w) false (World.doorLaid Tryd.prog 400 os) #[.slice none 0 0, .int .i64 0, .slice none 0 0, .int .u8 0, .int .u8 0] 8 rfl (World.shaped_of_RefB (by kernel_rfl) (by kernel_rfl)) (by kernel_rfl) (by kernel_rfl) (by kernel_rfl) (door_met os _)) ?_
  intro W base args ds gs before hval0 hW _ hsz0 hL _
  have hval : ∀ (j : Nat) t v, Tryd.f4.params[j]? = some t → args[j]? = some v → Value.okWide Tryd.prog W .any base t v := hval0
  have hsz : (DataW.weightsEach Tryd.prog (Tryd.f4.params.toList ++ Rows.merkleProofsSpec.plain.varTypes Tryd.prog) (ds ++ gs)).all (· ≤ reachBytes) = true := hsz0
  have hW' := hW
  obtain ⟨p, q, hA0, hV, rfl, hfz, hnd⟩ := hW
  have hA : DataW.TrodAll enc Tryd.prog W 0 (fun _ => true) true Tryd.f4.params.toList args.toList ds p := hA0
  rw [Tryd.params4] at hA hval hsz
  obtain ⟨v0, vs0, d0, ds0, p0, q0, hargs, rfl, rfl, h0, r0⟩ := trodAll_cons hA
  obtain ⟨v1, vs1, d1, ds1, p1, q1, rfl, rfl, rfl, h1, r1⟩ := trodAll_cons r0
  obtain ⟨v2, vs2, d2, ds2, p2, q2, rfl, rfl, rfl, h2, r2⟩ := trodAll_cons r1
  obtain ⟨v3, vs3, d3, ds3, p3, q3, rfl, rfl, rfl, h3, r3⟩ := trodAll_cons r2
  obtain ⟨v4, vs4, d4, ds4, p4, q4, rfl, rfl, rfl, h4, r4⟩ := trodAll_cons r3
  obtain ⟨rfl, rfl, rfl⟩ := trodAll_nil r4
  obtain rfl : args = #[v0, v1, v2, v3, v4] := by cases args; simp_all
  obtain ⟨rfl, rfl⟩ := trodVars_none hV
  obtain ⟨b0, l0, cap0, rfl⟩ := okWide_slice Tryd.underlying22 (hval 0 22 v0 rfl rfl)
  have k0 := h0
  have lt0 : ∀ x ∈ p0, x.block < W.heap.size := by obtain ⟨m, hm⟩ := k0; exact DataW.trod_lt m _ _ _ hm
  obtain ⟨a0, c0, L0, e0, hc0, hr0, hn0⟩ : ∃ a c ls, Value.slice b0 l0 cap0 = .slice a (List.length ls) c ∧ ls.length ≤ c ∧ RA W a ls ∧ ls.length ≤ 140737488351232 := by
    obtain ⟨fuel, hf⟩ := h0
    obtain ⟨a, c, ls, e, hc, hr, hn⟩ := rows_arg hf (fun n hn => of_decide_eq_true (List.all_eq_true.1 hsz _ (DataW.weights_mem_each (j := 0) (t := 22) rfl rfl n hn)))
    exact ⟨a, c, ls, by simpa [Value.cells] using e, hc, hr, hn⟩
  obtain ⟨rfl, rfl, rfl⟩ : b0 = a0 ∧ l0 = L0.length ∧ cap0 = c0 := by simpa using e0
  obtain ⟨a1, rfl, rfl, rfl, x1⟩ := open_int Tryd.underlying3 (hval 1 3 v1 rfl rfl) h1
  obtain ⟨b2, l2, cap2, rfl⟩ := okWide_slice Tryd.underlying25 (hval 2 25 v2 rfl rfl)
  have k2 := h2
  have lt2 : ∀ x ∈ p2, x.block < W.heap.size := by obtain ⟨m, hm⟩ := k2; exact DataW.trod_lt m _ _ _ hm
  obtain ⟨a2, c2, L2, e2, hc2, hs2, hb2⟩ : ∃ a c L, Value.slice b2 l2 cap2 = .slice a (List.length L) c ∧ L.length ≤ c ∧ Sl W a c L ∧ (∀ x, x ∈ L → W8 x) := by
    obtain ⟨fuel, hf⟩ := h2
    obtain ⟨a, c, L, e, hc, hs, hb, -, -⟩ := bytes_arg hf
    exact ⟨a, c, L, by simpa [Value.cells] using e, hc, hs, hb⟩
  obtain ⟨rfl, rfl, rfl⟩ : b2 = a2 ∧ l2 = L2.length ∧ cap2 = c2 := by simpa using e2
  obtain ⟨a3, rfl, rfl, rfl, x3⟩ := open_int Tryd.underlying5 (hval 3 5 v3 rfl rfl) h3
  obtain ⟨a4, rfl, rfl, rfl, x4⟩ := open_int Tryd.underlying5 (hval 4 5 v4 rfl rfl) h4
  clear hA0 hval0
  refine (walk b0 cap0 L0 a1 b2 cap2 L2 a3 a4 W hc0 hr0 hn0 (i64_of_wf x1) hc2 hs2 hb2 (byte_of_wf x3) (byte_of_wf x4) (glob_of_laid hL)).mono fun e W' ⟨he, bel⟩ => ?_
  subst he
  exact ⟨_, rfl, _, _, _, [], _, [], hW', trodAll_mk1 (shut_bool Tryd.underlying4 _), (trodAll_cons_mk (Below.trod laidOut (by kernel_rfl) (of_decide_eq_true (by kernel_rfl)) k0 bel lt0) (trodAll_cons_mk (shut_int Tryd.underlying3 x1) (trodAll_cons_mk (Below.trod laidOut (by kernel_rfl) (of_decide_eq_true (by kernel_rfl)) k2 bel lt2) (trodAll_cons_mk (shut_int Tryd.underlying5 x3) (trodAll_cons_mk (shut_int Tryd.underlying5 x4) trodAll_mk0))))), rfl, bel.frame _, fun h => by cases h⟩

theorem over : Rows.merkleProofsRow.holds Tryd.pinned (OpenSpec.ofChange Rows.merkleProofsSpec) :=
  OpenClaim.holds_of_wide 4 Tryd.f4 rfl rfl rfl rfl rfl rfl rfl ⟨rfl, rfl, rfl, rfl, rfl⟩ rfl rfl rfl rfl rfl (by kernel_rfl) Tryd.func4 (by kernel_rfl)
    (of_decide_eq_true (by kernel_rfl)) (by unfold Func.isWrapper; first | (rw [if_pos (by decide +kernel)]; kernel_rfl) | (rw [if_neg (by decide +kernel)]; exact ⟨rfl, rfl⟩))
    (fun os started H enc _ => lifted os started H enc)
end Go.Proofs.YtbhnbcpllhefgaaDoor.merkleProofs
namespace Go.Proofs.YtbhnbcpllhefgaaDoor
open Go

/-- ████ THE STATEMENT ████ -/
theorem merkleProofs_holds : Rows.MerkleProofsCardSaid :=
  Claim7.holds_tied_plain_at .later [] [.data, .data] true (true, "6d5361ffce38a3cf248f058b9559807a6a0767e8c52b1a1e54adc433b3cfc4bc") false
    merkleProofs.over (fun _ h => by cases h) (by kernel_rfl) (fun _ h => by cases h) merkleProofs_row_tie rfl ⟨rfl, rfl⟩ (by kernel_rfl) rfl
    (fun f fn hf hfn => by
      obtain rfl : f = 4 := Option.some.inj ((show Tryd.prog.funcNamed "mempool/mempoollaw6.MerkleProofs" = some 4 by kernel_rfl).symm.trans hf) |>.symm
      obtain rfl : fn = Tryd.f4 := (Option.some.inj (Tryd.func4.symm.trans hfn)).symm
      exact ⟨by kernel_rfl, fun j t ht => by
        rw [Tryd.params4] at ht
        have hm : t ∈ [22, 3, 25, 5, 5] := by simpa using Array.mem_of_getElem? ht
        have hall : ([22, 3, 25, 5, 5].all fun u => !Tryd.prog.wantsStandIn u) = true := by kernel_rfl
        exact (show Tryd.prog.wantsStandIn t = false by simpa using List.all_eq_true.1 hall t hm)⟩)
    (by kernel_rfl)
#print axioms merkleProofs_holds
end Go.Proofs.YtbhnbcpllhefgaaDoor
