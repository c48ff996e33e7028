/-
  For all two slices of bytes, two Digests that are written to in turns have the reference's digests, a nil Digest has none, and the fixed example returns true. Condition: the two package-level variables of package sha read as the program's text lays them (tied by the card).
-/
import Derived.Test.YtfmfoangndladaaDoorDI
import Derived.Test.YtfmfoangndladaaDoorP1
import Derived.Test.YtfmfoangndladaaDoorCards
import Derived.Test.YtfmfoangndladaaDoorTie
import Derived.SevenTiedAt
import Derived.ChangeOld
namespace Go.Proofs.YtfmfoangndladaaDoor.shaIndependent
open Go.ChangeShapes Go.WideShapes Go.ChangeAt Go.RowKit
set_option linter.unusedVariables false
set_option linter.unusedSimpArgs false

theorem walk (a0 : Option Addr) (c0 : Nat) (L0 : List Int) (a1 : Option Addr) (c1 : Nat) (L1 : List Int) (w : World) (hc0 : L0.length ≤ c0) (hs0 : Sl w a0 c0 L0) (hb0 : ∀ x, x ∈ L0 → W8 x) (hm0 : c0 ≤ 140737488351232) (hc1 : L1.length ≤ c1) (hs1 : Sl w a1 c1 L1) (hb1 : ∀ x, x ∈ L1 → W8 x) (hm1 : c1 ≤ 140737488351232) (hG : Glob w) :
    Calls Tryd.prog 5 #[.slice a0 L0.length c0, .slice a1 L1.length c1] w fun e w' => e = .returned (.bool true) ∧ Below w.heap.size w w' := by
  by_cases hl : L0.length + L1.length ≤ 300
  · exact ind_core a0 c0 L0 a1 c1 L1 w hc0 hs0 hb0 hc1 hs1 hb1 hl hG
  · exact ind_long a0 L0.length c0 a1 L1.length c1 w (by omega) (by omega) (by omega) hG

set_option maxRecDepth 100000 in
theorem lifted (os : Os) (started : os.Started) (H : Type) (enc : TypeId × Value → H) :
    ReturnsInHanded {} Tryd.checked os 5 .any (fun w args => (Rows.shaIndependentSpec.pre enc Tryd.prog Tryd.f5 [] false w args ∧ laidMetH Tryd.prog laid2 w) ∧ sizedMet enc Tryd.prog Tryd.f5 (OpenSpec.ofChange Rows.shaIndependentSpec) false w args)
      (Rows.shaIndependentSpec.post enc Tryd.prog Tryd.f5 false true false false) := by
  refine returnsInHanded_of_change_and (C := Tryd.checked) (X := fun w _ => laidMetH Tryd.prog laid2 w) (fun _ _ _ hh h => h.of_heap hh) own started (by kernel_rfl) Tryd.func5
    (ChangeSpec.witness_shaped (enc := enc) (C := Tryd.checked) (os := os) (X := fun w _ => laidMetH Tryd.prog laid2 w) false (World.doorLaid Tryd.prog 400 os) #[.slice none 0 0, .slice none 0 0] 8 rfl (World.shaped_of_RefB (by kernel_rfl) (by kernel_rfl)) (by kernel_rfl) (by kernel_rfl) (by kernel_rfl) (door_met os _)) ?_
  intro W base args ds gs before hval0 hW _ hsz0 hL _
  have hval : ∀ (j : Nat) t v, Tryd.f5.params[j]? = some t → args[j]? = some v → Value.okWide Tryd.prog W .any base t v := hval0
  have hsz : (DataW.weightsEach Tryd.prog (Tryd.f5.params.toList ++ Rows.shaIndependentSpec.plain.varTypes Tryd.prog) (ds ++ gs)).all (· ≤ reachBytes) = true := hsz0
  have hW' := hW
  obtain ⟨p, q, hA0, hV, rfl, hfz, hnd⟩ := hW
  have hA : DataW.TrodAll enc Tryd.prog W 0 (fun _ => true) true Tryd.f5.params.toList args.toList ds p := hA0
  rw [Tryd.params5] at hA hval hsz
  obtain ⟨v0, vs0, d0, ds0, p0, q0, hargs, rfl, rfl, h0, r0⟩ := trodAll_cons hA
  obtain ⟨v1, vs1, d1, ds1, p1, q1, rfl, rfl, rfl, h1, r1⟩ := trodAll_cons r0
  obtain ⟨rfl, rfl, rfl⟩ := trodAll_nil r1
  obtain rfl : args = #[v0, v1] := by cases args; simp_all
  obtain ⟨rfl, rfl⟩ := trodVars_none hV
  obtain ⟨b0, l0, cap0, rfl⟩ := okWide_slice Tryd.underlying22 (hval 0 22 v0 rfl rfl)
  have k0 := h0
  have lt0 : ∀ x ∈ p0, x.block < W.heap.size := by obtain ⟨m, hm⟩ := k0; exact DataW.trod_lt m _ _ _ hm
  obtain ⟨a0, c0, L0, e0, hc0, hs0, hb0, hm0⟩ : ∃ a c L, Value.slice b0 l0 cap0 = .slice a L.length c ∧ L.length ≤ c ∧ Sl W a c L ∧ (∀ x, x ∈ L → W8 x) ∧ c ≤ 140737488351232 := by
    obtain ⟨fuel, hf⟩ := h0
    obtain ⟨a, c, L, e, hc, hs, hb, -, hd⟩ := bytes_arg hf
    refine ⟨a, c, L, by simpa [Value.cells] using e, hc, hs, hb, ?_⟩
    rcases hd with ⟨-, rfl⟩ | ⟨el, sp, hd, hl⟩
    · omega
    · have := sized_slice hsz (j := 0) (t := 22) (e := 5) (elems := el) (spare := sp) rfl (by simp only [List.getElem?_cons_zero, List.getElem?_cons_succ, List.cons_append]; rw [← hd]) Tryd.underlying22
      rw [show Tryd.prog.bytesOf 5 = 1 from (by kernel_rfl), hl] at this
      unfold reachBytes at this
      omega
  obtain ⟨rfl, rfl, rfl⟩ : b0 = a0 ∧ l0 = L0.length ∧ cap0 = c0 := by simpa using e0
  obtain ⟨b1, l1, cap1, rfl⟩ := okWide_slice Tryd.underlying22 (hval 1 22 v1 rfl rfl)
  have k1 := h1
  have lt1 : ∀ x ∈ p1, x.block < W.heap.size := by obtain ⟨m, hm⟩ := k1; exact DataW.trod_lt m _ _ _ hm
  obtain ⟨a1, c1, L1, e1, hc1, hs1, hb1, hm1⟩ : ∃ a c L, Value.slice b1 l1 cap1 = .slice a L.length c ∧ L.length ≤ c ∧ Sl W a c L ∧ (∀ x, x ∈ L → W8 x) ∧ c ≤ 140737488351232 := by
    obtain ⟨fuel, hf⟩ := h1
    obtain ⟨a, c, L, e, hc, hs, hb, -, hd⟩ := bytes_arg hf
    refine ⟨a, c, L, by simpa [Value.cells] using e, hc, hs, hb, ?_⟩
    rcases hd with ⟨-, rfl⟩ | ⟨el, sp, hd, hl⟩
    · omega
    · have := sized_slice hsz (j := 1) (t := 22) (e := 5) (elems := el) (spare := sp) rfl (by simp only [List.getElem?_cons_zero, List.getElem?_cons_succ, List.cons_append]; rw [← hd]) Tryd.underlying22
      rw [show Tryd.prog.bytesOf 5 = 1 from (by kernel_rfl), hl] at this
      unfold reachBytes at this
      omega
  obtain ⟨rfl, rfl, rfl⟩ : b1 = a1 ∧ l1 = L1.length ∧ cap1 = c1 := by simpa using e1
  clear hA0 hval0
  refine (walk b0 cap0 L0 b1 cap1 L1 W hc0 hs0 hb0 hm0 hc1 hs1 hb1 hm1 (glob_of_laid hL)).mono fun e W' ⟨he, bel⟩ => ?_
  subst he
  exact ⟨_, rfl, _, _, _, [], _, [], hW', trodAll_mk1 (shut_bool Tryd.underlying4 _), (trodAll_cons_mk (Below.trod laidOut (by kernel_rfl) (of_decide_eq_true (by kernel_rfl)) k0 bel lt0) (trodAll_cons_mk (Below.trod laidOut (by kernel_rfl) (of_decide_eq_true (by kernel_rfl)) k1 bel lt1) trodAll_mk0)), rfl, bel.frame _, fun h => by cases h⟩

theorem over : Rows.shaIndependentRow.holds Tryd.pinned (OpenSpec.ofChange Rows.shaIndependentSpec) :=
  OpenClaim.holds_of_wide 5 Tryd.f5 rfl rfl rfl rfl rfl rfl rfl ⟨rfl, rfl, rfl, rfl, rfl⟩ rfl rfl rfl rfl rfl (by kernel_rfl) Tryd.func5 (by kernel_rfl)
    (of_decide_eq_true (by kernel_rfl)) (by unfold Func.isWrapper; first | (rw [if_pos (by decide +kernel)]; kernel_rfl) | (rw [if_neg (by decide +kernel)]; exact ⟨rfl, rfl⟩))
    (fun os started H enc _ => lifted os started H enc)
end Go.Proofs.YtfmfoangndladaaDoor.shaIndependent
namespace Go.Proofs.YtfmfoangndladaaDoor
open Go

/-- ████ THE STATEMENT ████ -/
theorem shaIndependent_holds : Rows.ShaIndependentCardSaid :=
  Claim7.holds_tied_plain_at .later [] [.data, .data] true (true, "9a33f89526a8d678de405eae18e85ca7ca0c393d57c53b1f686221e1c8123df2") false
    shaIndependent.over (fun _ h => by cases h) (by kernel_rfl) (fun _ h => by cases h) shaIndependent_row_tie rfl ⟨rfl, rfl⟩ (by kernel_rfl) rfl
    (fun f fn hf hfn => by
      obtain rfl : f = 5 := Option.some.inj ((show Tryd.prog.funcNamed "mempool/mempoollaw4.ShaIndependent" = some 5 by kernel_rfl).symm.trans hf) |>.symm
      obtain rfl : fn = Tryd.f5 := (Option.some.inj (Tryd.func5.symm.trans hfn)).symm
      exact ⟨by kernel_rfl, fun j t ht => by
        rw [Tryd.params5] at ht
        have hm : t ∈ [22, 22] := by simpa using Array.mem_of_getElem? ht
        have hall : ([22, 22].all fun u => !Tryd.prog.wantsStandIn u) = true := by kernel_rfl
        exact (show Tryd.prog.wantsStandIn t = false by simpa using List.all_eq_true.1 hall t hm)⟩)
    (by kernel_rfl)
#print axioms shaIndependent_holds
end Go.Proofs.YtfmfoangndladaaDoor
