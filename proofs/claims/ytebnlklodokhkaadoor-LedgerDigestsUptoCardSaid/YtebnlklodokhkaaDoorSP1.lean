/-
  The condition on the two variables opened; a byte and a slice of bytes opened.
-/
import Derived.Test.YtebnlklodokhkaaDoorRows
import Derived.Test.YtebnlklodokhkaaDoorSN0
import Derived.ProofKit
import Derived.OpenShut
import Derived.LaidMore
import Derived.Lib.LaidTab
import Derived.SizedLaws
import Derived.Stop.Joined
import Derived.Below
namespace Go.Proofs.YtebnlklodokhkaaDoor
set_option maxRecDepth 100000
open Go.ChangeShapes Go.WideShapes Go.ChangeAt Go.RowKit

theorem own : ownKnob Tryd.prog.godebug = none := by kernel_rfl
theorem laidOut : laidOutB Tryd.prog = true := by kernel_rfl
abbrev laid2 : List (String × DataW Unit) := [("mempool/sha.start", Rows.laid_mempool_sha_start), ("mempool/sha.constants", Rows.laid_mempool_sha_constants)]
theorem gn0 : Tryd.prog.globalNamed "mempool/sha.start" = some 0 := by kernel_rfl
theorem gn1 : Tryd.prog.globalNamed "mempool/sha.constants" = some 2 := by kernel_rfl
theorem gt0 : (Tryd.prog.globals[0]?).map (·.type) = some 95 := by kernel_rfl
theorem gt1 : (Tryd.prog.globals[2]?).map (·.type) = some 107 := by kernel_rfl

theorem row_of_var {w : World} {name : String} {g : Nat} {cs : Array Value} (hg : Tryd.prog.globalNamed name = some g) (h : w.var? Tryd.prog name = some cs) : ∃ t fr, w.heap[g]? = some (.cells cs t fr) := by
  simp only [World.var?, hg, Option.bind_some] at h
  split at h
  · rename_i c t fr e
    obtain rfl := Option.some.inj h
    exact ⟨t, fr, e⟩
  · cases h

/-- The door's own heap meets the condition. -/
theorem door_met (os : Os) (args : Array Value) : laidMetH Tryd.prog laid2 ((World.doorLaid Tryd.prog 400 os).forCall (fun _ _ => 0) ⟨#[], args, []⟩).memory :=
  laidMetH_of_parts3 (fuel := 8) (laidMet_of_run' 8 (by kernel_rfl) (by kernel_rfl)) (by kernel_rfl) (by kernel_rfl)

set_option maxRecDepth 100000 in
/-- What the condition gives the walks. -/
theorem glob_of_laid {W : World} (h : laidMetH Tryd.prog laid2 W) : Glob W := by
  rw [MakeChecks.laidMetH_plain _ _ _ (by kernel_rfl)] at h
  obtain ⟨ps, ⟨g0, t0, cs0, f0, p0, q0, hg0, ht0, hv0, hd0, ⟨g1, t1, cs1, f1, p1, q1, hg1, ht1, hv1, hd1, _, _⟩, _⟩, _, _⟩ := h
  obtain rfl := Option.some.inj (gn0.symm.trans hg0)
  obtain rfl := Option.some.inj (gn1.symm.trans hg1)
  obtain rfl := Option.some.inj (gt0.symm.trans ht0)
  obtain rfl := Option.some.inj (gt1.symm.trans ht1)
  have e0 := Lib.cells_of_tab (zs := h0s) (k := .u32) Tryd.underlying95 Tryd.underlying94 (by kernel_rfl) (by kernel_rfl) hd0
  have e1 := Lib.cells_of_tab (zs := ks) (k := .u32) Tryd.underlying107 Tryd.underlying94 (by kernel_rfl) (by kernel_rfl) hd1
  obtain ⟨t, fr, r0⟩ := row_of_var gn0 hv0
  obtain ⟨t', fr', r1⟩ := row_of_var gn1 hv1
  have c0 : cs0 = w32s h0s := by
    obtain ⟨l⟩ := cs0
    exact congrArg List.toArray e0
  have c1 : cs1 = w32s ks := by
    obtain ⟨l⟩ := cs1
    exact congrArg List.toArray e1
  subst c0 c1
  exact ⟨⟨t, fr, r0⟩, t', fr', r1⟩

theorem byte_of_wf {x : Int} (h : (Lit.int .u8 x).wf = true) : W8 x := by
  simp [Lit.wf, IntKind.min, IntKind.max, IntKind.signed, IntKind.bits] at h
  exact ⟨by omega, by omega⟩
theorem lits_length {H : Type} (k : IntKind) (zs : List Int) : (lits (H := H) k zs).length = zs.length := by simp [lits]

section
variable {H : Type} {enc : TypeId × Value → H} {W : World} {fuel : Nat}
theorem bytes_arg {cs : List Value} {y : DataW H × List MemPlace} (h : DataW.trod enc Tryd.prog W 0 (fun _ => true) true fuel 53 cs = some y) :
    ∃ a cap L, cs = [.slice a L.length cap] ∧ L.length ≤ cap ∧ Sl W a cap L ∧ (∀ x, x ∈ L → W8 x) ∧ cap ≤ maxLen ∧ ((y.1 = .nil ∧ cap = 0) ∨ ∃ e s, y.1 = .slice e s ∧ e.length + s.length = cap) := by
  rcases open_ints Tryd.underlying53 Tryd.underlying5 (by kernel_rfl) h with ⟨rfl, rfl⟩ | ⟨x, l, c, zs, rfl, _, hl, hm, hz, rfl, hcell, hwz⟩
  · exact ⟨none, 0, [], rfl, by simp, .inl ⟨rfl, rfl, rfl⟩, by simp, by simp [maxLen], .inl ⟨rfl, rfl⟩⟩
  · have hz' : zs.length = c := by simpa using hz
    have hlen : (zs.take l).length = l := by rw [List.length_take]; omega
    refine ⟨some x, c, zs.take l, by rw [hlen], by omega, .inr ⟨x, rfl, fun k hk => ?_⟩, fun y hy => byte_of_wf (hwz y (List.mem_of_mem_take hy)), hm, .inr ⟨_, _, rfl, ?_⟩⟩
    · obtain ⟨b, off, rfl, hc⟩ := ints_at hcell (by omega)
      refine ⟨b, off, rfl, ?_⟩
      rw [hc k (by omega), List.getD_eq_getElem?_getD, List.getD_eq_getElem?_getD, List.getElem?_take, if_pos (by omega)]
    · rw [lits_length, lits_length]
      simp
      omega
end
end Go.Proofs.YtebnlklodokhkaaDoor
