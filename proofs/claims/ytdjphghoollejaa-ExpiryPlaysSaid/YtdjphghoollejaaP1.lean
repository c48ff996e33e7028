/-
 Arguments opened: a slice of ints, an int.
 Conditions: none of their own.
-/
import Derived.Test.YtdjphghoollejaaRows
import Derived.Test.YtdjphghoollejaaCB
import Derived.ProofKit
import Derived.OpenShut
import Derived.ChangeOld
import Derived.Below
namespace Go.Proofs.Ytdjphghoollejaa
open Go.ChangeShapes Go.WideShapes Go.ChangeAt Go.RowKit

theorem i64_of_wf {x : Int} (h : (Lit.int .i64 x).wf = true) : I64 x := by
 simp [Lit.wf, IntKind.min, IntKind.max, IntKind.signed, IntKind.bits] at h
 exact ⟨by omega, by omega⟩
theorem ints_arg {H : Type} {enc : TypeId × Value → H} {W : World} {fuel : Nat} {cs : List Value} {y : DataW H × List MemPlace} (h : DataW.trod enc Try.prog W 0 (fun _ => true) true fuel 22 cs = some y) :
  ∃ a cap L, cs = [.slice a (List.length L) cap] ∧ L.length ≤ 9223372036854775807 ∧ Cs W a (icells L) := by
 rcases open_ints Try.underlying22 Try.underlying3 (by kernel_rfl) h with ⟨rfl, rfl⟩ | ⟨x, l, c, zs, rfl, _, hl, hm, hz, rfl, hcell, hwz⟩
 ·exact ⟨none, 0, [], rfl, by simp, Cs.nil _ _⟩
 ·have hz' : zs.length = c := by simpa using hz
  have hlen : (zs.take l).length = l := by rw [List.length_take]; omega
  refine ⟨some x, c, zs.take l, by rw [hlen], by rw [hlen]; unfold maxLen at hm; omega, fun j v hj => ?_⟩
  have hjl : j < (zs.take l).length := by
   have := (List.getElem?_eq_some_iff.1 hj).1
   simpa [icells] using this
  have hjz : j < zs.length := by omega
  obtain ⟨b, off, rfl, hc⟩ := ints_at hcell (by omega)
  rw [icells_at _ _ hjl] at hj
  simp only [Option.some.injEq] at hj
  have hcj := hc j hjz
  refine ⟨b, off, rfl, World.block_lt_of_cell? W _ hcj, ?_⟩
  rw [hcj, ← hj]
  simp [List.getD, show j < l by omega]
end Go.Proofs.Ytdjphghoollejaa
