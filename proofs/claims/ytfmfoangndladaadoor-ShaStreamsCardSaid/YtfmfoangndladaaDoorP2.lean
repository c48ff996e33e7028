/-
  A slice of slices of bytes opened.
-/
import Derived.Test.YtfmfoangndladaaDoorP1
import Derived.Test.YtfmfoangndladaaDoorDT
import Derived.Deep.Slices
namespace Go.Proofs.YtfmfoangndladaaDoor
open Go.ChangeShapes Go.WideShapes Go.ChangeAt Go.RowKit Go.Deep

theorem weights_all {H : Type} {P : Program} {e : TypeId} {d : DataW H} : ∀ {l : List (DataW H)}, d ∈ l → ∀ n ∈ d.weights P e, n ∈ DataW.weightsAll P e l
  | x :: r, hd, n, hn => by
    simp only [DataW.weightsAll, List.mem_append]
    rcases List.mem_cons.1 hd with rfl | h
    · exact .inl hn
    · exact .inr (weights_all h n hn)

section
variable {H : Type} {enc : TypeId × Value → H} {W : World} {fuel : Nat}
theorem rows_arg {cs : List Value} {y : DataW H × List MemPlace} (h : DataW.trod enc Tryd.prog W 0 (fun _ => true) true fuel 24 cs = some y) (hw : ∀ n ∈ y.1.weights Tryd.prog 24, n ≤ reachBytes) :
    ∃ al n cap, cs = [.slice al n cap] ∧ Rw W al n ∧ n ≤ 9223372036854775807 := by
  rcases open_slice1 Tryd.underlying24 (by kernel_rfl) h with ⟨rfl, rfl⟩ | ⟨a, len, cap, m, n, V, D, Pl, rfl, _, hl, hm, hmm, rfl, hV⟩
  · exact ⟨none, 0, 0, rfl, fun i hi => by omega, by omega⟩
  · have hm' : m = cap := by simpa using hmm
    refine ⟨some a, len, cap, rfl, fun i hi => ?_, by unfold maxLen at hm; omega⟩
    obtain ⟨hc, ht⟩ := hV i (by omega)
    obtain ⟨a', c', L, e, h1, h2, h3, -, h5⟩ := bytes_arg ht
    have hVi : V i = .slice a' L.length c' := by simpa using e
    obtain ⟨b, off, spot⟩ := a
    have hspot : spot = none := by
      obtain ⟨hc0, ht0⟩ := hV 0 (by omega)
      have h0 : W.cell? ⟨b, off, spot⟩ = some (V 0) := by simpa [Addr.add] using hc0
      simpa using World.cell?_spot (v := V 0) h0
    subst hspot
    refine ⟨b, off, a', c', L, rfl, ?_, h2, h1, h3, ?_⟩
    · rw [← hVi, ← Addr.add_mid]
      exact hc
    · rcases h5 with ⟨-, h0⟩ | ⟨el, sp, hd, hlen⟩
      · omega
      · have hmem : D i ∈ (List.range len).map D := List.mem_map.2 ⟨i, List.mem_range.2 hi, rfl⟩
        have hn : (el.length + sp.length) * Tryd.prog.bytesOf 5 ∈ (D i).weights Tryd.prog 22 := by
          have hd' : D i = .slice el sp := hd
          rw [hd']
          simp [DataW.weights, Tryd.underlying22]
        have := hw ((el.length + sp.length) * Tryd.prog.bytesOf 5) (by
          simp only [DataW.weights, Tryd.underlying24, List.mem_cons, List.mem_append]
          exact .inr (.inl (weights_all hmem _ hn)))
        rw [show Tryd.prog.bytesOf 5 = 1 from (by kernel_rfl), hlen] at this
        unfold reachBytes at this
        omega
end
end Go.Proofs.YtfmfoangndladaaDoor
