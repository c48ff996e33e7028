/-
  A slice of slices of bytes opened: its leaves.
-/
import Derived.Test.YtbhnbcpllhefgaaDoorKP
import Derived.Test.YtbhnbcpllhefgaaDoorMR9
namespace Go.Proofs.YtbhnbcpllhefgaaDoor
open Go.ChangeShapes Go.WideShapes Go.ChangeAt Go.RowKit Go.Deep Go.Joins

theorem weights_all {H : Type} {P : Program} {e : TypeId} {d : DataW H} : ∀ {l : List (DataW H)}, d ∈ l → ∀ n ∈ d.weights P e, n ∈ DataW.weightsAll P e l
  | x :: r, hd, n, hn => by
    simp only [DataW.weightsAll, List.mem_append]
    rcases List.mem_cons.1 hd with rfl | h
    · exact .inl hn
    · exact .inr (weights_all h n hn)

section
variable {H : Type} {enc : TypeId × Value → H} {W : World} {fuel : Nat}
theorem rows_arg {cs : List Value} {y : DataW H × List MemPlace} (h : DataW.trod enc Tryd.prog W 0 (fun _ => true) true fuel 22 cs = some y) (hw : ∀ n ∈ y.1.weights Tryd.prog 22, n ≤ reachBytes) :
    ∃ al cap ls, cs = [.slice al (List.length ls) cap] ∧ ls.length ≤ cap ∧ RA W al ls ∧ ls.length ≤ 140737488351232 := by
  rcases open_slice1 Tryd.underlying22 (by kernel_rfl) h with ⟨rfl, rfl⟩ | ⟨a, len, cap, m, n, V, D, Pl, rfl, _, hl, hm, hmm, rfl, hV⟩
  · exact ⟨none, 0, [], rfl, by simp, fun i hi => by simp at hi, by simp⟩
  · have hm' : m = cap := by simpa using hmm
    obtain ⟨ls, hls, hrow⟩ := list_of (Q := fun i (x : List Int) => ∃ b off ai ci, a = ⟨b, off, none⟩ ∧ b < W.heap.size ∧ W.cell? ⟨b, off + i, none⟩ = some (.slice ai x.length ci) ∧ Sl W ai ci x ∧ x.length ≤ ci ∧ (∀ y, y ∈ x → W8 y) ∧ x.length ≤ 140737488351232) len (by
      intro i hi
      obtain ⟨hc, ht⟩ := hV i (by omega)
      obtain ⟨a', c', L, e, h1, h2, h3, -, h5⟩ := bytes_arg ht
      have hVi : V i = .slice a' L.length c' := by simpa using e
      obtain ⟨b, off, spot⟩ := a
      have hspot : spot = none := by
        obtain ⟨hc0, ht0⟩ := hV 0 (by omega)
        have h0 : W.cell? ⟨b, off, spot⟩ = some (V 0) := by simpa [Addr.add] using hc0
        simpa using World.cell?_spot (v := V 0) h0
      subst hspot
      rw [hVi, Addr.add_mid] at hc
      refine ⟨L, b, off, a', c', rfl, World.block_lt_of_cell? W _ hc, hc, h2, h1, h3, ?_⟩
      rcases h5 with ⟨-, h0⟩ | ⟨el, sp, hd, hlen⟩
      · omega
      · have hmem : D i ∈ (List.range len).map D := List.mem_map.2 ⟨i, List.mem_range.2 hi, rfl⟩
        have hn : (el.length + sp.length) * Tryd.prog.bytesOf 5 ∈ (D i).weights Tryd.prog 25 := by
          have hd' : D i = .slice el sp := hd
          rw [hd']
          simp [DataW.weights, Tryd.underlying25]
        have := hw ((el.length + sp.length) * Tryd.prog.bytesOf 5) (by
          simp only [DataW.weights, Tryd.underlying22, List.mem_cons, List.mem_append]
          exact .inr (.inl (weights_all hmem _ hn)))
        rw [show Tryd.prog.bytesOf 5 = 1 from (by kernel_rfl), hlen] at this
        unfold reachBytes at this
        omega)
    refine ⟨some a, cap, ls, by rw [hls], by omega, fun i hi => ?_, ?_⟩
    · have e : ls.getD i [] = ls[i] := by simp [List.getD, List.getElem?_eq_getElem hi]
      obtain ⟨b, off, ai, ci, rfl, k1, k2, k3, k4, k5, k6⟩ := hrow i _ (List.getElem?_eq_getElem hi)
      rw [e]
      exact ⟨b, off, ai, ci, rfl, k1, k2, k3, k4, k5, k6⟩
    · have := hw _ (by
        simp only [DataW.weights, Tryd.underlying22]
        exact List.mem_cons_self)
      rw [show Tryd.prog.bytesOf 25 = 24 from (by kernel_rfl)] at this
      unfold reachBytes at this
      simp at this
      omega
end
end Go.Proofs.YtbhnbcpllhefgaaDoor
