/-
  Arguments opened: a key, a slice of keys.
-/
import Derived.Test.YtbhnbcpllhefgaaDoorKE
import Derived.Deep.Slices
namespace Go.Proofs.YtbhnbcpllhefgaaDoor
open Go.ChangeShapes Go.WideShapes Go.ChangeAt Go.RowKit Go.Deep Go.Joins

/-- A list of what is there at each place. -/
theorem list_of {α : Type} {Q : Nat → α → Prop} (n : Nat) (h : ∀ i, i < n → ∃ p, Q i p) : ∃ ps : List α, ps.length = n ∧ ∀ i p, ps[i]? = some p → Q i p := by
  induction n with
  | zero => exact ⟨[], rfl, fun i p hi => by simp at hi⟩
  | succ n ih =>
    obtain ⟨ps, hl, hq⟩ := ih (fun i hi => h i (by omega))
    obtain ⟨p, hp⟩ := h n (by omega)
    refine ⟨ps ++ [p], by simp [hl], fun i q hi => ?_⟩
    by_cases hlt : i < n
    · rw [List.getElem?_append_left (by omega)] at hi
      exact hq i q hi
    · have hb := (List.getElem?_eq_some_iff.1 hi).1
      rw [List.length_append, List.length_singleton] at hb
      obtain rfl : i = n := by omega
      rw [List.getElem?_append_right (by omega), hl] at hi
      simp at hi
      exact hi ▸ hp

section
variable {H : Type} {enc : TypeId × Value → H} {W : World} {fuel : Nat}
theorem key_arg {cs : List Value} {y : DataW H × List MemPlace} (h : DataW.trod enc Tryd.prog W 0 (fun _ => true) true fuel 24 cs = some y) :
    ∃ K : List Int, cs = K.map (Value.int .u8) ∧ K.length = 32 ∧ ∀ x, x ∈ K → W8 x := by
  obtain ⟨xs, m, rfl, rfl, hl, hxl, hi⟩ := DataW.trod_array (n := 32) (e := 5) (by kernel_rfl) h
  have hc25 : Tryd.prog.cellsOf 24 = 32 := by kernel_rfl
  have hc5 : Tryd.prog.cellsOf 5 = 1 := by kernel_rfl
  rw [hc25] at hl
  obtain ⟨K, hKl, hK⟩ := list_of (Q := fun i (z : Int) => cs[i]? = some (.int .u8 z) ∧ W8 z) 32 (fun i hlt => by
    have h1 := hi i hlt
    rw [hc5, Nat.mul_one, List.getElem?_eq_getElem (by omega)] at h1
    obtain ⟨z, ez, -, wz⟩ := DataW.trod_int (k := .u8) Tryd.underlying5 h1
    refine ⟨z, ?_, byte_of_wf wz⟩
    have h2 : ((cs.drop i).take 1)[0]? = some (.int .u8 z) := by rw [ez]; rfl
    rw [List.getElem?_take, if_pos (by omega), List.getElem?_drop, Nat.add_zero] at h2
    exact h2)
  refine ⟨K, ?_, hKl, fun x hx => ?_⟩
  · apply List.ext_getElem?
    intro i
    by_cases hlt : i < 32
    · have hk := hK i (K[i]'(by omega)) (List.getElem?_eq_getElem (by omega))
      rw [hk.1, List.getElem?_map, List.getElem?_eq_getElem (by omega)]
      rfl
    · rw [List.getElem?_eq_none (by omega), List.getElem?_eq_none (by rw [List.length_map]; omega)]
  · obtain ⟨i, hi', rfl⟩ := List.getElem_of_mem hx
    exact (hK i _ (List.getElem?_eq_getElem hi')).2

theorem keys_arg {cs : List Value} {y : DataW H × List MemPlace} (h : DataW.trod enc Tryd.prog W 0 (fun _ => true) true fuel 35 cs = some y) :
    ∃ a cap Ks, cs = [.slice a (List.length Ks) cap] ∧ Ks.length ≤ cap ∧ Rk W a Ks := by
  rcases open_slice Tryd.underlying35 h with ⟨rfl, rfl⟩ | ⟨a, len, cap, m, n, D, Pl, rfl, _, hl, hm, hmm, rfl, hi⟩
  · exact ⟨none, 0, [], rfl, by simp, fun i hi => by simp at hi⟩
  · have hm' : m = cap := by simpa using hmm
    have hc : Tryd.prog.cellsOf 24 = 32 := by kernel_rfl
    obtain ⟨Ks, hpl, hps⟩ := list_of (Q := fun i (K : List Int) => K.length = 32 ∧ ∃ b off, a = ⟨b, off, none⟩ ∧ b < W.heap.size ∧ W.rangeAt b (off + i * 32) (K.map (Value.int .u8))) len (by
      intro i hlt
      obtain ⟨cs', h1, h2⟩ := hi i (by omega)
      obtain ⟨K, rfl, hKl, -⟩ := key_arg h2
      rw [hc] at h1
      obtain ⟨_, _, hat⟩ := World.cells?_some h1
      have hat' : ∀ j, j < 32 → W.cell? (a.add (i * 32 + j)) = (K.map (Value.int .u8))[j]? := fun j hj => by
        rw [← add_add]
        exact hat j hj
      obtain ⟨b, off, spot⟩ := a
      have h0 := hat' 0 (by omega)
      rw [List.getElem?_map, List.getElem?_eq_getElem (by omega)] at h0
      have hspot : spot = none := by
        obtain ⟨cs0, g1, g2⟩ := hi 0 (by omega)
        obtain ⟨K0, rfl, hKl0, -⟩ := key_arg g2
        rw [hc] at g1
        have h00 := (World.cells?_some g1).2.2 0 (by omega)
        rw [List.getElem?_map, List.getElem?_eq_getElem (by omega)] at h00
        simpa [Addr.add] using World.cell?_spot (v := .int .u8 (K0[0]'(by omega))) h00
      subst hspot
      have hadd : ∀ k, (⟨b, off, none⟩ : Addr).add k = ⟨b, off + k, none⟩ := fun k => by unfold Addr.add; split <;> simp_all
      refine ⟨K, hKl, b, off, rfl, ?_, fun j v hv => ?_⟩
      · rw [hadd] at h0
        exact World.block_lt_of_cell? W _ h0
      · have hj : j < 32 := by
          rcases Nat.lt_or_ge j 32 with h | h
          · exact h
          · rw [List.getElem?_eq_none (by rw [List.length_map, hKl]; exact h)] at hv; cases hv
        have := hat' j hj
        rw [hadd, hv] at this
        rw [← this, Nat.add_assoc])
    refine ⟨some a, cap, Ks, by rw [hpl], by omega, fun i hi' => ?_⟩
    have e : Ks.getD i [] = Ks[i] := by simp [List.getD, List.getElem?_eq_getElem hi']
    obtain ⟨hKl, b, off, rfl, hb, hr⟩ := hps i _ (List.getElem?_eq_getElem hi')
    exact ⟨b, off, rfl, hb, by rw [e]; exact hr, by rw [e]; exact hKl⟩
end
end Go.Proofs.YtbhnbcpllhefgaaDoor
