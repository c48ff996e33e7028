/-
  Arguments opened: a slice of ints, an item, a slice of items.
  Conditions: none of their own.
-/
import Derived.Test.YtepdibnbnhkpnaaRows
import Derived.Test.YtepdibnbnhkpnaaHI
import Derived.ProofKit
import Derived.OpenShut
import Derived.ChangeOld
import Derived.Below
import Derived.Deep.Strs
import Derived.Deep.Slices
namespace Go.Proofs.Ytepdibnbnhkpnaa
open Go.ChangeShapes Go.WideShapes Go.ChangeAt Go.RowKit Go.Deep Go.Joins

theorem i64_of_wf {x : Int} (h : (Lit.int .i64 x).wf = true) : I64 x := by
  simp [Lit.wf, IntKind.min, IntKind.max, IntKind.signed, IntKind.bits] at h
  exact ⟨by omega, by omega⟩
theorem ints_arg {H : Type} {enc : TypeId × Value → H} {W : World} {fuel : Nat} {cs : List Value} {y : DataW H × List MemPlace} (h : DataW.trod enc Try.prog W 0 (fun _ => true) true fuel 25 cs = some y) :
    ∃ a cap L, cs = [.slice a (List.length L) cap] ∧ L.length ≤ 9223372036854775807 ∧ Cs W a (icells L) := by
  rcases open_ints Try.underlying25 Try.underlying3 (by kernel_rfl) h with ⟨rfl, rfl⟩ | ⟨x, l, c, zs, rfl, _, hl, hm, hz, rfl, hcell, hwz⟩
  · exact ⟨none, 0, [], rfl, by simp, Cs.nil _ _⟩
  · have hz' : zs.length = c := by simpa using hz
    have hlen : (zs.take l).length = l := by rw [List.length_take]; omega
    refine ⟨some x, c, zs.take l, by rw [hlen], by rw [hlen]; unfold maxLen at hm; omega, fun j v hj => ?_⟩
    have hjl : j < (zs.take l).length := by
      have := (List.getElem?_eq_some_iff.1 hj).1
      simpa [icells] using this
    have hjz : j < zs.length := by omega
    obtain ⟨b, off, rfl, hc⟩ := ints_at hcell (by omega)
    rw [icells_at _ _ hjl] at hj
    simp only [Option.some.injEq] at hj
    have hcj := hc j hjz
    refine ⟨b, off, rfl, World.block_lt_of_cell? W _ hcj, ?_⟩
    rw [hcj, ← hj]
    simp [List.getD, show j < l by omega]
theorem item_arg {H : Type} {enc : TypeId × Value → H} {W : World} {fuel : Nat} {cs : List Value} {y : DataW H × List MemPlace} (h : DataW.trod enc Try.prog W 0 (fun _ => true) true fuel 24 cs = some y) :
    ∃ x : It, cs = itl x := by
  obtain ⟨y0, y1, y2, n, rfl, hl, t0, t1, t2⟩ := trod_struct3 Try.underlying24 h
  have hc : Try.prog.cellsOf 24 = 3 := by kernel_rfl
  rw [hc] at hl
  match cs, hl with
  | [c0, c1, c2], _ =>
    obtain ⟨n0, e0, -, -⟩ := DataW.trod_int (k := .i64) Try.underlying3 t0
    obtain ⟨n1, e1, -, -⟩ := DataW.trod_int (k := .u64) Try.underlying22 t1
    obtain ⟨n2, e2, -, -⟩ := DataW.trod_int (k := .i64) Try.underlying3 t2
    have k3 : Try.prog.cellsOf 3 = 1 := by kernel_rfl
    have k22 : Try.prog.cellsOf 22 = 1 := by kernel_rfl
    simp only [k3, k22, List.drop_zero, List.drop_succ_cons, List.take_succ_cons, List.take_zero, List.cons.injEq, and_true] at e0 e1 e2
    subst e0 e1 e2
    exact ⟨(n0, n1, n2), rfl⟩
/-- A list of what is there at each place. -/
theorem list_of {α : Type} {Q : Nat → α → Prop} (n : Nat) (h : ∀ i, i < n → ∃ p, Q i p) : ∃ ps : List α, ps.length = n ∧ ∀ i p, ps[i]? = some p → Q i p := by
  induction n with
  | zero => exact ⟨[], rfl, fun i p hi => by simp at hi⟩
  | succ n ih =>
    obtain ⟨ps, hl, hq⟩ := ih (fun i hi => h i (by omega))
    obtain ⟨p, hp⟩ := h n (by omega)
    refine ⟨ps ++ [p], by simp [hl], fun i q hi => ?_⟩
    by_cases hlt : i < n
    · rw [List.getElem?_append_left (by omega)] at hi
      exact hq i q hi
    · have hb := (List.getElem?_eq_some_iff.1 hi).1
      rw [List.length_append, List.length_singleton] at hb
      obtain rfl : i = n := by omega
      rw [List.getElem?_append_right (by omega), hl] at hi
      simp at hi
      exact hi ▸ hp
theorem items_arg {H : Type} {enc : TypeId × Value → H} {W : World} {fuel : Nat} {cs : List Value} {y : DataW H × List MemPlace} (h : DataW.trod enc Try.prog W 0 (fun _ => true) true fuel 35 cs = some y) :
    ∃ a cap M, cs = [.slice a (List.length M) cap] ∧ M.length ≤ 9223372036854775807 ∧ Cs W a (itc M) := by
  rcases open_slice Try.underlying35 h with ⟨rfl, rfl⟩ | ⟨a, len, cap, m, n, D, Pl, rfl, _, hl, hm, hmm, rfl, hi⟩
  · exact ⟨none, 0, [], rfl, by simp, Cs.nil _ _⟩
  · have hm' : m = cap := by simpa using hmm
    have hc : Try.prog.cellsOf 24 = 3 := by kernel_rfl
    obtain ⟨M, hpl, hps⟩ := list_of (Q := fun i (x : It) => ∀ j v, (itl x)[j]? = some v → W.cell? (a.add (i * 3 + j)) = some v) len (by
      intro i hlt
      obtain ⟨cs', h1, h2⟩ := hi i (by omega)
      obtain ⟨x, rfl⟩ := item_arg h2
      rw [hc] at h1
      obtain ⟨_, _, hat⟩ := World.cells?_some h1
      refine ⟨x, fun j v hj => ?_⟩
      have hj3 : j < 3 := by
        have := (List.getElem?_eq_some_iff.1 hj).1
        simpa [itl] using this
      have := hat j hj3
      rw [add_add] at this
      rw [this, hj])
    have hspot : 0 < M.length → a.spot = none := fun h0 => by
      have h1 := hps 0 (M[0]) (by simp [h0]) 0 (.int .i64 (M[0]).1) rfl
      have h2 : W.cell? a = some (.int .i64 (M[0]).1) := by simpa [Addr.add] using h1
      exact World.cell?_spot h2
    refine ⟨some a, cap, M, by rw [hpl], by unfold maxLen at hm; omega, fun j v hj => ?_⟩
    have hjl : j < M.length * 3 := by
      have := (List.getElem?_eq_some_iff.1 hj).1
      rwa [itc_len] at this
    obtain ⟨b, off, spot⟩ := a
    obtain rfl : spot = none := hspot (by omega)
    have hk : j / 3 < M.length := by omega
    have hcell : W.cell? ⟨b, off + j, none⟩ = some v := by
      have h1 := hps (j / 3) (ita M (j / 3)) (by rw [ita_get hk]; exact List.getElem?_eq_getElem hk) (j % 3)
      obtain ⟨c0, c1, c2⟩ := itc_at M (j / 3) hk
      have h2 : (itl (ita M (j / 3)))[j % 3]? = some v := by
        rcases (show j % 3 = 0 ∨ j % 3 = 1 ∨ j % 3 = 2 by omega) with e | e | e
        · rw [show j = j / 3 * 3 by omega, c0] at hj; rw [e]; exact hj
        · rw [show j = j / 3 * 3 + 1 by omega, c1] at hj; rw [e]; exact hj
        · rw [show j = j / 3 * 3 + 2 by omega, c2] at hj; rw [e]; exact hj
      have h3 := h1 v h2
      rw [Go.WideShapes.add_plain, show j / 3 * 3 + j % 3 = j by omega] at h3
      exact h3
    exact ⟨b, off, rfl, World.block_lt_of_cell? W _ hcell, hcell⟩
end Go.Proofs.Ytepdibnbnhkpnaa
