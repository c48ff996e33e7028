/-
  Rows of cells in memory, of any type: read, cut, appended to. No function of the program.
-/
import Derived.Test.YtgkckblcekbafaaGS
import Derived.Deep.Onto
namespace Go.Proofs.Ytgkckblcekbafaa
open Go.RowKit

/-- Cells lie in a row. -/
def Cs (w : World) (a : Option Addr) (cs : List Value) : Prop := ∀ j v, cs[j]? = some v → ∃ b off, a = some ⟨b, off, none⟩ ∧ b < w.heap.size ∧ w.cell? ⟨b, off + j, none⟩ = some v
theorem Cs.nil (w : World) (a : Option Addr) : Cs w a [] := fun j v h => by simp at h
theorem Cs.below {w w' : World} {a : Option Addr} {cs : List Value} (h : Cs w a cs) (hb : Below w.heap.size w w') : Cs w' a cs := fun j v hj => by
  obtain ⟨b, off, e, hlt, hc⟩ := h j v hj
  exact ⟨b, off, e, Nat.lt_of_lt_of_le hlt hb.size, (hb.cell (p := ⟨b, off + j, none⟩) hlt).trans hc⟩
theorem Cs.take {w : World} {a : Option Addr} {cs : List Value} (h : Cs w a cs) (k : Nat) : Cs w a (cs.take k) := fun j v hj => by
  rw [List.getElem?_take] at hj
  split at hj
  · exact h j v hj
  · cases hj
/-- The head of a part of a slice. -/
def fromS (s : Nat) (a : Option Addr) (c k : Nat) : Option Addr := if c = k then a else a.map (·.add (k * s))
theorem Cs.from {w : World} {a : Option Addr} {cs : List Value} (h : Cs w a cs) (s c k : Nat) (hc : cs.length ≤ c * s) : Cs w (fromS s a c k) (cs.drop (k * s)) := fun j v hj => by
  rw [List.getElem?_drop] at hj
  have hlt : k * s + j < cs.length := (List.getElem?_eq_some_iff.1 hj).1
  obtain ⟨b, off, rfl, hb, hcell⟩ := h _ v hj
  refine ⟨b, off + k * s, ?_, hb, by rw [Nat.add_assoc]; exact hcell⟩
  unfold fromS
  rw [if_neg (by rintro rfl; omega)]
  simp only [Option.map_some]
  rw [Addr.add_mid]
/-- A block that is a row. -/
theorem Cs.block {w : World} {g t : Nat} {cs : List Value} {fr : Nat × Nat} (h : w.heap[g]? = some (.cells cs.toArray t fr)) : Cs w (some ⟨g, 0, none⟩) cs := fun j v hj => by
  refine ⟨g, 0, rfl, (Array.getElem?_eq_some_iff.1 h).1, ?_⟩
  rw [Nat.zero_add, cell_of_row w g j _ t fr h]
  simpa using hj
theorem own_cs {w : World} {B e s n : Nat} {v : Value} {cs : List Value} (h : w.ownsRow B e s v n cs) : ∃ a c, v = .slice a n c ∧ Cs w a cs ∧ n ≤ c := by
  have hlen := h.1
  rcases h.2 with ⟨rfl, h0⟩ | ⟨g, cap, cur, rfl, hb, hg, hcap, hm, hcs, htk⟩
  · refine ⟨none, 0, by rw [h0], ?_, by omega⟩
    have : cs = [] := List.eq_nil_of_length_eq_zero (by rw [hlen, h0]; simp)
    rw [this]
    exact Cs.nil _ _
  · refine ⟨some ⟨g, 0, none⟩, cap, rfl, fun j v hj => ⟨g, 0, rfl, (Array.getElem?_eq_some_iff.1 hg).1, ?_⟩, hcap⟩
    have := h.cells (g := g) rfl j v hj
    rw [← this, Go.WideShapes.add_plain]
theorem own_below {w w' : World} {B e size n : Nat} {v : Value} {xs : List Value} (h : w.ownsRow B e size v n xs) (hb : Below w.heap.size w w') : w'.ownsRow B e size v n xs := by
  refine ⟨h.1, ?_⟩
  rcases h.2 with h0 | ⟨g, cap, cur, ev, hB, hg, r⟩
  · exact .inl h0
  · exact .inr ⟨g, cap, cur, ev, hB, (hb.block g (Array.getElem?_eq_some_iff.1 hg).1).trans hg, r⟩
theorem own_base {w : World} {B B' e size n : Nat} {v : Value} {xs : List Value} (h : w.ownsRow B' e size v n xs) (hB : B ≤ B') : w.ownsRow B e size v n xs := World.ownsRow.mono h hB

section
variable {P : Program} {t e s bytes : Nat} {z : Value}
/-- 'append' of any part to a row of the call's own. -/
theorem append_cs (hu : P.underlying t = some (.slice e)) (hinfo : (P.info? e).map (fun i => (i.zero, i.size, i.bytes)) = some (some z, s, bytes)) (hzs : z.cells.size = s) (hs : 0 < s) (hby : bytes ≤ 1000)
    {w : World} {B n m : Nat} {v : Value} {xs : List Value} (hO : w.ownsRow B e s v n xs) (pa : Option Addr) (cp : Nat) (ys : List Value) (hP : Cs w pa ys) (hl : ys.length = m * s) (h1 : ∀ u ∈ ys, u.oneCell' = true) (hB : B ≤ w.heap.size) (hn : n ≤ 100000) (hm : m ≤ 100000) :
    ∃ v' w', (Builtin.append_ #[t, t] t #[v, .slice pa m cp]).run P w = .ok v' w' ∧ w'.ownsRow B e s v' (n + m) (xs ++ ys) ∧ Below B w w' ∧ w.grownBy w' v.ownBlock := by
  obtain ⟨i0, hi, hz0, hz1, hz2⟩ := info_parts hinfo
  by_cases hy : ys = []
  · subst hy
    obtain rfl : m = 0 := by
      rcases Nat.eq_zero_or_pos m with h | h
      · exact h
      · have := Nat.mul_pos h hs
        rw [← hl] at this
        simp at this
    cases pa with
    | none =>
      refine ⟨v, w, ?_, by simpa using hO, Below.refl _ _, World.grownBy.refl w _⟩
      rcases hO.2 with ⟨rfl, h0⟩ | ⟨g, cap, cur, rfl, _, _, hnc, _⟩
      · simp [Builtin.append_, run_underlying hu, sizeOf, typeInfo, hi, Builtin.lenOf, Builtin.firstCells]
      · simp [Builtin.append_, run_underlying hu, sizeOf, typeInfo, hi, Builtin.lenOf, Builtin.firstCells, hnc, storeCells]
    | some x =>
      obtain ⟨v', w', hr, h2, h3, -, -⟩ := run_append_own_at (P := P) w B t t e i0 z s bytes hu hi hz0 hz1 hz2 hzs hs v n xs hO x 0 cp [] (by simp) (fun j u h => by simp at h) (by simp) (by unfold maxLen; omega) (by have := Nat.mul_le_mul (show n + 0 ≤ 100000 by omega) hby; omega) hB
      exact ⟨v', w', hr, h2, (Below.refl _ w).grown h3 hB (fun j hj => (hO.lt j hj).1), h3⟩
  · obtain ⟨y, hy0⟩ : ∃ y, ys[0]? = some y := by
      cases ys with
      | nil => exact absurd rfl hy
      | cons y r => exact ⟨y, rfl⟩
    obtain ⟨b, off, rfl, -⟩ := hP 0 y hy0
    have hcells : ∀ j u, ys[j]? = some u → w.cell? ((⟨b, off, none⟩ : Addr).add j) = some u := fun j u hu => by
      obtain ⟨b2, off2, e2, -, hc⟩ := hP j u hu
      simp only [Option.some.injEq, Addr.mk.injEq, and_true] at e2
      obtain ⟨rfl, rfl⟩ := e2
      rw [Addr.add_mid]
      exact hc
    obtain ⟨v', w', hr, h2, h3, -, -⟩ := run_append_own_at (P := P) w B t t e i0 z s bytes hu hi hz0 hz1 hz2 hzs hs v n xs hO ⟨b, off, none⟩ m cp ys hl hcells h1 (by unfold maxLen; omega) (by have := Nat.mul_le_mul (show n + m ≤ 200000 by omega) hby; omega) hB
    exact ⟨v', w', hr, h2, (Below.refl _ w).grown h3 hB (fun j hj => (hO.lt j hj).1), h3⟩
theorem build_nil (hu : P.underlying t = some (.slice e)) (hinfo : (P.info? e).map (fun i => (i.zero, i.size, i.bytes)) = some (some z, s, bytes)) (w : World) : (Instr.buildSlice t 0 #[]).run P w = .ok (.slice (some ⟨w.heap.size, 0, none⟩) 0 0) (w.alloc (.cells #[] e)) := by
  obtain ⟨i0, hi, hz0, hz1, hz2⟩ := info_parts hinfo
  simp [Instr.buildSlice, run_underlying hu, sizeOf, typeInfo, hi, newRow, go_sem]
theorem own_nil (w : World) (e s : Nat) : (w.alloc (.cells #[] e)).ownsRow w.heap.size e s (.slice (some ⟨w.heap.size, 0, none⟩) 0 0) 0 [] :=
  ⟨by simp, .inr ⟨w.heap.size, 0, #[], rfl, Nat.le_refl _, heap_alloc_last w _, Nat.le_refl _, by simp [maxLen], by simp, by simp⟩⟩
/-- A slice up to k, from k on. -/
theorem cut_to (hu : P.underlying t = some (.slice (P.elem t))) (hs : ∀ w, (sizeOf (P.elem t)).run P w = .ok s w) (a : Option Addr) (n c k : Nat) (w : World) (h : k ≤ c) : (Instr.slice t (.slice a n c) none (some (.int .i64 (k : Int))) none).run P w = .ok (.slice a k c) w := by
  have q := run_slice_h (P := P) w t a n c hu .i64 (k : Int) (by omega) (by omega)
  rw [q, hs]
  cases a <;> simp [sliced, Result.andThen, Addr.add]
theorem cut_from (hu : P.underlying t = some (.slice (P.elem t))) (hs : ∀ w, (sizeOf (P.elem t)).run P w = .ok s w) (a : Option Addr) (n c k : Nat) (w : World) (h : k ≤ n) : (Instr.slice t (.slice a n c) (some (.int .i64 (k : Int))) none none).run P w = .ok (.slice (fromS s a c k) (n - k) (c - k)) w := by
  have q := run_slice_l (P := P) w t a n c hu .i64 (k : Int) (by omega) (by omega)
  rw [q, hs]
  by_cases hk : c = k <;> cases a <;> simp [sliced, Result.andThen, fromS, hk]
end
end Go.Proofs.Ytgkckblcekbafaa
