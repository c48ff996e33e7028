/-
  Loads of a list's parts and of its elements; the contracts of the reference's Place, SlotAt, Next.
-/
import Derived.Test.YtefinpapkjgpoaaLA
namespace Go.Proofs.Ytefinpapkjgpoaa
open Go.RowKit
set_option linter.unusedSimpArgs false
set_option linter.unusedVariables false

theorem load_cell {w : World} {t : TypeId} {a : Addr} {v : Value} (h : w.cell? a = some v) (hag : (isAgg t).run Try.prog w = .ok false w) : (Instr.loadAt t (.pointer (some a))).run Try.prog w = .ok v w := by
  simp [Instr.loadAt, Instr.sureAddr, loadVar, hag, run_load, h, Result.andThen]
/-- The list lies in a block. -/
def Bx (w : World) (g : Nat) (cs : Array Value) (t : Nat) : Prop := w.heap[g]? = some (.cells cs t (0, 0))
theorem Bx.lt {w : World} {g t : Nat} {cs : Array Value} (h : Bx w g cs t) : g < w.heap.size := (Array.getElem?_eq_some_iff.1 h).1
theorem Bx.below {w w' : World} {g t B : Nat} {cs : Array Value} (h : Bx w g cs t) (hg : g < B) (hb : Below B w w') : Bx w' g cs t := (hb.block g hg).trans h
theorem Bx.load {w : World} {g t i : Nat} {cs : Array Value} {v : Value} {ty : TypeId} (h : Bx w g cs t) (hv : cs[i]? = some v) (hag : (isAgg ty).run Try.prog w = .ok false w) : (Instr.loadAt ty (.pointer (some ⟨g, i, none⟩))).run Try.prog w = .ok v w :=
  load_cell ((cell_of_row w g i _ t (0, 0) h).trans hv) hag
theorem idx_el (b off n c k : Nat) (hk : k < n) (V : World) (ρ : Operand → Value) (o : Oper) {x y : Operand} (ho : o.op = .indexAddr 26 x y) (hx : ρ x = .slice (some ⟨b, off, none⟩) n c) (hy : ρ y = .int .i64 k) : (execOp ρ o).run Try.prog V = .ok (.value (.pointer (some ⟨b, off + k * 2, none⟩))) V := by
  have hs : (sizeOf (Try.prog.elem 26)).run Try.prog V = .ok 2 V := by kernel_rfl
  have hlm : (k : Int) < (n : Int) := by omega
  unfold execOp
  simp only [ho, hx, hy]
  go_simp
theorem idx_int (b off n c k : Nat) (hk : k < n) (V : World) (ρ : Operand → Value) (o : Oper) {x y : Operand} (ho : o.op = .indexAddr 22 x y) (hx : ρ x = .slice (some ⟨b, off, none⟩) n c) (hy : ρ y = .int .i64 k) : (execOp ρ o).run Try.prog V = .ok (.value (.pointer (some ⟨b, off + k, none⟩))) V := by
  have hs : (sizeOf (Try.prog.elem 22)).run Try.prog V = .ok 1 V := by kernel_rfl
  have hlm : (k : Int) < (n : Int) := by omega
  unfold execOp
  simp only [ho, hx, hy]
  go_simp
/-- An element at its place. -/
theorem el_at {w : World} {a : Option Addr} {E : List (Int × Int)} (h : Cs w a (ecells E)) {k : Nat} (hk : k < E.length) : ∃ b off, a = some ⟨b, off, none⟩ ∧ b < w.heap.size ∧ w.cell? ⟨b, off + k * 2, none⟩ = some (.int .i64 (E.getD k (0, 0)).1) ∧ w.cell? ⟨b, off + k * 2 + 1, none⟩ = some (.int .i64 (E.getD k (0, 0)).2) := by
  obtain ⟨h0, h1⟩ := ecells_at E k hk
  obtain ⟨b, off, rfl, hb, hc⟩ := h _ _ h0
  obtain ⟨b2, off2, e2, -, hc2⟩ := h _ _ h1
  simp only [Option.some.injEq, Addr.mk.injEq, and_true] at e2
  obtain ⟨rfl, rfl⟩ := e2
  exact ⟨b, off, rfl, hb, hc, by rw [Nat.add_assoc]; exact hc2⟩
theorem int_at {w : World} {a : Option Addr} {L : List Int} (h : Cs w a (icells L)) {k : Nat} (hk : k < L.length) : ∃ b off, a = some ⟨b, off, none⟩ ∧ b < w.heap.size ∧ w.cell? ⟨b, off + k, none⟩ = some (.int .i64 (L.getD k 0)) := h _ _ (icells_at L k hk)
theorem pair_range {w : World} {b o : Nat} {x y : Value} (h0 : w.cell? ⟨b, o, none⟩ = some x) (h1 : w.cell? ⟨b, o + 1, none⟩ = some y) : w.rangeAt b o [x, y] := fun j v hj => by
  rcases (show j = 0 ∨ j = 1 by
    have := (List.getElem?_eq_some_iff.1 hj).1
    simp at this
    omega) with rfl | rfl
  · simp at hj
    rw [← hj]
    exact h0
  · simp at hj
    rw [← hj]
    exact h1
theorem load_el {w : World} {b o : Nat} {x y : Int} (h0 : w.cell? ⟨b, o, none⟩ = some (.int .i64 x)) (h1 : w.cell? ⟨b, o + 1, none⟩ = some (.int .i64 y)) : (Instr.loadAt 40 (.pointer (some ⟨b, o, none⟩))).run Try.prog w = .ok (.agg #[.int .i64 x, .int .i64 y]) w :=
  run_loadAt_mid w b o 40 [.int .i64 x, .int .i64 y] _ (pair_range h0 h1) Try.underlying40 rfl (by kernel_rfl)

theorem one_pair (x y : Int) : (#[Value.int .i64 x, Value.int .i64 y] : Array Value).all (·.oneCell') = true := by simp [Value.oneCell']
theorem load_lv {w : World} {g : Nat} {ea fa : Option Addr} {ec fc : Nat} {m : LM} (h : Bx w g (lv ea fa ec fc m) 28) : (Instr.loadAt 28 (.pointer (some ⟨g, 0, none⟩))).run Try.prog w = .ok (.agg (lv ea fa ec fc m)) w :=
  run_loadVar_row w g 28 28 (lv ea fa ec fc m) (0, 0) _ h Try.underlying28 rfl (by kernel_rfl)
end Go.Proofs.Ytefinpapkjgpoaa
