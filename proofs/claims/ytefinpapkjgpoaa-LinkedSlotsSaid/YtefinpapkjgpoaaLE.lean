/-
  Stores into a block: a cell, a whole struct; worlds in which one block is written.
-/
import Derived.Test.YtefinpapkjgpoaaLD
import Derived.Laws.Tables
import Derived.Lib.SmallJoins
namespace Go.Proofs.Ytefinpapkjgpoaa
open Go.RowKit
set_option linter.unusedSimpArgs false
set_option linter.unusedVariables false

theorem belowRow {w w0 : World} {g B : Nat} (h : Below B w0 w) (hn : B ≤ g) (cs : Array Value) : Below B w0 (w.setRow g cs) :=
  ⟨h.os, h.tape, h.output, by rw [size_setRow]; exact h.size, fun k hk => (setRow_other w g k cs (by omega)).trans (h.block k hk)⟩
/-- The world has new blocks, and block g is written. -/
def But (g : Nat) (w w' : World) : Prop := Below g w w' ∧ ∀ k, k < w.heap.size → k ≠ g → w'.heap[k]? = w.heap[k]?
theorem But.refl (g : Nat) (w : World) : But g w w := ⟨Below.refl _ _, fun _ _ _ => rfl⟩
theorem But.trans {g : Nat} {a b c : World} (h : But g a b) (k : But g b c) : But g a c :=
  ⟨h.1.trans k.1, fun i hi hn => (k.2 i (by have := h.1.size; omega) hn).trans (h.2 i hi hn)⟩
theorem But.of_below {g : Nat} {w w' : World} (h : Below w.heap.size w w') (hg : g ≤ w.heap.size) : But g w w' := ⟨h.mono hg, fun k hk _ => h.block k hk⟩
theorem But.setRow {g : Nat} (w : World) (cs : Array Value) : But g w (w.setRow g cs) :=
  ⟨belowRow (Below.refl _ _) (Nat.le_refl _) cs, fun k _ hn => setRow_other w g k cs hn⟩
theorem But.below {g B : Nat} {w w' : World} (h : But g w w') (hB : B ≤ g) : Below B w w' := h.1.mono hB
theorem Bx.but {w w' : World} {g k t : Nat} {cs : Array Value} (h : Bx w k cs t) (hb : But g w w') (hn : k ≠ g) : Bx w' k cs t := (hb.2 k h.lt hn).trans h
theorem Bx.set {w : World} {g t : Nat} {cs cs' : Array Value} (h : Bx w g cs t) : Bx (w.setRow g cs') g cs' t := setRow_heap _ _ _ _ _ _ h
/-- A row whose block is not g. -/
theorem Cs.but {w w' : World} {g : Nat} {a : Option Addr} {cs : List Value} (h : Cs w a cs) (hb : But g w w') (hn : ∀ x, a = some x → x.block ≠ g) : Cs w' a cs := fun j v hj => by
  obtain ⟨b, off, e, hlt, hc⟩ := h j v hj
  refine ⟨b, off, e, Nat.lt_of_lt_of_le hlt hb.1.size, ?_⟩
  rw [← hc]
  unfold World.cell?
  rw [hb.2 b hlt (hn _ e)]
theorem own_but {w w' : World} {g B e size n : Nat} {v : Value} {xs : List Value} (h : w.ownsRow B e size v n xs) (hb : But g w w') (hn : g < B) : w'.ownsRow B e size v n xs := by
  refine ⟨h.1, ?_⟩
  rcases h.2 with h0 | ⟨k, cap, cur, ev, hB, hg, r⟩
  · exact .inl h0
  · exact .inr ⟨k, cap, cur, ev, hB, (hb.2 k (Array.getElem?_eq_some_iff.1 hg).1 (by omega)).trans hg, r⟩

theorem run_store_cell {w : World} {g t i : Nat} {cs : Array Value} {v : Value} {ty : TypeId} (h : Bx w g cs t) (hi : i < cs.size) (h1 : v.oneCell' = true) (hs : (Try.prog.info? ty).map (·.size) = some 1) :
    (Instr.storeAt ty (.pointer (some ⟨g, i, none⟩)) v).run Try.prog w = .ok () (w.setCell ⟨g, i, none⟩ v) := by
  have hc : v.cells = #[v] := by cases v <;> first | rfl | cases h1
  have hcell : w.cell? ⟨g, i, none⟩ = some cs[i] := by rw [cell_of_row w g i _ t (0, 0) h]; simp [hi]
  have hfz : w.frozen? ⟨g, i, none⟩ = false := frozen_of_row w g i _ t h
  have ha : (⟨g, i, none⟩ : Addr).add 0 = ⟨g, i, none⟩ := by simp [Addr.add]
  cases hq : Try.prog.info? ty with
  | none => simp [hq] at hs
  | some j =>
    have hs : j.size = 1 := by simpa [hq] using hs
    simp [Instr.storeAt, Instr.sureAddr, storeVar, sizeOf, typeInfo, hq, hc, hs, storeCells, run_store _ _ _ _ _ h1, ha, hcell, hfz]
theorem But.setCell {g : Nat} (w : World) (o : Nat) (v : Value) : But g w (w.setCell ⟨g, o, none⟩ v) :=
  ⟨(Below.refl g w).setCell (Nat.le_refl _) v, fun k _ hn => heap_setCell_other w _ k v hn⟩
theorem Bx.setC {w : World} {g t i : Nat} {cs : Array Value} (h : Bx w g cs t) (v : Value) : Bx (w.setCell ⟨g, i, none⟩ v) g (cs.setIfInBounds i v) t := Joins.block_setCell h v
theorem run_store_all {w : World} {g t : Nat} {cs cs' : Array Value} {ty : TypeId} (h : Bx w g cs t) (hz : cs.size = cs'.size) (h1 : cs'.all (·.oneCell') = true) (hs : (Try.prog.info? ty).map (·.size) = some cs'.size) :
    (Instr.storeAt ty (.pointer (some ⟨g, 0, none⟩)) (.agg cs')).run Try.prog w = .ok () (w.setRow g cs') := by
  simp only [Instr.storeAt, Instr.sureAddr, Sem.run_bind, Sem.run_pure, Result.andThen_ok]
  exact run_storeVar_row w g t ty cs cs' h hs hz h1
section
variable {P : Program} {ops : Array Oper} {rest : List Oper} {o : Oper} {a : Act} {w : World} {Q : Exit → Act → World → Prop} {i : Nat} {K : Act → World → Prop}
theorem gw_store (hw : Region.wanted o (yielded ops a.tmps) = true) (hd : o.dst = none) (ty : TypeId) (x y : Operand) (ho : o.op = .store ty x y) (vx vy : Value) (hx : a.eval x = vx) (hy : a.eval y = vy) (w2 : World)
    (hr : (Instr.storeAt ty vx vy).run P w = .ok () w2) (k : wpList P ops Q rest a w2) : wpList P ops Q (o :: rest) a w := by
  apply wpList_step
  intro K hK
  rw [if_pos hw]
  unfold Oper.wp execOp
  simp only [ho, hx, hy, Sem.run_bind, hr, Result.andThen_ok]
  show K (a.put o.dst undef) _
  rw [hd]
  exact hK _ _ k
theorem st_storeA (hi : ops[i]? = some o) (hw : Region.wanted o (yielded ops a.tmps) = true) (hd : o.dst = none) (ty : TypeId) (x y : Operand) (ho : o.op = .store ty x y) (vx vy : Value) (hx : a.eval x = vx) (hy : a.eval y = vy) (w2 : World)
    (hr : (Instr.storeAt ty vx vy).run P w = .ok () w2) (h : K a w2) : wpOp P ops Q i K a w := by
  refine st_of hi hw ?_
  unfold Oper.wp execOp
  simp only [ho, hx, hy, Sem.run_bind, hr, Result.andThen_ok]
  show K (a.put o.dst undef) _
  rw [hd]
  exact h
end
end Go.Proofs.Ytefinpapkjgpoaa
