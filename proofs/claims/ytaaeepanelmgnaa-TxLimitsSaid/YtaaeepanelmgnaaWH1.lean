/-
  Rows of fields: the cells of a list of fields; a row that a call made, with the fields' bytes in memory of the call's own; one field more.
  Conditions: none of their own.
-/
import Derived.Test.YtaaeepanelmgnaaWG6
namespace Go.Proofs.Ytaaeepanelmgnaa
set_option maxRecDepth 100000
open Go.RowKit

/-- The four cells of a field whose bytes are the slice p.2. -/
def cellsOf (p : Fld × Value) : List Value := [.int .i64 p.1.num, .int .i64 p.1.kind, .int .u64 p.1.val, p.2]
def row4 (ps : List (Fld × Value)) : List Value := ps.flatMap cellsOf
theorem row4_length (ps : List (Fld × Value)) : (row4 ps).length = ps.length * 4 := by
  induction ps with
  | nil => rfl
  | cons p ps ih =>
    have : row4 (p :: ps) = cellsOf p ++ row4 ps := rfl
    rw [this, List.length_append, ih, List.length_cons]
    simp only [cellsOf, List.length_cons, List.length_nil]
    omega
theorem row4_get (ps : List (Fld × Value)) : ∀ (i j : Nat) (p : Fld × Value), ps[i]? = some p → j < 4 → (row4 ps)[i * 4 + j]? = (cellsOf p)[j]? := by
  induction ps with
  | nil => intro i j p h; simp at h
  | cons q ps ih =>
    intro i j p h hj
    have hr : row4 (q :: ps) = cellsOf q ++ row4 ps := rfl
    have hq : (cellsOf q).length = 4 := rfl
    rw [hr]
    cases i with
    | zero =>
      simp only [List.getElem?_cons_zero, Option.some.injEq] at h
      subst h
      rw [List.getElem?_append_left (by omega)]
      simp
    | succ i =>
      rw [List.getElem?_cons_succ] at h
      rw [List.getElem?_append_right (by omega), hq, show (i + 1) * 4 + j - 4 = i * 4 + j by omega]
      exact ih i j p h hj
theorem row4_snoc (ps : List (Fld × Value)) (p : Fld × Value) : row4 (ps ++ [p]) = row4 ps ++ cellsOf p := by
  simp only [row4, List.flatMap_append, List.flatMap_cons, List.flatMap_nil, List.append_nil]

/-- A row of fields that the call made. -/
def RowB (w : World) (B : Nat) (v : Value) (ps : List (Fld × Value)) : Prop :=
  w.ownsRow B 54 4 v ps.length (row4 ps) ∧ ∀ p, p ∈ ps → Own w B p.2 p.1.bytes
theorem RowB.nil (w : World) (B : Nat) : RowB w B (.slice none 0 0) [] := ⟨World.ownsRow_nil _ _ _ _, fun p h => by simp at h⟩
theorem RowB.below {w w' : World} {B : Nat} {v : Value} {ps : List (Fld × Value)} (h : RowB w B v ps) (hb : Below w.heap.size w w') : RowB w' B v ps := ⟨own_below h.1 hb, fun p hp => (h.2 p hp).below hb⟩
theorem RowB.base {w : World} {B B' : Nat} {v : Value} {ps : List (Fld × Value)} (h : RowB w B' v ps) (hB : B ≤ B') : RowB w B v ps := ⟨own_base h.1 hB, fun p hp => (h.2 p hp).base hB⟩
theorem RowB.form {w : World} {B : Nat} {v : Value} {ps : List (Fld × Value)} (h : RowB w B v ps) : ∃ a c, v = .slice a ps.length c ∧ ps.length ≤ c := by
  rcases h.1.2 with ⟨rfl, h0⟩ | ⟨g, cap, cur, rfl, _, _, hcap, _⟩
  · exact ⟨none, 0, by rw [h0], by omega⟩
  · exact ⟨_, cap, rfl, hcap⟩
/-- One field more. -/
theorem RowB.step {B : Nat} {w w2 : World} {v v' : Value} {ps : List (Fld × Value)} {p : Fld × Value} {o : Obj} (h : RowB w B v ps) (hc : Own w B p.2 p.1.bytes)
    (hown : w2.ownsRow B 54 4 v' (ps.length + 1) (row4 ps ++ cellsOf p)) (hgrow : (w.alloc o).grownBy w2 v.ownBlock) : RowB w2 B v' (ps ++ [p]) := by
  have keep : ∀ (c : Value) (ys : List Int), Own w B c ys → Own w2 B c ys := fun c ys hh => (World.ownsRow.alloc hh o).kept hgrow (own_ne hh h.1 (by decide))
  refine ⟨by rw [row4_snoc, List.length_append]; exact hown, fun q hq => ?_⟩
  rcases List.mem_append.1 hq with hq | hq
  · exact keep _ _ (h.2 q hq)
  · obtain rfl : q = p := by simpa using hq
    exact keep _ _ hc
theorem cells_of_new (w : World) (p : Fld × Value) (g : Nat) (hg : g = w.heap.size) : ∀ j u, (cellsOf p)[j]? = some u → (w.alloc (.cells #[.int .i64 p.1.num, .int .i64 p.1.kind, .int .u64 p.1.val, p.2] 54)).cell? ((⟨g, 0, none⟩ : Addr).add j) = some u := by
  subst hg
  intro j u hj
  rw [Go.WideShapes.add_plain, cell_of_row _ w.heap.size (0 + j) _ 54 (0, 0) (heap_alloc_new w _), Nat.zero_add]
  simpa [cellsOf] using hj
theorem cells_one {w : World} {B : Nat} {p : Fld × Value} {L : List Int} (h : Own w B p.2 L) : ∀ u ∈ cellsOf p, u.oneCell' = true := by
  obtain ⟨a, c, he, -, -⟩ := h.sl
  intro u hu
  simp only [cellsOf, List.mem_cons, List.not_mem_nil, or_false, he] at hu
  rcases hu with rfl | rfl | rfl | rfl <;> rfl

/-- What a call that reads a message returned: the fields, the offset, the error R. -/
def FldsR (w : World) (R : List Fld × Int × Int) (e : Ending) (w' : World) : Prop :=
  ∃ v ps, e = .returned (.tuple #[v, .int .i64 R.2.1, .int .i64 R.2.2]) ∧ ps.map Prod.fst = R.1 ∧ RowB w' w.heap.size v ps ∧ Below w.heap.size w w'
end Go.Proofs.Ytaaeepanelmgnaa
