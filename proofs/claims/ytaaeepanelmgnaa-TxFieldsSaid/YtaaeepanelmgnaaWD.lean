/-
  Rows of strings, sums of strings (for TxFields: without the walk of TxWords).
-/
import Derived.Test.YtaaeepanelmgnaaKN
namespace Go.Proofs.Ytaaeepanelmgnaa
open Go.RowKit
set_option linter.unusedSimpArgs false
set_option linter.unusedVariables false

theorem add_s {ρ : Operand → Value} {o : Oper} {x y : Operand} (ho : o.op = .binOp .add 9 x y 9) (a b : ByteArray) (hs : a.size + b.size ≤ 1000000000) (hx : ρ x = .string a) (hy : ρ y = .string b) (w : World) : (execOp ρ o).run Try.prog w = .ok (.value (.string (a ++ b))) w := by
  unfold execOp
  simp only [ho, hx, hy]
  go_simp
  omega
theorem app_size (a b : ByteArray) : (a ++ b).size = a.size + b.size := ByteArray.size_append
theorem infoSt : (Try.prog.info? 9).map (fun i => (i.zero, i.size, i.bytes)) = some (some (.string ByteArray.empty), 1, 16) := by kernel_rfl
theorem idx_str (b off n c k : Nat) (hk : k < n) (V : World) (ρ : Operand → Value) (o : Oper) {x y : Operand} (ho : o.op = .indexAddr 23 x y) (hx : ρ x = .slice (some ⟨b, off, none⟩) n c) (hy : ρ y = .int .i64 k) : (execOp ρ o).run Try.prog V = .ok (.value (.pointer (some ⟨b, off + k, none⟩))) V := by
  have hs : (sizeOf (Try.prog.elem 23)).run Try.prog V = .ok 1 V := by kernel_rfl
  have hlm : (k : Int) < (n : Int) := by omega
  unfold execOp
  simp only [ho, hx, hy]
  go_simp
theorem str_to8 (T : ByteArray) (h : Nat) (hh : h ≤ T.size) (w : World) : (Instr.slice 9 (.string T) none (some (.int .u8 (h : Int))) none).run Try.prog w = .ok (.string (T.extract 0 h)) w := by
  simp [Instr.slice, run_underlying Try.underlying9, Instr.sliceBounds, Instr.sliceBound, asIntOf, go_sem]
  intro h'
  omega
/-- Strings in a row that begins its block. -/
def strs (S : List ByteArray) : List Value := S.map Value.string
theorem strs_at {S : List ByteArray} {k : Nat} (h : k < S.length) : (strs S)[k]? = some (.string (S.getD k mtS)) := by
  unfold strs
  rw [List.getElem?_map, List.getElem?_eq_getElem h, List.getD_eq_getElem?_getD, List.getElem?_eq_getElem h]
  rfl
theorem load_str {w : World} {g t : Nat} {S : List ByteArray} (h : Bx w g (strs S).toArray t) {k : Nat} (hk : k < S.length) : (Instr.loadAt 9 (.pointer (some ⟨g, 0 + k, none⟩))).run Try.prog w = .ok (.string (S.getD k mtS)) w := by
  rw [Nat.zero_add]
  exact Bx.load h (i := k) (by rw [List.getElem?_toArray]; exact strs_at hk) (by kernel_rfl)
/-- The four runes of the statement. -/
def rns : List ByteArray := [⟨#[97]⟩, ⟨#[195, 169]⟩, ⟨#[228, 184, 150]⟩, ⟨#[240, 159, 152, 128]⟩]
theorem rns_size (k : Nat) (h : k < 4) : (rns.getD k mtS).size ≤ 4 := by
  rcases (show k = 0 ∨ k = 1 ∨ k = 2 ∨ k = 3 by omega) with rfl | rfl | rfl | rfl <;> decide
theorem build_rns (V : World) : (Instr.buildSlice 23 4 #[(0, .string ⟨#[97]⟩), (1, .string ⟨#[195, 169]⟩), (2, .string ⟨#[228, 184, 150]⟩), (3, .string ⟨#[240, 159, 152, 128]⟩)]).run Try.prog V = .ok (.slice (some ⟨V.heap.size, 0, none⟩) 4 4) (V.alloc (.cells (strs rns).toArray 9)) := by
  obtain ⟨i0, hi, hz0, hz1, hz2⟩ := info_parts infoSt
  refine run_buildSlice V 23 9 4 _ (strs rns).toArray i0 _ Try.underlying23 hi hz0 (by rw [hz1]; omega) (by rw [hz1]; omega) ?_
  rw [hz1]
  kernel_rfl
theorem build_nine (a b c d e f g h i : ByteArray) (V : World) : (Instr.buildSlice 23 9 #[(0, .string a), (1, .string b), (2, .string c), (3, .string d), (4, .string e), (5, .string f), (6, .string g), (7, .string h), (8, .string i)]).run Try.prog V = .ok (.slice (some ⟨V.heap.size, 0, none⟩) 9 9) (V.alloc (.cells (strs [a, b, c, d, e, f, g, h, i]).toArray 9)) := by
  obtain ⟨i0, hi, hz0, hz1, hz2⟩ := info_parts infoSt
  refine run_buildSlice V 23 9 9 _ (strs [a, b, c, d, e, f, g, h, i]).toArray i0 _ Try.underlying23 hi hz0 (by rw [hz1]; omega) (by rw [hz1]; omega) ?_
  rw [hz1]
  kernel_rfl
theorem rem_u8 {ρ : Operand → Value} {o : Oper} {x y : Operand} (ho : o.op = .binOp .rem 5 x y 5) (a b : Int) (hb : b ≠ 0) (hx : ρ x = .int .u8 a) (hy : ρ y = .int .u8 b) (w : World) : (execOp ρ o).run Try.prog w = .ok (.value (.int .u8 (a.tmod b))) w := by
  have hbb : (b == 0) = false := by simpa using hb
  unfold execOp
  simp only [ho, hx, hy]
  go_simp
theorem conv_u8 {ρ : Operand → Value} {o : Oper} {x : Operand} (ho : o.op = .convert 5 3 x) (a : Int) (h0 : 0 ≤ a) (h1 : a ≤ 255) (hx : ρ x = .int .u8 a) (w : World) : (execOp ρ o).run Try.prog w = .ok (.value (.int .i64 a)) w := by
  have hw : IntKind.i64.wrap a = a := by
    rw [IntKind.wrap_i64]; omega
  unfold execOp
  simp only [ho, hx]
  go_simp
theorem mul_i {ρ : Operand → Value} {o : Oper} {x y : Operand} (ho : o.op = .binOp .mul 3 x y 3) (a b : Nat) (h : a * b ≤ 1000000000) (hx : ρ x = .int .i64 a) (hy : ρ y = .int .i64 b) (w : World) : (execOp ρ o).run Try.prog w = .ok (.value (.int .i64 (a * b : Nat))) w := by
  have hw : IntKind.i64.wrap ((a : Int) * (b : Int)) = ((a * b : Nat) : Int) := by
    rw [show (a : Int) * (b : Int) = ((a * b : Nat) : Int) by simp]
    rw [IntKind.wrap_i64]; omega
  unfold execOp
  simp only [ho, hx, hy]
  go_simp
theorem rem_nat {ρ : Operand → Value} {o : Oper} {x y : Operand} (ho : o.op = .binOp .rem 3 x y 3) (a b : Nat) (hb : b ≠ 0) (hx : ρ x = .int .i64 a) (hy : ρ y = .int .i64 b) (w : World) : (execOp ρ o).run Try.prog w = .ok (.value (.int .i64 (a % b : Nat))) w := by
  have := rem_i64 ho a b (by omega) hx hy w
  rw [this]
  congr 1
theorem mul_rem (a : Nat) : a % 4 = a % 4 := rfl
theorem neq_b0 {ρ : Operand → Value} {o : Oper} {x y : Operand} (ho : o.op = .binOp .neq 4 x y 4) (a : Bool) (hx : ρ x = .bool a) (hy : ρ y = .bool a) (w : World) : (execOp ρ o).run Try.prog w = .ok (.value (.bool false)) w := by
  unfold execOp
  simp only [ho, hx, hy]
  cases a <;> go_simp
end Go.Proofs.Ytaaeepanelmgnaa
