/-
  Items in memory: rows of them, one in a block of its own, two by ==.
-/
import Derived.Test.YtepdibnbnhkpnaaHA
namespace Go.Proofs.Ytepdibnbnhkpnaa
open Go.RowKit
set_option linter.unusedSimpArgs false
set_option linter.unusedVariables false

def itl (x : It) : List Value := [.int .i64 x.1, .int .u64 x.2.1, .int .i64 x.2.2]
abbrev itA (x : It) : Array Value := #[.int .i64 x.1, .int .u64 x.2.1, .int .i64 x.2.2]
def itc (A : List It) : List Value := A.flatMap itl
theorem itc_cons (x : It) (r : List It) : itc (x :: r) = .int .i64 x.1 :: .int .u64 x.2.1 :: .int .i64 x.2.2 :: itc r := rfl
theorem itc_app (A B : List It) : itc (A ++ B) = itc A ++ itc B := by simp [itc]
theorem itc_len : ∀ A : List It, (itc A).length = A.length * 3
  | [] => rfl
  | x :: r => by have := itc_len r; rw [itc_cons]; simp; omega
theorem itc_one (A : List It) : ∀ u ∈ itc A, u.oneCell' = true := fun u hu => by
  obtain ⟨x, -, hx⟩ := List.mem_flatMap.1 hu
  simp only [itl, List.mem_cons, List.not_mem_nil, or_false] at hx
  rcases hx with rfl | rfl | rfl <;> rfl
theorem itA_one (x : It) : (itA x).all (·.oneCell') = true := by simp [Value.oneCell']
theorem itc_at : ∀ (A : List It) (k : Nat), k < A.length → (itc A)[k * 3]? = some (.int .i64 (ita A k).1) ∧ (itc A)[k * 3 + 1]? = some (.int .u64 (ita A k).2.1) ∧ (itc A)[k * 3 + 2]? = some (.int .i64 (ita A k).2.2)
  | [], k, h => absurd h (by simp)
  | x :: r, 0, h => by rw [itc_cons]; exact ⟨rfl, rfl, rfl⟩
  | x :: r, k + 1, h => by
    have := itc_at r k (by simpa using h)
    rw [itc_cons, show (k + 1) * 3 = k * 3 + 1 + 1 + 1 by omega, show k * 3 + 1 + 1 + 1 + 1 = (k * 3 + 1) + 1 + 1 + 1 by omega, show k * 3 + 1 + 1 + 1 + 2 = (k * 3 + 2) + 1 + 1 + 1 by omega]
    simpa [ita, List.getD] using this
theorem itc_take : ∀ (A : List It) (k : Nat), (itc A).take (k * 3) = itc (A.take k)
  | [], k => by simp [itc]
  | x :: r, 0 => by simp [itc]
  | x :: r, k + 1 => by
    rw [itc_cons, show (k + 1) * 3 = k * 3 + 1 + 1 + 1 by omega, List.take_succ_cons, List.take_succ_cons, List.take_succ_cons, itc_take r k, List.take_succ_cons, itc_cons]
theorem itc_drop : ∀ (A : List It) (k : Nat), (itc A).drop (k * 3) = itc (A.drop k)
  | [], k => by simp [itc]
  | x :: r, 0 => by simp
  | x :: r, k + 1 => by
    rw [itc_cons, show (k + 1) * 3 = k * 3 + 1 + 1 + 1 by omega, List.drop_succ_cons, List.drop_succ_cons, List.drop_succ_cons, itc_drop r k, List.drop_succ_cons]
theorem itc_set3 : ∀ (A : List It) (k : Nat) (x : It), k < A.length → (((itc A).set (k * 3) (.int .i64 x.1)).set (k * 3 + 1) (.int .u64 x.2.1)).set (k * 3 + 1 + 1) (.int .i64 x.2.2) = itc (A.set k x)
  | [], k, _, h => absurd h (by simp)
  | y :: r, 0, x, h => rfl
  | y :: r, k + 1, x, h => by
    have := itc_set3 r k x (by simpa using h)
    rw [itc_cons, show (k + 1) * 3 = k * 3 + 1 + 1 + 1 by omega]
    rw [show k * 3 + 1 + 1 + 1 + 1 = (k * 3 + 1) + 1 + 1 + 1 by omega]
    rw [show k * 3 + 1 + 1 + 1 + 1 + 1 = (k * 3 + 1 + 1) + 1 + 1 + 1 by omega]
    simp only [List.set_cons_succ]
    rw [this]
    rfl
theorem infoX : (Try.prog.info? 24).map (fun i => (i.zero, i.size, i.bytes)) = some (some (.agg #[.int .i64 0, .int .u64 0, .int .i64 0]), 3, 24) := by kernel_rfl
theorem sizeX : (Try.prog.info? 24).map (·.size) = some 3 := by kernel_rfl
/-- An item at its place in a row. -/
theorem it_range {w : World} {a : Option Addr} {A : List It} (h : Cs w a (itc A)) {k : Nat} (hk : k < A.length) : ∃ b off, a = some ⟨b, off, none⟩ ∧ b < w.heap.size ∧ w.rangeAt b (off + k * 3) (itl (ita A k)) := by
  obtain ⟨h0, h1, h2⟩ := itc_at A k hk
  obtain ⟨b, off, rfl, hb, c0⟩ := h _ _ h0
  obtain ⟨b1, off1, e1, -, c1⟩ := h _ _ h1
  obtain ⟨b2, off2, e2, -, c2⟩ := h _ _ h2
  simp only [Option.some.injEq, Addr.mk.injEq, and_true] at e1 e2
  obtain ⟨rfl, rfl⟩ := e1
  obtain ⟨rfl, rfl⟩ := e2
  refine ⟨b, off, rfl, hb, fun j v hj => ?_⟩
  have hj3 : j < 3 := by
    have := (List.getElem?_eq_some_iff.1 hj).1
    simpa [itl] using this
  rcases (show j = 0 ∨ j = 1 ∨ j = 2 by omega) with rfl | rfl | rfl
  · simp [itl] at hj; rw [← hj]; exact c0
  · simp [itl] at hj; rw [← hj, Nat.add_assoc]; exact c1
  · simp [itl] at hj; rw [← hj, Nat.add_assoc]; exact c2
theorem load_it {w : World} {b o : Nat} {x : It} (h : w.rangeAt b o (itl x)) : (Instr.loadAt 24 (.pointer (some ⟨b, o, none⟩))).run Try.prog w = .ok (.agg (itA x)) w :=
  run_loadAt_mid w b o 24 (itl x) _ h Try.underlying24 rfl (by kernel_rfl)
theorem box_range {w : World} {g t : Nat} {x : It} (h : Bx w g (itA x) t) : w.rangeAt g 0 (itl x) := fun j v hv => by
  rw [cell_of_row w g _ _ _ (0, 0) h]
  simpa [itl] using hv
theorem load_box {w : World} {g t : Nat} {x : It} (h : Bx w g (itA x) t) : (Instr.loadAt 24 (.pointer (some ⟨g, 0, none⟩))).run Try.prog w = .ok (.agg (itA x)) w := load_it (box_range h)
theorem idx_it (b off n c k : Nat) (hk : k < n) (V : World) (ρ : Operand → Value) (o : Oper) {x y : Operand} (ho : o.op = .indexAddr 35 x y) (hx : ρ x = .slice (some ⟨b, off, none⟩) n c) (hy : ρ y = .int .i64 k) : (execOp ρ o).run Try.prog V = .ok (.value (.pointer (some ⟨b, off + k * 3, none⟩))) V := by
  have hs : (sizeOf (Try.prog.elem 35)).run Try.prog V = .ok 3 V := by kernel_rfl
  have hlm : (k : Int) < (n : Int) := by omega
  unfold execOp
  simp only [ho, hx, hy]
  go_simp
/-- The same in a row that begins its block. -/
theorem idx_it0 (b n c k : Nat) (hk : k < n) (V : World) (ρ : Operand → Value) (o : Oper) {x y : Operand} (ho : o.op = .indexAddr 35 x y) (hx : ρ x = .slice (some ⟨b, 0, none⟩) n c) (hy : ρ y = .int .i64 k) : (execOp ρ o).run Try.prog V = .ok (.value (.pointer (some ⟨b, k * 3, none⟩))) V := by
  have := idx_it b 0 n c k hk V ρ o ho hx hy
  rw [Nat.zero_add] at this
  exact this
theorem build_it (x : It) (V : World) : (Instr.buildSlice 35 1 #[(0, .agg (itA x))]).run Try.prog V = .ok (.slice (some ⟨V.heap.size, 0, none⟩) 1 1) (V.alloc (.cells (itA x) 24)) := by
  obtain ⟨i0, hi, hz0, hz1, hz2⟩ := info_parts infoX
  refine run_buildSlice V 35 24 1 _ (itA x) i0 _ Try.underlying35 hi hz0 (by rw [hz1]; omega) (by rw [hz1]; omega) ?_
  rw [hz1]
  kernel_rfl
theorem nil_it (w : World) : (Instr.buildSlice 35 0 #[]).run Try.prog w = .ok (.slice (some ⟨w.heap.size, 0, none⟩) 0 0) (w.alloc (.cells #[] 24)) := build_nil Try.underlying35 infoX w
theorem bx_it (x : It) (w : World) : Cs (w.alloc (.cells (itA x) 24)) (some ⟨w.heap.size, 0, none⟩) (itc [x]) :=
  Cs.block (t := 24) (fr := (0, 0)) (cs := itl x) (heap_alloc_last w (.cells (itA x) 24))
theorem cut_it_to (a : Option Addr) (n c k : Nat) (w : World) (h : k ≤ c) : (Instr.slice 35 (.slice a n c) none (some (.int .i64 (k : Int))) none).run Try.prog w = .ok (.slice a k c) w := cut_to (s := 3) (by kernel_rfl) (fun w => by kernel_rfl) a n c k w h
theorem cut_it_from (a : Option Addr) (n c k : Nat) (w : World) (h : k ≤ n) : (Instr.slice 35 (.slice a n c) (some (.int .i64 (k : Int))) none none).run Try.prog w = .ok (.slice (fromS 3 a c k) (n - k) (c - k)) w := cut_from (s := 3) (by kernel_rfl) (fun w => by kernel_rfl) a n c k w h
theorem eq_it {ρ : Operand → Value} {o : Oper} {X Y : Operand} (ho : o.op = .binOp .eql 24 X Y 24) (x y : It) (hx : ρ X = .agg (itA x)) (hy : ρ Y = .agg (itA y)) (w : World) : (execOp ρ o).run Try.prog w = .ok (.value (.bool (decide (x = y)))) w := by
  have e : decide (x = y) = (x.1 == y.1 && (x.2.1 == y.2.1 && x.2.2 == y.2.2)) := by
    obtain ⟨x1, x2, x3⟩ := x
    obtain ⟨y1, y2, y3⟩ := y
    simp only [Prod.mk.injEq, Bool.decide_and]
    rfl
  unfold execOp
  simp only [ho, hx, hy]
  rw [e]
  go_simp
  by_cases h1 : x.1 = y.1 <;> by_cases h2 : x.2.1 = y.2.1 <;> by_cases h3 : x.2.2 = y.2.2 <;> simp [h1, h2, h3]
theorem ne_it {ρ : Operand → Value} {o : Oper} {X Y : Operand} (ho : o.op = .binOp .neq 24 X Y 24) (x y : It) (hx : ρ X = .agg (itA x)) (hy : ρ Y = .agg (itA y)) (w : World) : (execOp ρ o).run Try.prog w = .ok (.value (.bool (!decide (x = y)))) w := by
  have e : decide (x = y) = (x.1 == y.1 && (x.2.1 == y.2.1 && x.2.2 == y.2.2)) := by
    obtain ⟨x1, x2, x3⟩ := x
    obtain ⟨y1, y2, y3⟩ := y
    simp only [Prod.mk.injEq, Bool.decide_and]
    rfl
  unfold execOp
  simp only [ho, hx, hy]
  rw [e]
  go_simp
  by_cases h1 : x.1 = y.1 <;> by_cases h2 : x.2.1 = y.2.1 <;> by_cases h3 : x.2.2 = y.2.2 <;> simp [h1, h2, h3]
end Go.Proofs.Ytepdibnbnhkpnaa
