/-
 Names and memos as lists of numbers; comparisons of bytes, a byte of a string.
-/
import Derived.Test.YtplfineaomneiaaGreatDoorU1
import Derived.Test.YtplfineaomneiaaGreatDoorCB
namespace Go.Proofs.YtplfineaomneiaaGreatDoor
open Go.RowKit
set_option linter.unusedSimpArgs false
set_option linter.unusedVariables false

theorem run_four {c0 c1 : Int} {f1 f2 f3 : Bool} (h : runN c0 c1 f1 f2 f3 = 4) : ((((240 ≤ c0 ∧ c0 < 245) ∧ f1 = true) ∧ f2 = true) ∧ f3 = true) ∧ ¬ ((c0 = 240 ∧ c1 < 144) ∨ (c0 = 244 ∧ 144 ≤ c1)) := by
 unfold runN at h
 split at h
 ·omega
 split at h
 ·omega
 split at h
 ·split at h <;> omega
 split at h
 ·rename_i h4
  split at h
  ·omega
  ·rename_i h5
   exact ⟨h4, h5⟩
 ·omega
theorem run_fffd {L : List Int} {i : Nat} (hb : ∀ j, 0 ≤ L.getD j 0 ∧ L.getD j 0 < 256) (h : runK L i ≠ 0) (e : runV L i = 65533) : runK L i = 3 := by
 have h4 := run_le L i
 have g0 := hb i
 have g1 := hb (i + 1)
 rcases (show runK L i = 1 ∨ runK L i = 2 ∨ runK L i = 3 ∨ runK L i = 4 by omega) with k | k | k | k
 ·unfold runV at e
  rw [k] at e
  simp only [valN, if_true] at e
  omega
 ·unfold runV at e
  rw [k] at e
  have e2 : (L.getD i 0 - 192) * 64 + (L.getD (i + 1) 0 - 128) = 65533 := e
  omega
 ·exact k
 ·have q := run_four k
  have h1 := fol_rng q.1.1.1.2
  have h2 := fol_rng q.1.1.2
  have h3 := fol_rng q.1.2
  unfold runV at e
  rw [k] at e
  have e2 : (L.getD i 0 - 240) * 262144 + (L.getD (i + 1) 0 - 128) * 4096 + (L.getD (i + 2) 0 - 128) * 64 + (L.getD (i + 3) 0 - 128) = 65533 := e
  omega
/-- How many runes from a place on; none if it is not UTF-8. -/
def runs (L : List Int) (i : Nat) : Option Nat :=
 if h : i < L.length then (if runK L i = 0 then none else (runs L (i + runK L i)).map (· + 1)) else some 0
termination_by L.length - i
decreasing_by omega
def nmB (c : Int) : Bool := (decide (97 ≤ c) && decide (c ≤ 122)) || (decide (48 ≤ c) && decide (c ≤ 57)) || decide (c = 45)
def isName (L : List Int) : Bool := L.all nmB && (decide (1 ≤ L.length) && decide (L.length ≤ 20))
def isMemo (L : List Int) : Bool := match runs L 0 with
 | none => false
 | some n => decide (n ≤ 64)
theorem all_no {L : List Int} {i : Nat} (h : i < L.length) (hb : nmB (L.getD i 0) = false) : isName L = false := by
 unfold isName
 have : L.all nmB = false := by
  rw [List.all_eq_false]
  exact ⟨L.getD i 0, by rw [List.getD_eq_getElem?_getD, List.getElem?_eq_getElem h]; exact List.getElem_mem h, by rw [hb]; simp⟩
 rw [this]
 rfl
theorem all_yes {L : List Int} (h : ∀ j, j < L.length → nmB (L.getD j 0) = true) : L.all nmB = true := by
 rw [List.all_eq_true]
 intro x hx
 obtain ⟨j, hj, rfl⟩ := List.mem_iff_getElem.1 hx
 have := h j hj
 rwa [List.getD_eq_getElem?_getD, List.getElem?_eq_getElem hj] at this
section
variable {ρ : Operand → Value} {o : Oper} {x y : Operand}
theorem ex_index (s : ByteArray) (i : Nat) (h : i < s.size) (ho : o.op = .index 9 x y) (hx : ρ x = .string s) (hy : ρ y = .int .i64 i) (w : World) : (execOp ρ o).run Tryz.prog w = .ok (.value (.int .u8 ((nums s).getD i 0))) w := by
 unfold execOp
 simp only [ho, hx, hy, Sem.run_bind, str_index s i h w]
 rfl
theorem geq_u (ho : o.op = .binOp .geq 5 x y 5) (a b : Int) {t : Bool} (ht : decide (b ≤ a) = t) (hx : ρ x = .int .u8 a) (hy : ρ y = .int .u8 b) (w : World) : (execOp ρ o).run Tryz.prog w = .ok (.value (.bool t)) w := by
 rw [← ht]
 unfold execOp
 simp only [ho, hx, hy]
 go_simp
theorem leq_u (ho : o.op = .binOp .leq 5 x y 5) (a b : Int) {t : Bool} (ht : decide (a ≤ b) = t) (hx : ρ x = .int .u8 a) (hy : ρ y = .int .u8 b) (w : World) : (execOp ρ o).run Tryz.prog w = .ok (.value (.bool t)) w := by
 rw [← ht]
 unfold execOp
 simp only [ho, hx, hy]
 go_simp
theorem lss_u (ho : o.op = .binOp .lss 5 x y 5) (a b : Int) {t : Bool} (ht : decide (a < b) = t) (hx : ρ x = .int .u8 a) (hy : ρ y = .int .u8 b) (w : World) : (execOp ρ o).run Tryz.prog w = .ok (.value (.bool t)) w := by
 rw [← ht]
 unfold execOp
 simp only [ho, hx, hy]
 go_simp
theorem eql_u (ho : o.op = .binOp .eql 5 x y 5) (a b : Int) {t : Bool} (ht : decide (a = b) = t) (hx : ρ x = .int .u8 a) (hy : ρ y = .int .u8 b) (w : World) : (execOp ρ o).run Tryz.prog w = .ok (.value (.bool t)) w := by
 have e : (a == b) = t := ht
 unfold execOp
 simp only [ho, hx, hy]
 go_simp
theorem geq_n (ho : o.op = .binOp .geq 3 x y 3) (a b : Int) {t : Bool} (ht : decide (b ≤ a) = t) (hx : ρ x = .int .i64 a) (hy : ρ y = .int .i64 b) (w : World) : (execOp ρ o).run Tryz.prog w = .ok (.value (.bool t)) w := by
 rw [← ht]
 unfold execOp
 simp only [ho, hx, hy]
 go_simp
theorem leq_n (ho : o.op = .binOp .leq 3 x y 3) (a b : Int) {t : Bool} (ht : decide (a ≤ b) = t) (hx : ρ x = .int .i64 a) (hy : ρ y = .int .i64 b) (w : World) : (execOp ρ o).run Tryz.prog w = .ok (.value (.bool t)) w := by
 rw [← ht]
 unfold execOp
 simp only [ho, hx, hy]
 go_simp
theorem lss_n (ho : o.op = .binOp .lss 3 x y 3) (a b : Int) {t : Bool} (ht : decide (a < b) = t) (hx : ρ x = .int .i64 a) (hy : ρ y = .int .i64 b) (w : World) : (execOp ρ o).run Tryz.prog w = .ok (.value (.bool t)) w := by
 rw [← ht]
 unfold execOp
 simp only [ho, hx, hy]
 go_simp
end
/-- A byte of a string at the operation. -/
def StrAt (s : ByteArray) (i : Nat) (c : Int) : Prop := ∀ (ρ : Operand → Value) (o : Oper) (x y : Operand), o.op = .index 9 x y → ρ x = .string s → ρ y = .int .i64 i → ∀ w, (execOp ρ o).run Tryz.prog w = .ok (.value (.int .u8 c)) w
theorem str_at (s : ByteArray) (i : Nat) (h : i < s.size) : StrAt s i ((nums s).getD i 0) := fun ρ o x y ho hx hy w => ex_index s i h ho hx hy w
end Go.Proofs.YtplfineaomneiaaGreatDoor
