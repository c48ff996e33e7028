/-
  The contract of the program's padding.
-/
import Derived.Test.YtgkckblcekbafaaSK3
import Derived.Test.YtgkckblcekbafaaSSB
import Derived.Deep.OwnRows
namespace Go.Proofs.Ytgkckblcekbafaa
set_option maxRecDepth 100000
open Go.RowKit

/-- What follows a message of n bytes. -/
def pad (n : Nat) : List Int := [128] ++ List.replicate (zeros n) 0 ++ lenBytes ((n : Int) * 8 % 18446744073709551616)
theorem padded_pad (L : List Int) : padded L = L ++ pad L.length := by simp [padded, pad]
theorem lenBytes_len (b : Int) : (lenBytes b).length = 8 := rfl
theorem pad_len (n : Nat) : (pad n).length = zeros n + 9 := by simp [pad, lenBytes_len]

/-- The row when i bytes of the length have come. -/
def fp (n : Nat) : Nat → List Int
  | 0 => (List.replicate (zeros n + 9) 0).set 0 128
  | i + 1 => (fp n i).set (zeros n + 8 - i) ((n : Int) * 8 / 2 ^ (8 * i) % 256)
theorem fp_len (n i : Nat) : (fp n i).length = zeros n + 9 := by
  induction i with
  | zero => simp [fp]
  | succ i ih => simp [fp, ih]
theorem set_at (P Z : List Int) (z k j : Nat) (x : Int) (hP : P.length = z) (hj : j = z + k) : (P ++ Z).set j x = P ++ Z.set k x := by
  subst hP; subst hj
  rw [List.set_append_right _ _ (by omega)]
  simp
theorem fp8 (n : Nat) (hn : n ≤ 1000000) : fp n 8 = pad n := by
  have h1 : (List.replicate (zeros n + 9) (0 : Int)).set 0 128 = (128 :: List.replicate (zeros n) 0) ++ [0, 0, 0, 0, 0, 0, 0, 0] := by
    rw [show zeros n + 9 = (zeros n + 8) + 1 by omega, List.replicate_succ, List.set_cons_zero, ← List.replicate_append_replicate]
    rfl
  have hP : (128 :: List.replicate (zeros n) (0 : Int)).length = zeros n + 1 := by simp
  have hb : (n : Int) * 8 % 18446744073709551616 = (n : Int) * 8 := by omega
  simp only [fp, h1]
  rw [set_at _ _ _ 7 _ _ hP (by omega), set_at _ _ _ 6 _ _ hP (by omega), set_at _ _ _ 5 _ _ hP (by omega), set_at _ _ _ 4 _ _ hP (by omega), set_at _ _ _ 3 _ _ hP (by omega), set_at _ _ _ 2 _ _ hP (by omega), set_at _ _ _ 1 _ _ hP (by omega), set_at _ _ _ 0 _ _ hP (by omega)]
  simp only [List.set_cons_succ, List.set_cons_zero]
  unfold pad lenBytes
  rw [hb]
  rfl

theorem Ab.cell {w : World} {g : Nat} {t : TypeId} {L : List Int} (h : Ab w g t L) (i : Nat) (hi : i < L.length) : w.cell? ⟨g, i, none⟩ = some (.int .u8 (L.getD i 0)) := by
  rw [cell_of_row w g i _ t (0, 0) h]
  simp [w8s, hi]
theorem Ab.frozen {w : World} {g : Nat} {t : TypeId} {L : List Int} (h : Ab w g t L) (i : Nat) : w.frozen? ⟨g, i, none⟩ = false := frozen_of_row w g i _ t h
theorem Ab.set {w : World} {g : Nat} {t : TypeId} {L : List Int} (h : Ab w g t L) (i : Nat) (x : Int) : Ab (w.setCell ⟨g, i, none⟩ (.int .u8 x)) g t (L.set i x) := by
  unfold Ab
  rw [Joins.block_setCell h]
  simp [w8s]
theorem Ab.far {w : World} {g : Nat} {t : TypeId} {L : List Int} (h : Ab w g t L) (a : Addr) (hn : g ≠ a.block) (v : Value) : Ab (w.setCell a v) g t L := by
  unfold Ab
  rw [heap_setCell_other w a g v hn]
  exact h

theorem shr64 (x : Int) (m : Nat) (h : m ≤ 64) : Op.shift .shr .u64 x .i64 (m : Int) = (pure (.int .u64 (x / 2 ^ m)) : Sem Value) := by
  rw [shift_shr .u64 .i64 x m (by omega) (by simp [IntKind.bits]; omega)]; simp
theorem shr32 (x : Int) (m : Nat) (h : m ≤ 32) : Op.shift .shr .u32 x .i64 (m : Int) = (pure (.int .u32 (x / 2 ^ m)) : Sem Value) := by
  rw [shift_shr .u32 .i64 x m (by omega) (by simp [IntKind.bits]; omega)]; simp

end Go.Proofs.Ytgkckblcekbafaa
