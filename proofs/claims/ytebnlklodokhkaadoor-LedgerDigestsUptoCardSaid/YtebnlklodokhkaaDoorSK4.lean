/-
  The contract of the program's padding.
-/
import Derived.Test.YtebnlklodokhkaaDoorSK3
import Derived.Test.YtebnlklodokhkaaDoorWM
import Derived.Deep.OwnRows
namespace Go.Proofs.YtebnlklodokhkaaDoor
set_option maxRecDepth 100000
open Go.RowKit

/-- What follows a message of n bytes. -/
def pad (n : Nat) : List Int := [128] ++ List.replicate (zeros n) 0 ++ lenBytes ((n : Int) * 8 % 18446744073709551616)
theorem padded_pad (L : List Int) : padded L = L ++ pad L.length := by simp [padded, pad]
theorem lenBytes_len (b : Int) : (lenBytes b).length = 8 := rfl
theorem pad_len (n : Nat) : (pad n).length = zeros n + 9 := by simp [pad, lenBytes_len]

/-- The row when i bytes of the length have come. -/
def fp (n : Nat) : Nat → List Int
  | 0 => (List.replicate (zeros n + 9) 0).set 0 128
  | i + 1 => (fp n i).set (zeros n + 8 - i) ((n : Int) * 8 / 2 ^ (8 * i) % 256)
theorem fp_len (n i : Nat) : (fp n i).length = zeros n + 9 := by
  induction i with
  | zero => simp [fp]
  | succ i ih => simp [fp, ih]
theorem set_at (P Z : List Int) (z k j : Nat) (x : Int) (hP : P.length = z) (hj : j = z + k) : (P ++ Z).set j x = P ++ Z.set k x := by
  subst hP; subst hj
  rw [List.set_append_right _ _ (by omega)]
  simp
theorem fp8 (n : Nat) (hn : n ≤ 1000000) : fp n 8 = pad n := by
  have h1 : (List.replicate (zeros n + 9) (0 : Int)).set 0 128 = (128 :: List.replicate (zeros n) 0) ++ [0, 0, 0, 0, 0, 0, 0, 0] := by
    rw [show zeros n + 9 = (zeros n + 8) + 1 by omega, List.replicate_succ, List.set_cons_zero, ← List.replicate_append_replicate]
    rfl
  have hP : (128 :: List.replicate (zeros n) (0 : Int)).length = zeros n + 1 := by simp
  have hb : (n : Int) * 8 % 18446744073709551616 = (n : Int) * 8 := by omega
  simp only [fp, h1]
  rw [set_at _ _ _ 7 _ _ hP (by omega), set_at _ _ _ 6 _ _ hP (by omega), set_at _ _ _ 5 _ _ hP (by omega), set_at _ _ _ 4 _ _ hP (by omega), set_at _ _ _ 3 _ _ hP (by omega), set_at _ _ _ 2 _ _ hP (by omega), set_at _ _ _ 1 _ _ hP (by omega), set_at _ _ _ 0 _ _ hP (by omega)]
  simp only [List.set_cons_succ, List.set_cons_zero]
  unfold pad lenBytes
  rw [hb]
  rfl

theorem Ab.cell {w : World} {g : Nat} {t : TypeId} {L : List Int} (h : Ab w g t L) (i : Nat) (hi : i < L.length) : w.cell? ⟨g, i, none⟩ = some (.int .u8 (L.getD i 0)) := by
  rw [cell_of_row w g i _ t (0, 0) h]
  simp [w8s, hi]
theorem Ab.frozen {w : World} {g : Nat} {t : TypeId} {L : List Int} (h : Ab w g t L) (i : Nat) : w.frozen? ⟨g, i, none⟩ = false := frozen_of_row w g i _ t h
theorem Ab.set {w : World} {g : Nat} {t : TypeId} {L : List Int} (h : Ab w g t L) (i : Nat) (x : Int) : Ab (w.setCell ⟨g, i, none⟩ (.int .u8 x)) g t (L.set i x) := by
  unfold Ab
  rw [Joins.block_setCell h]
  simp [w8s]
theorem Ab.far {w : World} {g : Nat} {t : TypeId} {L : List Int} (h : Ab w g t L) (a : Addr) (hn : g ≠ a.block) (v : Value) : Ab (w.setCell a v) g t L := by
  unfold Ab
  rw [heap_setCell_other w a g v hn]
  exact h

theorem shr64 (x : Int) (m : Nat) (h : m ≤ 64) : Op.shift .shr .u64 x .i64 (m : Int) = (pure (.int .u64 (x / 2 ^ m)) : Sem Value) := by
  rw [shift_shr .u64 .i64 x m (by omega) (by simp [IntKind.bits]; omega)]; simp
theorem shr32 (x : Int) (m : Nat) (h : m ≤ 32) : Op.shift .shr .u32 x .i64 (m : Int) = (pure (.int .u32 (x / 2 ^ m)) : Sem Value) := by
  rw [shift_shr .u32 .i64 x m (by omega) (by simp [IntKind.bits]; omega)]; simp

set_option maxRecDepth 100000 in
set_option maxHeartbeats 4000000 in
theorem padding_any (n : Nat) (w : World) (hn : n ≤ 1000000) :
    Calls Tryd.prog 71 #[.int .i64 n] w fun e w' => ∃ g m, e = .returned (.slice (some ⟨g, 0, none⟩) m m) ∧ m = (pad n).length ∧ Ab w' g 5 (pad n) ∧ w.heap.size ≤ g ∧ Below w.heap.size w w' := by
  have hz : zeros n ≤ 63 := by unfold zeros; omega
  have hmk := run_make_row' (P := Tryd.prog) 53 5 (.int .u8 0) 1 Tryd.underlying53 info5 rfl .i64 .i64 (zeros n + 9) (by omega) (by omega)
  have hs : 9 + -(((n : Int) + 9) % 64) % 64 = ((zeros n + 9 : Nat) : Int) := by unfold zeros; omega
  have hS : zeros n + 9 ≤ 72 := by omega
  have hS1 : 9 ≤ zeros n + 9 := by omega
  have hfp0 : (List.replicate (zeros n + 9) (0 : Int)).set 0 128 = fp n 0 := rfl
  have hfl := fp_len n
  have HZ : Hid (∀ i, fp n (i + 1) = (fp n i).set (zeros n + 9 - 1 - i) ((n : Int) * 8 / 2 ^ (8 * i) % 256)) := Lib.hid (fun i => rfl)
  have HP : Hid ((pad n).length = zeros n + 9) := Lib.hid (pad_len n)
  generalize zeros n + 9 = S at *
  clear hz
  go_enter Tryd.func71, Tryd.ntmps71
  go_upto_region 4 with fail
  have hm : Ab (w.alloc (.cells (madeCells #[.int .u8 0] S) 5)) w.heap.size 5 (List.replicate S 0) := by
    have : madeCells #[.int .u8 0] S = w8s (List.replicate S 0) := by
      apply Array.ext
      · simp [size_madeCells]
      · intro i h1 h2
        simp [madeCells, w8s, Nat.mod_one]
    rw [this]
    exact heap_alloc_last _ _
  have hW : Below w.heap.size w (w.alloc (.cells (madeCells #[.int .u8 0] S) 5)) := (Below.refl _ _).alloc (by simp) _
  generalize w.alloc (.cells (madeCells #[.int .u8 0] S) 5) = W at *
  have x0 := hm.cell 0 (by simp; omega)
  have xf := hm.frozen 0
  have hm2 := hm.set 0 128
  rw [hfp0] at hm2
  have hW2 : Below w.heap.size w (W.setCell ⟨w.heap.size, 0, none⟩ (.int .u8 128)) := hW.setCell (by simp) _
  have Hm2 := Lib.hid hm2
  have HW2 := Lib.hid hW2
  have HFL := Lib.hid hfl
  clear hm hW hfp0 hm2 hW2 hfl
  go_wp2_with fail
  generalize W.setCell ⟨w.heap.size, 0, none⟩ (.int .u8 128) = V at *
  clear x0 xf W
  go_loopg [22] 8 (fun g s22 wx => ∃ i : Nat, i ≤ 8 ∧ s22 = .int .i64 i ∧ Ab wx w.heap.size 5 (fp n i) ∧ Below w.heap.size w wx ∧ 8 - i = g)
  case atStart => exact ⟨0, by omega, by go_num, Hm2.out, HW2.out, rfl⟩
  case round =>
    clear Hm2 HW2 V
    obtain ⟨i, hi, rfl, hA, hB, hg⟩ := hrel
    by_cases hlt : i < 8
    · have hl := HFL.out i
      have xz := hA.cell (S - 1 - i) (by omega)
      have xf := hA.frozen (S - 1 - i)
      have HA := Lib.hid hA
      have HB := Lib.hid hB
      have HV := Lib.hid (HZ.out i)
      clear hA hB hl
      generalize (fp n i).getD (S - 1 - i) 0 = z at *
      have hj : (S : Int) - 1 - (i : Int) = ((S - 1 - i : Nat) : Int) := by omega
      have hj1 : ((S - 1 - i : Nat) : Int) < (S : Int) := by omega
      have hb8 : 8 * (i : Int) = ((8 * i : Nat) : Int) := by omega
      have hb64 : 8 * i ≤ 64 := by omega
      generalize S - 1 - i = j at *
      generalize hm : 8 * i = m at *
      have e1 := fun x => shr64 x m hb64
      go_wp2_with fail
      have NA := HA.out.set j ((n : Int) * 8 / 2 ^ m % 256)
      rw [← HV.out, Int.mul_comm] at NA
      go_roundg (8 - (i + 1))
      case measure => omega
      case rel => exact ⟨i + 1, by omega, by go_num, NA, HB.out.setCell (by simp) _, rfl⟩
    · obtain rfl : i = 8 := by omega
      rw [fp8 n hn] at hA
      have HA := Lib.hid hA
      have HB := Lib.hid hB
      clear hA hB
      go_wp2_with fail
      go_ret
      exact ⟨w.heap.size, S, rfl, HP.out.symm, HA.out, Nat.le_refl _, HB.out⟩
end Go.Proofs.YtebnlklodokhkaaDoor
