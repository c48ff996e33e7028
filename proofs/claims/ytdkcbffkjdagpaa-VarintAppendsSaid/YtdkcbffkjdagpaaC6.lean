/-
  The fixed example returns true.
  Conditions: none.
-/
import Derived.Test.YtdkcbffkjdagpaaC4
import Derived.Test.YtdkcbffkjdagpaaC5
namespace Go.Proofs.Ytdkcbffkjdagpaa
open Go.RowKit

/-- A block of bytes that was just made. -/
theorem sl_new (w : World) (xs : List Int) (c : Nat) : Sl (w.alloc (.cells (xs.map (Value.int .u8)).toArray 5)) (some ⟨w.heap.size, 0, none⟩) c xs := by
  refine .inr ⟨_, rfl, fun k hk => ⟨_, _, rfl, ?_⟩⟩
  rw [cell_of_row _ w.heap.size (0 + k) _ 5 (0, 0) (heap_alloc_new w _), Nat.zero_add]
  simp [List.getD_eq_getElem?_getD, List.getElem?_eq_getElem hk]

theorem k1 : rd 0 0 [172, 2, 9] = (300, 2, 0) := by decide +kernel
theorem k2 : rd 0 0 [128, 0] = (0, 0, 4) := by decide +kernel
theorem k3 : rd 0 0 [128] = (0, 0, 5) := by decide +kernel
theorem k4 : [7] ++ Enc 300 = [7, 172, 2] := by decide +kernel
theorem k5 : (Enc 18446744073709551615).length = 10 := by decide +kernel
theorem read1 (w : World) (g : Nat) (hg : g = w.heap.size) : Calls Try.prog 13 #[.slice (some ⟨g, 0, none⟩) 3 3] (w.alloc (.cells #[.int .u8 172, .int .u8 2, .int .u8 9] 5)) fun e w' => e = .returned (.tuple #[.int .u64 300, .int .i64 2, .int .i64 0]) ∧ (w.alloc (.cells #[.int .u8 172, .int .u8 2, .int .u8 9] 5)) = w' := by
  subst hg
  have h := code_read (some ⟨w.heap.size, 0, none⟩) 3 [172, 2, 9] _ (by decide) (sl_new w [172, 2, 9] 3) (by simp [W8])
  rw [k1] at h
  exact h
theorem read2 (w : World) (g : Nat) (hg : g = w.heap.size) : Calls Try.prog 13 #[.slice (some ⟨g, 0, none⟩) 2 2] (w.alloc (.cells #[.int .u8 128, .int .u8 0] 5)) fun e w' => e = .returned (.tuple #[.int .u64 0, .int .i64 0, .int .i64 4]) ∧ (w.alloc (.cells #[.int .u8 128, .int .u8 0] 5)) = w' := by
  subst hg
  have h := code_read (some ⟨w.heap.size, 0, none⟩) 2 [128, 0] _ (by decide) (sl_new w [128, 0] 2) (by simp [W8])
  rw [k2] at h
  exact h
theorem read3 (w : World) (g : Nat) (hg : g = w.heap.size) : Calls Try.prog 13 #[.slice (some ⟨g, 0, none⟩) 1 1] (w.alloc (.cells #[.int .u8 128] 5)) fun e w' => e = .returned (.tuple #[.int .u64 0, .int .i64 0, .int .i64 5]) ∧ (w.alloc (.cells #[.int .u8 128] 5)) = w' := by
  subst hg
  have h := code_read (some ⟨w.heap.size, 0, none⟩) 1 [128] _ (by decide) (sl_new w [128] 1) (by simp [W8])
  rw [k3] at h
  exact h
theorem app1 (w : World) (g : Nat) (hg : g = w.heap.size) : Calls Try.prog 9 #[.slice (some ⟨g, 0, none⟩) 1 1, .int .u64 300] (w.alloc (.cells #[.int .u8 7] 5)) fun e w' => ∃ v, e = .returned v ∧ w'.ownsRow (w.alloc (.cells #[.int .u8 7] 5)).heap.size 5 1 v [(7 : Int), 172, 2].length ([7, 172, 2].map (Value.int .u8)) ∧ Below (w.alloc (.cells #[.int .u8 7] 5)).heap.size (w.alloc (.cells #[.int .u8 7] 5)) w' := by
  subst hg
  have h := code_append (some ⟨w.heap.size, 0, none⟩) 1 [7] 300 _ (by decide) (sl_new w [7] 1) (by unfold W64; omega)
  rw [k4] at h
  exact h
theorem siz1 (w : World) : Calls Try.prog 11 #[.int .u64 18446744073709551615] w fun e w' => e = .returned (.int .i64 10) ∧ w = w' := by
  have h := size_any 18446744073709551615 w (by unfold W64; omega)
  rw [k5] at h
  exact h

set_option maxHeartbeats 1000000 in
set_option maxRecDepth 100000 in
theorem known_true (w : World) : Calls Try.prog 7 #[] w fun e w' => e = .returned (.bool true) ∧ Below w.heap.size w w' := by
  go_enter Try.func7, Try.ntmps7
  go_wp2_with fail
  refine (read1 _ _ (by simp)).mono ?_
  rintro e w' ⟨rfl, rfl⟩
  go_wp2_with fail
  refine (read2 _ _ (by simp)).mono ?_
  rintro e w' ⟨rfl, rfl⟩
  go_wp2_with fail
  refine (read3 _ _ (by simp)).mono ?_
  rintro e w' ⟨rfl, rfl⟩
  go_wp2_with fail
  refine (app1 _ _ (by simp)).mono ?_
  rintro e w' ⟨v, rfl, ho, hb⟩
  obtain ⟨a, c, rfl, hs, _, _⟩ := sl_own ho
  clear ho
  go_wp2_with fail
  have S1 := same_true a c (some ⟨w'.heap.size, 0, none⟩) 3 [7, 172, 2] (w'.alloc (.cells #[.int .u8 7, .int .u8 172, .int .u8 2] 5)) (sl_below hs ((Below.refl _ _).alloc (Nat.le_refl _) _)) (sl_new w' [7, 172, 2] 3)
  have HB := Lib.hid hb
  clear hb hs
  refine S1.mono ?_
  rintro e w2 ⟨rfl, rfl⟩
  clear S1
  go_wp2_with fail
  refine (siz1 _).mono ?_
  rintro e w2 ⟨rfl, rfl⟩
  go_wp2
  go_ret
  have hb := HB.out
  have h0 : Below w.heap.size w (((w.alloc (.cells #[.int .u8 172, .int .u8 2, .int .u8 9] 5)).alloc (.cells #[.int .u8 128, .int .u8 0] 5)).alloc (.cells #[.int .u8 128] 5)) :=
    (((Below.refl _ w).alloc (Nat.le_refl _) _).alloc (by simp) _).alloc (by simp; omega) _
  refine ⟨rfl, ?_⟩
  have h1 := h0.alloc h0.size (.cells #[.int .u8 7] 5)
  exact (h1.trans (hb.mono h1.size)).alloc (Nat.le_trans h1.size hb.size) _
end Go.Proofs.Ytdkcbffkjdagpaa
