/-
  The contract of the program's half, and of what it calls of math/bits.
-/
import Derived.Test.YtebnlklodokhkaaDoorSA
import Derived.Test.YtebnlklodokhkaaDoorMAr
import Derived.Deep.Cut
import Derived.Deep.RegionHeld3
import Derived.WalkLawsBesides
namespace Go.Proofs.YtebnlklodokhkaaDoor
open Go.RowKit

/-- How many bits a number has, from 1 on. -/
def bitsN (x : Nat) : Nat := if x < 256 then x.log2 + 1 else if x < 65536 then (x / 256).log2 + 1 + 8 else (x / 65536).log2 + 1 + 16
theorem bitsN_spec (x : Nat) (h0 : 0 < x) (h1 : x ≤ 1000000) : ∃ e, bitsN x = e + 1 ∧ 2 ^ e ≤ x ∧ x < 2 * 2 ^ e ∧ e < 23 := by
  have key : ∀ y, 0 < y → y < 256 → 2 ^ y.log2 ≤ y ∧ y < 2 * 2 ^ y.log2 ∧ y.log2 < 8 := fun y a b => by
    refine ⟨Nat.log2_self_le (by omega), ?_, (Nat.log2_lt (by omega)).2 (by omega)⟩
    have := @Nat.lt_log2_self y
    rw [Nat.pow_succ] at this
    omega
  unfold bitsN
  by_cases ha : x < 256
  · obtain ⟨a, b, c⟩ := key x h0 ha
    exact ⟨x.log2, by rw [if_pos ha], a, b, by omega⟩
  · by_cases hb : x < 65536
    · obtain ⟨a, b, c⟩ := key (x / 256) (by omega) (by omega)
      refine ⟨(x / 256).log2 + 8, by rw [if_neg ha, if_pos hb], ?_, ?_, by omega⟩ <;> (rw [Nat.pow_add]; omega)
    · obtain ⟨a, b, c⟩ := key (x / 65536) (by omega) (by omega)
      have : (x / 65536).log2 < 4 := (Nat.log2_lt (by omega)).2 (by omega)
      refine ⟨(x / 65536).log2 + 16, by rw [if_neg ha, if_neg hb], ?_, ?_, by omega⟩ <;> (rw [Nat.pow_add]; omega)

/-- The table of math/bits. -/
def tabB : ByteArray := { data := (([0, 1, 2, 2, 3, 3, 3, 3, 4, 4, 4, 4, 4, 4, 4, 4, 5, 5, 5, 5, 5, 5, 5, 5, 5, 5, 5, 5, 5, 5, 5, 5, 6, 6, 6, 6, 6, 6, 6, 6, 6, 6, 6, 6, 6, 6, 6, 6, 6, 6, 6, 6, 6, 6, 6, 6, 6, 6, 6, 6, 6, 6, 6, 6].append [7, 7, 7, 7, 7, 7, 7, 7, 7, 7, 7, 7, 7, 7, 7, 7, 7, 7, 7, 7, 7, 7, 7, 7, 7, 7, 7, 7, 7, 7, 7, 7, 7, 7, 7, 7, 7, 7, 7, 7, 7, 7, 7, 7, 7, 7, 7, 7, 7, 7, 7, 7, 7, 7, 7, 7, 7, 7, 7, 7, 7, 7, 7, 7]).append ([8, 8, 8, 8, 8, 8, 8, 8, 8, 8, 8, 8, 8, 8, 8, 8, 8, 8, 8, 8, 8, 8, 8, 8, 8, 8, 8, 8, 8, 8, 8, 8, 8, 8, 8, 8, 8, 8, 8, 8, 8, 8, 8, 8, 8, 8, 8, 8, 8, 8, 8, 8, 8, 8, 8, 8, 8, 8, 8, 8, 8, 8, 8, 8].append [8, 8, 8, 8, 8, 8, 8, 8, 8, 8, 8, 8, 8, 8, 8, 8, 8, 8, 8, 8, 8, 8, 8, 8, 8, 8, 8, 8, 8, 8, 8, 8, 8, 8, 8, 8, 8, 8, 8, 8, 8, 8, 8, 8, 8, 8, 8, 8, 8, 8, 8, 8, 8, 8, 8, 8, 8, 8, 8, 8, 8, 8, 8, 8])).toArray }
set_option maxRecDepth 100000 in
theorem tab_log : ∀ y, y < 256 → 0 < y → ∃ h : y < tabB.size, (tabB[y]'h).toNat = y.log2 + 1 := by decide +kernel
theorem tab_at (y : Nat) (h : y < 256) (h0 : 0 < y) (w : World) : (Instr.index 9 (.string tabB) (.int .u8 (y : Int))).run Tryd.prog w = .ok (.int .u8 ((y.log2 + 1 : Nat) : Int)) w := by
  obtain ⟨hs, he⟩ := tab_log y h h0
  have hc : 0 ≤ (y : Int) ∧ (y : Int) < tabB.size := by omega
  rw [run_index_string _ _ _ _ _ Tryd.underlying9, dif_pos hc, ← he]
  rfl

set_option maxRecDepth 100000 in
set_option maxHeartbeats 1000000 in
theorem len64_any (x : Nat) (w : World) (h0 : 0 < x) (h1 : x ≤ 1000000) : Calls Tryd.prog 73 #[.int .u64 x] w fun e w' => e = .returned (.int .i64 (bitsN x)) ∧ w = w' := by
  have hd0 : decide ((4294967296 : Int) ≤ (x : Int)) = false := decide_eq_false (by omega)
  unfold bitsN
  go_enter Tryd.func73, Tryd.ntmps73
  by_cases ha : x < 256
  · have hd1 : decide ((65536 : Int) ≤ (x : Int)) = false := decide_eq_false (by omega)
    have hd2 : decide ((256 : Int) ≤ (x : Int)) = false := decide_eq_false (by omega)
    have hl : x.log2 < 8 := (Nat.log2_lt (by omega)).2 (by omega)
    obtain ⟨hs, he⟩ := tab_log x ha h0
    rw [if_pos ha]
    generalize x.log2 = l at *
    go_wp2_with fail
    go_ret
    refine ⟨?_, rfl⟩
    show Ending.returned (Value.int .i64 (wrap64 (wrap64 ((tabB[x]'hs).toNat : Int)))) = _
    rw [he]
    congr 2
    unfold wrap64
    omega
  · have hd2 : decide ((256 : Int) ≤ (x : Int)) = true := decide_eq_true (by omega)
    by_cases hb : x < 65536
    · have hd1 : decide ((65536 : Int) ≤ (x : Int)) = false := decide_eq_false (by omega)
      have hl : (x / 256).log2 < 8 := (Nat.log2_lt (by omega)).2 (by omega)
      obtain ⟨hs, he⟩ := tab_log (x / 256) (by omega) (by omega)
      rw [if_neg ha, if_pos hb]
      generalize (x / 256).log2 = l at *
      go_wp2_with fail
      go_ret
      refine ⟨?_, rfl⟩
      show Ending.returned (Value.int .i64 (wrap64 (8 + wrap64 ((tabB[x / 256]'hs).toNat : Int)))) = _
      rw [he]
      congr 2
      unfold wrap64
      omega
    · have hd1 : decide ((65536 : Int) ≤ (x : Int)) = true := decide_eq_true (by omega)
      have hd3 : decide ((256 : Int) ≤ (x : Int) / 65536) = false := decide_eq_false (by omega)
      have hl : (x / 65536).log2 < 8 := (Nat.log2_lt (by omega)).2 (by omega)
      obtain ⟨hs, he⟩ := tab_log (x / 65536) (by omega) (by omega)
      rw [if_neg ha, if_neg hb]
      generalize (x / 65536).log2 = l at *
      go_wp2_with fail
      go_ret
      refine ⟨?_, rfl⟩
      show Ending.returned (Value.int .i64 (wrap64 (16 + wrap64 ((tabB[x / 65536]'hs).toNat : Int)))) = _
      rw [he]
      congr 2
      unfold wrap64
      omega

set_option maxRecDepth 100000 in
set_option maxHeartbeats 1000000 in
theorem blen_any (x : Nat) (w : World) (h0 : 0 < x) (h1 : x ≤ 1000000) : Calls Tryd.prog 62 #[.int .u64 x] w fun e w' => e = .returned (.int .i64 (bitsN x)) ∧ w = w' := by
  have C := len64_any x
  go_enter Tryd.func62, Tryd.ntmps62
  go_wp2_with (go_at_call 73; refine (C _ h0 h1).mono ?_; rintro e w' ⟨rfl, rfl⟩)
  go_ret
  exact ⟨rfl, rfl⟩

set_option maxRecDepth 100000 in
set_option maxHeartbeats 1000000 in
theorem phalf_any (n : Nat) (w : World) (h2 : 2 ≤ n) (hn : n ≤ 1000000) : Calls Tryd.prog 40 #[.int .i64 n] w fun e w' => e = .returned (.int .i64 (halfN n)) ∧ w = w' := by
  obtain ⟨e, he, ha, hb, hc⟩ := bitsN_spec (n - 1) (by omega) (by omega)
  have HH := Lib.hid (halfN_is n (2 ^ e) e h2 rfl (by omega) (by omega))
  have C := fun w => blen_any (n - 1) w (by omega) (by omega)
  rw [he, show ((n - 1 : Nat) : Int) = (n : Int) - 1 by omega] at C
  go_enter Tryd.func40, Tryd.ntmps40
  go_wp2_with (go_at_call 62; refine (C _).mono ?_; rintro e w' ⟨rfl, rfl⟩)
  have hp : ((2 ^ e : Nat) : Int) = (2 : Int) ^ e := by simp
  have hx : wrap64 ((2 : Int) ^ e) = ((halfN n : Nat) : Int) := by
    rw [HH.out, ← hp]
    have : 2 ^ e ≤ 1000000 := by omega
    generalize 2 ^ e = k at *
    unfold wrap64
    omega
  rw [hx]
  go_ret
  exact ⟨rfl, rfl⟩
end Go.Proofs.YtebnlklodokhkaaDoor
