/-
  The contracts of the program's rotate and mix.
-/
import Derived.Test.YtebnlklodokhkaaDoorSS3
namespace Go.Proofs.YtebnlklodokhkaaDoor
set_option maxRecDepth 100000
open Go.RowKit

set_option maxHeartbeats 1000000 in
theorem rotate_any (x : Int) (n : Nat) (w : World) (hn : 1 ≤ n) (h31 : n ≤ 31) :
    Calls Tryd.prog 79 #[.int .u32 x, .int .u64 n] w fun e w' => e = .returned (.int .u32 (ror x n)) ∧ w = w' := by
  go_enter Tryd.func79, Tryd.ntmps79
  have e1 : Op.shift .shr .u32 x .u64 (n : Int) = (pure (.int .u32 (x / 2 ^ n)) : Sem Value) := by
    rw [shift_shr .u32 .u64 x n (by omega) (by simp [IntKind.bits]; omega)]; simp
  have e2 : IntKind.u64.wrap (32 - (n : Int)) = ((32 - n : Nat) : Int) := by rw [IntKind.wrap_u64]; omega
  have e3 : Op.shift .shl .u32 x .u64 ((32 - n : Nat) : Int) = (pure (.int .u32 (IntKind.u32.wrap (x * 2 ^ (32 - n)))) : Sem Value) := by
    rw [shift_shl .u32 .u64 x _ (by omega) (by simp [IntKind.bits]; omega)]; simp
  go_wp2
  go_ret
  exact ⟨rfl, rfl⟩

set_option maxHeartbeats 1000000 in
theorem mix_any (x : Int) (i j k : Nat) (w : World) (hi : 1 ≤ i) (hi1 : i ≤ 31) (hj : 1 ≤ j) (hj1 : j ≤ 31) (hk : 1 ≤ k) (hk1 : k ≤ 31) :
    Calls Tryd.prog 78 #[.int .u32 x, .int .u64 i, .int .u64 j, .int .u64 k] w fun e w' => e = .returned (.int .u32 (xo (xo (ror x i) (ror x j)) (ror x k))) ∧ w = w' := by
  go_enter Tryd.func78, Tryd.ntmps78
  go_wp2_with (first
    | (go_at_call_of 79 (Value.int IntKind.u64 i); refine (rotate_any x i _ hi hi1).mono ?_; rintro e w' ⟨rfl, rfl⟩)
    | (go_at_call_of 79 (Value.int IntKind.u64 j); refine (rotate_any x j _ hj hj1).mono ?_; rintro e w' ⟨rfl, rfl⟩)
    | (go_at_call_of 79 (Value.int IntKind.u64 k); refine (rotate_any x k _ hk hk1).mono ?_; rintro e w' ⟨rfl, rfl⟩))
  go_ret
  exact ⟨rfl, rfl⟩
end Go.Proofs.YtebnlklodokhkaaDoor
