/-
  The contracts of the reference's turn and constants.
-/
import Derived.Test.YtgkckblcekbafaaProg
import Derived.Test.YtgkckblcekbafaaSSAr
import Derived.WalkKit
import Derived.WalkSpells
import Derived.WalkLawsBesides
import Derived.Laws.BitsAllLaws
import Derived.Deep.LoopGhost
import Derived.Deep.RegionHeld3
import Derived.Lib.Hide
namespace Go.Proofs.Ytgkckblcekbafaa
set_option maxRecDepth 100000
open Go.RowKit

set_option maxHeartbeats 1000000 in
theorem turn_any (x : Int) (n : Nat) (w : World) (hn : 1 ≤ n) (h31 : n ≤ 31) :
    Calls Try.prog 39 #[.int .u32 x, .int .i64 n] w fun e w' => e = .returned (.int .u32 (ror x n)) ∧ w' = w.drew := by
  go_enter Try.func39, Try.ntmps39
  have e1 : Op.shift .shr .u32 x .i64 (n : Int) = (pure (.int .u32 (x / 2 ^ n)) : Sem Value) := by
    rw [shift_shr .u32 .i64 x n (by omega) (by simp [IntKind.bits]; omega)]; simp
  have e2 : IntKind.i64.wrap (32 - (n : Int)) = ((32 - n : Nat) : Int) := by rw [IntKind.wrap_i64]; omega
  have e3 : Op.shift .shl .u32 x .i64 ((32 - n : Nat) : Int) = (pure (.int .u32 (IntKind.u32.wrap (x * 2 ^ (32 - n)))) : Sem Value) := by
    rw [shift_shl .u32 .i64 x _ (by omega) (by simp [IntKind.bits]; omega)]; simp
  go_wp2_with fail
  go_region
  go_wp2
  go_ret
  exact ⟨rfl, rfl⟩

end Go.Proofs.Ytgkckblcekbafaa
