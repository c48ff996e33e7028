/-
  Two equal keys.
-/
import Derived.Test.YtebnlklodokhkaaDoorSK8
import Derived.Test.YtebnlklodokhkaaDoorSR1
import Derived.Stop.BytesEq
import Derived.Lib.SlBytesConst
import Derived.Lib.SmallJoins
namespace Go.Proofs.YtebnlklodokhkaaDoor
set_option maxRecDepth 100000
open Go.RowKit

theorem keys_in {P : Program} (w : World) (d t e n : Nat) (ht : P.underlying t = some (.array n e)) (he : P.underlying e = some (.int .u8)) (hsz : ∀ w, (sizeOf e).run P w = .ok 1 w) (S : List Int) (hx : S.length = n) :
    (Op.equalIn (d + 2) t (.agg (w8s S)) (.agg (w8s S))).run P w = .ok true w := by
  rw [Op.equalIn]
  simp only [Sem.run_bind, run_underlying ht, Result.andThen_ok, hsz, Std.Legacy.Range.forIn_eq_forIn_range', Std.Legacy.Range.size, Nat.sub_zero, Nat.add_sub_cancel, Nat.div_one]
  have hl : ∀ i ∈ List.range' 0 n 1, i < n := fun i hi => by simpa using (List.mem_range'_1.1 hi).2
  generalize List.range' 0 n 1 = l at hl ⊢
  induction l with
  | nil => simp
  | cons i l ih =>
    have hi : i < n := hl i (by simp)
    have px : (part e (w8s S) (i * 1)).run P w = .ok (.int .u8 (S.getD i 0)) w := by
      simp [part, isAgg, run_underlying he, List.getD, List.getElem?_eq_getElem (show i < S.length by omega)]
    have pe : (Op.equalIn (d + 1) e (.int .u8 (S.getD i 0)) (.int .u8 (S.getD i 0))).run P w = .ok true w := by
      rw [run_equalIn_int w d e .u8 .u8 _ _ he]
      simp
    simp only [List.forIn_cons, Sem.run_bind, px, pe, Result.andThen_ok]
    simp only [Bool.not_true, Bool.false_eq_true, if_false, Sem.run_pure, Result.andThen_ok]
    exact ih fun j hj => hl j (by simp [hj])

theorem key_in (S : List Int) (hS : S.length = 32) (w : World) : (Op.equalIn 10000 32 (.agg (w8s S)) (.agg (w8s S))).run Tryd.prog w = .ok true w :=
  keys_in w 9998 32 5 32 (by kernel_rfl) Tryd.underlying5 (fun w => by kernel_rfl) S hS
theorem key_guard : Tryd.prog.eqGuardType Tryd.prog.depth 32 = false := by kernel_rfl

end Go.Proofs.YtebnlklodokhkaaDoor
