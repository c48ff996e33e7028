/-
  Two keys are compared by ==.
-/
import Derived.Test.YtapojahoaglgaaaDoorKR2
namespace Go.Proofs.YtapojahoaglgaaaDoor
open Go.RowKit

theorem all_same : ∀ (A B : List Int), A.length = B.length → ((List.range A.length).all fun i => A.getD i 0 == B.getD i 0) = (A == B)
  | [], [], _ => rfl
  | x :: xs, y :: ys, h => by
    have ih := all_same xs ys (by simpa using h)
    rw [List.length_cons, List.range_succ_eq_map, List.all_cons, List.all_map]
    simp only [List.getD_cons_zero, Function.comp_def, List.getD_cons_succ, ih]
    simp [List.cons_beq_cons]
  | [], _ :: _, h => by simp at h
  | _ :: _, [], h => by simp at h

theorem keys_cmp {P : Program} (w : World) (d t e n : Nat) (ht : P.underlying t = some (.array n e)) (he : P.underlying e = some (.int .u8)) (hsz : ∀ w, (sizeOf e).run P w = .ok 1 w) (A B : List Int) (hx : A.length = n) (hy : B.length = n) :
    (Op.equalIn (d + 2) t (.agg (w8s A)) (.agg (w8s B))).run P w = .ok (A == B) w := by
  rw [← all_same A B (hx.trans hy.symm), hx, List.range_eq_range', Op.equalIn]
  simp only [Sem.run_bind, run_underlying ht, Result.andThen_ok, hsz, Std.Legacy.Range.forIn_eq_forIn_range', Std.Legacy.Range.size, Nat.sub_zero, Nat.add_sub_cancel, Nat.div_one]
  have hl : ∀ i ∈ List.range' 0 n 1, i < n := fun i hi => by simpa using (List.mem_range'_1.1 hi).2
  generalize List.range' 0 n 1 = l at hl ⊢
  induction l with
  | nil => simp
  | cons i l ih =>
    have hi : i < n := hl i (by simp)
    have px : (part e (w8s A) (i * 1)).run P w = .ok (.int .u8 (A.getD i 0)) w := by
      simp [part, isAgg, run_underlying he, List.getD, List.getElem?_eq_getElem (show i < A.length by omega)]
    have py : (part e (w8s B) (i * 1)).run P w = .ok (.int .u8 (B.getD i 0)) w := by
      simp [part, isAgg, run_underlying he, List.getD, List.getElem?_eq_getElem (show i < B.length by omega)]
    have pe : (Op.equalIn (d + 1) e (.int .u8 (A.getD i 0)) (.int .u8 (B.getD i 0))).run P w = .ok (A.getD i 0 == B.getD i 0) w := run_equalIn_int w d e .u8 .u8 _ _ he
    simp only [List.forIn_cons, Sem.run_bind, px, py, pe, Result.andThen_ok, List.all_cons]
    cases hb : (A.getD i 0 == B.getD i 0)
    · simp
    · simp only [Bool.not_true, Bool.false_eq_true, if_false, Sem.run_pure, Result.andThen_ok, Bool.true_and]
      exact ih fun j hj => hl j (by simp [hj])
theorem key_cmp (A B : List Int) (hA : A.length = 32) (hB : B.length = 32) (w : World) : (Op.equalIn 10000 25 (.agg (w8s A)) (.agg (w8s B))).run Tryd.prog w = .ok (A == B) w :=
  keys_cmp w 9998 25 5 32 (by kernel_rfl) Tryd.underlying5 (fun w => by kernel_rfl) A B hA hB
end Go.Proofs.YtapojahoaglgaaaDoor
