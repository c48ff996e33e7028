/-
  The order of items: the library's comparisons, the program's compare and Before, the reference's Before.
-/
import Derived.Test.YtepdibnbnhkpnaaHI
import Derived.Test.YtepdibnbnhkpnaaSQC
import Derived.Lib.Small
namespace Go.Proofs.Ytepdibnbnhkpnaa
open Go.RowKit
set_option linter.unusedSimpArgs false
set_option linter.unusedVariables false

/-- Two numbers compared. -/
def cpI (x y : Int) : Int := if x < y then -1 else if y < x then 1 else 0
/-- Two items compared. -/
def cpIt (a b : It) : Int := if cpI b.2.1 a.2.1 = 0 then (if cpI a.2.2 b.2.2 = 0 then cpI a.1 b.1 else cpI a.2.2 b.2.2) else cpI b.2.1 a.2.1
theorem cpI_range (x y : Int) : -1 ≤ cpI x y ∧ cpI x y ≤ 1 := by
  unfold cpI
  split
  · omega
  · split <;> omega
theorem cpI_lt (x y : Int) : cpI x y < 0 ↔ x < y := by
  unfold cpI
  split
  · omega
  · split <;> omega
theorem cpI_zero (x y : Int) : cpI x y = 0 ↔ x = y := by
  unfold cpI
  split
  · omega
  · split <;> omega
theorem cpIt_lt (a b : It) : decide (cpIt a b < 0) = bf a b := by
  rw [Bool.eq_iff_iff, decide_eq_true_iff, bf_iff]
  unfold cpIt
  by_cases h1 : cpI b.2.1 a.2.1 = 0
  · rw [if_pos h1]
    rw [cpI_zero] at h1
    by_cases h2 : cpI a.2.2 b.2.2 = 0
    · rw [if_pos h2, cpI_lt]
      rw [cpI_zero] at h2
      omega
    · rw [if_neg h2, cpI_lt]
      rw [cpI_zero] at h2
      omega
  · rw [if_neg h1, cpI_lt]
    rw [cpI_zero] at h1
    omega
/-- One new block, or more; nothing else has changed. -/
def Gd (W V : World) : Prop := Below W.heap.size W V ∧ W.drawn ≤ V.drawn
theorem Gd.refl (W : World) : Gd W W := ⟨Below.refl _ _, Nat.le_refl _⟩
theorem Gd.trans {a b c : World} (h : Gd a b) (k : Gd b c) : Gd a c := ⟨h.1.trans (k.1.mono h.1.size), Nat.le_trans h.2 k.2⟩
theorem Gd.alloc (W : World) (o : Obj) : Gd W (W.alloc o) := ⟨(Below.refl _ W).alloc (Nat.le_refl _) _, Nat.le_refl _⟩
theorem Gd.drew (W : World) : Gd W { W with drawn := W.drawn + 1 } := ⟨(Below.refl _ W).drew, Nat.le_succ _⟩
theorem isnan_u (x : Int) (w : World) : Calls Try.prog 35 #[.int .u64 x] w fun e w' => e = .returned (.bool false) ∧ w = w' := by
  go_enter Try.func35, Try.ntmps35
  go_wp2
  go_ret
  exact ⟨rfl, rfl⟩
theorem isnan_i (x : Int) (w : World) : Calls Try.prog 36 #[.int .i64 x] w fun e w' => e = .returned (.bool false) ∧ w = w' := by
  go_enter Try.func36, Try.ntmps36
  go_wp2
  go_ret
  exact ⟨rfl, rfl⟩
set_option maxRecDepth 100000 in
set_option maxHeartbeats 2000000 in
theorem cmp_u (x y : Int) (w : World) : Calls Try.prog 31 #[.int .u64 x, .int .u64 y] w fun e w' => e = .returned (.int .i64 (cpI x y)) ∧ w = w' := by
  unfold cpI
  by_cases h1 : x < y
  · rw [if_pos h1]
    go_enter Try.func31, Try.ntmps31
    go_wp2_with (go_at_call 35; refine (isnan_u _ _).mono ?_; rintro e w' ⟨rfl, rfl⟩)
    go_ret
    exact ⟨rfl, rfl⟩
  · by_cases h2 : y < x
    · rw [if_neg h1, if_pos h2]
      go_enter Try.func31, Try.ntmps31
      go_wp2_with (go_at_call 35; refine (isnan_u _ _).mono ?_; rintro e w' ⟨rfl, rfl⟩)
      go_ret
      exact ⟨rfl, rfl⟩
    · rw [if_neg h1, if_neg h2]
      go_enter Try.func31, Try.ntmps31
      go_wp2_with (go_at_call 35; refine (isnan_u _ _).mono ?_; rintro e w' ⟨rfl, rfl⟩)
      go_ret
      exact ⟨rfl, rfl⟩
set_option maxRecDepth 100000 in
set_option maxHeartbeats 2000000 in
theorem cmp_i (x y : Int) (w : World) : Calls Try.prog 32 #[.int .i64 x, .int .i64 y] w fun e w' => e = .returned (.int .i64 (cpI x y)) ∧ w = w' := by
  unfold cpI
  by_cases h1 : x < y
  · rw [if_pos h1]
    go_enter Try.func32, Try.ntmps32
    go_wp2_with (go_at_call 36; refine (isnan_i _ _).mono ?_; rintro e w' ⟨rfl, rfl⟩)
    go_ret
    exact ⟨rfl, rfl⟩
  · by_cases h2 : y < x
    · rw [if_neg h1, if_pos h2]
      go_enter Try.func32, Try.ntmps32
      go_wp2_with (go_at_call 36; refine (isnan_i _ _).mono ?_; rintro e w' ⟨rfl, rfl⟩)
      go_ret
      exact ⟨rfl, rfl⟩
    · rw [if_neg h1, if_neg h2]
      go_enter Try.func32, Try.ntmps32
      go_wp2_with (go_at_call 36; refine (isnan_i _ _).mono ?_; rintro e w' ⟨rfl, rfl⟩)
      go_ret
      exact ⟨rfl, rfl⟩
end Go.Proofs.Ytepdibnbnhkpnaa
