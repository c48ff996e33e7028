/-
  The contracts of Add, Sub and Mul of package money and of its reference: each returns the exact value, or 0 and false.
  Conditions: the arguments are numbers of 64 bits.
-/
import Derived.Test.YtkjlbibjdhjocaaB2
namespace Go.Proofs.Ytkjlbibjdhjocaa
set_option maxRecDepth 100000
open Go.RowKit

def addB (a b : Int) : Bool := decide (a + b < 18446744073709551616)
def addV (a b : Int) : Int := if a + b < 18446744073709551616 then a + b else 0
def subB (a b : Int) : Bool := decide (b ≤ a)
def subV (a b : Int) : Int := if b ≤ a then a - b else 0
def mulB (a b : Int) : Bool := decide (a * b < 18446744073709551616)
def mulV (a b : Int) : Int := if a * b < 18446744073709551616 then a * b else 0
def mdB (a b c : Int) : Bool := decide (a * b < c * 18446744073709551616)
def mdV (a b c : Int) : Int := if a * b < c * 18446744073709551616 then a * b / c else 0

/-- A number of 64 bits. -/
def W64 (x : Int) : Prop := 0 ≤ x ∧ x ≤ 18446744073709551615

theorem money_mul (a b : Int) (w : World) (ha : W64 a) (hb : W64 b) :
    Calls Try.prog 18 #[.int .u64 a, .int .u64 b] w fun e w' => e = .returned (.tuple #[.int .u64 (mulV a b), .bool (mulB a b)]) ∧ w = w' := by
  obtain ⟨a0, a1⟩ := ha; obtain ⟨b0, b1⟩ := hb
  obtain ⟨x, rfl⟩ := Int.eq_ofNat_of_zero_le a0
  obtain ⟨y, rfl⟩ := Int.eq_ofNat_of_zero_le b0
  have hM := fun w => mul64 x y (by omega) (by omega) w
  by_cases h : x * y < 18446744073709551616
  · have h' : (x : Int) * (y : Int) < 18446744073709551616 := by rw [← Int.natCast_mul]; omega
    have e1 : mulV x y = ((x * y : Nat) : Int) := by rw [Int.natCast_mul]; exact if_pos h'
    have e2 : mulB x y = true := decide_eq_true h'
    have q1 : x * y % 18446744073709551616 = x * y := Nat.mod_eq_of_lt h
    have q2 : x * y / 18446744073709551616 = 0 := Nat.div_eq_of_lt h
    rw [e1, e2]
    simp only [q1, q2] at hM
    generalize x * y = p at *
    clear e1 e2 q1 q2 h h'
    go_enter Try.func18, Try.ntmps18
    go_wp2_with (go_at_call 22; refine (hM _).mono ?_; rintro e w' ⟨rfl, rfl⟩)
    go_ret2
    exact ⟨rfl, rfl⟩
  · have h' : ¬ (x : Int) * (y : Int) < 18446744073709551616 := by rw [← Int.natCast_mul]; omega
    have e1 : mulV x y = 0 := if_neg h'
    have e2 : mulB x y = false := decide_eq_false h'
    have q2 : 1 ≤ x * y / 18446744073709551616 := by omega
    rw [e1, e2]
    generalize x * y / 18446744073709551616 = p at *
    generalize x * y % 18446744073709551616 = r at *
    clear e1 e2 h h'
    have hp : ((p : Int) != 0) = true := by simp; omega
    go_enter Try.func18, Try.ntmps18
    go_wp2_with (go_at_call 22; refine (hM _).mono ?_; rintro e w' ⟨rfl, rfl⟩)
    go_ret2
    exact ⟨rfl, rfl⟩

end Go.Proofs.Ytkjlbibjdhjocaa
