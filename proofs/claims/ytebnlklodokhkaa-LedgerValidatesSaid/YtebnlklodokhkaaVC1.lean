/-
  The contract of Size, and what the operations on bits do to bytes and to numbers of 64 bits.
  Conditions: the argument is a number of 64 bits.
-/
import Derived.Test.YtebnlklodokhkaaProg
import Derived.Test.YtebnlklodokhkaaVAr
import Derived.WalkKit
import Derived.WalkSpells
import Derived.WalkLawsBesides
import Derived.Laws.BitsAllLaws
import Derived.Deep.LoopGhost
import Derived.Lib.Hide
namespace Go.Proofs.Ytebnlklodokhkaa
set_option maxRecDepth 100000
open Go.RowKit

/-- A number of 64 bits. -/
def W64 (x : Int) : Prop := 0 ≤ x ∧ x ≤ 18446744073709551615
/-- A byte. -/
def W8 (x : Int) : Prop := 0 ≤ x ∧ x ≤ 255

theorem nat_or128 : ∀ a, a < 256 → a ||| 128 = a % 128 + 128 := by decide +kernel
theorem nat_and127 : ∀ a, a < 256 → a &&& 127 = a % 128 := by decide +kernel
theorem or128 (x : Int) (h : W8 x) : bits .or .u8 x 128 = x % 128 + 128 := by
  obtain ⟨h0, h1⟩ := h
  rw [u8_or x 128 h0 (by omega) (by omega) (by omega), show (128 : Int).toNat = 128 from rfl, nat_or128 x.toNat (by omega)]
  omega
theorem and127 (x : Int) (h : W8 x) : bits .and .u8 x 127 = x % 128 := by
  obtain ⟨h0, h1⟩ := h
  rw [u8_and x 127 h0 (by omega) (by omega) (by omega), show (127 : Int).toNat = 127 from rfl, nat_and127 x.toNat (by omega)]
  omega
theorem andNot128 (x : Int) (h : W8 x) : bits .andNot .u8 x 128 = x % 128 := by
  obtain ⟨h0, h1⟩ := h
  rw [u8_andNot x 128 h0 (by omega) (by omega) (by omega), show 255 - (128 : Int).toNat = 127 from rfl, nat_and127 x.toNat (by omega)]
  omega
theorem pow7 (k : Nat) : (2 : Int) ^ (7 * k) = 128 ^ k := by
  rw [Int.pow_mul]
  rfl
/-- A group is put above what was read before. -/
theorem or64 (acc x : Int) (k : Nat) (h0 : 0 ≤ acc) (h1 : acc < 128 ^ k) (hx : 0 ≤ x) (h2 : x * 128 ^ k < 18446744073709551616) (h3 : acc < 18446744073709551616) :
    bits .or .u64 acc (IntKind.u64.wrap (x * 2 ^ (7 * k))) = acc + x * 128 ^ k := by
  rw [pow7, IntKind.wrap_u64, Int.emod_eq_of_lt (Int.mul_nonneg hx (Int.pow_nonneg (by omega))) h2]
  obtain ⟨a, rfl⟩ := Int.eq_ofNat_of_zero_le h0
  obtain ⟨y, rfl⟩ := Int.eq_ofNat_of_zero_le hx
  have e : ((y : Int) * 128 ^ k) = ((y * 2 ^ (7 * k) : Nat) : Int) := by
    rw [← pow7]
    simp
  rw [e] at h2 ⊢
  rw [u64_or_nat a _ (by omega) (by omega)]
  have ha : a < 2 ^ (7 * k) := by
    rw [← pow7] at h1
    exact_mod_cast h1
  rw [Nat.or_comm, Nat.mul_comm y, ← Nat.two_pow_add_eq_or_of_lt ha]
  omega

end Go.Proofs.Ytebnlklodokhkaa
