/-
  The contracts of the functions of math/bits that are called: Add64 with carry 0, Mul64, Len64 and LeadingZeros64, for every argument of 64 bits.
  Conditions: the arguments are numbers of 64 bits.
-/
import Derived.Test.YtkjlbibjdhjocaaProg
import Derived.WalkKit
import Derived.WalkSpells
import Derived.WalkLawsBesides
import Derived.Laws.Externs
import Derived.Laws.Bits64b
import Derived.Lib.Mul64
import Derived.Lib.BitFns
import Derived.Lib.Hide
import Derived.Laws.MathBits
namespace Go.Proofs.Ytkjlbibjdhjocaa
set_option maxRecDepth 100000
open Go.RowKit

/-! Numbers of the run are integers; the reckoning is done on natural numbers: how the one is written as the other. -/
theorem castLow (a : Nat) (h : a < 18446744073709551616) : bits .and .u64 (a : Int) 4294967295 = ((a % 4294967296 : Nat) : Int) :=
  (and_low32 (a : Int) (Int.natCast_nonneg a) (by omega)).trans (by omega)
theorem castHigh (a : Nat) : (a : Int) / 4294967296 = ((a / 4294967296 : Nat) : Int) := (Int.natCast_ediv a 4294967296).symm
theorem castMul (a b : Nat) : (a : Int) * (b : Int) = ((a * b : Nat) : Int) := by simp
theorem castAdd (a b : Nat) : (a : Int) + (b : Int) = ((a + b : Nat) : Int) := by simp
theorem wrapMod (a : Nat) : IntKind.u64.wrap (a : Int) = ((a % 18446744073709551616 : Nat) : Int) := (IntKind.wrap_u64 a).trans (by omega)
theorem wrapFit (a : Nat) (h : a < 18446744073709551616) : IntKind.u64.wrap (a : Int) = (a : Int) := by rw [wrapMod, Nat.mod_eq_of_lt h]

/-- The product of two numbers of 64 bits by their halves: nothing of what is reckoned on the way reaches 2^64, and the high half comes out. -/
theorem halves (x y : Nat) (hx : x < 18446744073709551616) (hy : y < 18446744073709551616) :
    x % 4294967296 * (y % 4294967296) < 18446744073709551616 ∧ x / 4294967296 * (y % 4294967296) < 18446744073709551616 ∧ x % 4294967296 * (y / 4294967296) < 18446744073709551616 ∧ x / 4294967296 * (y / 4294967296) < 18446744073709551616 ∧
    x / 4294967296 * (y % 4294967296) + x % 4294967296 * (y % 4294967296) / 4294967296 < 18446744073709551616 ∧
    (x / 4294967296 * (y % 4294967296) + x % 4294967296 * (y % 4294967296) / 4294967296) % 4294967296 + x % 4294967296 * (y / 4294967296) < 18446744073709551616 ∧
    x / 4294967296 * (y / 4294967296) + (x / 4294967296 * (y % 4294967296) + x % 4294967296 * (y % 4294967296) / 4294967296) / 4294967296 < 18446744073709551616 ∧
    x * y / 18446744073709551616 < 18446744073709551616 ∧
    x / 4294967296 * (y / 4294967296) + (x / 4294967296 * (y % 4294967296) + x % 4294967296 * (y % 4294967296) / 4294967296) / 4294967296 +
      ((x / 4294967296 * (y % 4294967296) + x % 4294967296 * (y % 4294967296) / 4294967296) % 4294967296 + x % 4294967296 * (y / 4294967296)) / 4294967296 = x * y / 18446744073709551616 := by
  have e := Lib.split_mul (x / 4294967296) (x % 4294967296) (y / 4294967296) (y % 4294967296) 4294967296
  rw [Nat.div_add_mod', Nat.div_add_mod'] at e
  have top : x * y / 18446744073709551616 < 18446744073709551616 := by
    rw [Nat.div_lt_iff_lt_mul (by omega)]
    exact Nat.lt_of_le_of_lt (Nat.mul_le_mul_right y (Nat.le_of_lt hx)) (Nat.mul_lt_mul_of_pos_left hy (by omega))
  have k1 := Lib.half_mul_le (a := x % 4294967296) (b := y % 4294967296) (by omega) (by omega)
  have k2 := Lib.half_mul_le (a := x / 4294967296) (b := y % 4294967296) (by omega) (by omega)
  have k3 := Lib.half_mul_le (a := x % 4294967296) (b := y / 4294967296) (by omega) (by omega)
  have k4 := Lib.half_mul_le (a := x / 4294967296) (b := y / 4294967296) (by omega) (by omega)
  generalize x * y = t at *
  generalize x % 4294967296 * (y % 4294967296) = p at *
  generalize x / 4294967296 * (y % 4294967296) = q at *
  generalize x % 4294967296 * (y / 4294967296) = r at *
  generalize x / 4294967296 * (y / 4294967296) = u at *
  clear hx hy
  refine ⟨?_, ?_, ?_, ?_, ?_, ?_, ?_, top, ?_⟩ <;> omega

set_option maxHeartbeats 1000000 in
/-- math/bits.Mul64: the two halves of the product. -/
theorem mul64 (x y : Nat) (hx : x < 18446744073709551616) (hy : y < 18446744073709551616) (w : World) :
    Calls Try.prog 22 #[.int .u64 x, .int .u64 y] w fun e w' => e = .returned (.tuple #[.int .u64 ((x * y / 18446744073709551616 : Nat) : Int), .int .u64 ((x * y % 18446744073709551616 : Nat) : Int)]) ∧ w = w' := by
  obtain ⟨c1, c2, c3, c4, c5, c6, c7, c8, c9⟩ := halves x y hx hy
  have C := Lib.hid c9
  have c10 := c9 ▸ c8
  clear c8 c9
  go_enter Try.func22, Try.ntmps22
  go_wp2
  simp only [castLow x hx, castLow y hy, castHigh, castMul, castAdd, wrapFit _ c1, wrapFit _ c2, wrapFit _ c3, wrapFit _ c4, wrapFit _ c5, castLow _ c5, wrapFit _ c6, wrapFit _ c7, wrapFit _ c10]
  rw [C.out, wrapMod]
  go_ret2
  exact ⟨rfl, rfl⟩

theorem len8_get (i : Int) (h0 : 0 ≤ i) (h1 : i ≤ 255) (h : i.toNat < Lib.len8tab.size) : (Lib.len8tab[i.toNat].toNat : Int) = (Lib.bitLen i.toNat : Int) := by
  rw [← Lib.len8_of i h0 h1]
  unfold Lib.len8
  rw [ByteArray.getElem?_lt' _ _ h, Option.getD_some]
theorem len8_wrap (i : Int) (n : Nat) (h0 : 0 ≤ i) (h1 : i ≤ 255) (h : i.toNat < Lib.len8tab.size) (hn : n ≤ 56) : wrap64 ((n : Int) + wrap64 (Lib.len8tab[i.toNat].toNat : Int)) = ((n + Lib.bitLen i.toNat : Nat) : Int) := by
  have l := Lib.bitLen_le8' i h0 h1
  rw [len8_get i h0 h1 h]
  unfold wrap64
  omega
theorem len8_wrap0 (i : Int) (h0 : 0 ≤ i) (h1 : i ≤ 255) (h : i.toNat < Lib.len8tab.size) : wrap64 (wrap64 (Lib.len8tab[i.toNat].toNat : Int)) = ((Lib.bitLen i.toNat : Nat) : Int) := by
  have := len8_wrap i 0 h0 h1 h (by omega)
  simpa using this

set_option maxHeartbeats 4000000 in
set_option maxRecDepth 100000 in
theorem len64 (x : Int) (w : World) (h0 : 0 ≤ x) (h1 : x ≤ 18446744073709551615) :
    Calls Try.prog 26 #[.int .u64 x] w fun e w' => e = .returned (.int .i64 (Lib.bitLen x.toNat)) ∧ w = w' := by
  have hsz := Lib.len8tab_size
  go_enter Try.func26, Try.ntmps26
  go_wp2
  all_goals (go_ret; refine ⟨congrArg Ending.returned (congrArg (Value.int IntKind.i64) ?_), rfl⟩)
  · exact (len8_wrap (x / 4294967296 / 65536 / 256) 56 (by omega) (by omega) (by omega) (by omega)).trans (by rw [show (x / 4294967296 / 65536 / 256).toNat = x.toNat / 72057594037927936 from by omega, ← Lib.bitLen_shift56 x.toNat (by omega) (by omega)])
  · exact (len8_wrap (x / 4294967296 / 65536) 48 (by omega) (by omega) (by omega) (by omega)).trans (by rw [show (x / 4294967296 / 65536).toNat = x.toNat / 281474976710656 from by omega, ← Lib.bitLen_shift48 x.toNat (by omega) (by omega)])
  · exact (len8_wrap (x / 4294967296 / 256) 40 (by omega) (by omega) (by omega) (by omega)).trans (by rw [show (x / 4294967296 / 256).toNat = x.toNat / 1099511627776 from by omega, ← Lib.bitLen_shift40 x.toNat (by omega) (by omega)])
  · exact (len8_wrap (x / 4294967296) 32 (by omega) (by omega) (by omega) (by omega)).trans (by rw [show (x / 4294967296).toNat = x.toNat / 4294967296 from by omega, ← Lib.bitLen_shift32 x.toNat (by omega) (by omega)])
  · exact (len8_wrap (x / 65536 / 256) 24 (by omega) (by omega) (by omega) (by omega)).trans (by rw [show (x / 65536 / 256).toNat = x.toNat / 16777216 from by omega, ← Lib.bitLen_shift24 x.toNat (by omega) (by omega)])
  · exact (len8_wrap (x / 65536) 16 (by omega) (by omega) (by omega) (by omega)).trans (by rw [show (x / 65536).toNat = x.toNat / 65536 from by omega, ← Lib.bitLen_shift16 x.toNat (by omega) (by omega)])
  · exact (len8_wrap (x / 256) 8 (by omega) (by omega) (by omega) (by omega)).trans (by rw [show (x / 256).toNat = x.toNat / 256 from by omega, ← Lib.bitLen_shift8 x.toNat (by omega) (by omega)])
  · exact len8_wrap0 x h0 (by omega) (by omega)

/-- How far y is shifted up to be normalized. -/
def lz (y : Nat) : Nat := 64 - Lib.bitLen y

theorem bitLenAux_lt (f : Nat) : ∀ x : Nat, x < 2 ^ f → x < 2 ^ Lib.bitLenAux f x := by
  induction f with
  | zero => intro x hx; simpa [Lib.bitLenAux] using hx
  | succ f ih =>
    intro x hx
    simp only [Lib.bitLenAux]
    split
    · subst_vars; simp
    · have := ih (x / 2) (by rw [Nat.pow_succ] at hx; omega)
      rw [Nat.add_comm, Nat.pow_succ]
      omega
theorem bitLenAux_ge (f : Nat) : ∀ x : Nat, x < 2 ^ f → 0 < x → 2 ^ (Lib.bitLenAux f x - 1) ≤ x := by
  induction f with
  | zero => intro x hx h; simp at hx; omega
  | succ f ih =>
    intro x hx h
    simp only [Lib.bitLenAux]
    rw [if_neg (by omega), Nat.add_sub_cancel_left]
    by_cases h2 : x / 2 = 0
    · have : Lib.bitLenAux f (x / 2) = 0 := by rw [h2]; cases f <;> simp [Lib.bitLenAux]
      rw [this]
      omega
    · have h3 := ih (x / 2) (by rw [Nat.pow_succ] at hx; omega) (by omega)
      have h4 : 1 ≤ Lib.bitLenAux f (x / 2) := by
        cases f with
        | zero => simp at hx; omega
        | succ f => simp [Lib.bitLenAux, h2]
      generalize Lib.bitLenAux f (x / 2) = k at *
      obtain ⟨j, rfl⟩ : ∃ j, k = j + 1 := ⟨k - 1, by omega⟩
      rw [Nat.add_sub_cancel] at h3
      rw [Nat.pow_succ]
      omega

theorem lz_bounds (y : Nat) (h0 : 0 < y) (h1 : y < 18446744073709551616) : lz y ≤ 63 ∧ Lib.bitLen y ≤ 64 ∧ 9223372036854775808 ≤ y * 2 ^ lz y ∧ y * 2 ^ lz y < 18446744073709551616 := by
  have a := bitLenAux_lt 64 y (by omega)
  have b := bitLenAux_ge 64 y (by omega) h0
  have c := Lib.bitLen_le y 64 (by omega) (by omega)
  unfold lz
  change Lib.bitLenAux 64 y ≤ 64 at c
  change 64 - Lib.bitLenAux 64 y ≤ 63 ∧ Lib.bitLenAux 64 y ≤ 64 ∧ _ ≤ y * 2 ^ (64 - Lib.bitLenAux 64 y) ∧ y * 2 ^ (64 - Lib.bitLenAux 64 y) < _
  generalize Lib.bitLenAux 64 y = k at *
  have hk : 1 ≤ k := by
    cases k with
    | zero => simp at a; omega
    | succ k => omega
  refine ⟨by omega, c, ?_, ?_⟩
  · have := Nat.mul_le_mul_right (2 ^ (64 - k)) b
    rw [← Nat.pow_add, show k - 1 + (64 - k) = 63 by omega] at this
    exact this
  · have := Nat.mul_lt_mul_of_pos_right a (Nat.two_pow_pos (64 - k))
    rw [← Nat.pow_add, show k + (64 - k) = 64 by omega] at this
    exact this

theorem lz64 (y : Nat) (w : World) (h0 : 0 < y) (h1 : y < 18446744073709551616) :
    Calls Try.prog 25 #[.int .u64 y] w fun e w' => e = .returned (.int .i64 (lz y)) ∧ w = w' := by
  obtain ⟨_, hb, _, _⟩ := lz_bounds y h0 h1
  have e8 : (64 - (Lib.bitLen y : Int)) = (lz y : Int) := by unfold lz; omega
  go_enter Try.func25, Try.ntmps25
  go_wp2_with (go_at_call 26; refine (len64 (y : Int) _ (by omega) (by omega)).mono ?_; rintro e w' ⟨rfl, rfl⟩)
  go_ret
  exact ⟨by simp, rfl⟩

end Go.Proofs.Ytkjlbibjdhjocaa
