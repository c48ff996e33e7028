/-
  Plain arithmetic of division of 128 bits by 64 bits, digit by digit of 32 bits: what the two quotient digits and the remainder are.
 Conditions: the divisor is normalized (its highest bit is set), the dividend's high half is less than the divisor. The contracts of the functions of math/bits that are called: Add64 with carry 0, Mul64, Len64 and LeadingZeros64, for every argument of 64 bits.
 Conditions: the arguments are numbers of 64 bits. math/bits.Div64 returns the quotient and the remainder of hi * 2^64 + lo by y, for all numbers of 64 bits with hi < y.
 Conditions: hi < y, and all three are numbers of 64 bits. The contracts of Add, Sub and Mul of package money and of its reference: each returns the exact value, or 0 and false.
 Conditions: the arguments are numbers of 64 bits. The contracts of MulDiv of package money and of its reference, of the reference's Mul and of its product of 128 bits: the exact value, or 0 and false.
 Conditions: the arguments are numbers of 64 bits.
-/
import Derived.Test.YtglglhcnofbagaaGreatK1
import Derived.Test.YtglglhcnofbagaaGreatProg
import Derived.WalkKit
import Derived.WalkSpells
import Derived.WalkLawsBesides
import Derived.Laws.Externs
import Derived.Laws.Bits64b
import Derived.Lib.Mul64
import Derived.Lib.BitFns
import Derived.Lib.Hide
import Derived.Laws.MathBits
import Derived.Deep.DeepCutAuto
import Derived.Deep.LoopGhost
import Derived.Deep.QuietTactic
import Derived.BigQuiet
import Derived.Outline
import Derived.Deep.CutBlock
namespace Go.Proofs.YtglglhcnofbagaaGreat.Mo.Ar
set_option maxRecDepth 100000

theorem mulV (q y1 y0 : Nat) : q * (y1 * 4294967296 + y0) = q * y1 * 4294967296 + q * y0 := by
 rw [Nat.mul_add, Nat.mul_assoc]

/-- The estimate is not too great: the test said no. -/
theorem exitA (u d y1 y0 q r : Nat) (hi : q * y1 + r = u) (h : q * y0 ≤ 4294967296 * r + d) : q * (y1 * 4294967296 + y0) ≤ u * 4294967296 + d := by
 rw [mulV]
 generalize q * y1 = a at *
 generalize q * y0 = b at *
 omega

/-- The estimate is too great: the test said yes. -/
theorem stepA (u d y1 y0 q r : Nat) (hi : q * y1 + r = u) (h : 4294967296 * r + d < q * y0) : u * 4294967296 + d < q * (y1 * 4294967296 + y0) := by
 rw [mulV]
 generalize q * y1 = a at *
 generalize q * y0 = b at *
 omega

/-- The rest has grown to a digit's range: the estimate is right. -/
theorem exitB (u d y1 y0 q r : Nat) (hi : q * y1 + r = u) (hr : 4294967296 ≤ r) (hq : q ≤ 4294967296) (hy : y0 < 4294967296) : q * (y1 * 4294967296 + y0) ≤ u * 4294967296 + d := by
 refine exitA u d y1 y0 q r hi ?_
 have := Nat.mul_le_mul hq (Nat.le_of_lt_succ (Nat.lt_succ_of_lt hy))
 omega

/-- What holds of an estimate q with its rest r at a loop's head. -/
def Est (u d y1 y0 q r : Nat) : Prop :=
 q * y1 + r = u ∧ (u * 4294967296 + d) / (y1 * 4294967296 + y0) ≤ q ∧ q ≤ 4294967297 ∧ r < 4294967296

theorem lt_digit (u d V : Nat) (hu : u < V) (hd : d < 4294967296) : (u * 4294967296 + d) / V < 4294967296 := by
 rw [Nat.div_lt_iff_lt_mul (by omega)]
 omega

theorem est_start (u d y1 y0 : Nat) (hy1 : 2147483648 ≤ y1) (hy1' : y1 < 4294967296) (hy0 : y0 < 4294967296) (hd : d < 4294967296) (hu : u < y1 * 4294967296 + y0) :
  Est u d y1 y0 (u / y1) (u % y1) := by
 have h1 : u / y1 * y1 + u % y1 = u := Nat.div_add_mod' u y1
 have h2 : u % y1 < y1 := Nat.mod_lt _ (by omega)
 refine ⟨h1, ?_, ?_, by omega⟩
 ·rw [← Nat.lt_succ_iff, Nat.div_lt_iff_lt_mul (by omega)]
  have := mulV (u / y1).succ y1 y0
  rw [this, Nat.succ_mul]
  generalize u / y1 * y1 = a at *
  have h0 : 0 ≤ (u / y1).succ * y0 := Nat.zero_le _
  generalize (u / y1).succ * y0 = b at *
  omega
 ·rw [← Nat.lt_succ_iff, Nat.div_lt_iff_lt_mul (by omega)]
  omega

theorem est_step (u d y1 y0 q r : Nat) (_hy1 : 2147483648 ≤ y1) (hu : u < y1 * 4294967296 + y0) (hd : d < 4294967296) (h : Est u d y1 y0 q r)
  (ht : 4294967296 ≤ q ∨ 4294967296 * r + d < q * y0) :
  1 ≤ q ∧ (q - 1) * y1 + (r + y1) = u ∧ (u * 4294967296 + d) / (y1 * 4294967296 + y0) ≤ q - 1 ∧ q - 1 ≤ 4294967296 := by
 obtain ⟨hi, hq, hq', hr⟩ := h
 have hlt := lt_digit u d (y1 * 4294967296 + y0) hu hd
 have hs : (u * 4294967296 + d) / (y1 * 4294967296 + y0) < q := by
  rcases ht with ht | ht
  ·exact Nat.lt_of_lt_of_le hlt ht
  ·rw [Nat.div_lt_iff_lt_mul (by omega)]
   exact stepA u d y1 y0 q r hi ht
 have hq1 : 1 ≤ q := Nat.lt_of_le_of_lt (Nat.zero_le _) hs
 have hq2 := Nat.le_sub_one_of_lt hs
 clear hs hlt hq
 obtain ⟨k, rfl⟩ : ∃ k, q = k + 1 := ⟨q - 1, by omega⟩
 refine ⟨by omega, ?_, hq2, by omega⟩
 rw [Nat.add_sub_cancel]
 rw [Nat.succ_mul] at hi
 omega

theorem est_exit (u d y1 y0 q : Nat) (hy1 : 2147483648 ≤ y1) (hq : (u * 4294967296 + d) / (y1 * 4294967296 + y0) ≤ q) (h : q * (y1 * 4294967296 + y0) ≤ u * 4294967296 + d) :
  q = (u * 4294967296 + d) / (y1 * 4294967296 + y0) := by
 have := (Nat.le_div_iff_mul_le (show 0 < y1 * 4294967296 + y0 by omega)).2 h
 omega

theorem est_exitA (u d y1 y0 q r : Nat) (hy1 : 2147483648 ≤ y1) (h : Est u d y1 y0 q r) (ht : q * y0 ≤ 4294967296 * r + d) :
  q = (u * 4294967296 + d) / (y1 * 4294967296 + y0) :=
 est_exit u d y1 y0 q hy1 h.2.1 (exitA u d y1 y0 q r h.1 ht)

theorem est_exitB (u d y1 y0 q r : Nat) (hy1 : 2147483648 ≤ y1) (hy0 : y0 < 4294967296) (hi : q * y1 + r = u) (hq : (u * 4294967296 + d) / (y1 * 4294967296 + y0) ≤ q) (hq' : q ≤ 4294967296) (hr : 4294967296 ≤ r) :
  q = (u * 4294967296 + d) / (y1 * 4294967296 + y0) :=
 est_exit u d y1 y0 q hy1 hq (exitB u d y1 y0 q r hi hr hq' hy0)

theorem rest_wrap' (u d V a b : Nat) (h1 : a + b = u * 4294967296 + d) (h2 : b < V) (hV' : V < 18446744073709551616) :
  (((u * 4294967296 % 18446744073709551616 + d) % 18446744073709551616 : Nat) - ((a % 18446744073709551616 : Nat) : Int)) % 18446744073709551616 = (b : Int) := by
 omega

/-- The rest of a digit, as the program reckons it modulo 2^64. -/
theorem rest_wrap (u d V : Nat) (hV : 0 < V) (hV' : V < 18446744073709551616) :
  (((u * 4294967296 % 18446744073709551616 + d) % 18446744073709551616 : Nat) - (((u * 4294967296 + d) / V * V % 18446744073709551616 : Nat) : Int)) % 18446744073709551616 = (((u * 4294967296 + d) % V : Nat) : Int) := by
 exact rest_wrap' u d V _ _ (Nat.div_add_mod' (u * 4294967296 + d) V) (Nat.mod_lt _ hV) hV'

theorem two_digits' (T p y u l1 l0 q1 r1 q0 r0 : Nat) (hp : 0 < p) (hv : 0 < y * p) (hT : T * p = u * 18446744073709551616 + (l1 * 4294967296 + l0))
  (e1 : q1 * (y * p) + r1 = u * 4294967296 + l1) (e2 : q0 * (y * p) + r0 = r1 * 4294967296 + l0) (e3 : r0 < y * p) :
  q1 * 4294967296 + q0 = T / y ∧ r0 / p = T % y := by
 have e : T * p = (q1 * 4294967296 + q0) * (y * p) + r0 := by
  rw [hT, Nat.add_mul, Nat.mul_right_comm]
  omega
 have d1 : T * p / (y * p) = q1 * 4294967296 + q0 := by
  rw [e, Nat.mul_comm _ (y * p), Nat.mul_add_div hv, Nat.div_eq_of_lt e3, Nat.add_zero]
 have d2 : T * p % (y * p) = r0 := by
  rw [e, Nat.mul_comm _ (y * p), Nat.mul_add_mod, Nat.mod_eq_of_lt e3]
 rw [Nat.mul_div_mul_right _ _ hp] at d1
 rw [Nat.mul_mod_mul_right] at d2
 exact ⟨d1.symm, by rw [← d2, Nat.mul_div_cancel _ hp]⟩

/-- The two digits together: of a dividend T shifted up by p = 2^s. -/
theorem two_digits (T p y u l1 l0 : Nat) (hp : 0 < p) (hy : 0 < y) (hT : T * p = u * 18446744073709551616 + (l1 * 4294967296 + l0)) :
  (u * 4294967296 + l1) / (y * p) * 4294967296 + ((u * 4294967296 + l1) % (y * p) * 4294967296 + l0) / (y * p) = T / y ∧
  ((u * 4294967296 + l1) % (y * p) * 4294967296 + l0) % (y * p) / p = T % y := by
 have hv : 0 < y * p := Nat.mul_pos hy hp
 exact two_digits' T p y u l1 l0 _ _ _ _ hp hv hT (Nat.div_add_mod' _ _) (Nat.div_add_mod' _ _) (Nat.mod_lt _ hv)

/-- The dividend, shifted up by s bits: its two halves. -/
theorem shifted (hi lo s : Nat) (hs : s ≤ 63) (_hlo : lo < 18446744073709551616) :
  (hi * 18446744073709551616 + lo) * 2 ^ s = (hi * 2 ^ s + lo / 2 ^ (64 - s)) * 18446744073709551616 + (lo * 2 ^ s % 18446744073709551616) := by
 have e : (18446744073709551616 : Nat) = 2 ^ (64 - s) * 2 ^ s := by
  rw [← Nat.pow_add]
  rw [show 64 - s + s = 64 by omega]
 have h : lo * 2 ^ s / 18446744073709551616 = lo / 2 ^ (64 - s) := by
  rw [e, Nat.mul_div_mul_right _ _ (Nat.two_pow_pos s)]
 have h2 := Nat.div_add_mod' (lo * 2 ^ s) 18446744073709551616
 rw [h] at h2
 rw [Nat.add_mul, Nat.add_mul, Nat.mul_right_comm, ← h2, ← Nat.add_assoc]
 simp only [Nat.mul_add_mod_self_right, Nat.mod_mod]

/-- The high half of the shifted dividend is less than the shifted divisor. -/
theorem shifted_lt (hi lo y s : Nat) (hs : s ≤ 63) (hlo : lo < 18446744073709551616) (h : hi < y) :
  hi * 2 ^ s + lo / 2 ^ (64 - s) < y * 2 ^ s := by
 have e : (18446744073709551616 : Nat) = 2 ^ s * 2 ^ (64 - s) := by
  rw [← Nat.pow_add]
  rw [show s + (64 - s) = 64 by omega]
 have h1 : lo / 2 ^ (64 - s) < 2 ^ s := by
  rw [Nat.div_lt_iff_lt_mul (Nat.two_pow_pos _), ← e]
  exact hlo
 have h2 := Nat.mul_le_mul_right (2 ^ s) h
 rw [Nat.succ_mul] at h2
 omega

theorem mul_le (q y0 : Nat) (hq : q < 4294967296) (hy : y0 < 4294967296) : (q : Int) * (y0 : Int) ≤ 18446744065119617025 ∧ q * y0 ≤ 18446744065119617025 := by
 have h : q * y0 ≤ 4294967295 * 4294967295 := Nat.mul_le_mul (by omega) (by omega)
 rw [← Int.natCast_mul]
 omega
theorem cast_lt (r d q y0 : Nat) (h : 4294967296 * r + d < q * y0) : 4294967296 * (r : Int) + (d : Int) < (q : Int) * (y0 : Int) := by
 rw [← Int.natCast_mul]
 omega
theorem cast_le (r d q y0 : Nat) (h : q * y0 ≤ 4294967296 * r + d) : (q : Int) * (y0 : Int) ≤ 4294967296 * (r : Int) + (d : Int) := by
 rw [← Int.natCast_mul]
 omega

end Go.Proofs.YtglglhcnofbagaaGreat.Mo.Ar
namespace Go.Proofs.YtglglhcnofbagaaGreat.Mo
set_option maxRecDepth 100000
open Go.RowKit

/-! Numbers of the run are integers; the reckoning is done on natural numbers: how the one is written as the other. -/
theorem castLow (a : Nat) (h : a < 18446744073709551616) : bits .and .u64 (a : Int) 4294967295 = ((a % 4294967296 : Nat) : Int) :=
 (and_low32 (a : Int) (Int.natCast_nonneg a) (by omega)).trans (by omega)
theorem castHigh (a : Nat) : (a : Int) / 4294967296 = ((a / 4294967296 : Nat) : Int) := (Int.natCast_ediv a 4294967296).symm
theorem castMul (a b : Nat) : (a : Int) * (b : Int) = ((a * b : Nat) : Int) := by simp
theorem castAdd (a b : Nat) : (a : Int) + (b : Int) = ((a + b : Nat) : Int) := by simp
theorem wrapMod (a : Nat) : IntKind.u64.wrap (a : Int) = ((a % 18446744073709551616 : Nat) : Int) := (IntKind.wrap_u64 a).trans (by omega)
theorem wrapFit (a : Nat) (h : a < 18446744073709551616) : IntKind.u64.wrap (a : Int) = (a : Int) := by rw [wrapMod, Nat.mod_eq_of_lt h]

/-- The product of two numbers of 64 bits by their halves: nothing of what is reckoned on the way reaches 2^64, and the high half comes out. -/
theorem halves (x y : Nat) (hx : x < 18446744073709551616) (hy : y < 18446744073709551616) :
  x % 4294967296 * (y % 4294967296) < 18446744073709551616 ∧ x / 4294967296 * (y % 4294967296) < 18446744073709551616 ∧ x % 4294967296 * (y / 4294967296) < 18446744073709551616 ∧ x / 4294967296 * (y / 4294967296) < 18446744073709551616 ∧
  x / 4294967296 * (y % 4294967296) + x % 4294967296 * (y % 4294967296) / 4294967296 < 18446744073709551616 ∧
  (x / 4294967296 * (y % 4294967296) + x % 4294967296 * (y % 4294967296) / 4294967296) % 4294967296 + x % 4294967296 * (y / 4294967296) < 18446744073709551616 ∧
  x / 4294967296 * (y / 4294967296) + (x / 4294967296 * (y % 4294967296) + x % 4294967296 * (y % 4294967296) / 4294967296) / 4294967296 < 18446744073709551616 ∧
  x * y / 18446744073709551616 < 18446744073709551616 ∧
  x / 4294967296 * (y / 4294967296) + (x / 4294967296 * (y % 4294967296) + x % 4294967296 * (y % 4294967296) / 4294967296) / 4294967296 +
   ((x / 4294967296 * (y % 4294967296) + x % 4294967296 * (y % 4294967296) / 4294967296) % 4294967296 + x % 4294967296 * (y / 4294967296)) / 4294967296 = x * y / 18446744073709551616 := by
 have e := Lib.split_mul (x / 4294967296) (x % 4294967296) (y / 4294967296) (y % 4294967296) 4294967296
 rw [Nat.div_add_mod', Nat.div_add_mod'] at e
 have top : x * y / 18446744073709551616 < 18446744073709551616 := by
  rw [Nat.div_lt_iff_lt_mul (by omega)]
  exact Nat.lt_of_le_of_lt (Nat.mul_le_mul_right y (Nat.le_of_lt hx)) (Nat.mul_lt_mul_of_pos_left hy (by omega))
 have k1 := Lib.half_mul_le (a := x % 4294967296) (b := y % 4294967296) (by omega) (by omega)
 have k2 := Lib.half_mul_le (a := x / 4294967296) (b := y % 4294967296) (by omega) (by omega)
 have k3 := Lib.half_mul_le (a := x % 4294967296) (b := y / 4294967296) (by omega) (by omega)
 have k4 := Lib.half_mul_le (a := x / 4294967296) (b := y / 4294967296) (by omega) (by omega)
 generalize x * y = t at *
 generalize x % 4294967296 * (y % 4294967296) = p at *
 generalize x / 4294967296 * (y % 4294967296) = q at *
 generalize x % 4294967296 * (y / 4294967296) = r at *
 generalize x / 4294967296 * (y / 4294967296) = u at *
 clear hx hy
 refine ⟨?_, ?_, ?_, ?_, ?_, ?_, ?_, top, ?_⟩ <;> omega

/-- math/bits.Add64 with carry 0. -/
theorem add64_0 (x y : Int) (hx : 0 ≤ x) (hy : 0 ≤ y) (w : World) : (callFunc 113 #[.int .u64 x, .int .u64 y, .int .u64 0]).run Tryz.prog w =
  .ok (.value (.tuple #[.int .u64 ((x + y) % 18446744073709551616), .int .u64 ((x + y) / 18446744073709551616)])) w := by
 rw [run_callFunc_extern Tryz.func113 (by kernel_rfl) (by kernel_rfl) (by kernel_rfl) (e := add64Entry) (by kernel_rfl), run_add64 x y 0 hx hy (by omega) (by omega)]
 simp only [Result.andThen, Int.add_zero]

set_option maxHeartbeats 1000000 in
/-- math/bits.Mul64: the two halves of the product. -/
theorem mul64 (x y : Nat) (hx : x < 18446744073709551616) (hy : y < 18446744073709551616) (w : World) :
  Calls Tryz.prog 71 #[.int .u64 x, .int .u64 y] w fun e w' => e = .returned (.tuple #[.int .u64 ((x * y / 18446744073709551616 : Nat) : Int), .int .u64 ((x * y % 18446744073709551616 : Nat) : Int)]) ∧ w = w' := by
 obtain ⟨c1, c2, c3, c4, c5, c6, c7, c8, c9⟩ := halves x y hx hy
 have C := Lib.hid c9
 have c10 := c9 ▸ c8
 clear c8 c9
 go_enter Tryz.func71, Tryz.ntmps71
 go_wp2
 simp only [castLow x hx, castLow y hy, castHigh, castMul, castAdd, wrapFit _ c1, wrapFit _ c2, wrapFit _ c3, wrapFit _ c4, wrapFit _ c5, castLow _ c5, wrapFit _ c6, wrapFit _ c7, wrapFit _ c10]
 rw [C.out, wrapMod]
 go_ret2
 exact ⟨rfl, rfl⟩

theorem len8_get (i : Int) (h0 : 0 ≤ i) (h1 : i ≤ 255) (h : i.toNat < Lib.len8tab.size) : (Lib.len8tab[i.toNat].toNat : Int) = (Lib.bitLen i.toNat : Int) := by
 rw [← Lib.len8_of i h0 h1]
 unfold Lib.len8
 rw [ByteArray.getElem?_lt' _ _ h, Option.getD_some]
theorem len8_wrap (i : Int) (n : Nat) (h0 : 0 ≤ i) (h1 : i ≤ 255) (h : i.toNat < Lib.len8tab.size) (hn : n ≤ 56) : wrap64 ((n : Int) + wrap64 (Lib.len8tab[i.toNat].toNat : Int)) = ((n + Lib.bitLen i.toNat : Nat) : Int) := by
 have l := Lib.bitLen_le8' i h0 h1
 rw [len8_get i h0 h1 h]
 unfold wrap64
 omega
theorem len8_wrap0 (i : Int) (h0 : 0 ≤ i) (h1 : i ≤ 255) (h : i.toNat < Lib.len8tab.size) : wrap64 (wrap64 (Lib.len8tab[i.toNat].toNat : Int)) = ((Lib.bitLen i.toNat : Nat) : Int) := by
 have := len8_wrap i 0 h0 h1 h (by omega)
 simpa using this

set_option maxHeartbeats 4000000 in
set_option maxRecDepth 100000 in
theorem len64 (x : Int) (w : World) (h0 : 0 ≤ x) (h1 : x ≤ 18446744073709551615) :
  Calls Tryz.prog 103 #[.int .u64 x] w fun e w' => e = .returned (.int .i64 (Lib.bitLen x.toNat)) ∧ w = w' := by
 have hsz := Lib.len8tab_size
 go_enter Tryz.func103, Tryz.ntmps103
 go_wp2
 all_goals (go_ret; refine ⟨congrArg Ending.returned (congrArg (Value.int IntKind.i64) ?_), rfl⟩)
 ·exact (len8_wrap (x / 4294967296 / 65536 / 256) 56 (by omega) (by omega) (by omega) (by omega)).trans (by rw [show (x / 4294967296 / 65536 / 256).toNat = x.toNat / 72057594037927936 from by omega, ← Lib.bitLen_shift56 x.toNat (by omega) (by omega)])
 ·exact (len8_wrap (x / 4294967296 / 65536) 48 (by omega) (by omega) (by omega) (by omega)).trans (by rw [show (x / 4294967296 / 65536).toNat = x.toNat / 281474976710656 from by omega, ← Lib.bitLen_shift48 x.toNat (by omega) (by omega)])
 ·exact (len8_wrap (x / 4294967296 / 256) 40 (by omega) (by omega) (by omega) (by omega)).trans (by rw [show (x / 4294967296 / 256).toNat = x.toNat / 1099511627776 from by omega, ← Lib.bitLen_shift40 x.toNat (by omega) (by omega)])
 ·exact (len8_wrap (x / 4294967296) 32 (by omega) (by omega) (by omega) (by omega)).trans (by rw [show (x / 4294967296).toNat = x.toNat / 4294967296 from by omega, ← Lib.bitLen_shift32 x.toNat (by omega) (by omega)])
 ·exact (len8_wrap (x / 65536 / 256) 24 (by omega) (by omega) (by omega) (by omega)).trans (by rw [show (x / 65536 / 256).toNat = x.toNat / 16777216 from by omega, ← Lib.bitLen_shift24 x.toNat (by omega) (by omega)])
 ·exact (len8_wrap (x / 65536) 16 (by omega) (by omega) (by omega) (by omega)).trans (by rw [show (x / 65536).toNat = x.toNat / 65536 from by omega, ← Lib.bitLen_shift16 x.toNat (by omega) (by omega)])
 ·exact (len8_wrap (x / 256) 8 (by omega) (by omega) (by omega) (by omega)).trans (by rw [show (x / 256).toNat = x.toNat / 256 from by omega, ← Lib.bitLen_shift8 x.toNat (by omega) (by omega)])
 ·exact len8_wrap0 x h0 (by omega) (by omega)

/-- How far y is shifted up to be normalized. -/
def lz (y : Nat) : Nat := 64 - Lib.bitLen y

theorem bitLenAux_lt (f : Nat) : ∀ x : Nat, x < 2 ^ f → x < 2 ^ Lib.bitLenAux f x := by
 induction f with
 | zero => intro x hx; simpa [Lib.bitLenAux] using hx
 | succ f ih =>
  intro x hx
  simp only [Lib.bitLenAux]
  split
  ·subst_vars; simp
  ·have := ih (x / 2) (by rw [Nat.pow_succ] at hx; omega)
   rw [Nat.add_comm, Nat.pow_succ]
   omega
theorem bitLenAux_ge (f : Nat) : ∀ x : Nat, x < 2 ^ f → 0 < x → 2 ^ (Lib.bitLenAux f x - 1) ≤ x := by
 induction f with
 | zero => intro x hx h; simp at hx; omega
 | succ f ih =>
  intro x hx h
  simp only [Lib.bitLenAux]
  rw [if_neg (by omega), Nat.add_sub_cancel_left]
  by_cases h2 : x / 2 = 0
  ·have : Lib.bitLenAux f (x / 2) = 0 := by rw [h2]; cases f <;> simp [Lib.bitLenAux]
   rw [this]
   omega
  ·have h3 := ih (x / 2) (by rw [Nat.pow_succ] at hx; omega) (by omega)
   have h4 : 1 ≤ Lib.bitLenAux f (x / 2) := by
    cases f with
    | zero => simp at hx; omega
    | succ f => simp [Lib.bitLenAux, h2]
   generalize Lib.bitLenAux f (x / 2) = k at *
   obtain ⟨j, rfl⟩ : ∃ j, k = j + 1 := ⟨k - 1, by omega⟩
   rw [Nat.add_sub_cancel] at h3
   rw [Nat.pow_succ]
   omega

theorem lz_bounds (y : Nat) (h0 : 0 < y) (h1 : y < 18446744073709551616) : lz y ≤ 63 ∧ Lib.bitLen y ≤ 64 ∧ 9223372036854775808 ≤ y * 2 ^ lz y ∧ y * 2 ^ lz y < 18446744073709551616 := by
 have a := bitLenAux_lt 64 y (by omega)
 have b := bitLenAux_ge 64 y (by omega) h0
 have c := Lib.bitLen_le y 64 (by omega) (by omega)
 unfold lz
 change Lib.bitLenAux 64 y ≤ 64 at c
 change 64 - Lib.bitLenAux 64 y ≤ 63 ∧ Lib.bitLenAux 64 y ≤ 64 ∧ _ ≤ y * 2 ^ (64 - Lib.bitLenAux 64 y) ∧ y * 2 ^ (64 - Lib.bitLenAux 64 y) < _
 generalize Lib.bitLenAux 64 y = k at *
 have hk : 1 ≤ k := by
  cases k with
  | zero => simp at a; omega
  | succ k => omega
 refine ⟨by omega, c, ?_, ?_⟩
 ·have := Nat.mul_le_mul_right (2 ^ (64 - k)) b
  rw [← Nat.pow_add, show k - 1 + (64 - k) = 63 by omega] at this
  exact this
 ·have := Nat.mul_lt_mul_of_pos_right a (Nat.two_pow_pos (64 - k))
  rw [← Nat.pow_add, show k + (64 - k) = 64 by omega] at this
  exact this

theorem lz64 (y : Nat) (w : World) (h0 : 0 < y) (h1 : y < 18446744073709551616) :
  Calls Tryz.prog 92 #[.int .u64 y] w fun e w' => e = .returned (.int .i64 (lz y)) ∧ w = w' := by
 obtain ⟨_, hb, _, _⟩ := lz_bounds y h0 h1
 have e8 : (64 - (Lib.bitLen y : Int)) = (lz y : Int) := by unfold lz; omega
 go_enter Tryz.func92, Tryz.ntmps92
 go_wp2_with (go_at_call 103; refine (len64 (y : Int) _ (by omega) (by omega)).mono ?_; rintro e w' ⟨rfl, rfl⟩)
 go_ret
 exact ⟨by simp, rfl⟩

end Go.Proofs.YtglglhcnofbagaaGreat.Mo
namespace Go.Proofs.YtglglhcnofbagaaGreat.Mo
set_option maxRecDepth 100000
open Go.RowKit

theorem Ar.val1' (q : Nat) (h : 1 ≤ q) : Value.int IntKind.u64 ((q : Int) - 1) = Value.int IntKind.u64 ((q - 1 : Nat) : Int) := by
 rw [show ((q - 1 : Nat) : Int) = (q : Int) - 1 by omega]
theorem Ar.val1 (q p : Nat) (h : 1 ≤ q) (e : q - 1 = p) : Value.int IntKind.u64 ((q : Int) - 1) = Value.int IntKind.u64 (p : Int) := by
 subst e
 exact Ar.val1' q h

set_option maxHeartbeats 4000000 in
set_option maxRecDepth 100000 in
/-- The walk of Div64 behind its first tests, over numbers under names: the divisor V shifted up, its halves y1 and y0; the dividend's high part u, its low digits l1 and l0; the digits q1 and q0. -/
theorem div_walk (hi lo y V y1 y0 u l l1 l0 qa ra q1 u2 qb rb q0 R1 R : Nat) (w : World) (h : 0 < hi) (hlt : hi < y) (_h1 : lo < 18446744073709551616) (h2 : y < 18446744073709551616)
  (z1 : lz y ≤ 63) (b1 : 2147483648 ≤ y1) (b1' : y1 < 4294967296) (b0 : y0 < 4294967296) (bll1 : l1 < 4294967296) (bll0 : l0 < 4294967296) (_bu0 : u < 18446744073709551616) (_bu20 : u2 < 18446744073709551616)
  (bu : Hid (u < y1 * 4294967296 + y0)) (bu2 : Hid (u2 < y1 * 4294967296 + y0)) (bq1 : q1 < 4294967296) (bq0 : q0 < 4294967296)
  (eq1 : Hid (q1 = (u * 4294967296 + l1) / (y1 * 4294967296 + y0))) (eq0 : Hid (q0 = (u2 * 4294967296 + l0) / (y1 * 4294967296 + y0)))
  (eqa : Hid (Ar.Est u l1 y1 y0 qa ra)) (eqb : Hid (Ar.Est u2 l0 y1 y0 qb rb))
  (rV : IntKind.u64.wrap ((y : Int) * 2 ^ lz y) = (V : Int)) (r9 : (V : Int) / 4294967296 = (y1 : Int)) (r10 : bits .and .u64 (V : Int) 4294967295 = (y0 : Int))
  (r11 : bits .or .u64 (IntKind.u64.wrap ((hi : Int) * 2 ^ lz y)) ((lo : Int) / 2 ^ (64 - lz y)) = (u : Int))
  (r12 : IntKind.u64.wrap ((lo : Int) * 2 ^ lz y) = (l : Int)) (r13 : (l : Int) / 4294967296 = (l1 : Int)) (r14 : bits .and .u64 (l : Int) 4294967295 = (l0 : Int))
  (ra1 : IntKind.u64.wrap ((u : Int) / (y1 : Int)) = (qa : Int)) (ra2 : IntKind.u64.wrap ((u : Int) - IntKind.u64.wrap ((qa : Int) * (y1 : Int))) = (ra : Int))
  (ru2 : Hid (IntKind.u64.wrap (IntKind.u64.wrap (IntKind.u64.wrap ((u : Int) * 4294967296) + (l1 : Int)) - IntKind.u64.wrap ((q1 : Int) * (V : Int))) = (u2 : Int)))
  (rb1 : Hid (IntKind.u64.wrap ((u2 : Int) / (y1 : Int)) = (qb : Int))) (rb2 : Hid (IntKind.u64.wrap ((u2 : Int) - IntKind.u64.wrap ((qb : Int) * (y1 : Int))) = (rb : Int)))
  (rR : Hid (IntKind.u64.wrap (IntKind.u64.wrap (IntKind.u64.wrap ((u2 : Int) * 4294967296) + (l0 : Int)) - IntKind.u64.wrap ((q0 : Int) * (V : Int))) = (R1 : Int))) (rR1 : Hid ((R1 : Int) / 2 ^ lz y = (R : Int))) :
  Calls Tryz.prog 72 #[.int .u64 hi, .int .u64 lo, .int .u64 y] w fun e w' => e = .returned (.tuple #[.int .u64 ((q1 * 4294967296 + q0 : Nat) : Int), .int .u64 (R : Int)]) ∧ w = w' := by
 have hy : ((y : Int) == 0) = false := by simp; omega
 have hh : ((hi : Int) == 0) = false := by simp; omega
 have hy1 : ((y1 : Int) == 0) = false := by simp; omega
 go_enter Tryz.func72, Tryz.ntmps72
 go_upto_block 0 with (go_at_call 92; refine (lz64 y _ (by omega) h2).mono ?_; rintro e w' ⟨rfl, rfl⟩)
 clear rV r9 r10 r11 r12 r13 r14 ra1 ra2
 go_cut [15] (fun s15 wx => w = wx ∧ s15 = .int .u64 q1)
 case first =>
  go_wp2_with fail
  go_loopg [15, 16] qa (fun g s15 s16 wx => w = wx ∧ ∃ q r : Nat, s15 = .int .u64 q ∧ s16 = .int .u64 r ∧ q = g ∧ Hid (Ar.Est u l1 y1 y0 q r))
  case atStart => exact ⟨rfl, qa, ra, rfl, rfl, rfl, eqa⟩
  case round =>
   obtain ⟨rfl, q, r, rfl, rfl, rfl, he⟩ := hrel
   have ha : (q : Int) ≤ 4294967297 := by have := he.out.2.2.1; omega
   have hb : (r : Int) < 4294967296 := by have := he.out.2.2.2; omega
   have hm : (q : Int) < 4294967296 → (q : Int) * (y0 : Int) ≤ 18446744065119617025 := fun hq => (Ar.mul_le q y0 (by omega) (by omega)).1
   have hm0 : (0 : Int) ≤ (q : Int) * (y0 : Int) := Int.mul_nonneg (by omega) (by omega)
   by_cases ht : 4294967296 ≤ q ∨ 4294967296 * r + l1 < q * y0
   ·obtain ⟨s1, s2, s3, s4⟩ := Ar.est_step u l1 y1 y0 q r b1 bu.out bll1 he.out ht
    by_cases hB : 4294967296 ≤ r + y1
    ·have hf := Lib.hid (Ar.est_exitB u l1 y1 y0 (q - 1) (r + y1) b1 b0 s2 s3 s4 hB)
     have hB' : (4294967296 : Int) ≤ (r : Int) + (y1 : Int) := by omega
     have hbB : decide ((4294967296 : Int) ≤ (r : Int) + (y1 : Int)) = true := decide_eq_true hB'
     clear s2 s3 s4 hB
     by_cases hq : 4294967296 ≤ q
     ·have hq' : (4294967296 : Int) ≤ (q : Int) := by omega
      clear hm ht hq
      go_wp2
      go_meet
      exact ⟨rfl, Ar.val1 q q1 s1 (by rw [eq1.out, hf.out])⟩
     ·have hm' := hm (by omega)
      have hq' : (q : Int) < (4294967296 : Int) := by omega
      have ht' : 4294967296 * (r : Int) + (l1 : Int) < (q : Int) * (y0 : Int) := Ar.cast_lt r l1 q y0 (ht.resolve_left hq)
      obtain ⟨P, hP⟩ : ∃ P : Int, (q : Int) * (y0 : Int) = P := ⟨_, rfl⟩
      rw [hP] at ht' hm' hm0
      obtain ⟨M, hM⟩ : ∃ M : Int, 4294967296 * (r : Int) = M := ⟨_, rfl⟩
      have hM0 : 0 ≤ M ∧ M ≤ 18446744069414584320 := by omega
      rw [hM] at ht'
      have hbq : decide ((4294967296 : Int) ≤ (q : Int)) = false := decide_eq_false (by omega)
      have hbP : decide (M + (l1 : Int) < P) = true := decide_eq_true (by omega)
      clear hm ht hq
      go_wp2
      go_meet
      exact ⟨rfl, Ar.val1 q q1 s1 (by rw [eq1.out, hf.out])⟩
    ·have hn : Hid (Ar.Est u l1 y1 y0 (q - 1) (r + y1)) := Lib.hid ⟨s2, s3, by omega, by omega⟩
     have hB' : (r : Int) + (y1 : Int) < (4294967296 : Int) := by omega
     have hbB : decide ((4294967296 : Int) ≤ (r : Int) + (y1 : Int)) = false := decide_eq_false (by omega)
     clear s2 s3 s4 hB
     by_cases hq : 4294967296 ≤ q
     ·have hq' : (4294967296 : Int) ≤ (q : Int) := by omega
      clear hm ht hq
      go_wp2
      go_roundg (q - 1)
      case measure => omega
      case rel => exact ⟨rfl, q - 1, r + y1, Ar.val1' q s1, by first | rfl | go_num, rfl, hn⟩
     ·have hm' := hm (by omega)
      have hq' : (q : Int) < (4294967296 : Int) := by omega
      have ht' : 4294967296 * (r : Int) + (l1 : Int) < (q : Int) * (y0 : Int) := Ar.cast_lt r l1 q y0 (ht.resolve_left hq)
      obtain ⟨P, hP⟩ : ∃ P : Int, (q : Int) * (y0 : Int) = P := ⟨_, rfl⟩
      rw [hP] at ht' hm' hm0
      obtain ⟨M, hM⟩ : ∃ M : Int, 4294967296 * (r : Int) = M := ⟨_, rfl⟩
      have hM0 : 0 ≤ M ∧ M ≤ 18446744069414584320 := by omega
      rw [hM] at ht'
      have hbq : decide ((4294967296 : Int) ≤ (q : Int)) = false := decide_eq_false (by omega)
      have hbP : decide (M + (l1 : Int) < P) = true := decide_eq_true (by omega)
      clear hm ht hq
      go_wp2
      go_roundg (q - 1)
      case measure => omega
      case rel => exact ⟨rfl, q - 1, r + y1, Ar.val1' q s1, by first | rfl | go_num, rfl, hn⟩
   ·have hq : q < 4294967296 := by omega
    have hm' := hm (by omega)
    have hq' : (q : Int) < (4294967296 : Int) := by omega
    have ht' : (q : Int) * (y0 : Int) ≤ 4294967296 * (r : Int) + (l1 : Int) := Ar.cast_le r l1 q y0 (by omega)
    have hf := Lib.hid (Ar.est_exitA u l1 y1 y0 q r b1 he.out (by omega))
    obtain ⟨P, hP⟩ : ∃ P : Int, (q : Int) * (y0 : Int) = P := ⟨_, rfl⟩
    rw [hP] at ht' hm' hm0
    obtain ⟨M, hM⟩ : ∃ M : Int, 4294967296 * (r : Int) = M := ⟨_, rfl⟩
    have hM0 : 0 ≤ M ∧ M ≤ 18446744069414584320 := by omega
    rw [hM] at ht'
    have hbq : decide ((4294967296 : Int) ≤ (q : Int)) = false := decide_eq_false (by omega)
    have hbP : decide (M + (l1 : Int) < P) = false := decide_eq_false (by omega)
    clear hm ht hq
    go_wp2
    go_meet
    exact ⟨rfl, by rw [eq1.out, hf.out]⟩
 case rest =>
  obtain ⟨rfl, rfl⟩ := hcut
  have r1 := ru2.out
  have r2 := rb1.out
  have r3 := rb2.out
  go_upto_block 2 with fail
  clear r1 r2 r3
  go_cut [18] (fun s18 wx => w = wx ∧ s18 = .int .u64 q0)
  case first =>
   go_wp2_with fail
   go_loopg [18, 16] qb (fun g s18 s16 wx => w = wx ∧ ∃ q r : Nat, s18 = .int .u64 q ∧ s16 = .int .u64 r ∧ q = g ∧ Hid (Ar.Est u2 l0 y1 y0 q r))
   case atStart => exact ⟨rfl, qb, rb, rfl, rfl, rfl, eqb⟩
   case round =>
    obtain ⟨rfl, q, r, rfl, rfl, rfl, he⟩ := hrel
    have ha : (q : Int) ≤ 4294967297 := by have := he.out.2.2.1; omega
    have hb : (r : Int) < 4294967296 := by have := he.out.2.2.2; omega
    have hm : (q : Int) < 4294967296 → (q : Int) * (y0 : Int) ≤ 18446744065119617025 := fun hq => (Ar.mul_le q y0 (by omega) (by omega)).1
    have hm0 : (0 : Int) ≤ (q : Int) * (y0 : Int) := Int.mul_nonneg (by omega) (by omega)
    by_cases ht : 4294967296 ≤ q ∨ 4294967296 * r + l0 < q * y0
    ·obtain ⟨s1, s2, s3, s4⟩ := Ar.est_step u2 l0 y1 y0 q r b1 bu2.out bll0 he.out ht
     by_cases hB : 4294967296 ≤ r + y1
     ·have hf := Lib.hid (Ar.est_exitB u2 l0 y1 y0 (q - 1) (r + y1) b1 b0 s2 s3 s4 hB)
      have hB' : (4294967296 : Int) ≤ (r : Int) + (y1 : Int) := by omega
      have hbB : decide ((4294967296 : Int) ≤ (r : Int) + (y1 : Int)) = true := decide_eq_true hB'
      clear s2 s3 s4 hB
      by_cases hq : 4294967296 ≤ q
      ·have hq' : (4294967296 : Int) ≤ (q : Int) := by omega
       clear hm ht hq
       go_wp2
       go_meet
       exact ⟨rfl, Ar.val1 q q0 s1 (by rw [eq0.out, hf.out])⟩
      ·have hm' := hm (by omega)
       have hq' : (q : Int) < (4294967296 : Int) := by omega
       have ht' : 4294967296 * (r : Int) + (l0 : Int) < (q : Int) * (y0 : Int) := Ar.cast_lt r l0 q y0 (ht.resolve_left hq)
       obtain ⟨P, hP⟩ : ∃ P : Int, (q : Int) * (y0 : Int) = P := ⟨_, rfl⟩
       rw [hP] at ht' hm' hm0
       obtain ⟨M, hM⟩ : ∃ M : Int, 4294967296 * (r : Int) = M := ⟨_, rfl⟩
       have hM0 : 0 ≤ M ∧ M ≤ 18446744069414584320 := by omega
       rw [hM] at ht'
       have hbq : decide ((4294967296 : Int) ≤ (q : Int)) = false := decide_eq_false (by omega)
       have hbP : decide (M + (l0 : Int) < P) = true := decide_eq_true (by omega)
       clear hm ht hq
       go_wp2
       go_meet
       exact ⟨rfl, Ar.val1 q q0 s1 (by rw [eq0.out, hf.out])⟩
     ·have hn : Hid (Ar.Est u2 l0 y1 y0 (q - 1) (r + y1)) := Lib.hid ⟨s2, s3, by omega, by omega⟩
      have hB' : (r : Int) + (y1 : Int) < (4294967296 : Int) := by omega
      have hbB : decide ((4294967296 : Int) ≤ (r : Int) + (y1 : Int)) = false := decide_eq_false (by omega)
      clear s2 s3 s4 hB
      by_cases hq : 4294967296 ≤ q
      ·have hq' : (4294967296 : Int) ≤ (q : Int) := by omega
       clear hm ht hq
       go_wp2
       go_roundg (q - 1)
       case measure => omega
       case rel => exact ⟨rfl, q - 1, r + y1, Ar.val1' q s1, by first | rfl | go_num, rfl, hn⟩
      ·have hm' := hm (by omega)
       have hq' : (q : Int) < (4294967296 : Int) := by omega
       have ht' : 4294967296 * (r : Int) + (l0 : Int) < (q : Int) * (y0 : Int) := Ar.cast_lt r l0 q y0 (ht.resolve_left hq)
       obtain ⟨P, hP⟩ : ∃ P : Int, (q : Int) * (y0 : Int) = P := ⟨_, rfl⟩
       rw [hP] at ht' hm' hm0
       obtain ⟨M, hM⟩ : ∃ M : Int, 4294967296 * (r : Int) = M := ⟨_, rfl⟩
       have hM0 : 0 ≤ M ∧ M ≤ 18446744069414584320 := by omega
       rw [hM] at ht'
       have hbq : decide ((4294967296 : Int) ≤ (q : Int)) = false := decide_eq_false (by omega)
       have hbP : decide (M + (l0 : Int) < P) = true := decide_eq_true (by omega)
       clear hm ht hq
       go_wp2
       go_roundg (q - 1)
       case measure => omega
       case rel => exact ⟨rfl, q - 1, r + y1, Ar.val1' q s1, by first | rfl | go_num, rfl, hn⟩
    ·have hq : q < 4294967296 := by omega
     have hm' := hm (by omega)
     have hq' : (q : Int) < (4294967296 : Int) := by omega
     have ht' : (q : Int) * (y0 : Int) ≤ 4294967296 * (r : Int) + (l0 : Int) := Ar.cast_le r l0 q y0 (by omega)
     have hf := Lib.hid (Ar.est_exitA u2 l0 y1 y0 q r b1 he.out (by omega))
     obtain ⟨P, hP⟩ : ∃ P : Int, (q : Int) * (y0 : Int) = P := ⟨_, rfl⟩
     rw [hP] at ht' hm' hm0
     obtain ⟨M, hM⟩ : ∃ M : Int, 4294967296 * (r : Int) = M := ⟨_, rfl⟩
     have hM0 : 0 ≤ M ∧ M ≤ 18446744069414584320 := by omega
     rw [hM] at ht'
     have hbq : decide ((4294967296 : Int) ≤ (q : Int)) = false := decide_eq_false (by omega)
     have hbP : decide (M + (l0 : Int) < P) = false := decide_eq_false (by omega)
     clear hm ht hq
     go_wp2
     go_meet
     exact ⟨rfl, by rw [eq0.out, hf.out]⟩
  case rest =>
   obtain ⟨rfl, rfl⟩ := hcut
   have r4 := rR.out
   have r5 := rR1.out
   go_wp2
   go_ret2
   exact ⟨by simp, rfl⟩

def divQ (hi lo y : Nat) : Nat := (hi * 18446744073709551616 + lo) / y
def divR (hi lo y : Nat) : Nat := (hi * 18446744073709551616 + lo) % y

set_option maxHeartbeats 1000000 in
theorem div64_0 (lo y : Nat) (w : World) (h1 : lo < 18446744073709551616) (h2 : y < 18446744073709551616) (h0 : 0 < y) :
  Calls Tryz.prog 72 #[.int .u64 0, .int .u64 lo, .int .u64 y] w fun e w' => e = .returned (.tuple #[.int .u64 (divQ 0 lo y), .int .u64 (divR 0 lo y)]) ∧ ∃ n, w' = w.drewN n := by
 have hy : ((y : Int) == 0) = false := by simp; omega
 have rq : IntKind.u64.wrap ((lo : Int) / (y : Int)) = ((lo / y : Nat) : Int) := by rw [← Int.natCast_ediv]; exact wrapFit _ (Nat.lt_of_le_of_lt (Nat.div_le_self lo y) h1)
 have eQ : divQ 0 lo y = lo / y := by simp [divQ]
 have eR : divR 0 lo y = lo % y := by simp [divR]
 rw [eQ, eR]
 clear eQ eR
 go_enter Tryz.func72, Tryz.ntmps72
 go_wp2
 go_quiet (fail)
 go_wp2
 go_ret2
 exact ⟨by simp, _, rfl⟩

theorem wdiv (u y1 : Nat) (hu : u < 18446744073709551616) : IntKind.u64.wrap ((u : Int) / (y1 : Int)) = ((u / y1 : Nat) : Int) := by
 rw [← Int.natCast_ediv]; exact wrapFit _ (Nat.lt_of_le_of_lt (Nat.div_le_self u y1) hu)
theorem wrem (u y1 : Nat) (hu : u < 18446744073709551616) : IntKind.u64.wrap ((u : Int) - IntKind.u64.wrap (((u / y1 : Nat) : Int) * (y1 : Int))) = ((u % y1 : Nat) : Int) := by
 have h := Nat.div_add_mod' u y1
 rw [castMul, wrapFit _ (by omega), IntKind.wrap_u64]
 omega
theorem wrest (u d V q b : Nat) (h : (((u * 4294967296 % 18446744073709551616 + d) % 18446744073709551616 : Nat) - ((q * V % 18446744073709551616 : Nat) : Int)) % 18446744073709551616 = (b : Int)) :
  IntKind.u64.wrap (IntKind.u64.wrap (IntKind.u64.wrap ((u : Int) * 4294967296) + (d : Int)) - IntKind.u64.wrap ((q : Int) * (V : Int))) = (b : Int) := by
 rw [show (u : Int) * 4294967296 = ((u * 4294967296 : Nat) : Int) by omega, wrapMod, castAdd, wrapMod, castMul, wrapMod, IntKind.wrap_u64]
 exact h

theorem or_add (a b s : Nat) (hb : b < 2 ^ s) : a * 2 ^ s ||| b = a * 2 ^ s + b := by
 rw [Nat.mul_comm, Nat.two_pow_add_eq_or_of_lt hb]

set_option maxHeartbeats 1000000 in
theorem div64_1 (hi lo y : Nat) (w : World) (h : 0 < hi) (hlt : hi < y) (h1 : lo < 18446744073709551616) (h2 : y < 18446744073709551616) :
  Calls Tryz.prog 72 #[.int .u64 hi, .int .u64 lo, .int .u64 y] w fun e w' => e = .returned (.tuple #[.int .u64 (divQ hi lo y), .int .u64 (divR hi lo y)]) ∧ w = w' := by
 obtain ⟨z1, _, z3, z4⟩ := lz_bounds y (by omega) h2
 have c1 := Ar.shifted hi lo (lz y) z1 h1
 have c2 := Ar.shifted_lt hi lo y (lz y) z1 h1 hlt
 have c3 := Nat.two_pow_pos (lz y)
 have e0 : (18446744073709551616 : Nat) = 2 ^ lz y * 2 ^ (64 - lz y) := by
  rw [← Nat.pow_add, show lz y + (64 - lz y) = 64 by omega]
 have c4 : lo / 2 ^ (64 - lz y) < 2 ^ lz y := by
  rw [Nat.div_lt_iff_lt_mul (Nat.two_pow_pos _), ← e0]
  exact h1
 clear e0
 have dl := Nat.mod_lt (lo * 2 ^ lz y) (show 0 < 18446744073709551616 by omega)
 have c5 : hi * 2 ^ lz y + lo / 2 ^ (64 - lz y) < 18446744073709551616 := Nat.lt_trans c2 z4
 have r11 : bits .or .u64 (IntKind.u64.wrap ((hi : Int) * 2 ^ lz y)) ((lo : Int) / 2 ^ (64 - lz y)) = ((hi * 2 ^ lz y + lo / 2 ^ (64 - lz y) : Nat) : Int) := by
  have a1 : IntKind.u64.wrap ((hi : Int) * 2 ^ lz y) = ((hi * 2 ^ lz y : Nat) : Int) := by
   rw [← wrapFit (hi * 2 ^ lz y) (Nat.lt_of_le_of_lt (Nat.le_add_right _ _) c5)]; simp
  have a2 : ((lo : Int) / 2 ^ (64 - lz y)) = ((lo / 2 ^ (64 - lz y) : Nat) : Int) := by simp
  rw [a1, a2, bits_or_u64_nat _ _ (Nat.lt_of_le_of_lt (Nat.le_add_right _ _) c5) (Nat.lt_of_le_of_lt (Nat.le_add_left _ _) c5), or_add _ _ _ c4]
 have rV : IntKind.u64.wrap ((y : Int) * 2 ^ lz y) = ((y * 2 ^ lz y : Nat) : Int) := by
  rw [← wrapFit (y * 2 ^ lz y) z4]; simp
 have r12 : IntKind.u64.wrap ((lo : Int) * 2 ^ lz y) = ((lo * 2 ^ lz y % 18446744073709551616 : Nat) : Int) := by
  rw [← wrapMod (lo * 2 ^ lz y)]; simp
 have rR1 : ∀ n : Nat, ((n : Int) / 2 ^ lz y) = ((n / 2 ^ lz y : Nat) : Int) := fun n => by simp
 have T := Ar.two_digits (hi * 18446744073709551616 + lo) (2 ^ lz y) y (hi * 2 ^ lz y + lo / 2 ^ (64 - lz y)) (lo * 2 ^ lz y % 18446744073709551616 / 4294967296) (lo * 2 ^ lz y % 18446744073709551616 % 4294967296) c3 (by omega)
  (by rw [c1, Nat.div_add_mod'])
 change _ = divQ hi lo y ∧ _ = divR hi lo y at T
 rw [← T.1, ← T.2]
 clear T c1
 generalize hi * 2 ^ lz y + lo / 2 ^ (64 - lz y) = u at *
 generalize lo * 2 ^ lz y % 18446744073709551616 = l at *
 generalize y * 2 ^ lz y = V at *
 have eV : V / 4294967296 * 4294967296 + V % 4294967296 = V := Nat.div_add_mod' V 4294967296
 have f1 : 2147483648 ≤ V / 4294967296 := by omega
 have f2 : V / 4294967296 < 4294967296 := by omega
 have f3 : V % 4294967296 < 4294967296 := by omega
 have g1 : l / 4294967296 < 4294967296 := by omega
 have g0 : l % 4294967296 < 4294967296 := by omega
 have hV0 : 0 < V := by omega
 have k2 := Nat.mod_lt (u * 4294967296 + l / 4294967296) hV0
 have k1 := Ar.lt_digit u (l / 4294967296) V c2 g1
 have k0 := Ar.lt_digit ((u * 4294967296 + l / 4294967296) % V) (l % 4294967296) V k2 g0
 have m1 := Ar.rest_wrap u (l / 4294967296) V hV0 z4
 have m0 := Ar.rest_wrap ((u * 4294967296 + l / 4294967296) % V) (l % 4294967296) V hV0 z4
 refine div_walk hi lo y V (V / 4294967296) (V % 4294967296) u l (l / 4294967296) (l % 4294967296) (u / (V / 4294967296)) (u % (V / 4294967296)) ((u * 4294967296 + l / 4294967296) / V) ((u * 4294967296 + l / 4294967296) % V)
  ((u * 4294967296 + l / 4294967296) % V / (V / 4294967296)) ((u * 4294967296 + l / 4294967296) % V % (V / 4294967296)) (((u * 4294967296 + l / 4294967296) % V * 4294967296 + l % 4294967296) / V)
  (((u * 4294967296 + l / 4294967296) % V * 4294967296 + l % 4294967296) % V) (((u * 4294967296 + l / 4294967296) % V * 4294967296 + l % 4294967296) % V / 2 ^ lz y) w h hlt h1 h2 z1 f1 f2 f3 g1 g0 c5 (Nat.lt_trans k2 z4)
  (by rw [eV]; exact Lib.hid c2) (by rw [eV]; exact Lib.hid k2) k1 k0 (by rw [eV]; exact Lib.hid rfl) (by rw [eV]; exact Lib.hid rfl)
  (Lib.hid (Ar.est_start _ _ _ _ f1 f2 f3 g1 (by rw [eV]; exact c2))) (Lib.hid (Ar.est_start _ _ _ _ f1 f2 f3 g0 (by rw [eV]; exact k2)))
  rV (by omega) (castLow V z4) r11 r12 (by omega) (castLow l dl) ?_ ?_ ?_ ?_ ?_ ?_ ?_
 ·exact wdiv u _ (Nat.lt_trans c2 z4)
 ·exact wrem u _ (Nat.lt_trans c2 z4)
 ·exact Lib.hid (wrest u _ V _ _ m1)
 ·exact Lib.hid (wdiv _ _ (Nat.lt_trans k2 z4))
 ·exact Lib.hid (wrem _ _ (Nat.lt_trans k2 z4))
 ·exact Lib.hid (wrest _ _ V _ _ m0)
 ·exact Lib.hid (rR1 _)

/-- math/bits.Div64. -/
theorem div64 (hi lo y : Nat) (w : World) (hlt : hi < y) (h1 : lo < 18446744073709551616) (h2 : y < 18446744073709551616) :
  Calls Tryz.prog 72 #[.int .u64 hi, .int .u64 lo, .int .u64 y] w fun e w' => e = .returned (.tuple #[.int .u64 (divQ hi lo y), .int .u64 (divR hi lo y)]) ∧ ∃ n, w' = w.drewN n := by
 by_cases h : hi = 0
 ·subst h
  exact div64_0 lo y w h1 h2 hlt
 ·exact (div64_1 hi lo y w (by omega) hlt h1 h2).mono fun e w' ⟨he, hw⟩ => ⟨he, 0, hw ▸ rfl⟩
#print axioms div64
end Go.Proofs.YtglglhcnofbagaaGreat.Mo
namespace Go.Proofs.YtglglhcnofbagaaGreat.Mo
set_option maxRecDepth 100000
open Go.RowKit

def mulB (a b : Int) : Bool := decide (a * b < 18446744073709551616)
def mulV (a b : Int) : Int := if a * b < 18446744073709551616 then a * b else 0
def mdB (a b c : Int) : Bool := decide (a * b < c * 18446744073709551616)
def mdV (a b c : Int) : Int := if a * b < c * 18446744073709551616 then a * b / c else 0

theorem money_mul (a b : Int) (w : World) (ha : W64 a) (hb : W64 b) :
  Calls Tryz.prog 94 #[.int .u64 a, .int .u64 b] w fun e w' => e = .returned (.tuple #[.int .u64 (mulV a b), .bool (mulB a b)]) ∧ w = w' := by
 obtain ⟨a0, a1⟩ := ha; obtain ⟨b0, b1⟩ := hb
 obtain ⟨x, rfl⟩ := Int.eq_ofNat_of_zero_le a0
 obtain ⟨y, rfl⟩ := Int.eq_ofNat_of_zero_le b0
 have hM := fun w => mul64 x y (by omega) (by omega) w
 by_cases h : x * y < 18446744073709551616
 ·have h' : (x : Int) * (y : Int) < 18446744073709551616 := by rw [← Int.natCast_mul]; omega
  have e1 : mulV x y = ((x * y : Nat) : Int) := by rw [Int.natCast_mul]; exact if_pos h'
  have e2 : mulB x y = true := decide_eq_true h'
  have q1 : x * y % 18446744073709551616 = x * y := Nat.mod_eq_of_lt h
  have q2 : x * y / 18446744073709551616 = 0 := Nat.div_eq_of_lt h
  rw [e1, e2]
  simp only [q1, q2] at hM
  generalize x * y = p at *
  clear e1 e2 q1 q2 h h'
  go_enter Tryz.func94, Tryz.ntmps94
  go_wp2_with (go_at_call 71; refine (hM _).mono ?_; rintro e w' ⟨rfl, rfl⟩)
  go_ret2
  exact ⟨rfl, rfl⟩
 ·have h' : ¬ (x : Int) * (y : Int) < 18446744073709551616 := by rw [← Int.natCast_mul]; omega
  have e1 : mulV x y = 0 := if_neg h'
  have e2 : mulB x y = false := decide_eq_false h'
  have q2 : 1 ≤ x * y / 18446744073709551616 := by omega
  rw [e1, e2]
  generalize x * y / 18446744073709551616 = p at *
  generalize x * y % 18446744073709551616 = r at *
  clear e1 e2 h h'
  have hp : ((p : Int) != 0) = true := by simp; omega
  go_enter Tryz.func94, Tryz.ntmps94
  go_wp2_with (go_at_call 71; refine (hM _).mono ?_; rintro e w' ⟨rfl, rfl⟩)
  go_ret2
  exact ⟨rfl, rfl⟩

end Go.Proofs.YtglglhcnofbagaaGreat.Mo
namespace Go.Proofs.YtglglhcnofbagaaGreat.Mo
set_option maxRecDepth 100000
open Go.RowKit

theorem ref_mul (a b : Int) (w : World) (ha : W64 a) (hb : W64 b) :
  Calls Tryz.prog 41 #[.int .u64 a, .int .u64 b] w fun e w' => e = .returned (.tuple #[.int .u64 (mulV a b), .bool (mulB a b)]) ∧ w = w' := by
 obtain ⟨a0, a1⟩ := ha; obtain ⟨b0, b1⟩ := hb
 by_cases hz : a = 0
 ·subst hz
  have e1 : mulV 0 b = 0 := by simp [mulV]
  have e2 : mulB 0 b = true := by simp [mulB]
  rw [e1, e2]
  clear e1 e2
  go_enter Tryz.func41, Tryz.ntmps41
  go_wp2
  go_ret2
  exact ⟨rfl, rfl⟩
 ·have hq : (18446744073709551615 / a < b) ↔ ¬ (a * b < 18446744073709551616) := by
   rw [Int.ediv_lt_iff_lt_mul (by omega), Int.mul_comm b a]
   omega
  have q0 : 0 ≤ 18446744073709551615 / a := Int.ediv_nonneg (by omega) a0
  have q1 : 18446744073709551615 / a ≤ 18446744073709551615 := Int.ediv_le_self _ (by omega)
  have p0 : 0 ≤ a * b := Int.mul_nonneg a0 b0
  have hn : (a != 0) = true := by simpa using hz
  have rq : IntKind.u64.wrap (18446744073709551615 / a) = 18446744073709551615 / a := by rw [IntKind.wrap_u64]; omega
  by_cases h : a * b < 18446744073709551616
  ·have e1 : mulV a b = a * b := if_pos h
   have e2 : mulB a b = true := decide_eq_true h
   have h' : ¬ 18446744073709551615 / a < b := fun hc => hq.1 hc h
   have hb' : decide (18446744073709551615 / a < b) = false := decide_eq_false h'
   rw [e1, e2]
   clear e1 e2 hq
   go_enter Tryz.func41, Tryz.ntmps41
   go_wp2
   go_ret2
   exact ⟨rfl, rfl⟩
  ·have e1 : mulV a b = 0 := if_neg h
   have e2 : mulB a b = false := decide_eq_false h
   have h' : 18446744073709551615 / a < b := hq.2 h
   have hb' : decide (18446744073709551615 / a < b) = true := decide_eq_true h'
   rw [e1, e2]
   clear e1 e2 hq
   go_enter Tryz.func41, Tryz.ntmps41
   go_wp2
   go_ret2
   exact ⟨rfl, rfl⟩

theorem md_of (x y z : Nat) (hz : x * y / 18446744073709551616 < z) : mdB x y z = true ∧ mdV x y z = ((divQ (x * y / 18446744073709551616) (x * y % 18446744073709551616) z : Nat) : Int) := by
 have h : x * y < z * 18446744073709551616 := (Nat.div_lt_iff_lt_mul (by omega)).1 hz
 have h' : (x : Int) * (y : Int) < (z : Int) * 18446744073709551616 := by rw [← Int.natCast_mul]; omega
 refine ⟨decide_eq_true h', ?_⟩
 unfold divQ
 rw [Nat.div_add_mod', Int.natCast_ediv, Int.natCast_mul]
 exact if_pos h'
theorem md_no (x y z : Nat) (hz : z ≤ x * y / 18446744073709551616) : mdB x y z = false ∧ mdV x y z = 0 := by
 have h : z * 18446744073709551616 ≤ x * y := (Nat.le_div_iff_mul_le (by omega)).1 hz
 have h' : ¬ (x : Int) * (y : Int) < (z : Int) * 18446744073709551616 := by rw [← Int.natCast_mul]; omega
 exact ⟨decide_eq_false h', if_neg h'⟩

theorem money_muldiv (a b c : Int) (w : World) (ha : W64 a) (hb : W64 b) (hc : W64 c) :
  Calls Tryz.prog 53 #[.int .u64 a, .int .u64 b, .int .u64 c] w fun e w' => e = .returned (.tuple #[.int .u64 (mdV a b c), .bool (mdB a b c)]) ∧ ∃ n, w' = w.drewN n := by
 obtain ⟨a0, a1⟩ := ha; obtain ⟨b0, b1⟩ := hb; obtain ⟨c0, c1⟩ := hc
 obtain ⟨x, rfl⟩ := Int.eq_ofNat_of_zero_le a0
 obtain ⟨y, rfl⟩ := Int.eq_ofNat_of_zero_le b0
 obtain ⟨z, rfl⟩ := Int.eq_ofNat_of_zero_le c0
 have hM := fun w => mul64 x y (by omega) (by omega) w
 have hr := Nat.mod_lt (x * y) (show 0 < 18446744073709551616 by omega)
 by_cases h : x * y / 18446744073709551616 < z
 ·obtain ⟨e2, e1⟩ := md_of x y z h
  have hD := fun w => div64 (x * y / 18446744073709551616) (x * y % 18446744073709551616) z w h hr (by omega)
  rw [e1, e2]
  clear e1 e2
  generalize x * y / 18446744073709551616 = p at *
  generalize x * y % 18446744073709551616 = r at *
  go_enter Tryz.func53, Tryz.ntmps53
  go_wp2_with (first | (go_at_call 71; refine (hM _).mono ?_; rintro e w' ⟨rfl, rfl⟩) | (go_at_call 72; refine (hD _).mono ?_; rintro e w' ⟨rfl, n, rfl⟩))
  go_ret2
  exact ⟨rfl, _, rfl⟩
 ·obtain ⟨e2, e1⟩ := md_no x y z (by omega)
  rw [e1, e2]
  clear e1 e2
  generalize x * y / 18446744073709551616 = p at *
  generalize x * y % 18446744073709551616 = r at *
  go_enter Tryz.func53, Tryz.ntmps53
  go_wp2_with (go_at_call 71; refine (hM _).mono ?_; rintro e w' ⟨rfl, rfl⟩)
  go_ret2
  exact ⟨rfl, 0, rfl⟩

/-- The product's halves, as the reference reckons them. -/
theorem product_arith (a b : Nat) (ha : a < 18446744073709551616) (hb : b < 18446744073709551616) :
  (a % 4294967296) * (b % 4294967296) < 18446744073709551616 ∧ (a / 4294967296) * (b % 4294967296) < 18446744073709551616 ∧ (a % 4294967296) * (b / 4294967296) < 18446744073709551616 ∧
  (a / 4294967296) * (b / 4294967296) < 18446744073709551616 ∧
  (a % 4294967296) * (b % 4294967296) / 4294967296 + (a / 4294967296) * (b % 4294967296) % 4294967296 + (a % 4294967296) * (b / 4294967296) % 4294967296 < 18446744073709551616 ∧
  (a / 4294967296) * (b / 4294967296) + (a / 4294967296) * (b % 4294967296) / 4294967296 < 18446744073709551616 ∧
  (a / 4294967296) * (b / 4294967296) + (a / 4294967296) * (b % 4294967296) / 4294967296 + (a % 4294967296) * (b / 4294967296) / 4294967296 < 18446744073709551616 ∧
  (a / 4294967296) * (b / 4294967296) + (a / 4294967296) * (b % 4294967296) / 4294967296 + (a % 4294967296) * (b / 4294967296) / 4294967296 +
   ((a % 4294967296) * (b % 4294967296) / 4294967296 + (a / 4294967296) * (b % 4294967296) % 4294967296 + (a % 4294967296) * (b / 4294967296) % 4294967296) / 4294967296 = a * b / 18446744073709551616 ∧
  ((a % 4294967296) * (b % 4294967296) / 4294967296 + (a / 4294967296) * (b % 4294967296) % 4294967296 + (a % 4294967296) * (b / 4294967296) % 4294967296) * 4294967296 % 18446744073709551616 + (a % 4294967296) * (b % 4294967296) % 4294967296 = a * b % 18446744073709551616 ∧
  a * b / 18446744073709551616 < 18446744073709551616 := by
 have e : a * b = (a / 4294967296) * (b / 4294967296) * (4294967296 * 4294967296) + ((a / 4294967296) * (b % 4294967296) + (a % 4294967296) * (b / 4294967296)) * 4294967296 + (a % 4294967296) * (b % 4294967296) := by
  rw [← Lib.split_mul, Nat.div_add_mod' a 4294967296, Nat.div_add_mod' b 4294967296]
 have h1 := Lib.half_mul_le (a := a / 4294967296) (b := b / 4294967296) (by omega) (by omega)
 have h2 := Lib.half_mul_le (a := a / 4294967296) (b := b % 4294967296) (by omega) (by omega)
 have h3 := Lib.half_mul_le (a := a % 4294967296) (b := b / 4294967296) (by omega) (by omega)
 have h4 := Lib.half_mul_le (a := a % 4294967296) (b := b % 4294967296) (by omega) (by omega)
 have h5 : a * b / 18446744073709551616 < 18446744073709551616 := by
  rw [Nat.div_lt_iff_lt_mul (by omega)]
  exact Nat.lt_of_le_of_lt (Nat.mul_le_mul_right b (Nat.le_of_lt ha)) (Nat.mul_lt_mul_of_pos_left hb (by omega))
 generalize a * b = t at *
 generalize (a / 4294967296) * (b / 4294967296) = p at *
 generalize (a / 4294967296) * (b % 4294967296) = q at *
 generalize (a % 4294967296) * (b / 4294967296) = r at *
 generalize (a % 4294967296) * (b % 4294967296) = s at *
 refine ⟨by omega, by omega, by omega, by omega, by omega, by omega, by omega, by omega, by omega, h5⟩

theorem wor32 (a b : Nat) (hb : b < 4294967296) : bits .or .u64 (((a * 4294967296 % 18446744073709551616 : Nat) : Int)) (b : Int) = ((a * 4294967296 % 18446744073709551616 + b : Nat) : Int) := by
 rw [bits_or_u64_nat _ _ (by omega) (by omega)]
 have e : a * 4294967296 % 18446744073709551616 = a % 4294967296 * 2 ^ 32 := by omega
 rw [e, or_add _ _ 32 (by omega)]

theorem mulK (a : Nat) : (a : Int) * 4294967296 = ((a * 4294967296 : Nat) : Int) := by omega

set_option maxHeartbeats 1000000 in
theorem product (a b : Nat) (w : World) (ha : a < 18446744073709551616) (hb : b < 18446744073709551616) :
  Calls Tryz.prog 81 #[.int .u64 a, .int .u64 b] w fun e w' => e = .returned (.tuple #[.int .u64 ((a * b / 18446744073709551616 : Nat) : Int), .int .u64 ((a * b % 18446744073709551616 : Nat) : Int)]) ∧ w = w' := by
 obtain ⟨c1, c2, c3, c4, c5, c6, c7, c8, c9, c10⟩ := product_arith a b ha hb
 have d5 := Nat.lt_of_le_of_lt (Nat.le_add_right _ _) c5
 have d8 := c8 ▸ c10
 have C8 := Lib.hid c8
 have C9 := Lib.hid c9
 clear c8 c9 c10
 go_enter Tryz.func81, Tryz.ntmps81
 go_wp2
 simp only [castLow a ha, castLow b hb, castHigh, castMul, mulK, castAdd, wrapFit _ c1, wrapFit _ c2, wrapFit _ c3, wrapFit _ c4, castLow _ c1, castLow _ c2, castLow _ c3, wrapFit _ c5, wrapFit _ c6, wrapFit _ c7, wrapFit _ d5, wrapFit _ d8]
 rw [wrapMod, wor32 _ _ (Nat.mod_lt _ (by omega)), C8.out, C9.out]
 go_ret2
 exact ⟨rfl, rfl⟩

/-- What holds before the bit j - 1 of the low half is taken: the rest r and the quotient o of what was taken. -/
def Inv (H low c j r o : Nat) : Prop := H * 2 ^ (64 - j) + low / 2 ^ j = o * c + r ∧ r < c ∧ o < 2 ^ (64 - j)

theorem inv_start (H low c : Nat) (h : H < c) (hl : low < 18446744073709551616) : Inv H low c 64 H 0 := by
 refine ⟨?_, h, by simp⟩
 rw [show (2 : Nat) ^ 64 = 18446744073709551616 from rfl, Nat.div_eq_of_lt hl]
 simp

theorem inv_end (H low c r o : Nat) (h : Inv H low c 0 r o) : o = divQ H low c := by
 obtain ⟨h1, h2, _⟩ := h
 unfold divQ
 rw [Nat.sub_zero, Nat.pow_zero, Nat.div_one, show (2 : Nat) ^ 64 = 18446744073709551616 from rfl] at h1
 rw [h1, Nat.mul_comm o c, Nat.mul_add_div (by omega), Nat.div_eq_of_lt h2, Nat.add_zero]

theorem inv_bounds (H low c m r o : Nat) (hm : m ≤ 63) (h : Inv H low c (m + 1) r o) : o ≤ 9223372036854775807 := by
 have h1 : (2 : Nat) ^ (64 - (m + 1)) ≤ 2 ^ 63 := Nat.pow_le_pow_right (by omega) (by omega)
 have h2 := h.2.2
 omega

theorem inv_step (H low c m r o : Nat) (hm : m ≤ 63) (h : Inv H low c (m + 1) r o) :
  H * 2 ^ (64 - m) + low / 2 ^ m = (2 * o) * c + (2 * r + low / 2 ^ m % 2) ∧ 2 * o + 1 < 2 ^ (64 - m) := by
 obtain ⟨h1, _, h3⟩ := h
 have e : (2 : Nat) ^ (64 - m) = 2 ^ (64 - (m + 1)) * 2 := by rw [← Nat.pow_succ, show (64 - (m + 1)).succ = 64 - m by omega]
 have e2 : low / 2 ^ (m + 1) = low / 2 ^ m / 2 := by rw [Nat.pow_succ, Nat.div_div_eq_div_mul]
 rw [e2] at h1
 rw [e, ← Nat.mul_assoc, Nat.mul_assoc 2 o c]
 omega

theorem inv_yes (H low c m r o : Nat) (hm : m ≤ 63) (h : Inv H low c (m + 1) r o) (hc : c ≤ 2 * r + low / 2 ^ m % 2) : Inv H low c m (2 * r + low / 2 ^ m % 2 - c) (o * 2 + 1) := by
 obtain ⟨h1, h2⟩ := inv_step H low c m r o hm h
 have h3 := h.2.1
 refine ⟨?_, by omega, by omega⟩
 rw [h1, Nat.mul_comm o 2, Nat.add_mul]
 omega

theorem inv_no (H low c m r o : Nat) (hm : m ≤ 63) (h : Inv H low c (m + 1) r o) (hc : 2 * r + low / 2 ^ m % 2 < c) : Inv H low c m (2 * r + low / 2 ^ m % 2) (o * 2) := by
 obtain ⟨h1, h2⟩ := inv_step H low c m r o hm h
 refine ⟨?_, hc, by omega⟩
 rw [h1, Nat.mul_comm o 2]

theorem wbit (n : Nat) (h : n < 18446744073709551616) : bits .and .u64 (n : Int) 1 = ((n % 2 : Nat) : Int) := by
 have e := bits_and_u64_nat n 1 h (by omega)
 rw [Nat.and_one_is_mod] at e
 exact e
theorem wor1 (a b : Nat) (hb : b < 2) : bits .or .u64 (((a * 2 % 18446744073709551616 : Nat) : Int)) (b : Int) = ((a * 2 % 18446744073709551616 + b : Nat) : Int) := by
 rw [bits_or_u64_nat _ _ (by omega) (by omega)]
 have e : a * 2 % 18446744073709551616 = a % 9223372036854775808 * 2 ^ 1 := by omega
 rw [e, or_add _ _ 1 (by omega)]

set_option maxHeartbeats 2000000 in
theorem refmd_yes (x y c H low : Nat) (w : World) (hx : x < 18446744073709551616) (hy : y < 18446744073709551616) (hc : c < 18446744073709551616) (hH : H < c) (hl : low < 18446744073709551616)
  (eH : Hid (x * y / 18446744073709551616 = H)) (el : Hid (x * y % 18446744073709551616 = low)) :
  Calls Tryz.prog 61 #[.int .u64 x, .int .u64 y, .int .u64 c] w fun e w' => e = .returned (.tuple #[.int .u64 (divQ H low c), .bool true]) ∧ w = w' := by
 have hP := fun w => product x y w hx hy
 rw [eH.out, el.out] at hP
 clear eH el
 have hc0 : ((c : Int) == 0) = false := by simp; omega
 have I0 := Lib.hid (inv_start H low c hH hl)
 go_enter Tryz.func61, Tryz.ntmps61
 go_wp2_with (go_at_call 81; refine (hP _).mono ?_; rintro e w' ⟨rfl, rfl⟩)
 clear hP
 go_loopg [8, 10, 11] 64 (fun g s8 s10 s11 wx => w = wx ∧ ∃ j r o : Nat, j ≤ 64 ∧ s8 = .int .u64 r ∧ s10 = .int .u64 o ∧ s11 = .int .i64 ((j : Int) - 1) ∧ j = g ∧ Hid (Inv H low c j r o))
 case atStart => exact ⟨rfl, 64, H, 0, by omega, rfl, rfl, rfl, rfl, I0⟩
 case round =>
  obtain ⟨rfl, j, r, o, hj, rfl, rfl, rfl, rfl, hI⟩ := hrel
  clear I0
  by_cases hz : j = 0
  ·subst hz
   have hE := Lib.hid (inv_end H low c r o hI.out)
   rw [show (((0 : Nat) : Int) - 1) = -1 from rfl]
   go_wp2
   go_ret2
   exact ⟨by rw [hE.out]; rfl, rfl⟩
  ·obtain ⟨m, rfl⟩ : ∃ m, j = m + 1 := ⟨j - 1, by omega⟩
   rw [show (((m + 1 : Nat) : Int) - 1) = (m : Int) by omega]
   have hm : m ≤ 63 := by omega
   have hr := hI.out.2.1
   have ho := inv_bounds H low c m r o hm hI.out
   have hb : low / 2 ^ m < 18446744073709551616 := Nat.lt_of_le_of_lt (Nat.div_le_self _ _) hl
   obtain ⟨bit, eb⟩ : ∃ bit, low / 2 ^ m % 2 = bit := ⟨_, rfl⟩
   have hb2 : bit < 2 := by omega
   obtain ⟨cy, ec⟩ : ∃ cy, r / 9223372036854775808 = cy := ⟨_, rfl⟩
   have rA : (r : Int) / 9223372036854775808 = (cy : Int) := by omega
   have rB : bits .and .u64 ((low : Int) / 2 ^ m) 1 = (bit : Int) := by
    rw [← eb, ← wbit _ hb]; simp
   have rC : bits .or .u64 (IntKind.u64.wrap ((r : Int) * 2)) (bit : Int) = ((r * 2 % 18446744073709551616 + bit : Nat) : Int) := by
    rw [← wor1 _ _ hb2, ← wrapMod]; simp
   obtain ⟨rr, er⟩ : ∃ rr, r * 2 % 18446744073709551616 + bit = rr := ⟨_, rfl⟩
   rw [er] at rC
   have rC0 : r < 9223372036854775808 → bits .or .u64 ((r : Int) * 2) (bit : Int) = (rr : Int) := fun h => by
    rw [← rC, show (r : Int) * 2 = ((r * 2 : Nat) : Int) by omega, wrapFit _ (by omega)]
   have rE : bits .or .u64 ((o : Int) * 2) 1 = (o : Int) * 2 + 1 := by
    have := wor1 o 1 (by omega)
    rw [show o * 2 % 18446744073709551616 = o * 2 by omega] at this
    simpa using this
   by_cases hs : c ≤ 2 * r + bit
   ·have hn := Lib.hid (inv_yes H low c m r o hm hI.out (by rw [eb]; exact hs))
    rw [eb] at hn
    have rF : IntKind.u64.wrap ((rr : Int) - (c : Int)) = ((2 * r + bit - c : Nat) : Int) := by rw [IntKind.wrap_u64]; omega
    have hcy : cy = 0 ∨ cy = 1 := by omega
    rcases hcy with hcy | hcy
    ·subst hcy
     have rC1 := rC0 (by omega)
     have h1 : c ≤ rr := by omega
     have rF' : (rr : Int) - (c : Int) = ((2 * r + bit - c : Nat) : Int) := by omega
     clear hs ec er eb hr hb rC rC0 rF
     go_wp2
     go_roundg m
     case measure => omega
     case rel => exact ⟨rfl, m, 2 * r + bit - c, o * 2 + 1, by omega, by first | rfl | go_num, by first | rfl | go_num, by first | rfl | go_num, rfl, hn⟩
    ·subst hcy
     clear rC0
     clear hs ec er eb hr hb
     go_wp2
     go_roundg m
     case measure => omega
     case rel => exact ⟨rfl, m, 2 * r + bit - c, o * 2 + 1, by omega, by first | rfl | go_num, by first | rfl | go_num, by first | rfl | go_num, rfl, hn⟩
   ·have hn := Lib.hid (inv_no H low c m r o hm hI.out (by rw [eb]; omega))
    rw [eb] at hn
    obtain rfl : cy = 0 := by omega
    have rC1 := rC0 (by omega)
    clear rC rC0
    have e2 : 2 * r + bit = rr := by omega
    rw [e2] at hn hs
    have h1 : rr < c := by omega
    clear e2
    clear hs ec er eb hr hb
    go_wp2
    go_roundg m
    case measure => omega
    case rel => exact ⟨rfl, m, rr, o * 2, by omega, by first | rfl | go_num, by first | rfl | go_num, by first | rfl | go_num, rfl, hn⟩

theorem ref_muldiv (a b c : Int) (w : World) (ha : W64 a) (hb : W64 b) (hc : W64 c) :
  Calls Tryz.prog 61 #[.int .u64 a, .int .u64 b, .int .u64 c] w fun e w' => e = .returned (.tuple #[.int .u64 (mdV a b c), .bool (mdB a b c)]) ∧ w = w' := by
 obtain ⟨a0, a1⟩ := ha; obtain ⟨b0, b1⟩ := hb; obtain ⟨c0, c1⟩ := hc
 obtain ⟨x, rfl⟩ := Int.eq_ofNat_of_zero_le a0
 obtain ⟨y, rfl⟩ := Int.eq_ofNat_of_zero_le b0
 obtain ⟨z, rfl⟩ := Int.eq_ofNat_of_zero_le c0
 have hr := Nat.mod_lt (x * y) (show 0 < 18446744073709551616 by omega)
 by_cases h : x * y / 18446744073709551616 < z
 ·obtain ⟨e2, e1⟩ := md_of x y z h
  rw [e1, e2]
  exact refmd_yes x y z _ _ w (by omega) (by omega) (by omega) h hr (Lib.hid rfl) (Lib.hid rfl)
 ·obtain ⟨e2, e1⟩ := md_no x y z (by omega)
  rw [e1, e2]
  clear e1 e2
  have hP := fun w => product x y w (by omega) (by omega)
  generalize x * y / 18446744073709551616 = p at *
  generalize x * y % 18446744073709551616 = r at *
  have h' : (z : Int) ≤ (p : Int) := by omega
  have hb' : decide ((z : Int) ≤ (p : Int)) = true := decide_eq_true h'
  by_cases hz : z = 0
  ·subst hz
   go_enter Tryz.func61, Tryz.ntmps61
   go_wp2_with (go_at_call 81; refine (hP _).mono ?_; rintro e w' ⟨rfl, rfl⟩)
   go_ret2
   exact ⟨rfl, rfl⟩
  ·have hc0 : ((z : Int) == 0) = false := by simp; omega
   go_enter Tryz.func61, Tryz.ntmps61
   go_wp2_with (go_at_call 81; refine (hP _).mono ?_; rintro e w' ⟨rfl, rfl⟩)
   go_ret2
   exact ⟨rfl, rfl⟩

end Go.Proofs.YtglglhcnofbagaaGreat.Mo
