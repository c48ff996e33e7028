/-
  Texts Ar B1 B2 M1 M2 GM AM CT joined.
-/
import Derived.Test.YtnhlpahoomcgnaaJ1
import Derived.Test.YtnhlpahoomcgnaaProg
import Derived.WalkKit
import Derived.WalkSpells
import Derived.WalkLawsBesides
import Derived.Laws.Externs
import Derived.Laws.Bits64b
import Derived.Lib.Mul64
import Derived.Lib.BitFns
import Derived.Lib.Hide
import Derived.Laws.MathBits
import Derived.Deep.DeepCutAuto
import Derived.Deep.LoopGhost
import Derived.Deep.QuietTactic
import Derived.BigQuiet
import Derived.Outline
import Derived.Deep.CutBlock
import Derived.Test.YtnhlpahoomcgnaaJ3
import Derived.Laws.Tables
import Derived.Lib.SmallJoins
import Derived.Test.YtnhlpahoomcgnaaJ13
set_option maxRecDepth 100000
set_option maxHeartbeats 8000000
set_option linter.unusedSimpArgs false
set_option linter.unusedVariables false
namespace Go.Proofs.Ytnhlpahoomcgnaa.Mo.Ar
theorem YU (q y1 y0 : Nat) : q * (y1 * 4294967296 + y0) = q * y1 * 4294967296 + q * y0 := by
 rw [Nat.mul_add, Nat.mul_assoc]
theorem sU (u d y1 y0 q r : Nat) (hi : q * y1 + r = u) (h : q * y0 ≤ 4294967296 * r + d) : q * (y1 * 4294967296 + y0) ≤ u * 4294967296 + d := by
 rw [YU]
 generalize q * y1 = a at *
 generalize q * y0 = b at *
 omega
theorem fZ (u d y1 y0 q r : Nat) (hi : q * y1 + r = u) (h : 4294967296 * r + d < q * y0) : u * 4294967296 + d < q * (y1 * 4294967296 + y0) := by
 rw [YU]
 generalize q * y1 = a at *
 generalize q * y0 = b at *
 omega
theorem fV (u d y1 y0 q r : Nat) (hi : q * y1 + r = u) (hr : 4294967296 ≤ r) (hq : q ≤ 4294967296) (hy : y0 < 4294967296) : q * (y1 * 4294967296 + y0) ≤ u * 4294967296 + d := by
 refine sU u d y1 y0 q r hi ?_
 have := Nat.mul_le_mul hq (Nat.le_of_lt_succ (Nat.lt_succ_of_lt hy))
 omega
def wK (u d y1 y0 q r : Nat) : Prop :=
 q * y1 + r = u ∧ (u * 4294967296 + d) / (y1 * 4294967296 + y0) ≤ q ∧ q ≤ 4294967297 ∧ r < 4294967296
theorem Qa (u d V : Nat) (hu : u < V) (hd : d < 4294967296) : (u * 4294967296 + d) / V < 4294967296 := by
 rw [Nat.div_lt_iff_lt_mul (by omega)]
 omega
theorem OH (u d y1 y0 : Nat) (hy1 : 2147483648 ≤ y1) (hy1' : y1 < 4294967296) (hy0 : y0 < 4294967296) (hd : d < 4294967296) (hu : u < y1 * 4294967296 + y0) :
  wK u d y1 y0 (u / y1) (u % y1) := by
 have h1 : u / y1 * y1 + u % y1 = u := Nat.div_add_mod' u y1
 have h2 : u % y1 < y1 := Nat.mod_lt _ (by omega)
 refine ⟨h1, ?_, ?_, by omega⟩
 ·rw [← Nat.lt_succ_iff, Nat.div_lt_iff_lt_mul (by omega)]
  have := YU (u / y1).succ y1 y0
  rw [this, Nat.succ_mul]
  generalize u / y1 * y1 = a at *
  have h0 : 0 ≤ (u / y1).succ * y0 := Nat.zero_le _
  generalize (u / y1).succ * y0 = b at *
  omega
 ·rw [← Nat.lt_succ_iff, Nat.div_lt_iff_lt_mul (by omega)]
  omega
theorem KL (u d y1 y0 q r : Nat) (ae8 : 2147483648 ≤ y1) (hu : u < y1 * 4294967296 + y0) (hd : d < 4294967296) (h : wK u d y1 y0 q r)
  (ht : 4294967296 ≤ q ∨ 4294967296 * r + d < q * y0) :
  1 ≤ q ∧ (q - 1) * y1 + (r + y1) = u ∧ (u * 4294967296 + d) / (y1 * 4294967296 + y0) ≤ q - 1 ∧ q - 1 ≤ 4294967296 := by
 obtain ⟨hi, hq, hq', hr⟩ := h
 have hlt := Qa u d (y1 * 4294967296 + y0) hu hd
 have hs : (u * 4294967296 + d) / (y1 * 4294967296 + y0) < q := by
  rcases ht with ht | ht
  ·exact Nat.lt_of_lt_of_le hlt ht
  ·rw [Nat.div_lt_iff_lt_mul (by omega)]
   exact fZ u d y1 y0 q r hi ht
 have hq1 : 1 ≤ q := Nat.lt_of_le_of_lt (Nat.zero_le _) hs
 have hq2 := Nat.le_sub_one_of_lt hs
 clear hs hlt hq
 obtain ⟨k, rfl⟩ : ∃ k, q = k + 1 := ⟨q - 1, by omega⟩
 refine ⟨by omega, ?_, hq2, by omega⟩
 rw [Nat.add_sub_cancel]
 rw [Nat.succ_mul] at hi
 omega
theorem KJ (u d y1 y0 q : Nat) (hy1 : 2147483648 ≤ y1) (hq : (u * 4294967296 + d) / (y1 * 4294967296 + y0) ≤ q) (h : q * (y1 * 4294967296 + y0) ≤ u * 4294967296 + d) :
  q = (u * 4294967296 + d) / (y1 * 4294967296 + y0) := by
 have := (Nat.le_div_iff_mul_le (show 0 < y1 * 4294967296 + y0 by omega)).2 h
 omega
theorem OL (u d y1 y0 q r : Nat) (hy1 : 2147483648 ≤ y1) (h : wK u d y1 y0 q r) (ht : q * y0 ≤ 4294967296 * r + d) :
  q = (u * 4294967296 + d) / (y1 * 4294967296 + y0) :=
 KJ u d y1 y0 q hy1 h.2.1 (sU u d y1 y0 q r h.1 ht)
theorem OM (u d y1 y0 q r : Nat) (hy1 : 2147483648 ≤ y1) (hy0 : y0 < 4294967296) (hi : q * y1 + r = u) (hq : (u * 4294967296 + d) / (y1 * 4294967296 + y0) ≤ q) (hq' : q ≤ 4294967296) (hr : 4294967296 ≤ r) :
  q = (u * 4294967296 + d) / (y1 * 4294967296 + y0) :=
 KJ u d y1 y0 q hy1 hq (fV u d y1 y0 q r hi hr hq' hy0)
theorem Jb (u d V a b : Nat) (h1 : a + b = u * 4294967296 + d) (h2 : b < V) (hV' : V < 18446744073709551616) :
  (((u * 4294967296 % 18446744073709551616 + d) % 18446744073709551616 : Nat) - ((a % 18446744073709551616 : Nat) : Int)) % 18446744073709551616 = (b : Int) := by
 omega
theorem OI (u d V : Nat) (hV : 0 < V) (hV' : V < 18446744073709551616) :
  (((u * 4294967296 % 18446744073709551616 + d) % 18446744073709551616 : Nat) - (((u * 4294967296 + d) / V * V % 18446744073709551616 : Nat) : Int)) % 18446744073709551616 = (((u * 4294967296 + d) % V : Nat) : Int) := by
 exact Jb u d V _ _ (Nat.div_add_mod' (u * 4294967296 + d) V) (Nat.mod_lt _ hV) hV'
theorem KI (T p y u l1 l0 q1 r1 q0 r0 : Nat) (hp : 0 < p) (hv : 0 < y * p) (hT : T * p = u * 18446744073709551616 + (l1 * 4294967296 + l0))
  (e1 : q1 * (y * p) + r1 = u * 4294967296 + l1) (e2 : q0 * (y * p) + r0 = r1 * 4294967296 + l0) (e3 : r0 < y * p) :
  q1 * 4294967296 + q0 = T / y ∧ r0 / p = T % y := by
 have e : T * p = (q1 * 4294967296 + q0) * (y * p) + r0 := by
  rw [hT, Nat.add_mul, Nat.mul_right_comm]
  omega
 have d1 : T * p / (y * p) = q1 * 4294967296 + q0 := by
  rw [e, Nat.mul_comm _ (y * p), Nat.mul_add_div hv, Nat.div_eq_of_lt e3, Nat.add_zero]
 have d2 : T * p % (y * p) = r0 := by
  rw [e, Nat.mul_comm _ (y * p), Nat.mul_add_mod, Nat.mod_eq_of_lt e3]
 rw [Nat.mul_div_mul_right _ _ hp] at d1
 rw [Nat.mul_mod_mul_right] at d2
 exact ⟨d1.symm, by rw [← d2, Nat.mul_div_cancel _ hp]⟩
theorem Jc (T p y u l1 l0 : Nat) (hp : 0 < p) (hy : 0 < y) (hT : T * p = u * 18446744073709551616 + (l1 * 4294967296 + l0)) :
  (u * 4294967296 + l1) / (y * p) * 4294967296 + ((u * 4294967296 + l1) % (y * p) * 4294967296 + l0) / (y * p) = T / y ∧
  ((u * 4294967296 + l1) % (y * p) * 4294967296 + l0) % (y * p) / p = T % y := by
 have hv : 0 < y * p := Nat.mul_pos hy hp
 exact KI T p y u l1 l0 _ _ _ _ hp hv hT (Nat.div_add_mod' _ _) (Nat.div_add_mod' _ _) (Nat.mod_lt _ hv)
theorem shifted (hi lo s : Nat) (hs : s ≤ 63) (ae9 : lo < 18446744073709551616) :
  (hi * 18446744073709551616 + lo) * 2 ^ s = (hi * 2 ^ s + lo / 2 ^ (64 - s)) * 18446744073709551616 + (lo * 2 ^ s % 18446744073709551616) := by
 have e : (18446744073709551616 : Nat) = 2 ^ (64 - s) * 2 ^ s := by
  rw [← Nat.pow_add]
  rw [show 64 - s + s = 64 by omega]
 have h : lo * 2 ^ s / 18446744073709551616 = lo / 2 ^ (64 - s) := by
  rw [e, Nat.mul_div_mul_right _ _ (Nat.two_pow_pos s)]
 have h2 := Nat.div_add_mod' (lo * 2 ^ s) 18446744073709551616
 rw [h] at h2
 rw [Nat.add_mul, Nat.add_mul, Nat.mul_right_comm, ← h2, ← Nat.add_assoc]
 simp only [Nat.mul_add_mod_self_right, Nat.mod_mod]
theorem Jd (hi lo y s : Nat) (hs : s ≤ 63) (hlo : lo < 18446744073709551616) (h : hi < y) :
  hi * 2 ^ s + lo / 2 ^ (64 - s) < y * 2 ^ s := by
 have e : (18446744073709551616 : Nat) = 2 ^ s * 2 ^ (64 - s) := by
  rw [← Nat.pow_add]
  rw [show s + (64 - s) = 64 by omega]
 have h1 : lo / 2 ^ (64 - s) < 2 ^ s := by
  rw [Nat.div_lt_iff_lt_mul (Nat.two_pow_pos _), ← e]
  exact hlo
 have h2 := Nat.mul_le_mul_right (2 ^ s) h
 rw [Nat.succ_mul] at h2
 omega
theorem Bd (q y0 : Nat) (hq : q < 4294967296) (hy : y0 < 4294967296) : (q : Int) * (y0 : Int) ≤ 18446744065119617025 ∧ q * y0 ≤ 18446744065119617025 := by
 have h : q * y0 ≤ 4294967295 * 4294967295 := Nat.mul_le_mul (by omega) (by omega)
 rw [← Int.natCast_mul]
 omega
theorem QJ (r d q y0 : Nat) (h : 4294967296 * r + d < q * y0) : 4294967296 * (r : Int) + (d : Int) < (q : Int) * (y0 : Int) := by
 rw [← Int.natCast_mul]
 omega
theorem GX (r d q y0 : Nat) (h : q * y0 ≤ 4294967296 * r + d) : (q : Int) * (y0 : Int) ≤ 4294967296 * (r : Int) + (d : Int) := by
 rw [← Int.natCast_mul]
 omega
end Go.Proofs.Ytnhlpahoomcgnaa.Mo.Ar
namespace Go.Proofs.Ytnhlpahoomcgnaa.Mo
open Go.RowKit
theorem SI (a : Nat) (h : a < 18446744073709551616) : bits .and .u64 (a : Int) 4294967295 = ((a % 4294967296 : Nat) : Int) :=
 (and_low32 (a : Int) (Int.natCast_nonneg a) (by omega)).trans (by omega)
theorem Bc (a : Nat) : (a : Int) / 4294967296 = ((a / 4294967296 : Nat) : Int) := (Int.natCast_ediv a 4294967296).symm
theorem Nj (a b : Nat) : (a : Int) * (b : Int) = ((a * b : Nat) : Int) := by simp
theorem castAdd (a b : Nat) : (a : Int) + (b : Int) = ((a + b : Nat) : Int) := by simp
theorem Uy (a : Nat) : IntKind.u64.wrap (a : Int) = ((a % 18446744073709551616 : Nat) : Int) := (IntKind.wrap_u64 a).trans (by omega)
theorem Yk (a : Nat) (h : a < 18446744073709551616) : IntKind.u64.wrap (a : Int) = (a : Int) := by rw [Uy, Nat.mod_eq_of_lt h]
theorem halves (x y : Nat) (hx : x < 18446744073709551616) (hy : y < 18446744073709551616) :
  x % 4294967296 * (y % 4294967296) < 18446744073709551616 ∧ x / 4294967296 * (y % 4294967296) < 18446744073709551616 ∧ x % 4294967296 * (y / 4294967296) < 18446744073709551616 ∧ x / 4294967296 * (y / 4294967296) < 18446744073709551616 ∧
  x / 4294967296 * (y % 4294967296) + x % 4294967296 * (y % 4294967296) / 4294967296 < 18446744073709551616 ∧
  (x / 4294967296 * (y % 4294967296) + x % 4294967296 * (y % 4294967296) / 4294967296) % 4294967296 + x % 4294967296 * (y / 4294967296) < 18446744073709551616 ∧
  x / 4294967296 * (y / 4294967296) + (x / 4294967296 * (y % 4294967296) + x % 4294967296 * (y % 4294967296) / 4294967296) / 4294967296 < 18446744073709551616 ∧
  x * y / 18446744073709551616 < 18446744073709551616 ∧
  x / 4294967296 * (y / 4294967296) + (x / 4294967296 * (y % 4294967296) + x % 4294967296 * (y % 4294967296) / 4294967296) / 4294967296 +
   ((x / 4294967296 * (y % 4294967296) + x % 4294967296 * (y % 4294967296) / 4294967296) % 4294967296 + x % 4294967296 * (y / 4294967296)) / 4294967296 = x * y / 18446744073709551616 := by
 have e := Lib.split_mul (x / 4294967296) (x % 4294967296) (y / 4294967296) (y % 4294967296) 4294967296
 rw [Nat.div_add_mod', Nat.div_add_mod'] at e
 have top : x * y / 18446744073709551616 < 18446744073709551616 := by
  rw [Nat.div_lt_iff_lt_mul (by omega)]
  exact Nat.lt_of_le_of_lt (Nat.mul_le_mul_right y (Nat.le_of_lt hx)) (Nat.mul_lt_mul_of_pos_left hy (by omega))
 have k1 := Lib.half_mul_le (a := x % 4294967296) (b := y % 4294967296) (by omega) (by omega)
 have k2 := Lib.half_mul_le (a := x / 4294967296) (b := y % 4294967296) (by omega) (by omega)
 have k3 := Lib.half_mul_le (a := x % 4294967296) (b := y / 4294967296) (by omega) (by omega)
 have k4 := Lib.half_mul_le (a := x / 4294967296) (b := y / 4294967296) (by omega) (by omega)
 generalize x * y = t at *
 generalize x % 4294967296 * (y % 4294967296) = p at *
 generalize x / 4294967296 * (y % 4294967296) = q at *
 generalize x % 4294967296 * (y / 4294967296) = r at *
 generalize x / 4294967296 * (y / 4294967296) = u at *
 clear hx hy
 refine ⟨?_, ?_, ?_, ?_, ?_, ?_, ?_, top, ?_⟩ <;> omega
theorem Ii (x y : Int) (hx : 0 ≤ x) (hy : 0 ≤ y) (w : World) : (callFunc 90 #[Z7 x, Z7 y, Z7 0]).run Try.prog w =
  .ok (.value (.tuple #[Z7 ((x + y) % 18446744073709551616), Z7 ((x + y) / 18446744073709551616)])) w := by
 rw [run_callFunc_extern Try.func90 (by kernel_rfl) (by kernel_rfl) (by kernel_rfl) (e := add64Entry) (by kernel_rfl), run_add64 x y 0 hx hy (by omega) (by omega)]
 simp only [Result.andThen, Int.add_zero]
theorem sZ (x y : Nat) (hx : x < 18446744073709551616) (hy : y < 18446744073709551616) (w : World) :
  Calls Try.prog 71 #[Z7 x, Z7 y] w fun e w' => e = .returned (.tuple #[Z7 ((x * y / 18446744073709551616 : Nat) : Int), Z7 ((x * y % 18446744073709551616 : Nat) : Int)]) ∧ w = w' := by
 obtain ⟨c1, c2, c3, c4, c5, c6, c7, c8, c9⟩ := halves x y hx hy
 have C := Z9 c9
 have c10 := c9 ▸ c8
 clear c8 c9
 go_enter Try.func71, Try.ntmps71
 go_wp2
 simp only [SI x hx, SI y hy, Bc, Nj, castAdd, Yk _ c1, Yk _ c2, Yk _ c3, Yk _ c4, Yk _ c5, SI _ c5, Yk _ c6, Yk _ c7, Yk _ c10]
 rw [C.out, Uy]
 go_ret2
 exact ⟨rfl, rfl⟩
theorem len8_get (i : Int) (h0 : 0 ≤ i) (h1 : i ≤ 255) (h : i.toNat < Lib.len8tab.size) : (Lib.len8tab[i.toNat].toNat : Int) = (Lib.bitLen i.toNat : Int) := by
 rw [← Lib.len8_of i h0 h1]
 unfold Lib.len8
 rw [ByteArray.getElem?_lt' _ _ h, Option.getD_some]
theorem X6 (i : Int) (n : Nat) (h0 : 0 ≤ i) (h1 : i ≤ 255) (h : i.toNat < Lib.len8tab.size) (hn : n ≤ 56) : wrap64 ((n : Int) + wrap64 (Lib.len8tab[i.toNat].toNat : Int)) = ((n + Lib.bitLen i.toNat : Nat) : Int) := by
 have l := Lib.bitLen_le8' i h0 h1
 rw [len8_get i h0 h1 h]
 unfold wrap64
 omega
theorem Ja (i : Int) (h0 : 0 ≤ i) (h1 : i ≤ 255) (h : i.toNat < Lib.len8tab.size) : wrap64 (wrap64 (Lib.len8tab[i.toNat].toNat : Int)) = ((Lib.bitLen i.toNat : Nat) : Int) := by
 have := X6 i 0 h0 h1 h (by omega)
 simpa using this
theorem fU (x : Int) (w : World) (h0 : 0 ≤ x) (h1 : x ≤ 18446744073709551615) :
  Calls Try.prog 94 #[Z7 x] w fun e w' => e = .returned (Z8 (Lib.bitLen x.toNat)) ∧ w = w' := by
 have hsz := Lib.len8tab_size
 go_enter Try.func94, Try.ntmps94
 go_wp2
 all_goals (go_ret; refine ⟨congrArg Ending.returned (congrArg (Value.int IntKind.i64) ?_), rfl⟩)
 ·exact (X6 (x / 4294967296 / 65536 / 256) 56 (by omega) (by omega) (by omega) (by omega)).trans (by rw [show (x / 4294967296 / 65536 / 256).toNat = x.toNat / 72057594037927936 from by omega, ← Lib.bitLen_shift56 x.toNat (by omega) (by omega)])
 ·exact (X6 (x / 4294967296 / 65536) 48 (by omega) (by omega) (by omega) (by omega)).trans (by rw [show (x / 4294967296 / 65536).toNat = x.toNat / 281474976710656 from by omega, ← Lib.bitLen_shift48 x.toNat (by omega) (by omega)])
 ·exact (X6 (x / 4294967296 / 256) 40 (by omega) (by omega) (by omega) (by omega)).trans (by rw [show (x / 4294967296 / 256).toNat = x.toNat / 1099511627776 from by omega, ← Lib.bitLen_shift40 x.toNat (by omega) (by omega)])
 ·exact (X6 (x / 4294967296) 32 (by omega) (by omega) (by omega) (by omega)).trans (by rw [show (x / 4294967296).toNat = x.toNat / 4294967296 from by omega, ← Lib.bitLen_shift32 x.toNat (by omega) (by omega)])
 ·exact (X6 (x / 65536 / 256) 24 (by omega) (by omega) (by omega) (by omega)).trans (by rw [show (x / 65536 / 256).toNat = x.toNat / 16777216 from by omega, ← Lib.bitLen_shift24 x.toNat (by omega) (by omega)])
 ·exact (X6 (x / 65536) 16 (by omega) (by omega) (by omega) (by omega)).trans (by rw [show (x / 65536).toNat = x.toNat / 65536 from by omega, ← Lib.bitLen_shift16 x.toNat (by omega) (by omega)])
 ·exact (X6 (x / 256) 8 (by omega) (by omega) (by omega) (by omega)).trans (by rw [show (x / 256).toNat = x.toNat / 256 from by omega, ← Lib.bitLen_shift8 x.toNat (by omega) (by omega)])
 ·exact Ja x h0 (by omega) (by omega)
def lz (y : Nat) : Nat := 64 - Lib.bitLen y
theorem Nh (f : Nat) : ∀ x : Nat, x < 2 ^ f → x < 2 ^ Lib.bitLenAux f x := by
 induction f with
 | zero => intro x hx; simpa [Lib.bitLenAux] using hx
 | succ f ih =>
  intro x hx
  simp only [Lib.bitLenAux]
  split
  ·subst_vars; simp
  ·have := ih (x / 2) (by rw [Nat.pow_succ] at hx; omega)
   rw [Nat.add_comm, Nat.pow_succ]
   omega
theorem Nc (f : Nat) : ∀ x : Nat, x < 2 ^ f → 0 < x → 2 ^ (Lib.bitLenAux f x - 1) ≤ x := by
 induction f with
 | zero => intro x hx h; simp at hx; omega
 | succ f ih =>
  intro x hx h
  simp only [Lib.bitLenAux]
  rw [if_neg (by omega), Nat.add_sub_cancel_left]
  by_cases h2 : x / 2 = 0
  ·have : Lib.bitLenAux f (x / 2) = 0 := by rw [h2]; cases f <;> simp [Lib.bitLenAux]
   rw [this]
   omega
  ·have h3 := ih (x / 2) (by rw [Nat.pow_succ] at hx; omega) (by omega)
   have h4 : 1 ≤ Lib.bitLenAux f (x / 2) := by
    cases f with
    | zero => simp at hx; omega
    | succ f => simp [Lib.bitLenAux, h2]
   generalize Lib.bitLenAux f (x / 2) = k at *
   obtain ⟨j, rfl⟩ : ∃ j, k = j + 1 := ⟨k - 1, by omega⟩
   rw [Nat.add_sub_cancel] at h3
   rw [Nat.pow_succ]
   omega
theorem OJ (y : Nat) (h0 : 0 < y) (h1 : y < 18446744073709551616) : lz y ≤ 63 ∧ Lib.bitLen y ≤ 64 ∧ 9223372036854775808 ≤ y * 2 ^ lz y ∧ y * 2 ^ lz y < 18446744073709551616 := by
 have a := Nh 64 y (by omega)
 have b := Nc 64 y (by omega) h0
 have c := Lib.bitLen_le y 64 (by omega) (by omega)
 unfold lz
 change Lib.bitLenAux 64 y ≤ 64 at c
 change 64 - Lib.bitLenAux 64 y ≤ 63 ∧ Lib.bitLenAux 64 y ≤ 64 ∧ _ ≤ y * 2 ^ (64 - Lib.bitLenAux 64 y) ∧ y * 2 ^ (64 - Lib.bitLenAux 64 y) < _
 generalize Lib.bitLenAux 64 y = k at *
 have hk : 1 ≤ k := by
  cases k with
  | zero => simp at a; omega
  | succ k => omega
 refine ⟨by omega, c, ?_, ?_⟩
 ·have := Nat.mul_le_mul_right (2 ^ (64 - k)) b
  rw [← Nat.pow_add, show k - 1 + (64 - k) = 63 by omega] at this
  exact this
 ·have := Nat.mul_lt_mul_of_pos_right a (Nat.two_pow_pos (64 - k))
  rw [← Nat.pow_add, show k + (64 - k) = 64 by omega] at this
  exact this
theorem ac1 (y : Nat) (w : World) (h0 : 0 < y) (h1 : y < 18446744073709551616) :
  Calls Try.prog 87 #[Z7 y] w fun e w' => e = .returned (Z8 (lz y)) ∧ w = w' := by
 obtain ⟨_, hb, _, _⟩ := OJ y h0 h1
 have e8 : (64 - (Lib.bitLen y : Int)) = (lz y : Int) := by unfold lz; omega
 go_enter Try.func87, Try.ntmps87
 go_wp2_with (go_at_call 94; refine (fU (y : Int) _ (by omega) (by omega)).mono ?_; rintro e w' ⟨rfl, rfl⟩)
 go_ret
 exact ⟨by simp, rfl⟩
theorem Ar.KN (q : Nat) (h : 1 ≤ q) : Value.int IntKind.u64 ((q : Int) - 1) = Value.int IntKind.u64 ((q - 1 : Nat) : Int) := by
 rw [show ((q - 1 : Nat) : Int) = (q : Int) - 1 by omega]
theorem Ar.wL (q p : Nat) (h : 1 ≤ q) (e : q - 1 = p) : Value.int IntKind.u64 ((q : Int) - 1) = Value.int IntKind.u64 (p : Int) := by
 subst e
 exact Ar.KN q h
theorem Bf (hi lo y V y1 y0 u l l1 l0 qa ra q1 u2 qb rb q0 R1 R : Nat) (w : World) (h : 0 < hi) (hlt : hi < y) (_h1 : lo < 18446744073709551616) (h2 : y < 18446744073709551616)
  (z1 : lz y ≤ 63) (b1 : 2147483648 ≤ y1) (b1' : y1 < 4294967296) (b0 : y0 < 4294967296) (ab9 : l1 < 4294967296) (ac0 : l0 < 4294967296) (ae7 : u < 18446744073709551616) (ae1 : u2 < 18446744073709551616)
  (bu : Hid (u < y1 * 4294967296 + y0)) (bu2 : Hid (u2 < y1 * 4294967296 + y0)) (bq1 : q1 < 4294967296) (bq0 : q0 < 4294967296)
  (eq1 : Hid (q1 = (u * 4294967296 + l1) / (y1 * 4294967296 + y0))) (eq0 : Hid (q0 = (u2 * 4294967296 + l0) / (y1 * 4294967296 + y0)))
  (eqa : Hid (Ar.wK u l1 y1 y0 qa ra)) (eqb : Hid (Ar.wK u2 l0 y1 y0 qb rb))
  (rV : IntKind.u64.wrap ((y : Int) * 2 ^ lz y) = (V : Int)) (r9 : (V : Int) / 4294967296 = (y1 : Int)) (r10 : bits .and .u64 (V : Int) 4294967295 = (y0 : Int))
  (r11 : bits .or .u64 (IntKind.u64.wrap ((hi : Int) * 2 ^ lz y)) ((lo : Int) / 2 ^ (64 - lz y)) = (u : Int))
  (r12 : IntKind.u64.wrap ((lo : Int) * 2 ^ lz y) = (l : Int)) (r13 : (l : Int) / 4294967296 = (l1 : Int)) (r14 : bits .and .u64 (l : Int) 4294967295 = (l0 : Int))
  (ra1 : IntKind.u64.wrap ((u : Int) / (y1 : Int)) = (qa : Int)) (ra2 : IntKind.u64.wrap ((u : Int) - IntKind.u64.wrap ((qa : Int) * (y1 : Int))) = (ra : Int))
  (ru2 : Hid (IntKind.u64.wrap (IntKind.u64.wrap (IntKind.u64.wrap ((u : Int) * 4294967296) + (l1 : Int)) - IntKind.u64.wrap ((q1 : Int) * (V : Int))) = (u2 : Int)))
  (rb1 : Hid (IntKind.u64.wrap ((u2 : Int) / (y1 : Int)) = (qb : Int))) (rb2 : Hid (IntKind.u64.wrap ((u2 : Int) - IntKind.u64.wrap ((qb : Int) * (y1 : Int))) = (rb : Int)))
  (rR : Hid (IntKind.u64.wrap (IntKind.u64.wrap (IntKind.u64.wrap ((u2 : Int) * 4294967296) + (l0 : Int)) - IntKind.u64.wrap ((q0 : Int) * (V : Int))) = (R1 : Int))) (rR1 : Hid ((R1 : Int) / 2 ^ lz y = (R : Int))) :
  Calls Try.prog 72 #[Z7 hi, Z7 lo, Z7 y] w fun e w' => e = .returned (.tuple #[Z7 ((q1 * 4294967296 + q0 : Nat) : Int), Z7 (R : Int)]) ∧ w = w' := by
 have hy : ((y : Int) == 0) = false := by simp; omega
 have hh : ((hi : Int) == 0) = false := by simp; omega
 have hy1 : ((y1 : Int) == 0) = false := by simp; omega
 go_enter Try.func72, Try.ntmps72
 go_upto_block 0 with (go_at_call 87; refine (ac1 y _ (by omega) h2).mono ?_; rintro e w' ⟨rfl, rfl⟩)
 clear rV r9 r10 r11 r12 r13 r14 ra1 ra2
 go_cut [15] (fun s15 wx => w = wx ∧ s15 = Z7 q1)
 case first =>
  go_wp2_with fail
  go_loopg [15, 16] qa (fun g s15 s16 wx => w = wx ∧ ∃ q r : Nat, s15 = Z7 q ∧ s16 = Z7 r ∧ q = g ∧ Hid (Ar.wK u l1 y1 y0 q r))
  case atStart => exact ⟨rfl, qa, ra, rfl, rfl, rfl, eqa⟩
  case round =>
   obtain ⟨rfl, q, r, rfl, rfl, rfl, he⟩ := hrel
   have ha : (q : Int) ≤ 4294967297 := by have := he.out.2.2.1; omega
   have hb : (r : Int) < 4294967296 := by have := he.out.2.2.2; omega
   have hm : (q : Int) < 4294967296 → (q : Int) * (y0 : Int) ≤ 18446744065119617025 := fun hq => (Ar.Bd q y0 (by omega) (by omega)).1
   have hm0 : (0 : Int) ≤ (q : Int) * (y0 : Int) := Int.mul_nonneg (by omega) (by omega)
   by_cases ht : 4294967296 ≤ q ∨ 4294967296 * r + l1 < q * y0
   ·obtain ⟨s1, s2, s3, s4⟩ := Ar.KL u l1 y1 y0 q r b1 bu.out ab9 he.out ht
    by_cases hB : 4294967296 ≤ r + y1
    ·have hf := Z9 (Ar.OM u l1 y1 y0 (q - 1) (r + y1) b1 b0 s2 s3 s4 hB)
     have hB' : (4294967296 : Int) ≤ (r : Int) + (y1 : Int) := by omega
     have hbB : decide ((4294967296 : Int) ≤ (r : Int) + (y1 : Int)) = true := decide_eq_true hB'
     clear s2 s3 s4 hB
     by_cases hq : 4294967296 ≤ q
     ·have hq' : (4294967296 : Int) ≤ (q : Int) := by omega
      clear hm ht hq
      go_wp2
      go_meet
      exact ⟨rfl, Ar.wL q q1 s1 (by rw [eq1.out, hf.out])⟩
     ·have hm' := hm (by omega)
      have hq' : (q : Int) < (4294967296 : Int) := by omega
      have ht' : 4294967296 * (r : Int) + (l1 : Int) < (q : Int) * (y0 : Int) := Ar.QJ r l1 q y0 (ht.resolve_left hq)
      obtain ⟨P, hP⟩ : ∃ P : Int, (q : Int) * (y0 : Int) = P := ⟨_, rfl⟩
      rw [hP] at ht' hm' hm0
      obtain ⟨M, hM⟩ : ∃ M : Int, 4294967296 * (r : Int) = M := ⟨_, rfl⟩
      have hM0 : 0 ≤ M ∧ M ≤ 18446744069414584320 := by omega
      rw [hM] at ht'
      have hbq : decide ((4294967296 : Int) ≤ (q : Int)) = false := decide_eq_false (by omega)
      have gG : decide (M + (l1 : Int) < P) = true := decide_eq_true (by omega)
      clear hm ht hq
      go_wp2
      go_meet
      exact ⟨rfl, Ar.wL q q1 s1 (by rw [eq1.out, hf.out])⟩
    ·have hn : Hid (Ar.wK u l1 y1 y0 (q - 1) (r + y1)) := Z9 ⟨s2, s3, by omega, by omega⟩
     have hB' : (r : Int) + (y1 : Int) < (4294967296 : Int) := by omega
     have hbB : decide ((4294967296 : Int) ≤ (r : Int) + (y1 : Int)) = false := decide_eq_false (by omega)
     clear s2 s3 s4 hB
     by_cases hq : 4294967296 ≤ q
     ·have hq' : (4294967296 : Int) ≤ (q : Int) := by omega
      clear hm ht hq
      go_wp2
      go_roundg (q - 1)
      case measure => omega
      case rel => exact ⟨rfl, q - 1, r + y1, Ar.KN q s1, by first | rfl | go_num, rfl, hn⟩
     ·have hm' := hm (by omega)
      have hq' : (q : Int) < (4294967296 : Int) := by omega
      have ht' : 4294967296 * (r : Int) + (l1 : Int) < (q : Int) * (y0 : Int) := Ar.QJ r l1 q y0 (ht.resolve_left hq)
      obtain ⟨P, hP⟩ : ∃ P : Int, (q : Int) * (y0 : Int) = P := ⟨_, rfl⟩
      rw [hP] at ht' hm' hm0
      obtain ⟨M, hM⟩ : ∃ M : Int, 4294967296 * (r : Int) = M := ⟨_, rfl⟩
      have hM0 : 0 ≤ M ∧ M ≤ 18446744069414584320 := by omega
      rw [hM] at ht'
      have hbq : decide ((4294967296 : Int) ≤ (q : Int)) = false := decide_eq_false (by omega)
      have gG : decide (M + (l1 : Int) < P) = true := decide_eq_true (by omega)
      clear hm ht hq
      go_wp2
      go_roundg (q - 1)
      case measure => omega
      case rel => exact ⟨rfl, q - 1, r + y1, Ar.KN q s1, by first | rfl | go_num, rfl, hn⟩
   ·have hq : q < 4294967296 := by omega
    have hm' := hm (by omega)
    have hq' : (q : Int) < (4294967296 : Int) := by omega
    have ht' : (q : Int) * (y0 : Int) ≤ 4294967296 * (r : Int) + (l1 : Int) := Ar.GX r l1 q y0 (by omega)
    have hf := Z9 (Ar.OL u l1 y1 y0 q r b1 he.out (by omega))
    obtain ⟨P, hP⟩ : ∃ P : Int, (q : Int) * (y0 : Int) = P := ⟨_, rfl⟩
    rw [hP] at ht' hm' hm0
    obtain ⟨M, hM⟩ : ∃ M : Int, 4294967296 * (r : Int) = M := ⟨_, rfl⟩
    have hM0 : 0 ≤ M ∧ M ≤ 18446744069414584320 := by omega
    rw [hM] at ht'
    have hbq : decide ((4294967296 : Int) ≤ (q : Int)) = false := decide_eq_false (by omega)
    have gG : decide (M + (l1 : Int) < P) = false := decide_eq_false (by omega)
    clear hm ht hq
    go_wp2
    go_meet
    exact ⟨rfl, by rw [eq1.out, hf.out]⟩
 case rest =>
  obtain ⟨rfl, rfl⟩ := hcut
  have r1 := ru2.out
  have r2 := rb1.out
  have r3 := rb2.out
  go_upto_block 2 with fail
  clear r1 r2 r3
  go_cut [18] (fun s18 wx => w = wx ∧ s18 = Z7 q0)
  case first =>
   go_wp2_with fail
   go_loopg [18, 16] qb (fun g s18 s16 wx => w = wx ∧ ∃ q r : Nat, s18 = Z7 q ∧ s16 = Z7 r ∧ q = g ∧ Hid (Ar.wK u2 l0 y1 y0 q r))
   case atStart => exact ⟨rfl, qb, rb, rfl, rfl, rfl, eqb⟩
   case round =>
    obtain ⟨rfl, q, r, rfl, rfl, rfl, he⟩ := hrel
    have ha : (q : Int) ≤ 4294967297 := by have := he.out.2.2.1; omega
    have hb : (r : Int) < 4294967296 := by have := he.out.2.2.2; omega
    have hm : (q : Int) < 4294967296 → (q : Int) * (y0 : Int) ≤ 18446744065119617025 := fun hq => (Ar.Bd q y0 (by omega) (by omega)).1
    have hm0 : (0 : Int) ≤ (q : Int) * (y0 : Int) := Int.mul_nonneg (by omega) (by omega)
    by_cases ht : 4294967296 ≤ q ∨ 4294967296 * r + l0 < q * y0
    ·obtain ⟨s1, s2, s3, s4⟩ := Ar.KL u2 l0 y1 y0 q r b1 bu2.out ac0 he.out ht
     by_cases hB : 4294967296 ≤ r + y1
     ·have hf := Z9 (Ar.OM u2 l0 y1 y0 (q - 1) (r + y1) b1 b0 s2 s3 s4 hB)
      have hB' : (4294967296 : Int) ≤ (r : Int) + (y1 : Int) := by omega
      have hbB : decide ((4294967296 : Int) ≤ (r : Int) + (y1 : Int)) = true := decide_eq_true hB'
      clear s2 s3 s4 hB
      by_cases hq : 4294967296 ≤ q
      ·have hq' : (4294967296 : Int) ≤ (q : Int) := by omega
       clear hm ht hq
       go_wp2
       go_meet
       exact ⟨rfl, Ar.wL q q0 s1 (by rw [eq0.out, hf.out])⟩
      ·have hm' := hm (by omega)
       have hq' : (q : Int) < (4294967296 : Int) := by omega
       have ht' : 4294967296 * (r : Int) + (l0 : Int) < (q : Int) * (y0 : Int) := Ar.QJ r l0 q y0 (ht.resolve_left hq)
       obtain ⟨P, hP⟩ : ∃ P : Int, (q : Int) * (y0 : Int) = P := ⟨_, rfl⟩
       rw [hP] at ht' hm' hm0
       obtain ⟨M, hM⟩ : ∃ M : Int, 4294967296 * (r : Int) = M := ⟨_, rfl⟩
       have hM0 : 0 ≤ M ∧ M ≤ 18446744069414584320 := by omega
       rw [hM] at ht'
       have hbq : decide ((4294967296 : Int) ≤ (q : Int)) = false := decide_eq_false (by omega)
       have gG : decide (M + (l0 : Int) < P) = true := decide_eq_true (by omega)
       clear hm ht hq
       go_wp2
       go_meet
       exact ⟨rfl, Ar.wL q q0 s1 (by rw [eq0.out, hf.out])⟩
     ·have hn : Hid (Ar.wK u2 l0 y1 y0 (q - 1) (r + y1)) := Z9 ⟨s2, s3, by omega, by omega⟩
      have hB' : (r : Int) + (y1 : Int) < (4294967296 : Int) := by omega
      have hbB : decide ((4294967296 : Int) ≤ (r : Int) + (y1 : Int)) = false := decide_eq_false (by omega)
      clear s2 s3 s4 hB
      by_cases hq : 4294967296 ≤ q
      ·have hq' : (4294967296 : Int) ≤ (q : Int) := by omega
       clear hm ht hq
       go_wp2
       go_roundg (q - 1)
       case measure => omega
       case rel => exact ⟨rfl, q - 1, r + y1, Ar.KN q s1, by first | rfl | go_num, rfl, hn⟩
      ·have hm' := hm (by omega)
       have hq' : (q : Int) < (4294967296 : Int) := by omega
       have ht' : 4294967296 * (r : Int) + (l0 : Int) < (q : Int) * (y0 : Int) := Ar.QJ r l0 q y0 (ht.resolve_left hq)
       obtain ⟨P, hP⟩ : ∃ P : Int, (q : Int) * (y0 : Int) = P := ⟨_, rfl⟩
       rw [hP] at ht' hm' hm0
       obtain ⟨M, hM⟩ : ∃ M : Int, 4294967296 * (r : Int) = M := ⟨_, rfl⟩
       have hM0 : 0 ≤ M ∧ M ≤ 18446744069414584320 := by omega
       rw [hM] at ht'
       have hbq : decide ((4294967296 : Int) ≤ (q : Int)) = false := decide_eq_false (by omega)
       have gG : decide (M + (l0 : Int) < P) = true := decide_eq_true (by omega)
       clear hm ht hq
       go_wp2
       go_roundg (q - 1)
       case measure => omega
       case rel => exact ⟨rfl, q - 1, r + y1, Ar.KN q s1, by first | rfl | go_num, rfl, hn⟩
    ·have hq : q < 4294967296 := by omega
     have hm' := hm (by omega)
     have hq' : (q : Int) < (4294967296 : Int) := by omega
     have ht' : (q : Int) * (y0 : Int) ≤ 4294967296 * (r : Int) + (l0 : Int) := Ar.GX r l0 q y0 (by omega)
     have hf := Z9 (Ar.OL u2 l0 y1 y0 q r b1 he.out (by omega))
     obtain ⟨P, hP⟩ : ∃ P : Int, (q : Int) * (y0 : Int) = P := ⟨_, rfl⟩
     rw [hP] at ht' hm' hm0
     obtain ⟨M, hM⟩ : ∃ M : Int, 4294967296 * (r : Int) = M := ⟨_, rfl⟩
     have hM0 : 0 ≤ M ∧ M ≤ 18446744069414584320 := by omega
     rw [hM] at ht'
     have hbq : decide ((4294967296 : Int) ≤ (q : Int)) = false := decide_eq_false (by omega)
     have gG : decide (M + (l0 : Int) < P) = false := decide_eq_false (by omega)
     clear hm ht hq
     go_wp2
     go_meet
     exact ⟨rfl, by rw [eq0.out, hf.out]⟩
  case rest =>
   obtain ⟨rfl, rfl⟩ := hcut
   have r4 := rR.out
   have r5 := rR1.out
   go_wp2
   go_ret2
   exact ⟨by simp, rfl⟩
def KO (hi lo y : Nat) : Nat := (hi * 18446744073709551616 + lo) / y
def Fj (hi lo y : Nat) : Nat := (hi * 18446744073709551616 + lo) % y
theorem wJ (lo y : Nat) (w : World) (h1 : lo < 18446744073709551616) (h2 : y < 18446744073709551616) (h0 : 0 < y) :
  Calls Try.prog 72 #[Z7 0, Z7 lo, Z7 y] w fun e w' => e = .returned (.tuple #[Z7 (KO 0 lo y), Z7 (Fj 0 lo y)]) ∧ ∃ n, w' = w.drewN n := by
 have hy : ((y : Int) == 0) = false := by simp; omega
 have rq : IntKind.u64.wrap ((lo : Int) / (y : Int)) = ((lo / y : Nat) : Int) := by rw [← Int.natCast_ediv]; exact Yk _ (Nat.lt_of_le_of_lt (Nat.div_le_self lo y) h1)
 have eQ : KO 0 lo y = lo / y := by simp [KO]
 have eR : Fj 0 lo y = lo % y := by simp [Fj]
 rw [eQ, eR]
 clear eQ eR
 go_enter Try.func72, Try.ntmps72
 go_wp2
 go_quiet (fail)
 go_wp2
 go_ret2
 exact ⟨by simp, _, rfl⟩
theorem gB (u y1 : Nat) (hu : u < 18446744073709551616) : IntKind.u64.wrap ((u : Int) / (y1 : Int)) = ((u / y1 : Nat) : Int) := by
 rw [← Int.natCast_ediv]; exact Yk _ (Nat.lt_of_le_of_lt (Nat.div_le_self u y1) hu)
theorem gu (u y1 : Nat) (hu : u < 18446744073709551616) : IntKind.u64.wrap ((u : Int) - IntKind.u64.wrap (((u / y1 : Nat) : Int) * (y1 : Int))) = ((u % y1 : Nat) : Int) := by
 have h := Nat.div_add_mod' u y1
 rw [Nj, Yk _ (by omega), IntKind.wrap_u64]
 omega
theorem sV (u d V q b : Nat) (h : (((u * 4294967296 % 18446744073709551616 + d) % 18446744073709551616 : Nat) - ((q * V % 18446744073709551616 : Nat) : Int)) % 18446744073709551616 = (b : Int)) :
  IntKind.u64.wrap (IntKind.u64.wrap (IntKind.u64.wrap ((u : Int) * 4294967296) + (d : Int)) - IntKind.u64.wrap ((q : Int) * (V : Int))) = (b : Int) := by
 rw [show (u : Int) * 4294967296 = ((u * 4294967296 : Nat) : Int) by omega, Uy, castAdd, Uy, Nj, Uy, IntKind.wrap_u64]
 exact h
theorem oL (a b s : Nat) (hb : b < 2 ^ s) : a * 2 ^ s ||| b = a * 2 ^ s + b := by
 rw [Nat.mul_comm, Nat.two_pow_add_eq_or_of_lt hb]
theorem wI (hi lo y : Nat) (w : World) (h : 0 < hi) (hlt : hi < y) (h1 : lo < 18446744073709551616) (h2 : y < 18446744073709551616) :
  Calls Try.prog 72 #[Z7 hi, Z7 lo, Z7 y] w fun e w' => e = .returned (.tuple #[Z7 (KO hi lo y), Z7 (Fj hi lo y)]) ∧ w = w' := by
 obtain ⟨z1, _, z3, z4⟩ := OJ y (by omega) h2
 have c1 := Ar.shifted hi lo (lz y) z1 h1
 have c2 := Ar.Jd hi lo y (lz y) z1 h1 hlt
 have c3 := Nat.two_pow_pos (lz y)
 have e0 : (18446744073709551616 : Nat) = 2 ^ lz y * 2 ^ (64 - lz y) := by
  rw [← Nat.pow_add, show lz y + (64 - lz y) = 64 by omega]
 have c4 : lo / 2 ^ (64 - lz y) < 2 ^ lz y := by
  rw [Nat.div_lt_iff_lt_mul (Nat.two_pow_pos _), ← e0]
  exact h1
 clear e0
 have dl := Nat.mod_lt (lo * 2 ^ lz y) (show 0 < 18446744073709551616 by omega)
 have c5 : hi * 2 ^ lz y + lo / 2 ^ (64 - lz y) < 18446744073709551616 := Nat.lt_trans c2 z4
 have r11 : bits .or .u64 (IntKind.u64.wrap ((hi : Int) * 2 ^ lz y)) ((lo : Int) / 2 ^ (64 - lz y)) = ((hi * 2 ^ lz y + lo / 2 ^ (64 - lz y) : Nat) : Int) := by
  have a1 : IntKind.u64.wrap ((hi : Int) * 2 ^ lz y) = ((hi * 2 ^ lz y : Nat) : Int) := by
   rw [← Yk (hi * 2 ^ lz y) (Nat.lt_of_le_of_lt (Nat.le_add_right _ _) c5)]; simp
  have a2 : ((lo : Int) / 2 ^ (64 - lz y)) = ((lo / 2 ^ (64 - lz y) : Nat) : Int) := by simp
  rw [a1, a2, bits_or_u64_nat _ _ (Nat.lt_of_le_of_lt (Nat.le_add_right _ _) c5) (Nat.lt_of_le_of_lt (Nat.le_add_left _ _) c5), oL _ _ _ c4]
 have rV : IntKind.u64.wrap ((y : Int) * 2 ^ lz y) = ((y * 2 ^ lz y : Nat) : Int) := by
  rw [← Yk (y * 2 ^ lz y) z4]; simp
 have r12 : IntKind.u64.wrap ((lo : Int) * 2 ^ lz y) = ((lo * 2 ^ lz y % 18446744073709551616 : Nat) : Int) := by
  rw [← Uy (lo * 2 ^ lz y)]; simp
 have rR1 : ∀ n : Nat, ((n : Int) / 2 ^ lz y) = ((n / 2 ^ lz y : Nat) : Int) := fun n => by simp
 have T := Ar.Jc (hi * 18446744073709551616 + lo) (2 ^ lz y) y (hi * 2 ^ lz y + lo / 2 ^ (64 - lz y)) (lo * 2 ^ lz y % 18446744073709551616 / 4294967296) (lo * 2 ^ lz y % 18446744073709551616 % 4294967296) c3 (by omega)
  (by rw [c1, Nat.div_add_mod'])
 change _ = KO hi lo y ∧ _ = Fj hi lo y at T
 rw [← T.1, ← T.2]
 clear T c1
 generalize hi * 2 ^ lz y + lo / 2 ^ (64 - lz y) = u at *
 generalize lo * 2 ^ lz y % 18446744073709551616 = l at *
 generalize y * 2 ^ lz y = V at *
 have eV : V / 4294967296 * 4294967296 + V % 4294967296 = V := Nat.div_add_mod' V 4294967296
 have f1 : 2147483648 ≤ V / 4294967296 := by omega
 have f2 : V / 4294967296 < 4294967296 := by omega
 have f3 : V % 4294967296 < 4294967296 := by omega
 have g1 : l / 4294967296 < 4294967296 := by omega
 have g0 : l % 4294967296 < 4294967296 := by omega
 have hV0 : 0 < V := by omega
 have k2 := Nat.mod_lt (u * 4294967296 + l / 4294967296) hV0
 have k1 := Ar.Qa u (l / 4294967296) V c2 g1
 have k0 := Ar.Qa ((u * 4294967296 + l / 4294967296) % V) (l % 4294967296) V k2 g0
 have m1 := Ar.OI u (l / 4294967296) V hV0 z4
 have m0 := Ar.OI ((u * 4294967296 + l / 4294967296) % V) (l % 4294967296) V hV0 z4
 refine Bf hi lo y V (V / 4294967296) (V % 4294967296) u l (l / 4294967296) (l % 4294967296) (u / (V / 4294967296)) (u % (V / 4294967296)) ((u * 4294967296 + l / 4294967296) / V) ((u * 4294967296 + l / 4294967296) % V)
  ((u * 4294967296 + l / 4294967296) % V / (V / 4294967296)) ((u * 4294967296 + l / 4294967296) % V % (V / 4294967296)) (((u * 4294967296 + l / 4294967296) % V * 4294967296 + l % 4294967296) / V)
  (((u * 4294967296 + l / 4294967296) % V * 4294967296 + l % 4294967296) % V) (((u * 4294967296 + l / 4294967296) % V * 4294967296 + l % 4294967296) % V / 2 ^ lz y) w h hlt h1 h2 z1 f1 f2 f3 g1 g0 c5 (Nat.lt_trans k2 z4)
  (by rw [eV]; exact Z9 c2) (by rw [eV]; exact Z9 k2) k1 k0 (by rw [eV]; exact Z9 rfl) (by rw [eV]; exact Z9 rfl)
  (Z9 (Ar.OH _ _ _ _ f1 f2 f3 g1 (by rw [eV]; exact c2))) (Z9 (Ar.OH _ _ _ _ f1 f2 f3 g0 (by rw [eV]; exact k2)))
  rV (by omega) (SI V z4) r11 r12 (by omega) (SI l dl) ?_ ?_ ?_ ?_ ?_ ?_ ?_
 ·exact gB u _ (Nat.lt_trans c2 z4)
 ·exact gu u _ (Nat.lt_trans c2 z4)
 ·exact Z9 (sV u _ V _ _ m1)
 ·exact Z9 (gB _ _ (Nat.lt_trans k2 z4))
 ·exact Z9 (gu _ _ (Nat.lt_trans k2 z4))
 ·exact Z9 (sV _ _ V _ _ m0)
 ·exact Z9 (rR1 _)
theorem sW (hi lo y : Nat) (w : World) (hlt : hi < y) (h1 : lo < 18446744073709551616) (h2 : y < 18446744073709551616) :
  Calls Try.prog 72 #[Z7 hi, Z7 lo, Z7 y] w fun e w' => e = .returned (.tuple #[Z7 (KO hi lo y), Z7 (Fj hi lo y)]) ∧ ∃ n, w' = w.drewN n := by
 by_cases h : hi = 0
 ·subst h
  exact wJ lo y w h1 h2 hlt
 ·exact (wI hi lo y w (by omega) hlt h1 h2).mono fun e w' ⟨he, hw⟩ => ⟨he, 0, hw ▸ rfl⟩
#print axioms sW
def YL (a b : Int) : Bool := decide (a * b < 18446744073709551616)
def YU (a b : Int) : Int := if a * b < 18446744073709551616 then a * b else 0
def lW (a b c : Int) : Bool := decide (a * b < c * 18446744073709551616)
def lV (a b c : Int) : Int := if a * b < c * 18446744073709551616 then a * b / c else 0
theorem Fp (a b : Int) (w : World) (ha : W64 a) (hb : W64 b) :
  Calls Try.prog 89 #[Z7 a, Z7 b] w fun e w' => e = .returned (.tuple #[Z7 (YU a b), .bool (YL a b)]) ∧ w = w' := by
 obtain ⟨a0, a1⟩ := ha; obtain ⟨b0, b1⟩ := hb
 obtain ⟨x, rfl⟩ := Int.eq_ofNat_of_zero_le a0
 obtain ⟨y, rfl⟩ := Int.eq_ofNat_of_zero_le b0
 have hM := fun w => sZ x y (by omega) (by omega) w
 by_cases h : x * y < 18446744073709551616
 ·have h' : (x : Int) * (y : Int) < 18446744073709551616 := by rw [← Int.natCast_mul]; omega
  have e1 : YU x y = ((x * y : Nat) : Int) := by rw [Int.natCast_mul]; exact if_pos h'
  have e2 : YL x y = true := decide_eq_true h'
  have q1 : x * y % 18446744073709551616 = x * y := Nat.mod_eq_of_lt h
  have q2 : x * y / 18446744073709551616 = 0 := Nat.div_eq_of_lt h
  rw [e1, e2]
  simp only [q1, q2] at hM
  generalize x * y = p at *
  clear e1 e2 q1 q2 h h'
  go_enter Try.func89, Try.ntmps89
  go_wp2_with (go_at_call 71; refine (hM _).mono ?_; rintro e w' ⟨rfl, rfl⟩)
  go_ret2
  exact ⟨rfl, rfl⟩
 ·have h' : ¬ (x : Int) * (y : Int) < 18446744073709551616 := by rw [← Int.natCast_mul]; omega
  have e1 : YU x y = 0 := if_neg h'
  have e2 : YL x y = false := decide_eq_false h'
  have q2 : 1 ≤ x * y / 18446744073709551616 := by omega
  rw [e1, e2]
  generalize x * y / 18446744073709551616 = p at *
  generalize x * y % 18446744073709551616 = r at *
  clear e1 e2 h h'
  have hp : ((p : Int) != 0) = true := by simp; omega
  go_enter Try.func89, Try.ntmps89
  go_wp2_with (go_at_call 71; refine (hM _).mono ?_; rintro e w' ⟨rfl, rfl⟩)
  go_ret2
  exact ⟨rfl, rfl⟩
theorem gJ (x y z : Nat) (hz : x * y / 18446744073709551616 < z) : lW x y z = true ∧ lV x y z = ((KO (x * y / 18446744073709551616) (x * y % 18446744073709551616) z : Nat) : Int) := by
 have h : x * y < z * 18446744073709551616 := (Nat.div_lt_iff_lt_mul (by omega)).1 hz
 have h' : (x : Int) * (y : Int) < (z : Int) * 18446744073709551616 := by rw [← Int.natCast_mul]; omega
 refine ⟨decide_eq_true h', ?_⟩
 unfold KO
 rw [Nat.div_add_mod', Int.natCast_ediv, Int.natCast_mul]
 exact if_pos h'
theorem gI (x y z : Nat) (hz : z ≤ x * y / 18446744073709551616) : lW x y z = false ∧ lV x y z = 0 := by
 have h : z * 18446744073709551616 ≤ x * y := (Nat.le_div_iff_mul_le (by omega)).1 hz
 have h' : ¬ (x : Int) * (y : Int) < (z : Int) * 18446744073709551616 := by rw [← Int.natCast_mul]; omega
 exact ⟨decide_eq_false h', if_neg h'⟩
theorem Nk (a b c : Int) (w : World) (ha : W64 a) (hb : W64 b) (hc : W64 c) :
  Calls Try.prog 59 #[Z7 a, Z7 b, Z7 c] w fun e w' => e = .returned (.tuple #[Z7 (lV a b c), .bool (lW a b c)]) ∧ ∃ n, w' = w.drewN n := by
 obtain ⟨a0, a1⟩ := ha; obtain ⟨b0, b1⟩ := hb; obtain ⟨c0, c1⟩ := hc
 obtain ⟨x, rfl⟩ := Int.eq_ofNat_of_zero_le a0
 obtain ⟨y, rfl⟩ := Int.eq_ofNat_of_zero_le b0
 obtain ⟨z, rfl⟩ := Int.eq_ofNat_of_zero_le c0
 have hM := fun w => sZ x y (by omega) (by omega) w
 have hr := Nat.mod_lt (x * y) (show 0 < 18446744073709551616 by omega)
 by_cases h : x * y / 18446744073709551616 < z
 ·obtain ⟨e2, e1⟩ := gJ x y z h
  have hD := fun w => sW (x * y / 18446744073709551616) (x * y % 18446744073709551616) z w h hr (by omega)
  rw [e1, e2]
  clear e1 e2
  generalize x * y / 18446744073709551616 = p at *
  generalize x * y % 18446744073709551616 = r at *
  go_enter Try.func59, Try.ntmps59
  go_wp2_with (first | (go_at_call 71; refine (hM _).mono ?_; rintro e w' ⟨rfl, rfl⟩) | (go_at_call 72; refine (hD _).mono ?_; rintro e w' ⟨rfl, n, rfl⟩))
  go_ret2
  exact ⟨rfl, _, rfl⟩
 ·obtain ⟨e2, e1⟩ := gI x y z (by omega)
  rw [e1, e2]
  clear e1 e2
  generalize x * y / 18446744073709551616 = p at *
  generalize x * y % 18446744073709551616 = r at *
  go_enter Try.func59, Try.ntmps59
  go_wp2_with (go_at_call 71; refine (hM _).mono ?_; rintro e w' ⟨rfl, rfl⟩)
  go_ret2
  exact ⟨rfl, 0, rfl⟩
theorem wO {ρ : Operand → Value} {o : Oper} {x y : Operand} (ho : o.op = .call { callee := .builtin .max, args := #[x, y], argTypes := #[3, 3] }) (a b : Int) (hx : ρ x = Z8 a) (hy : ρ y = Z8 b) (w : World) : (execOp ρ o).run Try.prog w = .ok (.value (Z8 (max a b))) w := by
 unfold execOp
 simp only [ho, hx, hy, resolve, invoke, builtin, Sem.run_bind, Sem.run_pure, Result.andThen_ok, List.map_toArray, List.map_cons, List.map_nil]
 simp [go_sem]
 by_cases hab : a < b
 ·rw [if_pos hab, Int.max_eq_right (by omega)]
 ·rw [if_neg hab, Int.max_eq_left (by omega)]
theorem wM {ρ : Operand → Value} {o : Oper} {x y : Operand} (ho : o.op = .call { callee := .builtin .min, args := #[x, y], argTypes := #[3, 3] }) (a b : Int) (hx : ρ x = Z8 a) (hy : ρ y = Z8 b) (w : World) : (execOp ρ o).run Try.prog w = .ok (.value (Z8 (min a b))) w := by
 unfold execOp
 simp only [ho, hx, hy, resolve, invoke, builtin, Sem.run_bind, Sem.run_pure, Result.andThen_ok, List.map_toArray, List.map_cons, List.map_nil]
 simp [go_sem]
 by_cases hab : b < a
 ·rw [if_pos hab, Int.min_eq_right (by omega)]
 ·rw [if_neg hab, Int.min_eq_left (by omega)]
theorem QT {ρ : Operand → Value} {o : Oper} {x : Operand} (ho : o.op = .convert 3 23 x) (a : Int) (h0 : 0 ≤ a) (h1 : a ≤ 9223372036854775807) (hx : ρ x = Z8 a) (w : World) : (execOp ρ o).run Try.prog w = .ok (.value (Z7 a)) w := by
 have hw : IntKind.u64.wrap a = a := by rw [IntKind.wrap_u64]; omega
 unfold execOp
 simp only [ho, hx]
 go_simp
def lim (n : Int) : Int := max 0 (min n 1073741824)
def Zd (s t : Int) : Int := 50 + lim s + 20 * lim t
def Zm (f g : Int) : Int := if g = 0 then 0 else if lW 1000 f g = true then lV 1000 f g else 18446744073709551615
theorem RJ (n : Int) : 0 ≤ lim n ∧ lim n ≤ 1073741824 := by unfold lim; omega
theorem OO (n : Int) (w : World) : Calls Try.prog 88 #[Z8 n] w fun e w' => e = .returned (Z7 (lim n)) ∧ w = w' := by
 have hr := RJ n
 have e1 : min (max n 0) 1073741824 = lim n := by unfold lim; omega
 generalize lim n = L at *
 go_enter Try.func88, Try.ntmps88
 go_upto_region 1 with fail
 refine wl <| YO (Z8 n) rfl <| YN (Z8 (max n 0)) (wO rfl n 0) <| YO (Z8 L) ((wM rfl (max n 0) 1073741824 (by kernel_rfl) (by kernel_rfl) _).trans (by rw [e1])) <|
  YO (Z7 L) (QT rfl L (by omega) (by omega) (by kernel_rfl) _) <| ZV (Z7 L) <| wn ?_
 simp only [pu]
 go_wp2_with fail
 go_ret
 exact ⟨rfl, rfl⟩
theorem Bj (s t : Int) (w : World) : Calls Try.prog 74 #[Z8 s, Z8 t] w fun e w' => e = .returned (Z7 (Zd s t)) ∧ w = w' := by
 have h1 := RJ s
 have h2 := RJ t
 have c1 := fun w => OO s w
 have c2 := fun w => OO t w
 unfold Zd
 generalize lim s = a at *
 generalize lim t = b at *
 go_enter Try.func74, Try.ntmps74
 go_wp2_with fail
 refine (c1 _).mono ?_
 rintro e w' ⟨rfl, rfl⟩
 go_wp2_with fail
 refine (c2 _).mono ?_
 rintro e w' ⟨rfl, rfl⟩
 go_wp2
 go_ret
 exact ⟨rfl, rfl⟩
theorem Bh (a b : Int) (w : World) (ha : W64 a) (hb : W64 b) :
  Calls Try.prog 75 #[Z7 a, Z7 b] w fun e w' => e = .returned (.tuple #[Z7 (YU a b), .bool (YL a b)]) ∧ w = w' := by
 have c := fun w => Fp a b w ha hb
 generalize YU a b = v at *
 generalize YL a b = t at *
 go_enter Try.func75, Try.ntmps75
 go_wp2_with fail
 refine (c _).mono ?_
 rintro e w' ⟨rfl, rfl⟩
 go_wp2
 go_ret2
 exact ⟨rfl, rfl⟩
theorem Bg (f g : Int) (w : World) (hf : W64 f) (hg : W64 g) :
  Calls Try.prog 47 #[Z7 f, Z7 g] w fun e w' => e = .returned (Z7 (Zm f g)) ∧ ∃ n, w' = w.drewN n := by
 by_cases h : g = 0
 ·subst h
  go_enter Try.func47, Try.ntmps47
  go_wp2
  go_ret
  exact ⟨rfl, 0, rfl⟩
 ·have h0 : (g == 0) = false := by simpa using h
  have c := fun w => Nk 1000 f g w ⟨by omega, by omega⟩ hf hg
  have e : Zm f g = if lW 1000 f g = true then lV 1000 f g else 18446744073709551615 := by unfold Zm; rw [if_neg h]
  rw [e]
  clear e
  generalize lV 1000 f g = v at *
  cases hb : lW 1000 f g
  ·rw [hb] at c
   clear hb
   go_enter Try.func47, Try.ntmps47
   go_wp2_with fail
   refine (c _).mono ?_
   rintro e w' ⟨rfl, n, rfl⟩
   go_wp2
   go_ret
   exact ⟨rfl, n, rfl⟩
  ·rw [hb] at c
   clear hb
   go_enter Try.func47, Try.ntmps47
   go_wp2_with fail
   refine (c _).mono ?_
   rintro e w' ⟨rfl, n, rfl⟩
   go_wp2
   go_ret
   exact ⟨rfl, n, rfl⟩
end Go.Proofs.Ytnhlpahoomcgnaa.Mo
namespace Go.Proofs.Ytnhlpahoomcgnaa.Lg
open Go.RowKit
open Mo (Zd Zm YL YU)
structure XZ where
 code : Int
 snd : ByteArray
 sq : Int
 Zk : Int
 pr : Int
abbrev ZE (r : XZ) : Array Value := #[Z8 r.code, .string r.snd, Z7 r.sq, Z7 r.Zk, Z7 r.pr]
def YG (e : Int) : XZ := ⟨e, Vr, 0, 0, 0⟩
def WH (t : Zf) : List Int := t.Y6 :: t.tr.map (·.2)
def Vp (t : Zf) : Bool := JL (WH t)
def X9 (t : Zf) : Int := JK (WH t)
def Wj (A : List Ac) (s : ByteArray) : Ac := if Ze A s < A.length then aca A (Ze A s) else (s, 0, 0)
def Xe (A : List Ac) (x : Tf) : List Ac := Y9 A ((Wj A x.1).1, (Wj A x.1).2.1 + x.2, (Wj A x.1).2.2)
def Xd (A : List Ac) (t : Zf) : List Ac := Y9 A ((Zw A t.snd).1.1, (Zw A t.snd).1.2.1 - X9 t, (Zw A t.snd).1.2.2 + 1)
def Ul (A : List Ac) (t : Zf) (j : Nat) : List Ac := (t.tr.take j).foldl Xe (Xd A t)
def Yt (A : List Ac) (t : Zf) : List Ac := Ul A t t.tr.length
def Yy (A : List Ac) (price : Int) (t : Zf) (size : Int) : Int :=
 if (Zw A t.snd).2 = false then 13 else if (Zw A t.snd).1.2.2 ≠ t.sq then 14 else if t.sq = 18446744073709551615 then 6
 else if t.Zk < Zd size t.tr.length then 15 else if YL t.Zk price = false then 6 else if t.Y6 < YU t.Zk price then 16
 else if Vp t = false then 6 else if (Zw A t.snd).1.2.1 < X9 t then 17 else if 256 < (Yt A t).length then 3 else 0
def Vq (A : List Ac) (c price : Int) (L : List Int) : (List Ac × Int) × XZ :=
 if Y8 A c ≠ 0 then ((A, c), YG 1) else if (Zq L).2 ≠ 0 then ((A, c), YG (Zq L).2) else
 if Yy A price (Zq L).1 L.length ≠ 0 then ((A, c), ⟨Yy A price (Zq L).1 L.length, (Zq L).1.snd, (Zq L).1.sq, (Zq L).1.Zk, Zm (Zq L).1.Y6 (Zq L).1.Zk⟩)
 else ((Yt A (Zq L).1, c + (Zq L).1.Y6), ⟨0, (Zq L).1.snd, (Zq L).1.sq, (Zq L).1.Zk, Zm (Zq L).1.Y6 (Zq L).1.Zk⟩)
theorem Xu {A : List Ac} {s : ByteArray} (h : (Zw A s).2 = true) : Ze A s < A.length ∧ (Zw A s).1 = aca A (Ze A s) ∧ (Zw A s).1.1 = s := by
 unfold Zw at *
 by_cases hf : Ze A s < A.length
 ·rw [if_pos hf] at *
  exact ⟨hf, rfl, (Sv hf).1⟩
 ·rw [if_neg hf] at h
  cases h
theorem Pn (A : List Ac) (s : ByteArray) : (Wj A s).1 = s := by
 unfold Wj
 split
 ·rename_i h; exact (Sv h).1
 ·rfl
theorem Md {A : List Ac} {i : Nat} {a : Ac} (h : i < A.length) : tot (Zy (A.set i a)) = tot (Zy A) - (aca A i).2.1 + a.2.1 := by
 have e : A.set i a = A.take i ++ a :: A.drop (i + 1) := List.set_eq_take_append_cons_drop.trans (if_pos h)
 have e2 : A = A.take i ++ aca A i :: A.drop (i + 1) := by rw [YH h, List.getElem_cons_drop, List.take_append_drop]
 have h1 : tot (Zy (A.set i a)) = tot (Zy (A.take i)) + (a.2.1 + tot (Zy (A.drop (i + 1)))) := by
  rw [e]; unfold Zy; rw [List.map_append, List.map_cons, Yo, YQ]
 have h2 : tot (Zy A) = tot (Zy (A.take i)) + ((aca A i).2.1 + tot (Zy (A.drop (i + 1)))) := by
  conv => lhs; rw [e2]
  unfold Zy; rw [List.map_append, List.map_cons, Yo, YQ]
 omega
theorem IG (A : List Ac) (a : Ac) : tot (Zy (Y9 A a)) = tot (Zy A) - (Wj A a.1).2.1 + a.2.1 := by
 by_cases h : Ze A a.1 < A.length
 ·rw [WY h, Md h]; unfold Wj; rw [if_pos h]
 ·rw [VO h]
  have e : tot (Zy A) = tot (Zy (A.take (Y1 A a.1))) + tot (Zy (A.drop (Y1 A a.1))) := by
   rw [← Yo]; unfold Zy; rw [← List.map_append, List.take_append_drop]
  have h1 : tot (Zy (A.take (Y1 A a.1) ++ a :: A.drop (Y1 A a.1))) = tot (Zy (A.take (Y1 A a.1))) + (a.2.1 + tot (Zy (A.drop (Y1 A a.1)))) := by
   unfold Zy; rw [List.map_append, List.map_cons, Yo, YQ]
  unfold Wj
  rw [if_neg h, h1, e]
  show _ = _ - 0 + _
  omega
theorem IE (A : List Ac) (x : Tf) : tot (Zy (Xe A x)) = tot (Zy A) + x.2 := by
 unfold Xe
 rw [IG]
 simp only [Pn]
 omega
theorem IC {A : List Ac} {t : Zf} (h : (Zw A t.snd).2 = true) : tot (Zy (Xd A t)) = tot (Zy A) - X9 t := by
 obtain ⟨h1, h2, h3⟩ := Xu h
 unfold Xd
 rw [IG]
 have e : Wj A (Zw A t.snd).1.1 = (Zw A t.snd).1 := by rw [h3]; unfold Wj; rw [if_pos h1, h2]
 simp only [e]
 omega
theorem Ew {A : List Ac} (hw : Xz A) {i : Nat} (h : i < A.length) : (aca A i).2.1 ≤ tot (Zy A) := by
 have h1 := Md (a := (Vr, 0, 0)) h
 have h2 : 0 ≤ tot (Zy (A.set i (Vr, 0, 0))) := XL _ fun x hx => by
  obtain ⟨y, hy, rfl⟩ := List.mem_map.1 hx
  rcases List.mem_or_eq_of_mem_set hy with h3 | h3
  ·exact (VN hw y h3).1.1
  ·subst h3; decide
 have h3 : ((Vr, 0, 0) : Ac).2.1 = 0 := rfl
 omega
theorem Eu {A : List Ac} (hw : Xz A) (s : ByteArray) : W64 (Wj A s).2.1 ∧ W64 (Wj A s).2.2 ∧ (Wj A s).2.1 ≤ tot (Zy A) := by
 unfold Wj
 split
 ·rename_i h; exact ⟨(hw _ h).1, (hw _ h).2, Ew hw h⟩
 ·exact ⟨X0, X0, XL _ fun x hx => by obtain ⟨y, hy, rfl⟩ := List.mem_map.1 hx; exact (VN hw y hy).1.1⟩
def Et (t : Zf) (j : Nat) : Int := tot ((t.tr.take j).map (·.2))
theorem Es (t : Zf) : Et t 0 = 0 := rfl
theorem Mc {t : Zf} {j : Nat} (h : j < t.tr.length) : Et t (j + 1) = Et t j + (tfa t.tr j).2 := by
 unfold Et
 rw [List.take_succ_eq_append_getElem h, List.map_append, Yo, XC h]
 show _ + tot [(t.tr[j]).2] = _
 rw [YQ]; show _ + (_ + 0) = _; omega
theorem TD (t : Zf) : tot (WH t) = t.Y6 + Et t t.tr.length := by
 unfold WH Et
 rw [YQ, List.take_length]
theorem Oo {t : Zf} (h : Vp t = true) : X9 t = tot (WH t) ∧ tot (WH t) < 18446744073709551616 := by
 have h1 : tot (WH t) < 18446744073709551616 := of_decide_eq_true h
 exact ⟨if_pos h1, h1⟩
theorem rH {t : Zf} (h : Vp t = false) : X9 t = 0 := if_neg (of_decide_eq_false h)
theorem Om {t : Zf} (h : ∀ x, x ∈ t.tr → W64 x.2) (j : Nat) : 0 ≤ Et t j ∧ Et t j ≤ Et t t.tr.length := by
 refine ⟨XL _ fun x hx => ?_, ?_⟩
 ·obtain ⟨y, hy, rfl⟩ := List.mem_map.1 hx
  exact (h y (List.mem_of_mem_take hy)).1
 ·unfold Et
  rw [List.take_length, List.map_take]
  refine Vh _ (fun k hk => ?_) _
  rw [List.length_map] at hk
  rw [List.getD_eq_getElem?_getD, List.getElem?_map, List.getElem?_eq_getElem hk]
  exact h _ (List.getElem_mem hk)
theorem Uc {A : List Ac} {t : Zf} {j : Nat} (h : j < t.tr.length) : Ul A t (j + 1) = Xe (Ul A t j) (tfa t.tr j) := by
 unfold Ul
 rw [List.take_succ_eq_append_getElem h, List.foldl_append, XC h]
 rfl
structure Gx (A : List Ac) (t : Zf) (j : Nat) (B : List Ac) : Prop where
 is : B = Ul A t j
 w : Xz B
 s : tot (Zy B) = tot (Zy A) - tot (WH t) + Et t j
 n : B.length ≤ A.length + j
theorem Gx.start {A : List Ac} {t : Zf} (hw : Xz A) (hg : (Zw A t.snd).2 = true) (hq : (Zw A t.snd).1.2.2 < 18446744073709551615) (hc : Vp t = true) (hb : X9 t ≤ (Zw A t.snd).1.2.1) (h0 : 0 ≤ X9 t) : Gx A t 0 (Xd A t) := by
 obtain ⟨h1, h2, h3⟩ := Xu hg
 have hwi := hw _ h1
 rw [← h2] at hwi
 obtain ⟨⟨p0, p1⟩, q0, q1⟩ := hwi
 refine ⟨rfl, Pm hw ⟨⟨?_, ?_⟩, ?_, ?_⟩, ?_, ?_⟩
 ·show 0 ≤ _ - _; omega
 ·show _ - _ ≤ _; omega
 ·show 0 ≤ _ + 1; omega
 ·show _ + 1 ≤ _; omega
 ·rw [IC hg, (Oo hc).1, Es]; omega
 ·unfold Xd; rw [Ye]; simp only [h3]; rw [if_pos h1]; omega
theorem Gx.step {A B : List Ac} {t : Zf} {j : Nat} (h : Gx A t j B) (hj : j < t.tr.length) (hA : tot (Zy A) < 18446744073709551616) (ht : ∀ x, x ∈ t.tr → W64 x.2) (hf : 0 ≤ t.Y6) : Gx A t (j + 1) (Xe B (tfa t.tr j)) ∧ W64 ((Wj B (tfa t.tr j).1).2.1 + (tfa t.tr j).2) := by
 have hx : W64 (tfa t.tr j).2 := ht _ (by rw [XC hj]; exact List.getElem_mem hj)
 obtain ⟨⟨b0, b1⟩, ⟨s0, s1⟩, b2⟩ := Eu h.w (tfa t.tr j).1
 have hs := h.s
 have e1 := Mc hj
 have l1 := (Om ht (j + 1)).2
 have e2 := TD t
 obtain ⟨x0, x1⟩ := hx
 have hW : W64 ((Wj B (tfa t.tr j).1).2.1 + (tfa t.tr j).2) := ⟨by omega, by omega⟩
 refine ⟨⟨by rw [Uc hj, h.is], Pm h.w ⟨hW, s0, s1⟩, by rw [IE, hs, e1]; omega, ?_⟩, hW⟩
 unfold Xe
 rw [Ye]
 have := h.n
 split <;> omega
end Go.Proofs.Ytnhlpahoomcgnaa.Lg
namespace Go.Proofs.Ytnhlpahoomcgnaa.Lg
attribute [local irreducible] wpList wpQuiet
open Mo (Zd Zm YL YU)
open Go.RowKit
theorem AZ (t : Zf) : (WH t).length = t.tr.length + 1 := by simp [WH]
def PE (t : Zf) (j : Nat) : List Int := t.Y6 :: (t.tr.take j).map (·.2)
theorem Fh {t : Zf} {j : Nat} (h : j < t.tr.length) : PE t (j + 1) = PE t j ++ [(tfa t.tr j).2] := by
 unfold PE
 rw [List.take_succ_eq_append_getElem h, List.map_append, XC h]
 rfl
theorem AY (t : Zf) (j : Nat) : (PE t j).length ≤ t.tr.length + 1 := by
 unfold PE
 rw [List.length_cons, List.length_map, List.length_take]
 omega
theorem AX (t : Zf) : PE t t.tr.length = WH t := by unfold PE WH; rw [List.take_length]
theorem oG {t : Zf} (hf : W64 t.Y6) (ha : ∀ x, x ∈ t.tr → W64 x.2) : ∀ k, k < (WH t).length → W64 ((WH t).getD k 0) := fun k hk => by
 have hm : ∀ x, x ∈ WH t → W64 x := fun x hx => by
  rcases List.mem_cons.1 hx with h | h
  ·rw [h]; exact hf
  ·obtain ⟨y, hy, rfl⟩ := List.mem_map.1 h
   exact ha y hy
 rw [List.getD_eq_getElem?_getD, List.getElem?_eq_getElem hk]
 exact hm _ (List.getElem_mem hk)
theorem oD (t : Zf) (a : Option Addr) (k : Nat) (w : World) (hR : Cs w a (SE t.tr)) (hn : t.tr.length ≤ 100000) (hf : W64 t.Y6) (ha : ∀ x, x ∈ t.tr → W64 x.2) :
  Calls Try.prog 76 #[.agg (Zu t a k)] w fun e w' => e = .returned (.tuple #[Z7 (X9 t), .bool (Vp t)]) ∧ Below w.heap.size w w' := by
 have hb0 : Below w.heap.size w (w.alloc (.cells (Zu t a k) 57)) := (Below.refl _ w).alloc (Nat.le_refl _) _
 have hX0 : Bx (w.alloc (.cells (Zu t a k) 57)) w.heap.size (Zu t a k) 57 := heap_alloc_last w _
 have HA := Z9 (hR.below hb0)
 have jK := Z9 (fun (al : Option Addr) (cl : Nat) (V : World) (h : Cs V al (WU (WH t))) => O9 al cl (WH t) V (by rw [AZ]; omega) (fun q hq => by
  obtain ⟨b, off, e, -, h1⟩ := h q (Z7 ((WH t).getD q 0)) (by
   unfold WU
   rw [List.getElem?_map, List.getElem?_eq_getElem hq, List.getD_eq_getElem?_getD, List.getElem?_eq_getElem hq]
   rfl)
  exact ⟨b, off, e, h1⟩) (oG hf ha))
 have HST := Z9 (fun j (h : j < t.tr.length) => Fh h)
 have tK := Z9 (AY t)
 have HJA := Z9 (AX t)
 have HJ0 : Hid (PE t 0 = [t.Y6]) := Z9 (by unfold PE; rw [List.take_zero, List.map_nil])
 have EZ : Hid (JK (WH t) = X9 t ∧ JL (WH t) = Vp t) := Z9 ⟨rfl, rfl⟩
 generalize PE t = J at *
 generalize WH t = AM at *
 generalize X9 t = tv at *
 generalize Vp t = tb at *
 obtain ⟨snd, sq, Zk, Y6, memo, A⟩ := t
 simp only at *
 obtain ⟨n, hnn⟩ := ZR A.length
 have TI : Hid (n ≤ 100000) := Z9 (by omega)
 simp only [Zu, hnn] at hb0 hX0 HA HST tK HJA ⊢
 have HN := Z9 hnn
 clear hR hn hnn hf ha
 go_enter Try.func76, Try.ntmps76
 go_upto_region 1 with fail
 change Code.wp _ _ _ _ (w.alloc (.cells #[.string snd, Z7 sq, Z7 Zk, Z7 Y6, .string memo, .slice a n k] 57))
 generalize w.alloc (.cells #[.string snd, Z7 sq, Z7 Zk, Z7 Y6, .string memo, .slice a n k] 57) = W at *
 obtain ⟨g0, hg0⟩ := ZR w.heap.size
 have HB0 := Z9 hb0
 rw [hg0] at hX0
 simp only [hg0]
 have HX := Z9 hX0
 clear hb0 hg0 hX0
 have hbu := QU Y6 W
 have hou := uh Y6 W
 refine wl <| ZV (Z5 g0 3) <| ZI rfl ⟨g0, 3, none⟩ (Z7 Y6) (HX.out.ZN 3) ?_
 simp only [pu]
 refine Zh (by kernel_rfl) (some 9) rfl 67 1 #[(0, .tmp 8)] rfl #[(0, Z7 Y6)] (by kernel_rfl) (.slice (some ⟨W.heap.size, 0, none⟩) 1 1) _ hbu ?_
 simp only [pu]
 refine ZV (.slice (some ⟨W.heap.size, 0, none⟩) 1 1) <| wn ?_
 simp only [pu]
 have hb1 : Below W.heap.size W (W.alloc (.cells #[Z7 Y6] 23)) := (Below.refl _ W).alloc (Nat.le_refl _) _
 clear hbu
 obtain ⟨v1, hv1⟩ := ZR (Value.slice (some ⟨W.heap.size, 0, none⟩) 1 1)
 rw [hv1] at hou ⊢
 generalize W.alloc (.cells #[Z7 Y6] 23) = W1 at *
 have HR1 : Hid (PO W1 W.heap.size v1 (J 0)) := Z9 (by rw [HJ0.out]; exact hou)
 have HB1 := Z9 hb1
 have XP := Z9 (HX.out.below HX.out.lt hb1)
 clear hv1 hou hb1
 go_upto_region 2 with fail
 refine wl <| ZV (Z5 g0 5) <| ZI rfl ⟨g0, 5, none⟩ (.slice a n k) (XP.out.ZN 5) <| ZG (Z8 n) (Z8 0) <| wn ?_
 simp only [pu]
 go_wp2_with fail
 go_loopg [4, 13] n (fun gg s4 s13 wx => ∃ (j : Nat) (v4 : Value), s4 = v4 ∧ s13 = Z8 j ∧ j ≤ n ∧ Hid (PO wx W.heap.size v4 (J j)) ∧ Hid (Below W.heap.size W wx) ∧ n - j = gg)
 case atStart => exact ⟨0, v1, rfl, rfl, by omega, HR1, HB1, by omega⟩
 case round =>
  obtain ⟨j, v4, rfl, rfl, hj, qL, HB, hg⟩ := hrel
  have EO := TI.out
  by_cases hlt : j < n
  ·obtain ⟨b, off, rfl, -, hrx⟩ := U5 (HA.out.below HB.out) (k := j) (by rw [HN.out]; exact hlt)
   have Y0 := Z9 (UG hrx)
   have jJ := Z9 (HST.out j hlt)
   generalize tfa A j = y at *
   have HG := Z9 hg
   obtain ⟨V2, hst, hb2, hbx⟩ := RX wr y
   obtain ⟨v3, V3, hap, hr3, hb3⟩ := Ea (own_below qL.out hb2) (by have := HB.out.size; have := hb2.size; omega) y.2 (by have := tK.out j; omega)
   have HR3 : Hid (PO V3 W.heap.size v3 (J (j + 1))) := Z9 (by rw [jJ.out]; exact hr3)
   have HB3 := Z9 ((HB.out.trans (hb2.mono HB.out.size)).trans hb3)
   have hbu := QU y.2 V2
   clear hrx hg hb2 hr3 hb3 jJ
   go_upto_region 3 with fail
   refine wl <| ZM (ZC rfl (j) (n) dT) <| wn ?_
   simp only [pu]
   go_upto_region 4 with fail
   refine wl <| YO (Z5 b (off + j * 2)) (Qw b off n k j hlt _ _ _ rfl (by kernel_rfl) (by kernel_rfl)) <| ZI rfl ⟨b, off + j * 2, none⟩ (.agg (Yv y)) (Y0.out) ?_
   simp only [pu]
   refine Zz rfl (some 6) rfl (Z5 wr.heap.size 0) (wr.alloc (.cells (Yv TK) 54)) (by kernel_rfl) ?_
   simp only [pu]
   refine Zt rfl (hst) <| wn ?_
   obtain ⟨g4, hg4⟩ := ZR wr.heap.size
   rw [hg4] at hbx ⊢
   obtain ⟨g5, hg5⟩ := ZR V2.heap.size
   rw [hg5] at hap hbu
   clear hst hg4 hg5 Y0
   go_upto_region 5 with fail
   refine wl <| ZG (u4) (Z5 g4 1) <| ZI rfl ⟨g4, 1, none⟩ (Z7 y.2) (hbx.ZN 1) ?_
   simp only [pu]
   refine Zh (by kernel_rfl) (some 20) rfl 67 1 #[(0, .tmp 19)] rfl #[(0, Z7 y.2)] (by kernel_rfl) (.slice (some ⟨g5, 0, none⟩) 1 1) _ hbu ?_
   simp only [pu]
   refine Y4 rfl (some 21) rfl 67 rfl (.tmp 17) (.tmp 20) 67 rfl (u4) (.slice (some ⟨g5, 0, none⟩) 1 1) (v3) V3 (by kernel_rfl) (by kernel_rfl) hap ?_
   simp only [pu]
   refine ZV (v3) <| wn ?_
   simp only [pu]
   clear hap hbu hbx
   go_upto_region 6 with fail
   refine wl <| YN (Z8 (j + 1 : Nat)) (ZK rfl j 1 (by omega)) <| ZV (Z8 (j + 1 : Nat)) <| wn ?_
   simp only [pu]
   go_wp2_with fail
   go_roundg (n - (j + 1))
   case measure => have := HG.out; omega
   case rel => exact ⟨j + 1, v3, rfl, rfl, hlt, HR3, HB3, rfl⟩
  ·obtain rfl : n = j := by omega
   obtain ⟨al, cl, rfl, hcs, -⟩ := Yj qL.out
   rw [HJA.out] at hcs ⊢
   have CS := jK.out al cl wr hcs
   rw [EZ.out.1, EZ.out.2] at CS
   generalize AM.length = m at *
   have Zj := Z9 (HB0.out.trans (HB.out.mono HB0.out.size))
   clear hg qL jK EZ hcs HB
   go_upto_region 3 with fail
   refine wl <| ZM (ZC rfl (n) (n) dF) <| wn ?_
   simp only [pu]
   go_upto_region 7 with fail
   refine wl <| ZV (.slice al m cl) <| Y2 (.tuple #[Z7 tv, .bool tb]) (fun w' => wr = w') (CS) (fun V9 XQ => ?_)
   subst XQ
   simp only [pu]
   refine Xl (Z7 tv) (.bool tb) (Z7 tv) (.bool tb) <| wn ?_
   simp only [pu]
   clear CS
   go_wp2_with fail
   go_ret2
   exact ⟨rfl, Zj.out⟩
end Go.Proofs.Ytnhlpahoomcgnaa.Lg
