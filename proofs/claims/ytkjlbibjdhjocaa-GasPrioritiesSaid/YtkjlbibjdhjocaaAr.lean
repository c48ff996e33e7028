/-
  Plain arithmetic of division of 128 bits by 64 bits, digit by digit of 32 bits: what the two quotient digits and the remainder are.
  Conditions: the divisor is normalized (its highest bit is set), the dividend's high half is less than the divisor.
-/
namespace Go.Proofs.Ytkjlbibjdhjocaa.Ar
set_option maxRecDepth 100000

theorem mulV (q y1 y0 : Nat) : q * (y1 * 4294967296 + y0) = q * y1 * 4294967296 + q * y0 := by
  rw [Nat.mul_add, Nat.mul_assoc]

/-- The estimate is not too great: the test said no. -/
theorem exitA (u d y1 y0 q r : Nat) (hi : q * y1 + r = u) (h : q * y0 ≤ 4294967296 * r + d) : q * (y1 * 4294967296 + y0) ≤ u * 4294967296 + d := by
  rw [mulV]
  generalize q * y1 = a at *
  generalize q * y0 = b at *
  omega

/-- The estimate is too great: the test said yes. -/
theorem stepA (u d y1 y0 q r : Nat) (hi : q * y1 + r = u) (h : 4294967296 * r + d < q * y0) : u * 4294967296 + d < q * (y1 * 4294967296 + y0) := by
  rw [mulV]
  generalize q * y1 = a at *
  generalize q * y0 = b at *
  omega

/-- The rest has grown to a digit's range: the estimate is right. -/
theorem exitB (u d y1 y0 q r : Nat) (hi : q * y1 + r = u) (hr : 4294967296 ≤ r) (hq : q ≤ 4294967296) (hy : y0 < 4294967296) : q * (y1 * 4294967296 + y0) ≤ u * 4294967296 + d := by
  refine exitA u d y1 y0 q r hi ?_
  have := Nat.mul_le_mul hq (Nat.le_of_lt_succ (Nat.lt_succ_of_lt hy))
  omega

/-- What holds of an estimate q with its rest r at a loop's head. -/
def Est (u d y1 y0 q r : Nat) : Prop :=
  q * y1 + r = u ∧ (u * 4294967296 + d) / (y1 * 4294967296 + y0) ≤ q ∧ q ≤ 4294967297 ∧ r < 4294967296

theorem lt_digit (u d V : Nat) (hu : u < V) (hd : d < 4294967296) : (u * 4294967296 + d) / V < 4294967296 := by
  rw [Nat.div_lt_iff_lt_mul (by omega)]
  omega

theorem est_start (u d y1 y0 : Nat) (hy1 : 2147483648 ≤ y1) (hy1' : y1 < 4294967296) (hy0 : y0 < 4294967296) (hd : d < 4294967296) (hu : u < y1 * 4294967296 + y0) :
    Est u d y1 y0 (u / y1) (u % y1) := by
  have h1 : u / y1 * y1 + u % y1 = u := Nat.div_add_mod' u y1
  have h2 : u % y1 < y1 := Nat.mod_lt _ (by omega)
  refine ⟨h1, ?_, ?_, by omega⟩
  · rw [← Nat.lt_succ_iff, Nat.div_lt_iff_lt_mul (by omega)]
    have := mulV (u / y1).succ y1 y0
    rw [this, Nat.succ_mul]
    generalize u / y1 * y1 = a at *
    have h0 : 0 ≤ (u / y1).succ * y0 := Nat.zero_le _
    generalize (u / y1).succ * y0 = b at *
    omega
  · rw [← Nat.lt_succ_iff, Nat.div_lt_iff_lt_mul (by omega)]
    omega

theorem est_step (u d y1 y0 q r : Nat) (_hy1 : 2147483648 ≤ y1) (hu : u < y1 * 4294967296 + y0) (hd : d < 4294967296) (h : Est u d y1 y0 q r)
    (ht : 4294967296 ≤ q ∨ 4294967296 * r + d < q * y0) :
    1 ≤ q ∧ (q - 1) * y1 + (r + y1) = u ∧ (u * 4294967296 + d) / (y1 * 4294967296 + y0) ≤ q - 1 ∧ q - 1 ≤ 4294967296 := by
  obtain ⟨hi, hq, hq', hr⟩ := h
  have hlt := lt_digit u d (y1 * 4294967296 + y0) hu hd
  have hs : (u * 4294967296 + d) / (y1 * 4294967296 + y0) < q := by
    rcases ht with ht | ht
    · exact Nat.lt_of_lt_of_le hlt ht
    · rw [Nat.div_lt_iff_lt_mul (by omega)]
      exact stepA u d y1 y0 q r hi ht
  have hq1 : 1 ≤ q := Nat.lt_of_le_of_lt (Nat.zero_le _) hs
  have hq2 := Nat.le_sub_one_of_lt hs
  clear hs hlt hq
  obtain ⟨k, rfl⟩ : ∃ k, q = k + 1 := ⟨q - 1, by omega⟩
  refine ⟨by omega, ?_, hq2, by omega⟩
  rw [Nat.add_sub_cancel]
  rw [Nat.succ_mul] at hi
  omega

theorem est_exit (u d y1 y0 q : Nat) (hy1 : 2147483648 ≤ y1) (hq : (u * 4294967296 + d) / (y1 * 4294967296 + y0) ≤ q) (h : q * (y1 * 4294967296 + y0) ≤ u * 4294967296 + d) :
    q = (u * 4294967296 + d) / (y1 * 4294967296 + y0) := by
  have := (Nat.le_div_iff_mul_le (show 0 < y1 * 4294967296 + y0 by omega)).2 h
  omega

theorem est_exitA (u d y1 y0 q r : Nat) (hy1 : 2147483648 ≤ y1) (h : Est u d y1 y0 q r) (ht : q * y0 ≤ 4294967296 * r + d) :
    q = (u * 4294967296 + d) / (y1 * 4294967296 + y0) :=
  est_exit u d y1 y0 q hy1 h.2.1 (exitA u d y1 y0 q r h.1 ht)

theorem est_exitB (u d y1 y0 q r : Nat) (hy1 : 2147483648 ≤ y1) (hy0 : y0 < 4294967296) (hi : q * y1 + r = u) (hq : (u * 4294967296 + d) / (y1 * 4294967296 + y0) ≤ q) (hq' : q ≤ 4294967296) (hr : 4294967296 ≤ r) :
    q = (u * 4294967296 + d) / (y1 * 4294967296 + y0) :=
  est_exit u d y1 y0 q hy1 hq (exitB u d y1 y0 q r hi hr hq' hy0)

theorem rest_wrap' (u d V a b : Nat) (h1 : a + b = u * 4294967296 + d) (h2 : b < V) (hV' : V < 18446744073709551616) :
    (((u * 4294967296 % 18446744073709551616 + d) % 18446744073709551616 : Nat) - ((a % 18446744073709551616 : Nat) : Int)) % 18446744073709551616 = (b : Int) := by
  omega

/-- The rest of a digit, as the program reckons it modulo 2^64. -/
theorem rest_wrap (u d V : Nat) (hV : 0 < V) (hV' : V < 18446744073709551616) :
    (((u * 4294967296 % 18446744073709551616 + d) % 18446744073709551616 : Nat) - (((u * 4294967296 + d) / V * V % 18446744073709551616 : Nat) : Int)) % 18446744073709551616 = (((u * 4294967296 + d) % V : Nat) : Int) := by
  exact rest_wrap' u d V _ _ (Nat.div_add_mod' (u * 4294967296 + d) V) (Nat.mod_lt _ hV) hV'

theorem two_digits' (T p y u l1 l0 q1 r1 q0 r0 : Nat) (hp : 0 < p) (hv : 0 < y * p) (hT : T * p = u * 18446744073709551616 + (l1 * 4294967296 + l0))
    (e1 : q1 * (y * p) + r1 = u * 4294967296 + l1) (e2 : q0 * (y * p) + r0 = r1 * 4294967296 + l0) (e3 : r0 < y * p) :
    q1 * 4294967296 + q0 = T / y ∧ r0 / p = T % y := by
  have e : T * p = (q1 * 4294967296 + q0) * (y * p) + r0 := by
    rw [hT, Nat.add_mul, Nat.mul_right_comm]
    omega
  have d1 : T * p / (y * p) = q1 * 4294967296 + q0 := by
    rw [e, Nat.mul_comm _ (y * p), Nat.mul_add_div hv, Nat.div_eq_of_lt e3, Nat.add_zero]
  have d2 : T * p % (y * p) = r0 := by
    rw [e, Nat.mul_comm _ (y * p), Nat.mul_add_mod, Nat.mod_eq_of_lt e3]
  rw [Nat.mul_div_mul_right _ _ hp] at d1
  rw [Nat.mul_mod_mul_right] at d2
  exact ⟨d1.symm, by rw [← d2, Nat.mul_div_cancel _ hp]⟩

/-- The two digits together: of a dividend T shifted up by p = 2^s. -/
theorem two_digits (T p y u l1 l0 : Nat) (hp : 0 < p) (hy : 0 < y) (hT : T * p = u * 18446744073709551616 + (l1 * 4294967296 + l0)) :
    (u * 4294967296 + l1) / (y * p) * 4294967296 + ((u * 4294967296 + l1) % (y * p) * 4294967296 + l0) / (y * p) = T / y ∧
    ((u * 4294967296 + l1) % (y * p) * 4294967296 + l0) % (y * p) / p = T % y := by
  have hv : 0 < y * p := Nat.mul_pos hy hp
  exact two_digits' T p y u l1 l0 _ _ _ _ hp hv hT (Nat.div_add_mod' _ _) (Nat.div_add_mod' _ _) (Nat.mod_lt _ hv)

/-- The dividend, shifted up by s bits: its two halves. -/
theorem shifted (hi lo s : Nat) (hs : s ≤ 63) (_hlo : lo < 18446744073709551616) :
    (hi * 18446744073709551616 + lo) * 2 ^ s = (hi * 2 ^ s + lo / 2 ^ (64 - s)) * 18446744073709551616 + (lo * 2 ^ s % 18446744073709551616) := by
  have e : (18446744073709551616 : Nat) = 2 ^ (64 - s) * 2 ^ s := by
    rw [← Nat.pow_add]
    rw [show 64 - s + s = 64 by omega]
  have h : lo * 2 ^ s / 18446744073709551616 = lo / 2 ^ (64 - s) := by
    rw [e, Nat.mul_div_mul_right _ _ (Nat.two_pow_pos s)]
  have h2 := Nat.div_add_mod' (lo * 2 ^ s) 18446744073709551616
  rw [h] at h2
  rw [Nat.add_mul, Nat.add_mul, Nat.mul_right_comm, ← h2, ← Nat.add_assoc]
  simp only [Nat.mul_add_mod_self_right, Nat.mod_mod]

/-- The high half of the shifted dividend is less than the shifted divisor. -/
theorem shifted_lt (hi lo y s : Nat) (hs : s ≤ 63) (hlo : lo < 18446744073709551616) (h : hi < y) :
    hi * 2 ^ s + lo / 2 ^ (64 - s) < y * 2 ^ s := by
  have e : (18446744073709551616 : Nat) = 2 ^ s * 2 ^ (64 - s) := by
    rw [← Nat.pow_add]
    rw [show s + (64 - s) = 64 by omega]
  have h1 : lo / 2 ^ (64 - s) < 2 ^ s := by
    rw [Nat.div_lt_iff_lt_mul (Nat.two_pow_pos _), ← e]
    exact hlo
  have h2 := Nat.mul_le_mul_right (2 ^ s) h
  rw [Nat.succ_mul] at h2
  omega

theorem mul_le (q y0 : Nat) (hq : q < 4294967296) (hy : y0 < 4294967296) : (q : Int) * (y0 : Int) ≤ 18446744065119617025 ∧ q * y0 ≤ 18446744065119617025 := by
  have h : q * y0 ≤ 4294967295 * 4294967295 := Nat.mul_le_mul (by omega) (by omega)
  rw [← Int.natCast_mul]
  omega
theorem cast_lt (r d q y0 : Nat) (h : 4294967296 * r + d < q * y0) : 4294967296 * (r : Int) + (d : Int) < (q : Int) * (y0 : Int) := by
  rw [← Int.natCast_mul]
  omega
theorem cast_le (r d q y0 : Nat) (h : q * y0 ≤ 4294967296 * r + d) : (q : Int) * (y0 : Int) ≤ 4294967296 * (r : Int) + (d : Int) := by
  rw [← Int.natCast_mul]
  omega

end Go.Proofs.Ytkjlbibjdhjocaa.Ar
