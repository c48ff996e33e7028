/-
  The contracts of MulDiv of package money and of its reference, of the reference's Mul and of its product of 128 bits: the exact value, or 0 and false.
  Conditions: the arguments are numbers of 64 bits.
-/
import Derived.Test.YtkjlbibjdhjocaaM1
namespace Go.Proofs.Ytkjlbibjdhjocaa
set_option maxRecDepth 100000
open Go.RowKit

theorem ref_mul (a b : Int) (w : World) (ha : W64 a) (hb : W64 b) :
    Calls Try.prog 19 #[.int .u64 a, .int .u64 b] w fun e w' => e = .returned (.tuple #[.int .u64 (mulV a b), .bool (mulB a b)]) ∧ w = w' := by
  obtain ⟨a0, a1⟩ := ha; obtain ⟨b0, b1⟩ := hb
  by_cases hz : a = 0
  · subst hz
    have e1 : mulV 0 b = 0 := by simp [mulV]
    have e2 : mulB 0 b = true := by simp [mulB]
    rw [e1, e2]
    clear e1 e2
    go_enter Try.func19, Try.ntmps19
    go_wp2
    go_ret2
    exact ⟨rfl, rfl⟩
  · have hq : (18446744073709551615 / a < b) ↔ ¬ (a * b < 18446744073709551616) := by
      rw [Int.ediv_lt_iff_lt_mul (by omega), Int.mul_comm b a]
      omega
    have q0 : 0 ≤ 18446744073709551615 / a := Int.ediv_nonneg (by omega) a0
    have q1 : 18446744073709551615 / a ≤ 18446744073709551615 := Int.ediv_le_self _ (by omega)
    have p0 : 0 ≤ a * b := Int.mul_nonneg a0 b0
    have hn : (a != 0) = true := by simpa using hz
    have rq : IntKind.u64.wrap (18446744073709551615 / a) = 18446744073709551615 / a := by rw [IntKind.wrap_u64]; omega
    by_cases h : a * b < 18446744073709551616
    · have e1 : mulV a b = a * b := if_pos h
      have e2 : mulB a b = true := decide_eq_true h
      have h' : ¬ 18446744073709551615 / a < b := fun hc => hq.1 hc h
      have hb' : decide (18446744073709551615 / a < b) = false := decide_eq_false h'
      rw [e1, e2]
      clear e1 e2 hq
      go_enter Try.func19, Try.ntmps19
      go_wp2
      go_ret2
      exact ⟨rfl, rfl⟩
    · have e1 : mulV a b = 0 := if_neg h
      have e2 : mulB a b = false := decide_eq_false h
      have h' : 18446744073709551615 / a < b := hq.2 h
      have hb' : decide (18446744073709551615 / a < b) = true := decide_eq_true h'
      rw [e1, e2]
      clear e1 e2 hq
      go_enter Try.func19, Try.ntmps19
      go_wp2
      go_ret2
      exact ⟨rfl, rfl⟩

theorem md_of (x y z : Nat) (hz : x * y / 18446744073709551616 < z) : mdB x y z = true ∧ mdV x y z = ((divQ (x * y / 18446744073709551616) (x * y % 18446744073709551616) z : Nat) : Int) := by
  have h : x * y < z * 18446744073709551616 := (Nat.div_lt_iff_lt_mul (by omega)).1 hz
  have h' : (x : Int) * (y : Int) < (z : Int) * 18446744073709551616 := by rw [← Int.natCast_mul]; omega
  refine ⟨decide_eq_true h', ?_⟩
  unfold divQ
  rw [Nat.div_add_mod', Int.natCast_ediv, Int.natCast_mul]
  exact if_pos h'
theorem md_no (x y z : Nat) (hz : z ≤ x * y / 18446744073709551616) : mdB x y z = false ∧ mdV x y z = 0 := by
  have h : z * 18446744073709551616 ≤ x * y := (Nat.le_div_iff_mul_le (by omega)).1 hz
  have h' : ¬ (x : Int) * (y : Int) < (z : Int) * 18446744073709551616 := by rw [← Int.natCast_mul]; omega
  exact ⟨decide_eq_false h', if_neg h'⟩

theorem money_muldiv (a b c : Int) (w : World) (ha : W64 a) (hb : W64 b) (hc : W64 c) :
    Calls Try.prog 20 #[.int .u64 a, .int .u64 b, .int .u64 c] w fun e w' => e = .returned (.tuple #[.int .u64 (mdV a b c), .bool (mdB a b c)]) ∧ ∃ n, w' = w.drewN n := by
  obtain ⟨a0, a1⟩ := ha; obtain ⟨b0, b1⟩ := hb; obtain ⟨c0, c1⟩ := hc
  obtain ⟨x, rfl⟩ := Int.eq_ofNat_of_zero_le a0
  obtain ⟨y, rfl⟩ := Int.eq_ofNat_of_zero_le b0
  obtain ⟨z, rfl⟩ := Int.eq_ofNat_of_zero_le c0
  have hM := fun w => mul64 x y (by omega) (by omega) w
  have hr := Nat.mod_lt (x * y) (show 0 < 18446744073709551616 by omega)
  by_cases h : x * y / 18446744073709551616 < z
  · obtain ⟨e2, e1⟩ := md_of x y z h
    have hD := fun w => div64 (x * y / 18446744073709551616) (x * y % 18446744073709551616) z w h hr (by omega)
    rw [e1, e2]
    clear e1 e2
    generalize x * y / 18446744073709551616 = p at *
    generalize x * y % 18446744073709551616 = r at *
    go_enter Try.func20, Try.ntmps20
    go_wp2_with (first | (go_at_call 22; refine (hM _).mono ?_; rintro e w' ⟨rfl, rfl⟩) | (go_at_call 23; refine (hD _).mono ?_; rintro e w' ⟨rfl, n, rfl⟩))
    go_ret2
    exact ⟨rfl, _, rfl⟩
  · obtain ⟨e2, e1⟩ := md_no x y z (by omega)
    rw [e1, e2]
    clear e1 e2
    generalize x * y / 18446744073709551616 = p at *
    generalize x * y % 18446744073709551616 = r at *
    go_enter Try.func20, Try.ntmps20
    go_wp2_with (go_at_call 22; refine (hM _).mono ?_; rintro e w' ⟨rfl, rfl⟩)
    go_ret2
    exact ⟨rfl, 0, rfl⟩

/-- The product's halves, as the reference reckons them. -/
theorem product_arith (a b : Nat) (ha : a < 18446744073709551616) (hb : b < 18446744073709551616) :
    (a % 4294967296) * (b % 4294967296) < 18446744073709551616 ∧ (a / 4294967296) * (b % 4294967296) < 18446744073709551616 ∧ (a % 4294967296) * (b / 4294967296) < 18446744073709551616 ∧
    (a / 4294967296) * (b / 4294967296) < 18446744073709551616 ∧
    (a % 4294967296) * (b % 4294967296) / 4294967296 + (a / 4294967296) * (b % 4294967296) % 4294967296 + (a % 4294967296) * (b / 4294967296) % 4294967296 < 18446744073709551616 ∧
    (a / 4294967296) * (b / 4294967296) + (a / 4294967296) * (b % 4294967296) / 4294967296 < 18446744073709551616 ∧
    (a / 4294967296) * (b / 4294967296) + (a / 4294967296) * (b % 4294967296) / 4294967296 + (a % 4294967296) * (b / 4294967296) / 4294967296 < 18446744073709551616 ∧
    (a / 4294967296) * (b / 4294967296) + (a / 4294967296) * (b % 4294967296) / 4294967296 + (a % 4294967296) * (b / 4294967296) / 4294967296 +
      ((a % 4294967296) * (b % 4294967296) / 4294967296 + (a / 4294967296) * (b % 4294967296) % 4294967296 + (a % 4294967296) * (b / 4294967296) % 4294967296) / 4294967296 = a * b / 18446744073709551616 ∧
    ((a % 4294967296) * (b % 4294967296) / 4294967296 + (a / 4294967296) * (b % 4294967296) % 4294967296 + (a % 4294967296) * (b / 4294967296) % 4294967296) * 4294967296 % 18446744073709551616 + (a % 4294967296) * (b % 4294967296) % 4294967296 = a * b % 18446744073709551616 ∧
    a * b / 18446744073709551616 < 18446744073709551616 := by
  have e : a * b = (a / 4294967296) * (b / 4294967296) * (4294967296 * 4294967296) + ((a / 4294967296) * (b % 4294967296) + (a % 4294967296) * (b / 4294967296)) * 4294967296 + (a % 4294967296) * (b % 4294967296) := by
    rw [← Lib.split_mul, Nat.div_add_mod' a 4294967296, Nat.div_add_mod' b 4294967296]
  have h1 := Lib.half_mul_le (a := a / 4294967296) (b := b / 4294967296) (by omega) (by omega)
  have h2 := Lib.half_mul_le (a := a / 4294967296) (b := b % 4294967296) (by omega) (by omega)
  have h3 := Lib.half_mul_le (a := a % 4294967296) (b := b / 4294967296) (by omega) (by omega)
  have h4 := Lib.half_mul_le (a := a % 4294967296) (b := b % 4294967296) (by omega) (by omega)
  have h5 : a * b / 18446744073709551616 < 18446744073709551616 := by
    rw [Nat.div_lt_iff_lt_mul (by omega)]
    exact Nat.lt_of_le_of_lt (Nat.mul_le_mul_right b (Nat.le_of_lt ha)) (Nat.mul_lt_mul_of_pos_left hb (by omega))
  generalize a * b = t at *
  generalize (a / 4294967296) * (b / 4294967296) = p at *
  generalize (a / 4294967296) * (b % 4294967296) = q at *
  generalize (a % 4294967296) * (b / 4294967296) = r at *
  generalize (a % 4294967296) * (b % 4294967296) = s at *
  refine ⟨by omega, by omega, by omega, by omega, by omega, by omega, by omega, by omega, by omega, h5⟩

theorem wor32 (a b : Nat) (hb : b < 4294967296) : bits .or .u64 (((a * 4294967296 % 18446744073709551616 : Nat) : Int)) (b : Int) = ((a * 4294967296 % 18446744073709551616 + b : Nat) : Int) := by
  rw [bits_or_u64_nat _ _ (by omega) (by omega)]
  have e : a * 4294967296 % 18446744073709551616 = a % 4294967296 * 2 ^ 32 := by omega
  rw [e, or_add _ _ 32 (by omega)]

theorem mulK (a : Nat) : (a : Int) * 4294967296 = ((a * 4294967296 : Nat) : Int) := by omega

set_option maxHeartbeats 1000000 in
theorem product (a b : Nat) (w : World) (ha : a < 18446744073709551616) (hb : b < 18446744073709551616) :
    Calls Try.prog 24 #[.int .u64 a, .int .u64 b] w fun e w' => e = .returned (.tuple #[.int .u64 ((a * b / 18446744073709551616 : Nat) : Int), .int .u64 ((a * b % 18446744073709551616 : Nat) : Int)]) ∧ w = w' := by
  obtain ⟨c1, c2, c3, c4, c5, c6, c7, c8, c9, c10⟩ := product_arith a b ha hb
  have d5 := Nat.lt_of_le_of_lt (Nat.le_add_right _ _) c5
  have d8 := c8 ▸ c10
  have C8 := Lib.hid c8
  have C9 := Lib.hid c9
  clear c8 c9 c10
  go_enter Try.func24, Try.ntmps24
  go_wp2
  simp only [castLow a ha, castLow b hb, castHigh, castMul, mulK, castAdd, wrapFit _ c1, wrapFit _ c2, wrapFit _ c3, wrapFit _ c4, castLow _ c1, castLow _ c2, castLow _ c3, wrapFit _ c5, wrapFit _ c6, wrapFit _ c7, wrapFit _ d5, wrapFit _ d8]
  rw [wrapMod, wor32 _ _ (Nat.mod_lt _ (by omega)), C8.out, C9.out]
  go_ret2
  exact ⟨rfl, rfl⟩

/-- What holds before the bit j - 1 of the low half is taken: the rest r and the quotient o of what was taken. -/
def Inv (H low c j r o : Nat) : Prop := H * 2 ^ (64 - j) + low / 2 ^ j = o * c + r ∧ r < c ∧ o < 2 ^ (64 - j)

theorem inv_start (H low c : Nat) (h : H < c) (hl : low < 18446744073709551616) : Inv H low c 64 H 0 := by
  refine ⟨?_, h, by simp⟩
  rw [show (2 : Nat) ^ 64 = 18446744073709551616 from rfl, Nat.div_eq_of_lt hl]
  simp

theorem inv_end (H low c r o : Nat) (h : Inv H low c 0 r o) : o = divQ H low c := by
  obtain ⟨h1, h2, _⟩ := h
  unfold divQ
  rw [Nat.sub_zero, Nat.pow_zero, Nat.div_one, show (2 : Nat) ^ 64 = 18446744073709551616 from rfl] at h1
  rw [h1, Nat.mul_comm o c, Nat.mul_add_div (by omega), Nat.div_eq_of_lt h2, Nat.add_zero]

theorem inv_bounds (H low c m r o : Nat) (hm : m ≤ 63) (h : Inv H low c (m + 1) r o) : o ≤ 9223372036854775807 := by
  have h1 : (2 : Nat) ^ (64 - (m + 1)) ≤ 2 ^ 63 := Nat.pow_le_pow_right (by omega) (by omega)
  have h2 := h.2.2
  omega

theorem inv_step (H low c m r o : Nat) (hm : m ≤ 63) (h : Inv H low c (m + 1) r o) :
    H * 2 ^ (64 - m) + low / 2 ^ m = (2 * o) * c + (2 * r + low / 2 ^ m % 2) ∧ 2 * o + 1 < 2 ^ (64 - m) := by
  obtain ⟨h1, _, h3⟩ := h
  have e : (2 : Nat) ^ (64 - m) = 2 ^ (64 - (m + 1)) * 2 := by rw [← Nat.pow_succ, show (64 - (m + 1)).succ = 64 - m by omega]
  have e2 : low / 2 ^ (m + 1) = low / 2 ^ m / 2 := by rw [Nat.pow_succ, Nat.div_div_eq_div_mul]
  rw [e2] at h1
  rw [e, ← Nat.mul_assoc, Nat.mul_assoc 2 o c]
  omega

theorem inv_yes (H low c m r o : Nat) (hm : m ≤ 63) (h : Inv H low c (m + 1) r o) (hc : c ≤ 2 * r + low / 2 ^ m % 2) : Inv H low c m (2 * r + low / 2 ^ m % 2 - c) (o * 2 + 1) := by
  obtain ⟨h1, h2⟩ := inv_step H low c m r o hm h
  have h3 := h.2.1
  refine ⟨?_, by omega, by omega⟩
  rw [h1, Nat.mul_comm o 2, Nat.add_mul]
  omega

theorem inv_no (H low c m r o : Nat) (hm : m ≤ 63) (h : Inv H low c (m + 1) r o) (hc : 2 * r + low / 2 ^ m % 2 < c) : Inv H low c m (2 * r + low / 2 ^ m % 2) (o * 2) := by
  obtain ⟨h1, h2⟩ := inv_step H low c m r o hm h
  refine ⟨?_, hc, by omega⟩
  rw [h1, Nat.mul_comm o 2]

theorem wbit (n : Nat) (h : n < 18446744073709551616) : bits .and .u64 (n : Int) 1 = ((n % 2 : Nat) : Int) := by
  have e := bits_and_u64_nat n 1 h (by omega)
  rw [Nat.and_one_is_mod] at e
  exact e
theorem wor1 (a b : Nat) (hb : b < 2) : bits .or .u64 (((a * 2 % 18446744073709551616 : Nat) : Int)) (b : Int) = ((a * 2 % 18446744073709551616 + b : Nat) : Int) := by
  rw [bits_or_u64_nat _ _ (by omega) (by omega)]
  have e : a * 2 % 18446744073709551616 = a % 9223372036854775808 * 2 ^ 1 := by omega
  rw [e, or_add _ _ 1 (by omega)]

set_option maxHeartbeats 2000000 in
theorem refmd_yes (x y c H low : Nat) (w : World) (hx : x < 18446744073709551616) (hy : y < 18446744073709551616) (hc : c < 18446744073709551616) (hH : H < c) (hl : low < 18446744073709551616)
    (eH : Hid (x * y / 18446744073709551616 = H)) (el : Hid (x * y % 18446744073709551616 = low)) :
    Calls Try.prog 21 #[.int .u64 x, .int .u64 y, .int .u64 c] w fun e w' => e = .returned (.tuple #[.int .u64 (divQ H low c), .bool true]) ∧ w = w' := by
  have hP := fun w => product x y w hx hy
  rw [eH.out, el.out] at hP
  clear eH el
  have hc0 : ((c : Int) == 0) = false := by simp; omega
  have I0 := Lib.hid (inv_start H low c hH hl)
  go_enter Try.func21, Try.ntmps21
  go_wp2_with (go_at_call 24; refine (hP _).mono ?_; rintro e w' ⟨rfl, rfl⟩)
  clear hP
  go_loopg [8, 10, 11] 64 (fun g s8 s10 s11 wx => w = wx ∧ ∃ j r o : Nat, j ≤ 64 ∧ s8 = .int .u64 r ∧ s10 = .int .u64 o ∧ s11 = .int .i64 ((j : Int) - 1) ∧ j = g ∧ Hid (Inv H low c j r o))
  case atStart => exact ⟨rfl, 64, H, 0, by omega, rfl, rfl, rfl, rfl, I0⟩
  case round =>
    obtain ⟨rfl, j, r, o, hj, rfl, rfl, rfl, rfl, hI⟩ := hrel
    clear I0
    by_cases hz : j = 0
    · subst hz
      have hE := Lib.hid (inv_end H low c r o hI.out)
      rw [show (((0 : Nat) : Int) - 1) = -1 from rfl]
      go_wp2
      go_ret2
      exact ⟨by rw [hE.out]; rfl, rfl⟩
    · obtain ⟨m, rfl⟩ : ∃ m, j = m + 1 := ⟨j - 1, by omega⟩
      rw [show (((m + 1 : Nat) : Int) - 1) = (m : Int) by omega]
      have hm : m ≤ 63 := by omega
      have hr := hI.out.2.1
      have ho := inv_bounds H low c m r o hm hI.out
      have hb : low / 2 ^ m < 18446744073709551616 := Nat.lt_of_le_of_lt (Nat.div_le_self _ _) hl
      obtain ⟨bit, eb⟩ : ∃ bit, low / 2 ^ m % 2 = bit := ⟨_, rfl⟩
      have hb2 : bit < 2 := by omega
      obtain ⟨cy, ec⟩ : ∃ cy, r / 9223372036854775808 = cy := ⟨_, rfl⟩
      have rA : (r : Int) / 9223372036854775808 = (cy : Int) := by omega
      have rB : bits .and .u64 ((low : Int) / 2 ^ m) 1 = (bit : Int) := by
        rw [← eb, ← wbit _ hb]; simp
      have rC : bits .or .u64 (IntKind.u64.wrap ((r : Int) * 2)) (bit : Int) = ((r * 2 % 18446744073709551616 + bit : Nat) : Int) := by
        rw [← wor1 _ _ hb2, ← wrapMod]; simp
      obtain ⟨rr, er⟩ : ∃ rr, r * 2 % 18446744073709551616 + bit = rr := ⟨_, rfl⟩
      rw [er] at rC
      have rC0 : r < 9223372036854775808 → bits .or .u64 ((r : Int) * 2) (bit : Int) = (rr : Int) := fun h => by
        rw [← rC, show (r : Int) * 2 = ((r * 2 : Nat) : Int) by omega, wrapFit _ (by omega)]
      have rE : bits .or .u64 ((o : Int) * 2) 1 = (o : Int) * 2 + 1 := by
        have := wor1 o 1 (by omega)
        rw [show o * 2 % 18446744073709551616 = o * 2 by omega] at this
        simpa using this
      by_cases hs : c ≤ 2 * r + bit
      · have hn := Lib.hid (inv_yes H low c m r o hm hI.out (by rw [eb]; exact hs))
        rw [eb] at hn
        have rF : IntKind.u64.wrap ((rr : Int) - (c : Int)) = ((2 * r + bit - c : Nat) : Int) := by rw [IntKind.wrap_u64]; omega
        have hcy : cy = 0 ∨ cy = 1 := by omega
        rcases hcy with hcy | hcy
        · subst hcy
          have rC1 := rC0 (by omega)
          have h1 : c ≤ rr := by omega
          have rF' : (rr : Int) - (c : Int) = ((2 * r + bit - c : Nat) : Int) := by omega
          clear hs ec er eb hr hb rC rC0 rF
          go_wp2
          go_roundg m
          case measure => omega
          case rel => exact ⟨rfl, m, 2 * r + bit - c, o * 2 + 1, by omega, by first | rfl | go_num, by first | rfl | go_num, by first | rfl | go_num, rfl, hn⟩
        · subst hcy
          clear rC0
          clear hs ec er eb hr hb
          go_wp2
          go_roundg m
          case measure => omega
          case rel => exact ⟨rfl, m, 2 * r + bit - c, o * 2 + 1, by omega, by first | rfl | go_num, by first | rfl | go_num, by first | rfl | go_num, rfl, hn⟩
      · have hn := Lib.hid (inv_no H low c m r o hm hI.out (by rw [eb]; omega))
        rw [eb] at hn
        obtain rfl : cy = 0 := by omega
        have rC1 := rC0 (by omega)
        clear rC rC0
        have e2 : 2 * r + bit = rr := by omega
        rw [e2] at hn hs
        have h1 : rr < c := by omega
        clear e2
        clear hs ec er eb hr hb
        go_wp2
        go_roundg m
        case measure => omega
        case rel => exact ⟨rfl, m, rr, o * 2, by omega, by first | rfl | go_num, by first | rfl | go_num, by first | rfl | go_num, rfl, hn⟩

theorem ref_muldiv (a b c : Int) (w : World) (ha : W64 a) (hb : W64 b) (hc : W64 c) :
    Calls Try.prog 21 #[.int .u64 a, .int .u64 b, .int .u64 c] w fun e w' => e = .returned (.tuple #[.int .u64 (mdV a b c), .bool (mdB a b c)]) ∧ w = w' := by
  obtain ⟨a0, a1⟩ := ha; obtain ⟨b0, b1⟩ := hb; obtain ⟨c0, c1⟩ := hc
  obtain ⟨x, rfl⟩ := Int.eq_ofNat_of_zero_le a0
  obtain ⟨y, rfl⟩ := Int.eq_ofNat_of_zero_le b0
  obtain ⟨z, rfl⟩ := Int.eq_ofNat_of_zero_le c0
  have hr := Nat.mod_lt (x * y) (show 0 < 18446744073709551616 by omega)
  by_cases h : x * y / 18446744073709551616 < z
  · obtain ⟨e2, e1⟩ := md_of x y z h
    rw [e1, e2]
    exact refmd_yes x y z _ _ w (by omega) (by omega) (by omega) h hr (Lib.hid rfl) (Lib.hid rfl)
  · obtain ⟨e2, e1⟩ := md_no x y z (by omega)
    rw [e1, e2]
    clear e1 e2
    have hP := fun w => product x y w (by omega) (by omega)
    generalize x * y / 18446744073709551616 = p at *
    generalize x * y % 18446744073709551616 = r at *
    have h' : (z : Int) ≤ (p : Int) := by omega
    have hb' : decide ((z : Int) ≤ (p : Int)) = true := decide_eq_true h'
    by_cases hz : z = 0
    · subst hz
      go_enter Try.func21, Try.ntmps21
      go_wp2_with (go_at_call 24; refine (hP _).mono ?_; rintro e w' ⟨rfl, rfl⟩)
      go_ret2
      exact ⟨rfl, rfl⟩
    · have hc0 : ((z : Int) == 0) = false := by simp; omega
      go_enter Try.func21, Try.ntmps21
      go_wp2_with (go_at_call 24; refine (hP _).mono ?_; rintro e w' ⟨rfl, rfl⟩)
      go_ret2
      exact ⟨rfl, rfl⟩

end Go.Proofs.Ytkjlbibjdhjocaa
