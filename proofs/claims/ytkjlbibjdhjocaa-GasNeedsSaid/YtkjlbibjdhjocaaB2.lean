/-
  math/bits.Div64 returns the quotient and the remainder of hi * 2^64 + lo by y, for all numbers of 64 bits with hi < y.
  Conditions: hi < y, and all three are numbers of 64 bits.
-/
import Derived.Test.YtkjlbibjdhjocaaAr
import Derived.Test.YtkjlbibjdhjocaaB1
import Derived.Deep.DeepCutAuto
import Derived.Deep.LoopGhost
import Derived.Deep.QuietTactic
import Derived.BigQuiet
import Derived.Outline
import Derived.Deep.CutBlock
import Derived.Lib.Hide
namespace Go.Proofs.Ytkjlbibjdhjocaa
set_option maxRecDepth 100000
open Go.RowKit

theorem Ar.val1' (q : Nat) (h : 1 ≤ q) : Value.int IntKind.u64 ((q : Int) - 1) = Value.int IntKind.u64 ((q - 1 : Nat) : Int) := by
  rw [show ((q - 1 : Nat) : Int) = (q : Int) - 1 by omega]
theorem Ar.val1 (q p : Nat) (h : 1 ≤ q) (e : q - 1 = p) : Value.int IntKind.u64 ((q : Int) - 1) = Value.int IntKind.u64 (p : Int) := by
  subst e
  exact Ar.val1' q h

set_option maxHeartbeats 4000000 in
set_option maxRecDepth 100000 in
/-- The walk of Div64 behind its first tests, over numbers under names: the divisor V shifted up, its halves y1 and y0; the dividend's high part u, its low digits l1 and l0; the digits q1 and q0. -/
theorem div_walk (hi lo y V y1 y0 u l l1 l0 qa ra q1 u2 qb rb q0 R1 R : Nat) (w : World) (h : 0 < hi) (hlt : hi < y) (_h1 : lo < 18446744073709551616) (h2 : y < 18446744073709551616)
    (z1 : lz y ≤ 63) (b1 : 2147483648 ≤ y1) (b1' : y1 < 4294967296) (b0 : y0 < 4294967296) (bll1 : l1 < 4294967296) (bll0 : l0 < 4294967296) (_bu0 : u < 18446744073709551616) (_bu20 : u2 < 18446744073709551616)
    (bu : Hid (u < y1 * 4294967296 + y0)) (bu2 : Hid (u2 < y1 * 4294967296 + y0)) (bq1 : q1 < 4294967296) (bq0 : q0 < 4294967296)
    (eq1 : Hid (q1 = (u * 4294967296 + l1) / (y1 * 4294967296 + y0))) (eq0 : Hid (q0 = (u2 * 4294967296 + l0) / (y1 * 4294967296 + y0)))
    (eqa : Hid (Ar.Est u l1 y1 y0 qa ra)) (eqb : Hid (Ar.Est u2 l0 y1 y0 qb rb))
    (rV : IntKind.u64.wrap ((y : Int) * 2 ^ lz y) = (V : Int)) (r9 : (V : Int) / 4294967296 = (y1 : Int)) (r10 : bits .and .u64 (V : Int) 4294967295 = (y0 : Int))
    (r11 : bits .or .u64 (IntKind.u64.wrap ((hi : Int) * 2 ^ lz y)) ((lo : Int) / 2 ^ (64 - lz y)) = (u : Int))
    (r12 : IntKind.u64.wrap ((lo : Int) * 2 ^ lz y) = (l : Int)) (r13 : (l : Int) / 4294967296 = (l1 : Int)) (r14 : bits .and .u64 (l : Int) 4294967295 = (l0 : Int))
    (ra1 : IntKind.u64.wrap ((u : Int) / (y1 : Int)) = (qa : Int)) (ra2 : IntKind.u64.wrap ((u : Int) - IntKind.u64.wrap ((qa : Int) * (y1 : Int))) = (ra : Int))
    (ru2 : Hid (IntKind.u64.wrap (IntKind.u64.wrap (IntKind.u64.wrap ((u : Int) * 4294967296) + (l1 : Int)) - IntKind.u64.wrap ((q1 : Int) * (V : Int))) = (u2 : Int)))
    (rb1 : Hid (IntKind.u64.wrap ((u2 : Int) / (y1 : Int)) = (qb : Int))) (rb2 : Hid (IntKind.u64.wrap ((u2 : Int) - IntKind.u64.wrap ((qb : Int) * (y1 : Int))) = (rb : Int)))
    (rR : Hid (IntKind.u64.wrap (IntKind.u64.wrap (IntKind.u64.wrap ((u2 : Int) * 4294967296) + (l0 : Int)) - IntKind.u64.wrap ((q0 : Int) * (V : Int))) = (R1 : Int))) (rR1 : Hid ((R1 : Int) / 2 ^ lz y = (R : Int))) :
    Calls Try.prog 23 #[.int .u64 hi, .int .u64 lo, .int .u64 y] w fun e w' => e = .returned (.tuple #[.int .u64 ((q1 * 4294967296 + q0 : Nat) : Int), .int .u64 (R : Int)]) ∧ w = w' := by
  have hy : ((y : Int) == 0) = false := by simp; omega
  have hh : ((hi : Int) == 0) = false := by simp; omega
  have hy1 : ((y1 : Int) == 0) = false := by simp; omega
  go_enter Try.func23, Try.ntmps23
  go_upto_block 0 with (go_at_call 25; refine (lz64 y _ (by omega) h2).mono ?_; rintro e w' ⟨rfl, rfl⟩)
  clear rV r9 r10 r11 r12 r13 r14 ra1 ra2
  go_cut [15] (fun s15 wx => w = wx ∧ s15 = .int .u64 q1)
  case first =>
    go_wp2_with fail
    go_loopg [15, 16] qa (fun g s15 s16 wx => w = wx ∧ ∃ q r : Nat, s15 = .int .u64 q ∧ s16 = .int .u64 r ∧ q = g ∧ Hid (Ar.Est u l1 y1 y0 q r))
    case atStart => exact ⟨rfl, qa, ra, rfl, rfl, rfl, eqa⟩
    case round =>
      obtain ⟨rfl, q, r, rfl, rfl, rfl, he⟩ := hrel
      have ha : (q : Int) ≤ 4294967297 := by have := he.out.2.2.1; omega
      have hb : (r : Int) < 4294967296 := by have := he.out.2.2.2; omega
      have hm : (q : Int) < 4294967296 → (q : Int) * (y0 : Int) ≤ 18446744065119617025 := fun hq => (Ar.mul_le q y0 (by omega) (by omega)).1
      have hm0 : (0 : Int) ≤ (q : Int) * (y0 : Int) := Int.mul_nonneg (by omega) (by omega)
      by_cases ht : 4294967296 ≤ q ∨ 4294967296 * r + l1 < q * y0
      · obtain ⟨s1, s2, s3, s4⟩ := Ar.est_step u l1 y1 y0 q r b1 bu.out bll1 he.out ht
        by_cases hB : 4294967296 ≤ r + y1
        · have hf := Lib.hid (Ar.est_exitB u l1 y1 y0 (q - 1) (r + y1) b1 b0 s2 s3 s4 hB)
          have hB' : (4294967296 : Int) ≤ (r : Int) + (y1 : Int) := by omega
          have hbB : decide ((4294967296 : Int) ≤ (r : Int) + (y1 : Int)) = true := decide_eq_true hB'
          clear s2 s3 s4 hB
          by_cases hq : 4294967296 ≤ q
          · have hq' : (4294967296 : Int) ≤ (q : Int) := by omega
            clear hm ht hq
            go_wp2
            go_meet
            exact ⟨rfl, Ar.val1 q q1 s1 (by rw [eq1.out, hf.out])⟩
          · have hm' := hm (by omega)
            have hq' : (q : Int) < (4294967296 : Int) := by omega
            have ht' : 4294967296 * (r : Int) + (l1 : Int) < (q : Int) * (y0 : Int) := Ar.cast_lt r l1 q y0 (ht.resolve_left hq)
            obtain ⟨P, hP⟩ : ∃ P : Int, (q : Int) * (y0 : Int) = P := ⟨_, rfl⟩
            rw [hP] at ht' hm' hm0
            obtain ⟨M, hM⟩ : ∃ M : Int, 4294967296 * (r : Int) = M := ⟨_, rfl⟩
            have hM0 : 0 ≤ M ∧ M ≤ 18446744069414584320 := by omega
            rw [hM] at ht'
            have hbq : decide ((4294967296 : Int) ≤ (q : Int)) = false := decide_eq_false (by omega)
            have hbP : decide (M + (l1 : Int) < P) = true := decide_eq_true (by omega)
            clear hm ht hq
            go_wp2
            go_meet
            exact ⟨rfl, Ar.val1 q q1 s1 (by rw [eq1.out, hf.out])⟩
        · have hn : Hid (Ar.Est u l1 y1 y0 (q - 1) (r + y1)) := Lib.hid ⟨s2, s3, by omega, by omega⟩
          have hB' : (r : Int) + (y1 : Int) < (4294967296 : Int) := by omega
          have hbB : decide ((4294967296 : Int) ≤ (r : Int) + (y1 : Int)) = false := decide_eq_false (by omega)
          clear s2 s3 s4 hB
          by_cases hq : 4294967296 ≤ q
          · have hq' : (4294967296 : Int) ≤ (q : Int) := by omega
            clear hm ht hq
            go_wp2
            go_roundg (q - 1)
            case measure => omega
            case rel => exact ⟨rfl, q - 1, r + y1, Ar.val1' q s1, by first | rfl | go_num, rfl, hn⟩
          · have hm' := hm (by omega)
            have hq' : (q : Int) < (4294967296 : Int) := by omega
            have ht' : 4294967296 * (r : Int) + (l1 : Int) < (q : Int) * (y0 : Int) := Ar.cast_lt r l1 q y0 (ht.resolve_left hq)
            obtain ⟨P, hP⟩ : ∃ P : Int, (q : Int) * (y0 : Int) = P := ⟨_, rfl⟩
            rw [hP] at ht' hm' hm0
            obtain ⟨M, hM⟩ : ∃ M : Int, 4294967296 * (r : Int) = M := ⟨_, rfl⟩
            have hM0 : 0 ≤ M ∧ M ≤ 18446744069414584320 := by omega
            rw [hM] at ht'
            have hbq : decide ((4294967296 : Int) ≤ (q : Int)) = false := decide_eq_false (by omega)
            have hbP : decide (M + (l1 : Int) < P) = true := decide_eq_true (by omega)
            clear hm ht hq
            go_wp2
            go_roundg (q - 1)
            case measure => omega
            case rel => exact ⟨rfl, q - 1, r + y1, Ar.val1' q s1, by first | rfl | go_num, rfl, hn⟩
      · have hq : q < 4294967296 := by omega
        have hm' := hm (by omega)
        have hq' : (q : Int) < (4294967296 : Int) := by omega
        have ht' : (q : Int) * (y0 : Int) ≤ 4294967296 * (r : Int) + (l1 : Int) := Ar.cast_le r l1 q y0 (by omega)
        have hf := Lib.hid (Ar.est_exitA u l1 y1 y0 q r b1 he.out (by omega))
        obtain ⟨P, hP⟩ : ∃ P : Int, (q : Int) * (y0 : Int) = P := ⟨_, rfl⟩
        rw [hP] at ht' hm' hm0
        obtain ⟨M, hM⟩ : ∃ M : Int, 4294967296 * (r : Int) = M := ⟨_, rfl⟩
        have hM0 : 0 ≤ M ∧ M ≤ 18446744069414584320 := by omega
        rw [hM] at ht'
        have hbq : decide ((4294967296 : Int) ≤ (q : Int)) = false := decide_eq_false (by omega)
        have hbP : decide (M + (l1 : Int) < P) = false := decide_eq_false (by omega)
        clear hm ht hq
        go_wp2
        go_meet
        exact ⟨rfl, by rw [eq1.out, hf.out]⟩
  case rest =>
    obtain ⟨rfl, rfl⟩ := hcut
    have r1 := ru2.out
    have r2 := rb1.out
    have r3 := rb2.out
    go_upto_block 2 with fail
    clear r1 r2 r3
    go_cut [18] (fun s18 wx => w = wx ∧ s18 = .int .u64 q0)
    case first =>
      go_wp2_with fail
      go_loopg [18, 16] qb (fun g s18 s16 wx => w = wx ∧ ∃ q r : Nat, s18 = .int .u64 q ∧ s16 = .int .u64 r ∧ q = g ∧ Hid (Ar.Est u2 l0 y1 y0 q r))
      case atStart => exact ⟨rfl, qb, rb, rfl, rfl, rfl, eqb⟩
      case round =>
        obtain ⟨rfl, q, r, rfl, rfl, rfl, he⟩ := hrel
        have ha : (q : Int) ≤ 4294967297 := by have := he.out.2.2.1; omega
        have hb : (r : Int) < 4294967296 := by have := he.out.2.2.2; omega
        have hm : (q : Int) < 4294967296 → (q : Int) * (y0 : Int) ≤ 18446744065119617025 := fun hq => (Ar.mul_le q y0 (by omega) (by omega)).1
        have hm0 : (0 : Int) ≤ (q : Int) * (y0 : Int) := Int.mul_nonneg (by omega) (by omega)
        by_cases ht : 4294967296 ≤ q ∨ 4294967296 * r + l0 < q * y0
        · obtain ⟨s1, s2, s3, s4⟩ := Ar.est_step u2 l0 y1 y0 q r b1 bu2.out bll0 he.out ht
          by_cases hB : 4294967296 ≤ r + y1
          · have hf := Lib.hid (Ar.est_exitB u2 l0 y1 y0 (q - 1) (r + y1) b1 b0 s2 s3 s4 hB)
            have hB' : (4294967296 : Int) ≤ (r : Int) + (y1 : Int) := by omega
            have hbB : decide ((4294967296 : Int) ≤ (r : Int) + (y1 : Int)) = true := decide_eq_true hB'
            clear s2 s3 s4 hB
            by_cases hq : 4294967296 ≤ q
            · have hq' : (4294967296 : Int) ≤ (q : Int) := by omega
              clear hm ht hq
              go_wp2
              go_meet
              exact ⟨rfl, Ar.val1 q q0 s1 (by rw [eq0.out, hf.out])⟩
            · have hm' := hm (by omega)
              have hq' : (q : Int) < (4294967296 : Int) := by omega
              have ht' : 4294967296 * (r : Int) + (l0 : Int) < (q : Int) * (y0 : Int) := Ar.cast_lt r l0 q y0 (ht.resolve_left hq)
              obtain ⟨P, hP⟩ : ∃ P : Int, (q : Int) * (y0 : Int) = P := ⟨_, rfl⟩
              rw [hP] at ht' hm' hm0
              obtain ⟨M, hM⟩ : ∃ M : Int, 4294967296 * (r : Int) = M := ⟨_, rfl⟩
              have hM0 : 0 ≤ M ∧ M ≤ 18446744069414584320 := by omega
              rw [hM] at ht'
              have hbq : decide ((4294967296 : Int) ≤ (q : Int)) = false := decide_eq_false (by omega)
              have hbP : decide (M + (l0 : Int) < P) = true := decide_eq_true (by omega)
              clear hm ht hq
              go_wp2
              go_meet
              exact ⟨rfl, Ar.val1 q q0 s1 (by rw [eq0.out, hf.out])⟩
          · have hn : Hid (Ar.Est u2 l0 y1 y0 (q - 1) (r + y1)) := Lib.hid ⟨s2, s3, by omega, by omega⟩
            have hB' : (r : Int) + (y1 : Int) < (4294967296 : Int) := by omega
            have hbB : decide ((4294967296 : Int) ≤ (r : Int) + (y1 : Int)) = false := decide_eq_false (by omega)
            clear s2 s3 s4 hB
            by_cases hq : 4294967296 ≤ q
            · have hq' : (4294967296 : Int) ≤ (q : Int) := by omega
              clear hm ht hq
              go_wp2
              go_roundg (q - 1)
              case measure => omega
              case rel => exact ⟨rfl, q - 1, r + y1, Ar.val1' q s1, by first | rfl | go_num, rfl, hn⟩
            · have hm' := hm (by omega)
              have hq' : (q : Int) < (4294967296 : Int) := by omega
              have ht' : 4294967296 * (r : Int) + (l0 : Int) < (q : Int) * (y0 : Int) := Ar.cast_lt r l0 q y0 (ht.resolve_left hq)
              obtain ⟨P, hP⟩ : ∃ P : Int, (q : Int) * (y0 : Int) = P := ⟨_, rfl⟩
              rw [hP] at ht' hm' hm0
              obtain ⟨M, hM⟩ : ∃ M : Int, 4294967296 * (r : Int) = M := ⟨_, rfl⟩
              have hM0 : 0 ≤ M ∧ M ≤ 18446744069414584320 := by omega
              rw [hM] at ht'
              have hbq : decide ((4294967296 : Int) ≤ (q : Int)) = false := decide_eq_false (by omega)
              have hbP : decide (M + (l0 : Int) < P) = true := decide_eq_true (by omega)
              clear hm ht hq
              go_wp2
              go_roundg (q - 1)
              case measure => omega
              case rel => exact ⟨rfl, q - 1, r + y1, Ar.val1' q s1, by first | rfl | go_num, rfl, hn⟩
        · have hq : q < 4294967296 := by omega
          have hm' := hm (by omega)
          have hq' : (q : Int) < (4294967296 : Int) := by omega
          have ht' : (q : Int) * (y0 : Int) ≤ 4294967296 * (r : Int) + (l0 : Int) := Ar.cast_le r l0 q y0 (by omega)
          have hf := Lib.hid (Ar.est_exitA u2 l0 y1 y0 q r b1 he.out (by omega))
          obtain ⟨P, hP⟩ : ∃ P : Int, (q : Int) * (y0 : Int) = P := ⟨_, rfl⟩
          rw [hP] at ht' hm' hm0
          obtain ⟨M, hM⟩ : ∃ M : Int, 4294967296 * (r : Int) = M := ⟨_, rfl⟩
          have hM0 : 0 ≤ M ∧ M ≤ 18446744069414584320 := by omega
          rw [hM] at ht'
          have hbq : decide ((4294967296 : Int) ≤ (q : Int)) = false := decide_eq_false (by omega)
          have hbP : decide (M + (l0 : Int) < P) = false := decide_eq_false (by omega)
          clear hm ht hq
          go_wp2
          go_meet
          exact ⟨rfl, by rw [eq0.out, hf.out]⟩
    case rest =>
      obtain ⟨rfl, rfl⟩ := hcut
      have r4 := rR.out
      have r5 := rR1.out
      go_wp2
      go_ret2
      exact ⟨by simp, rfl⟩

def divQ (hi lo y : Nat) : Nat := (hi * 18446744073709551616 + lo) / y
def divR (hi lo y : Nat) : Nat := (hi * 18446744073709551616 + lo) % y

set_option maxHeartbeats 1000000 in
theorem div64_0 (lo y : Nat) (w : World) (h1 : lo < 18446744073709551616) (h2 : y < 18446744073709551616) (h0 : 0 < y) :
    Calls Try.prog 23 #[.int .u64 0, .int .u64 lo, .int .u64 y] w fun e w' => e = .returned (.tuple #[.int .u64 (divQ 0 lo y), .int .u64 (divR 0 lo y)]) ∧ ∃ n, w' = w.drewN n := by
  have hy : ((y : Int) == 0) = false := by simp; omega
  have rq : IntKind.u64.wrap ((lo : Int) / (y : Int)) = ((lo / y : Nat) : Int) := by rw [← Int.natCast_ediv]; exact wrapFit _ (Nat.lt_of_le_of_lt (Nat.div_le_self lo y) h1)
  have eQ : divQ 0 lo y = lo / y := by simp [divQ]
  have eR : divR 0 lo y = lo % y := by simp [divR]
  rw [eQ, eR]
  clear eQ eR
  go_enter Try.func23, Try.ntmps23
  go_wp2
  go_quiet (fail)
  go_wp2
  go_ret2
  exact ⟨by simp, _, rfl⟩

theorem wdiv (u y1 : Nat) (hu : u < 18446744073709551616) : IntKind.u64.wrap ((u : Int) / (y1 : Int)) = ((u / y1 : Nat) : Int) := by
  rw [← Int.natCast_ediv]; exact wrapFit _ (Nat.lt_of_le_of_lt (Nat.div_le_self u y1) hu)
theorem wrem (u y1 : Nat) (hu : u < 18446744073709551616) : IntKind.u64.wrap ((u : Int) - IntKind.u64.wrap (((u / y1 : Nat) : Int) * (y1 : Int))) = ((u % y1 : Nat) : Int) := by
  have h := Nat.div_add_mod' u y1
  rw [castMul, wrapFit _ (by omega), IntKind.wrap_u64]
  omega
theorem wrest (u d V q b : Nat) (h : (((u * 4294967296 % 18446744073709551616 + d) % 18446744073709551616 : Nat) - ((q * V % 18446744073709551616 : Nat) : Int)) % 18446744073709551616 = (b : Int)) :
    IntKind.u64.wrap (IntKind.u64.wrap (IntKind.u64.wrap ((u : Int) * 4294967296) + (d : Int)) - IntKind.u64.wrap ((q : Int) * (V : Int))) = (b : Int) := by
  rw [show (u : Int) * 4294967296 = ((u * 4294967296 : Nat) : Int) by omega, wrapMod, castAdd, wrapMod, castMul, wrapMod, IntKind.wrap_u64]
  exact h

theorem or_add (a b s : Nat) (hb : b < 2 ^ s) : a * 2 ^ s ||| b = a * 2 ^ s + b := by
  rw [Nat.mul_comm, Nat.two_pow_add_eq_or_of_lt hb]

set_option maxHeartbeats 1000000 in
theorem div64_1 (hi lo y : Nat) (w : World) (h : 0 < hi) (hlt : hi < y) (h1 : lo < 18446744073709551616) (h2 : y < 18446744073709551616) :
    Calls Try.prog 23 #[.int .u64 hi, .int .u64 lo, .int .u64 y] w fun e w' => e = .returned (.tuple #[.int .u64 (divQ hi lo y), .int .u64 (divR hi lo y)]) ∧ w = w' := by
  obtain ⟨z1, _, z3, z4⟩ := lz_bounds y (by omega) h2
  have c1 := Ar.shifted hi lo (lz y) z1 h1
  have c2 := Ar.shifted_lt hi lo y (lz y) z1 h1 hlt
  have c3 := Nat.two_pow_pos (lz y)
  have e0 : (18446744073709551616 : Nat) = 2 ^ lz y * 2 ^ (64 - lz y) := by
    rw [← Nat.pow_add, show lz y + (64 - lz y) = 64 by omega]
  have c4 : lo / 2 ^ (64 - lz y) < 2 ^ lz y := by
    rw [Nat.div_lt_iff_lt_mul (Nat.two_pow_pos _), ← e0]
    exact h1
  clear e0
  have dl := Nat.mod_lt (lo * 2 ^ lz y) (show 0 < 18446744073709551616 by omega)
  have c5 : hi * 2 ^ lz y + lo / 2 ^ (64 - lz y) < 18446744073709551616 := Nat.lt_trans c2 z4
  have r11 : bits .or .u64 (IntKind.u64.wrap ((hi : Int) * 2 ^ lz y)) ((lo : Int) / 2 ^ (64 - lz y)) = ((hi * 2 ^ lz y + lo / 2 ^ (64 - lz y) : Nat) : Int) := by
    have a1 : IntKind.u64.wrap ((hi : Int) * 2 ^ lz y) = ((hi * 2 ^ lz y : Nat) : Int) := by
      rw [← wrapFit (hi * 2 ^ lz y) (Nat.lt_of_le_of_lt (Nat.le_add_right _ _) c5)]; simp
    have a2 : ((lo : Int) / 2 ^ (64 - lz y)) = ((lo / 2 ^ (64 - lz y) : Nat) : Int) := by simp
    rw [a1, a2, bits_or_u64_nat _ _ (Nat.lt_of_le_of_lt (Nat.le_add_right _ _) c5) (Nat.lt_of_le_of_lt (Nat.le_add_left _ _) c5), or_add _ _ _ c4]
  have rV : IntKind.u64.wrap ((y : Int) * 2 ^ lz y) = ((y * 2 ^ lz y : Nat) : Int) := by
    rw [← wrapFit (y * 2 ^ lz y) z4]; simp
  have r12 : IntKind.u64.wrap ((lo : Int) * 2 ^ lz y) = ((lo * 2 ^ lz y % 18446744073709551616 : Nat) : Int) := by
    rw [← wrapMod (lo * 2 ^ lz y)]; simp
  have rR1 : ∀ n : Nat, ((n : Int) / 2 ^ lz y) = ((n / 2 ^ lz y : Nat) : Int) := fun n => by simp
  have T := Ar.two_digits (hi * 18446744073709551616 + lo) (2 ^ lz y) y (hi * 2 ^ lz y + lo / 2 ^ (64 - lz y)) (lo * 2 ^ lz y % 18446744073709551616 / 4294967296) (lo * 2 ^ lz y % 18446744073709551616 % 4294967296) c3 (by omega)
    (by rw [c1, Nat.div_add_mod'])
  change _ = divQ hi lo y ∧ _ = divR hi lo y at T
  rw [← T.1, ← T.2]
  clear T c1
  generalize hi * 2 ^ lz y + lo / 2 ^ (64 - lz y) = u at *
  generalize lo * 2 ^ lz y % 18446744073709551616 = l at *
  generalize y * 2 ^ lz y = V at *
  have eV : V / 4294967296 * 4294967296 + V % 4294967296 = V := Nat.div_add_mod' V 4294967296
  have f1 : 2147483648 ≤ V / 4294967296 := by omega
  have f2 : V / 4294967296 < 4294967296 := by omega
  have f3 : V % 4294967296 < 4294967296 := by omega
  have g1 : l / 4294967296 < 4294967296 := by omega
  have g0 : l % 4294967296 < 4294967296 := by omega
  have hV0 : 0 < V := by omega
  have k2 := Nat.mod_lt (u * 4294967296 + l / 4294967296) hV0
  have k1 := Ar.lt_digit u (l / 4294967296) V c2 g1
  have k0 := Ar.lt_digit ((u * 4294967296 + l / 4294967296) % V) (l % 4294967296) V k2 g0
  have m1 := Ar.rest_wrap u (l / 4294967296) V hV0 z4
  have m0 := Ar.rest_wrap ((u * 4294967296 + l / 4294967296) % V) (l % 4294967296) V hV0 z4
  refine div_walk hi lo y V (V / 4294967296) (V % 4294967296) u l (l / 4294967296) (l % 4294967296) (u / (V / 4294967296)) (u % (V / 4294967296)) ((u * 4294967296 + l / 4294967296) / V) ((u * 4294967296 + l / 4294967296) % V)
    ((u * 4294967296 + l / 4294967296) % V / (V / 4294967296)) ((u * 4294967296 + l / 4294967296) % V % (V / 4294967296)) (((u * 4294967296 + l / 4294967296) % V * 4294967296 + l % 4294967296) / V)
    (((u * 4294967296 + l / 4294967296) % V * 4294967296 + l % 4294967296) % V) (((u * 4294967296 + l / 4294967296) % V * 4294967296 + l % 4294967296) % V / 2 ^ lz y) w h hlt h1 h2 z1 f1 f2 f3 g1 g0 c5 (Nat.lt_trans k2 z4)
    (by rw [eV]; exact Lib.hid c2) (by rw [eV]; exact Lib.hid k2) k1 k0 (by rw [eV]; exact Lib.hid rfl) (by rw [eV]; exact Lib.hid rfl)
    (Lib.hid (Ar.est_start _ _ _ _ f1 f2 f3 g1 (by rw [eV]; exact c2))) (Lib.hid (Ar.est_start _ _ _ _ f1 f2 f3 g0 (by rw [eV]; exact k2)))
    rV (by omega) (castLow V z4) r11 r12 (by omega) (castLow l dl) ?_ ?_ ?_ ?_ ?_ ?_ ?_
  · exact wdiv u _ (Nat.lt_trans c2 z4)
  · exact wrem u _ (Nat.lt_trans c2 z4)
  · exact Lib.hid (wrest u _ V _ _ m1)
  · exact Lib.hid (wdiv _ _ (Nat.lt_trans k2 z4))
  · exact Lib.hid (wrem _ _ (Nat.lt_trans k2 z4))
  · exact Lib.hid (wrest _ _ V _ _ m0)
  · exact Lib.hid (rR1 _)

/-- math/bits.Div64. -/
theorem div64 (hi lo y : Nat) (w : World) (hlt : hi < y) (h1 : lo < 18446744073709551616) (h2 : y < 18446744073709551616) :
    Calls Try.prog 23 #[.int .u64 hi, .int .u64 lo, .int .u64 y] w fun e w' => e = .returned (.tuple #[.int .u64 (divQ hi lo y), .int .u64 (divR hi lo y)]) ∧ ∃ n, w' = w.drewN n := by
  by_cases h : hi = 0
  · subst h
    exact div64_0 lo y w h1 h2 hlt
  · exact (div64_1 hi lo y w (by omega) hlt h1 h2).mono fun e w' ⟨he, hw⟩ => ⟨he, 0, hw ▸ rfl⟩
#print axioms div64
end Go.Proofs.Ytkjlbibjdhjocaa
