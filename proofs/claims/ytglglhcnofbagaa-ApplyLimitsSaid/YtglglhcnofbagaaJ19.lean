/-
  math/bits.Div64 returns the quotient and the remainder of hi * 2^64 + lo by y, for all numbers of 64 bits with hi < y.
 Conditions: hi < y, and all three are numbers of 64 bits. The contracts of Add, Sub and Mul of package money and of its reference: each returns the exact value, or 0 and false.
 Conditions: the arguments are numbers of 64 bits. The contracts of MulDiv of package money and of its reference, of the reference's Mul and of its product of 128 bits: the exact value, or 0 and false.
 Conditions: the arguments are numbers of 64 bits. The contracts of gas.Used, gas.Need and gas.Priority and of their references, and of the statements' Place.
 Conditions: numbers of 64 bits. The effect of a transaction as plain data; what it keeps: the total, the order, the names, the sequences of others.
-/
import Derived.Test.YtglglhcnofbagaaJ18
import Derived.Deep.DeepCutAuto
import Derived.Deep.LoopGhost
import Derived.Deep.QuietTactic
import Derived.BigQuiet
import Derived.Outline
import Derived.Deep.CutBlock
import Derived.Lib.Hide
import Derived.Test.YtglglhcnofbagaaJ4
import Derived.Laws.Tables
import Derived.Lib.SmallJoins
namespace Go.Proofs.Ytglglhcnofbagaa.Mo
set_option maxRecDepth 100000
open Go.RowKit

theorem Ar.val1' (q : Nat) (h : 1 ≤ q) : Value.int IntKind.u64 ((q : Int) - 1) = Value.int IntKind.u64 ((q - 1 : Nat) : Int) := by
 rw [show ((q - 1 : Nat) : Int) = (q : Int) - 1 by omega]
theorem Ar.val1 (q p : Nat) (h : 1 ≤ q) (e : q - 1 = p) : Value.int IntKind.u64 ((q : Int) - 1) = Value.int IntKind.u64 (p : Int) := by
 subst e
 exact Ar.val1' q h

set_option maxHeartbeats 4000000 in
set_option maxRecDepth 100000 in
/-- The walk of Div64 behind its first tests, over numbers under names: the divisor V shifted up, its halves y1 and y0; the dividend's high part u, its low digits l1 and l0; the digits q1 and q0. -/
theorem div_walk (hi lo y V y1 y0 u l l1 l0 qa ra q1 u2 qb rb q0 R1 R : Nat) (w : World) (h : 0 < hi) (hlt : hi < y) (_h1 : lo < 18446744073709551616) (h2 : y < 18446744073709551616)
  (z1 : lz y ≤ 63) (b1 : 2147483648 ≤ y1) (b1' : y1 < 4294967296) (b0 : y0 < 4294967296) (bll1 : l1 < 4294967296) (bll0 : l0 < 4294967296) (_bu0 : u < 18446744073709551616) (_bu20 : u2 < 18446744073709551616)
  (bu : Hid (u < y1 * 4294967296 + y0)) (bu2 : Hid (u2 < y1 * 4294967296 + y0)) (bq1 : q1 < 4294967296) (bq0 : q0 < 4294967296)
  (eq1 : Hid (q1 = (u * 4294967296 + l1) / (y1 * 4294967296 + y0))) (eq0 : Hid (q0 = (u2 * 4294967296 + l0) / (y1 * 4294967296 + y0)))
  (eqa : Hid (Ar.Est u l1 y1 y0 qa ra)) (eqb : Hid (Ar.Est u2 l0 y1 y0 qb rb))
  (rV : IntKind.u64.wrap ((y : Int) * 2 ^ lz y) = (V : Int)) (r9 : (V : Int) / 4294967296 = (y1 : Int)) (r10 : bits .and .u64 (V : Int) 4294967295 = (y0 : Int))
  (r11 : bits .or .u64 (IntKind.u64.wrap ((hi : Int) * 2 ^ lz y)) ((lo : Int) / 2 ^ (64 - lz y)) = (u : Int))
  (r12 : IntKind.u64.wrap ((lo : Int) * 2 ^ lz y) = (l : Int)) (r13 : (l : Int) / 4294967296 = (l1 : Int)) (r14 : bits .and .u64 (l : Int) 4294967295 = (l0 : Int))
  (ra1 : IntKind.u64.wrap ((u : Int) / (y1 : Int)) = (qa : Int)) (ra2 : IntKind.u64.wrap ((u : Int) - IntKind.u64.wrap ((qa : Int) * (y1 : Int))) = (ra : Int))
  (ru2 : Hid (IntKind.u64.wrap (IntKind.u64.wrap (IntKind.u64.wrap ((u : Int) * 4294967296) + (l1 : Int)) - IntKind.u64.wrap ((q1 : Int) * (V : Int))) = (u2 : Int)))
  (rb1 : Hid (IntKind.u64.wrap ((u2 : Int) / (y1 : Int)) = (qb : Int))) (rb2 : Hid (IntKind.u64.wrap ((u2 : Int) - IntKind.u64.wrap ((qb : Int) * (y1 : Int))) = (rb : Int)))
  (rR : Hid (IntKind.u64.wrap (IntKind.u64.wrap (IntKind.u64.wrap ((u2 : Int) * 4294967296) + (l0 : Int)) - IntKind.u64.wrap ((q0 : Int) * (V : Int))) = (R1 : Int))) (rR1 : Hid ((R1 : Int) / 2 ^ lz y = (R : Int))) :
  Calls Try.prog 53 #[.int .u64 hi, .int .u64 lo, .int .u64 y] w fun e w' => e = .returned (.tuple #[.int .u64 ((q1 * 4294967296 + q0 : Nat) : Int), .int .u64 (R : Int)]) ∧ w = w' := by
 have hy : ((y : Int) == 0) = false := by simp; omega
 have hh : ((hi : Int) == 0) = false := by simp; omega
 have hy1 : ((y1 : Int) == 0) = false := by simp; omega
 go_enter Try.func53, Try.ntmps53
 go_upto_block 0 with (go_at_call 76; refine (lz64 y _ (by omega) h2).mono ?_; rintro e w' ⟨rfl, rfl⟩)
 clear rV r9 r10 r11 r12 r13 r14 ra1 ra2
 go_cut [15] (fun s15 wx => w = wx ∧ s15 = .int .u64 q1)
 case first =>
  go_wp2_with fail
  go_loopg [15, 16] qa (fun g s15 s16 wx => w = wx ∧ ∃ q r : Nat, s15 = .int .u64 q ∧ s16 = .int .u64 r ∧ q = g ∧ Hid (Ar.Est u l1 y1 y0 q r))
  case atStart => exact ⟨rfl, qa, ra, rfl, rfl, rfl, eqa⟩
  case round =>
   obtain ⟨rfl, q, r, rfl, rfl, rfl, he⟩ := hrel
   have ha : (q : Int) ≤ 4294967297 := by have := he.out.2.2.1; omega
   have hb : (r : Int) < 4294967296 := by have := he.out.2.2.2; omega
   have hm : (q : Int) < 4294967296 → (q : Int) * (y0 : Int) ≤ 18446744065119617025 := fun hq => (Ar.mul_le q y0 (by omega) (by omega)).1
   have hm0 : (0 : Int) ≤ (q : Int) * (y0 : Int) := Int.mul_nonneg (by omega) (by omega)
   by_cases ht : 4294967296 ≤ q ∨ 4294967296 * r + l1 < q * y0
   ·obtain ⟨s1, s2, s3, s4⟩ := Ar.est_step u l1 y1 y0 q r b1 bu.out bll1 he.out ht
    by_cases hB : 4294967296 ≤ r + y1
    ·have hf := Lib.hid (Ar.est_exitB u l1 y1 y0 (q - 1) (r + y1) b1 b0 s2 s3 s4 hB)
     have hB' : (4294967296 : Int) ≤ (r : Int) + (y1 : Int) := by omega
     have hbB : decide ((4294967296 : Int) ≤ (r : Int) + (y1 : Int)) = true := decide_eq_true hB'
     clear s2 s3 s4 hB
     by_cases hq : 4294967296 ≤ q
     ·have hq' : (4294967296 : Int) ≤ (q : Int) := by omega
      clear hm ht hq
      go_wp2
      go_meet
      exact ⟨rfl, Ar.val1 q q1 s1 (by rw [eq1.out, hf.out])⟩
     ·have hm' := hm (by omega)
      have hq' : (q : Int) < (4294967296 : Int) := by omega
      have ht' : 4294967296 * (r : Int) + (l1 : Int) < (q : Int) * (y0 : Int) := Ar.cast_lt r l1 q y0 (ht.resolve_left hq)
      obtain ⟨P, hP⟩ : ∃ P : Int, (q : Int) * (y0 : Int) = P := ⟨_, rfl⟩
      rw [hP] at ht' hm' hm0
      obtain ⟨M, hM⟩ : ∃ M : Int, 4294967296 * (r : Int) = M := ⟨_, rfl⟩
      have hM0 : 0 ≤ M ∧ M ≤ 18446744069414584320 := by omega
      rw [hM] at ht'
      have hbq : decide ((4294967296 : Int) ≤ (q : Int)) = false := decide_eq_false (by omega)
      have hbP : decide (M + (l1 : Int) < P) = true := decide_eq_true (by omega)
      clear hm ht hq
      go_wp2
      go_meet
      exact ⟨rfl, Ar.val1 q q1 s1 (by rw [eq1.out, hf.out])⟩
    ·have hn : Hid (Ar.Est u l1 y1 y0 (q - 1) (r + y1)) := Lib.hid ⟨s2, s3, by omega, by omega⟩
     have hB' : (r : Int) + (y1 : Int) < (4294967296 : Int) := by omega
     have hbB : decide ((4294967296 : Int) ≤ (r : Int) + (y1 : Int)) = false := decide_eq_false (by omega)
     clear s2 s3 s4 hB
     by_cases hq : 4294967296 ≤ q
     ·have hq' : (4294967296 : Int) ≤ (q : Int) := by omega
      clear hm ht hq
      go_wp2
      go_roundg (q - 1)
      case measure => omega
      case rel => exact ⟨rfl, q - 1, r + y1, Ar.val1' q s1, by first | rfl | go_num, rfl, hn⟩
     ·have hm' := hm (by omega)
      have hq' : (q : Int) < (4294967296 : Int) := by omega
      have ht' : 4294967296 * (r : Int) + (l1 : Int) < (q : Int) * (y0 : Int) := Ar.cast_lt r l1 q y0 (ht.resolve_left hq)
      obtain ⟨P, hP⟩ : ∃ P : Int, (q : Int) * (y0 : Int) = P := ⟨_, rfl⟩
      rw [hP] at ht' hm' hm0
      obtain ⟨M, hM⟩ : ∃ M : Int, 4294967296 * (r : Int) = M := ⟨_, rfl⟩
      have hM0 : 0 ≤ M ∧ M ≤ 18446744069414584320 := by omega
      rw [hM] at ht'
      have hbq : decide ((4294967296 : Int) ≤ (q : Int)) = false := decide_eq_false (by omega)
      have hbP : decide (M + (l1 : Int) < P) = true := decide_eq_true (by omega)
      clear hm ht hq
      go_wp2
      go_roundg (q - 1)
      case measure => omega
      case rel => exact ⟨rfl, q - 1, r + y1, Ar.val1' q s1, by first | rfl | go_num, rfl, hn⟩
   ·have hq : q < 4294967296 := by omega
    have hm' := hm (by omega)
    have hq' : (q : Int) < (4294967296 : Int) := by omega
    have ht' : (q : Int) * (y0 : Int) ≤ 4294967296 * (r : Int) + (l1 : Int) := Ar.cast_le r l1 q y0 (by omega)
    have hf := Lib.hid (Ar.est_exitA u l1 y1 y0 q r b1 he.out (by omega))
    obtain ⟨P, hP⟩ : ∃ P : Int, (q : Int) * (y0 : Int) = P := ⟨_, rfl⟩
    rw [hP] at ht' hm' hm0
    obtain ⟨M, hM⟩ : ∃ M : Int, 4294967296 * (r : Int) = M := ⟨_, rfl⟩
    have hM0 : 0 ≤ M ∧ M ≤ 18446744069414584320 := by omega
    rw [hM] at ht'
    have hbq : decide ((4294967296 : Int) ≤ (q : Int)) = false := decide_eq_false (by omega)
    have hbP : decide (M + (l1 : Int) < P) = false := decide_eq_false (by omega)
    clear hm ht hq
    go_wp2
    go_meet
    exact ⟨rfl, by rw [eq1.out, hf.out]⟩
 case rest =>
  obtain ⟨rfl, rfl⟩ := hcut
  have r1 := ru2.out
  have r2 := rb1.out
  have r3 := rb2.out
  go_upto_block 2 with fail
  clear r1 r2 r3
  go_cut [18] (fun s18 wx => w = wx ∧ s18 = .int .u64 q0)
  case first =>
   go_wp2_with fail
   go_loopg [18, 16] qb (fun g s18 s16 wx => w = wx ∧ ∃ q r : Nat, s18 = .int .u64 q ∧ s16 = .int .u64 r ∧ q = g ∧ Hid (Ar.Est u2 l0 y1 y0 q r))
   case atStart => exact ⟨rfl, qb, rb, rfl, rfl, rfl, eqb⟩
   case round =>
    obtain ⟨rfl, q, r, rfl, rfl, rfl, he⟩ := hrel
    have ha : (q : Int) ≤ 4294967297 := by have := he.out.2.2.1; omega
    have hb : (r : Int) < 4294967296 := by have := he.out.2.2.2; omega
    have hm : (q : Int) < 4294967296 → (q : Int) * (y0 : Int) ≤ 18446744065119617025 := fun hq => (Ar.mul_le q y0 (by omega) (by omega)).1
    have hm0 : (0 : Int) ≤ (q : Int) * (y0 : Int) := Int.mul_nonneg (by omega) (by omega)
    by_cases ht : 4294967296 ≤ q ∨ 4294967296 * r + l0 < q * y0
    ·obtain ⟨s1, s2, s3, s4⟩ := Ar.est_step u2 l0 y1 y0 q r b1 bu2.out bll0 he.out ht
     by_cases hB : 4294967296 ≤ r + y1
     ·have hf := Lib.hid (Ar.est_exitB u2 l0 y1 y0 (q - 1) (r + y1) b1 b0 s2 s3 s4 hB)
      have hB' : (4294967296 : Int) ≤ (r : Int) + (y1 : Int) := by omega
      have hbB : decide ((4294967296 : Int) ≤ (r : Int) + (y1 : Int)) = true := decide_eq_true hB'
      clear s2 s3 s4 hB
      by_cases hq : 4294967296 ≤ q
      ·have hq' : (4294967296 : Int) ≤ (q : Int) := by omega
       clear hm ht hq
       go_wp2
       go_meet
       exact ⟨rfl, Ar.val1 q q0 s1 (by rw [eq0.out, hf.out])⟩
      ·have hm' := hm (by omega)
       have hq' : (q : Int) < (4294967296 : Int) := by omega
       have ht' : 4294967296 * (r : Int) + (l0 : Int) < (q : Int) * (y0 : Int) := Ar.cast_lt r l0 q y0 (ht.resolve_left hq)
       obtain ⟨P, hP⟩ : ∃ P : Int, (q : Int) * (y0 : Int) = P := ⟨_, rfl⟩
       rw [hP] at ht' hm' hm0
       obtain ⟨M, hM⟩ : ∃ M : Int, 4294967296 * (r : Int) = M := ⟨_, rfl⟩
       have hM0 : 0 ≤ M ∧ M ≤ 18446744069414584320 := by omega
       rw [hM] at ht'
       have hbq : decide ((4294967296 : Int) ≤ (q : Int)) = false := decide_eq_false (by omega)
       have hbP : decide (M + (l0 : Int) < P) = true := decide_eq_true (by omega)
       clear hm ht hq
       go_wp2
       go_meet
       exact ⟨rfl, Ar.val1 q q0 s1 (by rw [eq0.out, hf.out])⟩
     ·have hn : Hid (Ar.Est u2 l0 y1 y0 (q - 1) (r + y1)) := Lib.hid ⟨s2, s3, by omega, by omega⟩
      have hB' : (r : Int) + (y1 : Int) < (4294967296 : Int) := by omega
      have hbB : decide ((4294967296 : Int) ≤ (r : Int) + (y1 : Int)) = false := decide_eq_false (by omega)
      clear s2 s3 s4 hB
      by_cases hq : 4294967296 ≤ q
      ·have hq' : (4294967296 : Int) ≤ (q : Int) := by omega
       clear hm ht hq
       go_wp2
       go_roundg (q - 1)
       case measure => omega
       case rel => exact ⟨rfl, q - 1, r + y1, Ar.val1' q s1, by first | rfl | go_num, rfl, hn⟩
      ·have hm' := hm (by omega)
       have hq' : (q : Int) < (4294967296 : Int) := by omega
       have ht' : 4294967296 * (r : Int) + (l0 : Int) < (q : Int) * (y0 : Int) := Ar.cast_lt r l0 q y0 (ht.resolve_left hq)
       obtain ⟨P, hP⟩ : ∃ P : Int, (q : Int) * (y0 : Int) = P := ⟨_, rfl⟩
       rw [hP] at ht' hm' hm0
       obtain ⟨M, hM⟩ : ∃ M : Int, 4294967296 * (r : Int) = M := ⟨_, rfl⟩
       have hM0 : 0 ≤ M ∧ M ≤ 18446744069414584320 := by omega
       rw [hM] at ht'
       have hbq : decide ((4294967296 : Int) ≤ (q : Int)) = false := decide_eq_false (by omega)
       have hbP : decide (M + (l0 : Int) < P) = true := decide_eq_true (by omega)
       clear hm ht hq
       go_wp2
       go_roundg (q - 1)
       case measure => omega
       case rel => exact ⟨rfl, q - 1, r + y1, Ar.val1' q s1, by first | rfl | go_num, rfl, hn⟩
    ·have hq : q < 4294967296 := by omega
     have hm' := hm (by omega)
     have hq' : (q : Int) < (4294967296 : Int) := by omega
     have ht' : (q : Int) * (y0 : Int) ≤ 4294967296 * (r : Int) + (l0 : Int) := Ar.cast_le r l0 q y0 (by omega)
     have hf := Lib.hid (Ar.est_exitA u2 l0 y1 y0 q r b1 he.out (by omega))
     obtain ⟨P, hP⟩ : ∃ P : Int, (q : Int) * (y0 : Int) = P := ⟨_, rfl⟩
     rw [hP] at ht' hm' hm0
     obtain ⟨M, hM⟩ : ∃ M : Int, 4294967296 * (r : Int) = M := ⟨_, rfl⟩
     have hM0 : 0 ≤ M ∧ M ≤ 18446744069414584320 := by omega
     rw [hM] at ht'
     have hbq : decide ((4294967296 : Int) ≤ (q : Int)) = false := decide_eq_false (by omega)
     have hbP : decide (M + (l0 : Int) < P) = false := decide_eq_false (by omega)
     clear hm ht hq
     go_wp2
     go_meet
     exact ⟨rfl, by rw [eq0.out, hf.out]⟩
  case rest =>
   obtain ⟨rfl, rfl⟩ := hcut
   have r4 := rR.out
   have r5 := rR1.out
   go_wp2
   go_ret2
   exact ⟨by simp, rfl⟩

def divQ (hi lo y : Nat) : Nat := (hi * 18446744073709551616 + lo) / y
def divR (hi lo y : Nat) : Nat := (hi * 18446744073709551616 + lo) % y

set_option maxHeartbeats 1000000 in
theorem div64_0 (lo y : Nat) (w : World) (h1 : lo < 18446744073709551616) (h2 : y < 18446744073709551616) (h0 : 0 < y) :
  Calls Try.prog 53 #[.int .u64 0, .int .u64 lo, .int .u64 y] w fun e w' => e = .returned (.tuple #[.int .u64 (divQ 0 lo y), .int .u64 (divR 0 lo y)]) ∧ ∃ n, w' = w.drewN n := by
 have hy : ((y : Int) == 0) = false := by simp; omega
 have rq : IntKind.u64.wrap ((lo : Int) / (y : Int)) = ((lo / y : Nat) : Int) := by rw [← Int.natCast_ediv]; exact wrapFit _ (Nat.lt_of_le_of_lt (Nat.div_le_self lo y) h1)
 have eQ : divQ 0 lo y = lo / y := by simp [divQ]
 have eR : divR 0 lo y = lo % y := by simp [divR]
 rw [eQ, eR]
 clear eQ eR
 go_enter Try.func53, Try.ntmps53
 go_wp2
 go_quiet (fail)
 go_wp2
 go_ret2
 exact ⟨by simp, _, rfl⟩

theorem wdiv (u y1 : Nat) (hu : u < 18446744073709551616) : IntKind.u64.wrap ((u : Int) / (y1 : Int)) = ((u / y1 : Nat) : Int) := by
 rw [← Int.natCast_ediv]; exact wrapFit _ (Nat.lt_of_le_of_lt (Nat.div_le_self u y1) hu)
theorem wrem (u y1 : Nat) (hu : u < 18446744073709551616) : IntKind.u64.wrap ((u : Int) - IntKind.u64.wrap (((u / y1 : Nat) : Int) * (y1 : Int))) = ((u % y1 : Nat) : Int) := by
 have h := Nat.div_add_mod' u y1
 rw [castMul, wrapFit _ (by omega), IntKind.wrap_u64]
 omega
theorem wrest (u d V q b : Nat) (h : (((u * 4294967296 % 18446744073709551616 + d) % 18446744073709551616 : Nat) - ((q * V % 18446744073709551616 : Nat) : Int)) % 18446744073709551616 = (b : Int)) :
  IntKind.u64.wrap (IntKind.u64.wrap (IntKind.u64.wrap ((u : Int) * 4294967296) + (d : Int)) - IntKind.u64.wrap ((q : Int) * (V : Int))) = (b : Int) := by
 rw [show (u : Int) * 4294967296 = ((u * 4294967296 : Nat) : Int) by omega, wrapMod, castAdd, wrapMod, castMul, wrapMod, IntKind.wrap_u64]
 exact h

theorem or_add (a b s : Nat) (hb : b < 2 ^ s) : a * 2 ^ s ||| b = a * 2 ^ s + b := by
 rw [Nat.mul_comm, Nat.two_pow_add_eq_or_of_lt hb]

set_option maxHeartbeats 1000000 in
theorem div64_1 (hi lo y : Nat) (w : World) (h : 0 < hi) (hlt : hi < y) (h1 : lo < 18446744073709551616) (h2 : y < 18446744073709551616) :
  Calls Try.prog 53 #[.int .u64 hi, .int .u64 lo, .int .u64 y] w fun e w' => e = .returned (.tuple #[.int .u64 (divQ hi lo y), .int .u64 (divR hi lo y)]) ∧ w = w' := by
 obtain ⟨z1, _, z3, z4⟩ := lz_bounds y (by omega) h2
 have c1 := Ar.shifted hi lo (lz y) z1 h1
 have c2 := Ar.shifted_lt hi lo y (lz y) z1 h1 hlt
 have c3 := Nat.two_pow_pos (lz y)
 have e0 : (18446744073709551616 : Nat) = 2 ^ lz y * 2 ^ (64 - lz y) := by
  rw [← Nat.pow_add, show lz y + (64 - lz y) = 64 by omega]
 have c4 : lo / 2 ^ (64 - lz y) < 2 ^ lz y := by
  rw [Nat.div_lt_iff_lt_mul (Nat.two_pow_pos _), ← e0]
  exact h1
 clear e0
 have dl := Nat.mod_lt (lo * 2 ^ lz y) (show 0 < 18446744073709551616 by omega)
 have c5 : hi * 2 ^ lz y + lo / 2 ^ (64 - lz y) < 18446744073709551616 := Nat.lt_trans c2 z4
 have r11 : bits .or .u64 (IntKind.u64.wrap ((hi : Int) * 2 ^ lz y)) ((lo : Int) / 2 ^ (64 - lz y)) = ((hi * 2 ^ lz y + lo / 2 ^ (64 - lz y) : Nat) : Int) := by
  have a1 : IntKind.u64.wrap ((hi : Int) * 2 ^ lz y) = ((hi * 2 ^ lz y : Nat) : Int) := by
   rw [← wrapFit (hi * 2 ^ lz y) (Nat.lt_of_le_of_lt (Nat.le_add_right _ _) c5)]; simp
  have a2 : ((lo : Int) / 2 ^ (64 - lz y)) = ((lo / 2 ^ (64 - lz y) : Nat) : Int) := by simp
  rw [a1, a2, bits_or_u64_nat _ _ (Nat.lt_of_le_of_lt (Nat.le_add_right _ _) c5) (Nat.lt_of_le_of_lt (Nat.le_add_left _ _) c5), or_add _ _ _ c4]
 have rV : IntKind.u64.wrap ((y : Int) * 2 ^ lz y) = ((y * 2 ^ lz y : Nat) : Int) := by
  rw [← wrapFit (y * 2 ^ lz y) z4]; simp
 have r12 : IntKind.u64.wrap ((lo : Int) * 2 ^ lz y) = ((lo * 2 ^ lz y % 18446744073709551616 : Nat) : Int) := by
  rw [← wrapMod (lo * 2 ^ lz y)]; simp
 have rR1 : ∀ n : Nat, ((n : Int) / 2 ^ lz y) = ((n / 2 ^ lz y : Nat) : Int) := fun n => by simp
 have T := Ar.two_digits (hi * 18446744073709551616 + lo) (2 ^ lz y) y (hi * 2 ^ lz y + lo / 2 ^ (64 - lz y)) (lo * 2 ^ lz y % 18446744073709551616 / 4294967296) (lo * 2 ^ lz y % 18446744073709551616 % 4294967296) c3 (by omega)
  (by rw [c1, Nat.div_add_mod'])
 change _ = divQ hi lo y ∧ _ = divR hi lo y at T
 rw [← T.1, ← T.2]
 clear T c1
 generalize hi * 2 ^ lz y + lo / 2 ^ (64 - lz y) = u at *
 generalize lo * 2 ^ lz y % 18446744073709551616 = l at *
 generalize y * 2 ^ lz y = V at *
 have eV : V / 4294967296 * 4294967296 + V % 4294967296 = V := Nat.div_add_mod' V 4294967296
 have f1 : 2147483648 ≤ V / 4294967296 := by omega
 have f2 : V / 4294967296 < 4294967296 := by omega
 have f3 : V % 4294967296 < 4294967296 := by omega
 have g1 : l / 4294967296 < 4294967296 := by omega
 have g0 : l % 4294967296 < 4294967296 := by omega
 have hV0 : 0 < V := by omega
 have k2 := Nat.mod_lt (u * 4294967296 + l / 4294967296) hV0
 have k1 := Ar.lt_digit u (l / 4294967296) V c2 g1
 have k0 := Ar.lt_digit ((u * 4294967296 + l / 4294967296) % V) (l % 4294967296) V k2 g0
 have m1 := Ar.rest_wrap u (l / 4294967296) V hV0 z4
 have m0 := Ar.rest_wrap ((u * 4294967296 + l / 4294967296) % V) (l % 4294967296) V hV0 z4
 refine div_walk hi lo y V (V / 4294967296) (V % 4294967296) u l (l / 4294967296) (l % 4294967296) (u / (V / 4294967296)) (u % (V / 4294967296)) ((u * 4294967296 + l / 4294967296) / V) ((u * 4294967296 + l / 4294967296) % V)
  ((u * 4294967296 + l / 4294967296) % V / (V / 4294967296)) ((u * 4294967296 + l / 4294967296) % V % (V / 4294967296)) (((u * 4294967296 + l / 4294967296) % V * 4294967296 + l % 4294967296) / V)
  (((u * 4294967296 + l / 4294967296) % V * 4294967296 + l % 4294967296) % V) (((u * 4294967296 + l / 4294967296) % V * 4294967296 + l % 4294967296) % V / 2 ^ lz y) w h hlt h1 h2 z1 f1 f2 f3 g1 g0 c5 (Nat.lt_trans k2 z4)
  (by rw [eV]; exact Lib.hid c2) (by rw [eV]; exact Lib.hid k2) k1 k0 (by rw [eV]; exact Lib.hid rfl) (by rw [eV]; exact Lib.hid rfl)
  (Lib.hid (Ar.est_start _ _ _ _ f1 f2 f3 g1 (by rw [eV]; exact c2))) (Lib.hid (Ar.est_start _ _ _ _ f1 f2 f3 g0 (by rw [eV]; exact k2)))
  rV (by omega) (castLow V z4) r11 r12 (by omega) (castLow l dl) ?_ ?_ ?_ ?_ ?_ ?_ ?_
 ·exact wdiv u _ (Nat.lt_trans c2 z4)
 ·exact wrem u _ (Nat.lt_trans c2 z4)
 ·exact Lib.hid (wrest u _ V _ _ m1)
 ·exact Lib.hid (wdiv _ _ (Nat.lt_trans k2 z4))
 ·exact Lib.hid (wrem _ _ (Nat.lt_trans k2 z4))
 ·exact Lib.hid (wrest _ _ V _ _ m0)
 ·exact Lib.hid (rR1 _)

/-- math/bits.Div64. -/
theorem div64 (hi lo y : Nat) (w : World) (hlt : hi < y) (h1 : lo < 18446744073709551616) (h2 : y < 18446744073709551616) :
  Calls Try.prog 53 #[.int .u64 hi, .int .u64 lo, .int .u64 y] w fun e w' => e = .returned (.tuple #[.int .u64 (divQ hi lo y), .int .u64 (divR hi lo y)]) ∧ ∃ n, w' = w.drewN n := by
 by_cases h : hi = 0
 ·subst h
  exact div64_0 lo y w h1 h2 hlt
 ·exact (div64_1 hi lo y w (by omega) hlt h1 h2).mono fun e w' ⟨he, hw⟩ => ⟨he, 0, hw ▸ rfl⟩
#print axioms div64
end Go.Proofs.Ytglglhcnofbagaa.Mo
namespace Go.Proofs.Ytglglhcnofbagaa.Mo
set_option maxRecDepth 100000
open Go.RowKit

def mulB (a b : Int) : Bool := decide (a * b < 18446744073709551616)
def mulV (a b : Int) : Int := if a * b < 18446744073709551616 then a * b else 0
def mdB (a b c : Int) : Bool := decide (a * b < c * 18446744073709551616)
def mdV (a b c : Int) : Int := if a * b < c * 18446744073709551616 then a * b / c else 0

theorem money_mul (a b : Int) (w : World) (ha : W64 a) (hb : W64 b) :
  Calls Try.prog 78 #[.int .u64 a, .int .u64 b] w fun e w' => e = .returned (.tuple #[.int .u64 (mulV a b), .bool (mulB a b)]) ∧ w = w' := by
 obtain ⟨a0, a1⟩ := ha; obtain ⟨b0, b1⟩ := hb
 obtain ⟨x, rfl⟩ := Int.eq_ofNat_of_zero_le a0
 obtain ⟨y, rfl⟩ := Int.eq_ofNat_of_zero_le b0
 have hM := fun w => mul64 x y (by omega) (by omega) w
 by_cases h : x * y < 18446744073709551616
 ·have h' : (x : Int) * (y : Int) < 18446744073709551616 := by rw [← Int.natCast_mul]; omega
  have e1 : mulV x y = ((x * y : Nat) : Int) := by rw [Int.natCast_mul]; exact if_pos h'
  have e2 : mulB x y = true := decide_eq_true h'
  have q1 : x * y % 18446744073709551616 = x * y := Nat.mod_eq_of_lt h
  have q2 : x * y / 18446744073709551616 = 0 := Nat.div_eq_of_lt h
  rw [e1, e2]
  simp only [q1, q2] at hM
  generalize x * y = p at *
  clear e1 e2 q1 q2 h h'
  go_enter Try.func78, Try.ntmps78
  go_wp2_with (go_at_call 52; refine (hM _).mono ?_; rintro e w' ⟨rfl, rfl⟩)
  go_ret2
  exact ⟨rfl, rfl⟩
 ·have h' : ¬ (x : Int) * (y : Int) < 18446744073709551616 := by rw [← Int.natCast_mul]; omega
  have e1 : mulV x y = 0 := if_neg h'
  have e2 : mulB x y = false := decide_eq_false h'
  have q2 : 1 ≤ x * y / 18446744073709551616 := by omega
  rw [e1, e2]
  generalize x * y / 18446744073709551616 = p at *
  generalize x * y % 18446744073709551616 = r at *
  clear e1 e2 h h'
  have hp : ((p : Int) != 0) = true := by simp; omega
  go_enter Try.func78, Try.ntmps78
  go_wp2_with (go_at_call 52; refine (hM _).mono ?_; rintro e w' ⟨rfl, rfl⟩)
  go_ret2
  exact ⟨rfl, rfl⟩

end Go.Proofs.Ytglglhcnofbagaa.Mo
namespace Go.Proofs.Ytglglhcnofbagaa.Mo
set_option maxRecDepth 100000
open Go.RowKit

theorem ref_mul (a b : Int) (w : World) (ha : W64 a) (hb : W64 b) :
  Calls Try.prog 64 #[.int .u64 a, .int .u64 b] w fun e w' => e = .returned (.tuple #[.int .u64 (mulV a b), .bool (mulB a b)]) ∧ w = w' := by
 obtain ⟨a0, a1⟩ := ha; obtain ⟨b0, b1⟩ := hb
 by_cases hz : a = 0
 ·subst hz
  have e1 : mulV 0 b = 0 := by simp [mulV]
  have e2 : mulB 0 b = true := by simp [mulB]
  rw [e1, e2]
  clear e1 e2
  go_enter Try.func64, Try.ntmps64
  go_wp2
  go_ret2
  exact ⟨rfl, rfl⟩
 ·have hq : (18446744073709551615 / a < b) ↔ ¬ (a * b < 18446744073709551616) := by
   rw [Int.ediv_lt_iff_lt_mul (by omega), Int.mul_comm b a]
   omega
  have q0 : 0 ≤ 18446744073709551615 / a := Int.ediv_nonneg (by omega) a0
  have q1 : 18446744073709551615 / a ≤ 18446744073709551615 := Int.ediv_le_self _ (by omega)
  have p0 : 0 ≤ a * b := Int.mul_nonneg a0 b0
  have hn : (a != 0) = true := by simpa using hz
  have rq : IntKind.u64.wrap (18446744073709551615 / a) = 18446744073709551615 / a := by rw [IntKind.wrap_u64]; omega
  by_cases h : a * b < 18446744073709551616
  ·have e1 : mulV a b = a * b := if_pos h
   have e2 : mulB a b = true := decide_eq_true h
   have h' : ¬ 18446744073709551615 / a < b := fun hc => hq.1 hc h
   have hb' : decide (18446744073709551615 / a < b) = false := decide_eq_false h'
   rw [e1, e2]
   clear e1 e2 hq
   go_enter Try.func64, Try.ntmps64
   go_wp2
   go_ret2
   exact ⟨rfl, rfl⟩
  ·have e1 : mulV a b = 0 := if_neg h
   have e2 : mulB a b = false := decide_eq_false h
   have h' : 18446744073709551615 / a < b := hq.2 h
   have hb' : decide (18446744073709551615 / a < b) = true := decide_eq_true h'
   rw [e1, e2]
   clear e1 e2 hq
   go_enter Try.func64, Try.ntmps64
   go_wp2
   go_ret2
   exact ⟨rfl, rfl⟩

theorem md_of (x y z : Nat) (hz : x * y / 18446744073709551616 < z) : mdB x y z = true ∧ mdV x y z = ((divQ (x * y / 18446744073709551616) (x * y % 18446744073709551616) z : Nat) : Int) := by
 have h : x * y < z * 18446744073709551616 := (Nat.div_lt_iff_lt_mul (by omega)).1 hz
 have h' : (x : Int) * (y : Int) < (z : Int) * 18446744073709551616 := by rw [← Int.natCast_mul]; omega
 refine ⟨decide_eq_true h', ?_⟩
 unfold divQ
 rw [Nat.div_add_mod', Int.natCast_ediv, Int.natCast_mul]
 exact if_pos h'
theorem md_no (x y z : Nat) (hz : z ≤ x * y / 18446744073709551616) : mdB x y z = false ∧ mdV x y z = 0 := by
 have h : z * 18446744073709551616 ≤ x * y := (Nat.le_div_iff_mul_le (by omega)).1 hz
 have h' : ¬ (x : Int) * (y : Int) < (z : Int) * 18446744073709551616 := by rw [← Int.natCast_mul]; omega
 exact ⟨decide_eq_false h', if_neg h'⟩

theorem money_muldiv (a b c : Int) (w : World) (ha : W64 a) (hb : W64 b) (hc : W64 c) :
  Calls Try.prog 30 #[.int .u64 a, .int .u64 b, .int .u64 c] w fun e w' => e = .returned (.tuple #[.int .u64 (mdV a b c), .bool (mdB a b c)]) ∧ ∃ n, w' = w.drewN n := by
 obtain ⟨a0, a1⟩ := ha; obtain ⟨b0, b1⟩ := hb; obtain ⟨c0, c1⟩ := hc
 obtain ⟨x, rfl⟩ := Int.eq_ofNat_of_zero_le a0
 obtain ⟨y, rfl⟩ := Int.eq_ofNat_of_zero_le b0
 obtain ⟨z, rfl⟩ := Int.eq_ofNat_of_zero_le c0
 have hM := fun w => mul64 x y (by omega) (by omega) w
 have hr := Nat.mod_lt (x * y) (show 0 < 18446744073709551616 by omega)
 by_cases h : x * y / 18446744073709551616 < z
 ·obtain ⟨e2, e1⟩ := md_of x y z h
  have hD := fun w => div64 (x * y / 18446744073709551616) (x * y % 18446744073709551616) z w h hr (by omega)
  rw [e1, e2]
  clear e1 e2
  generalize x * y / 18446744073709551616 = p at *
  generalize x * y % 18446744073709551616 = r at *
  go_enter Try.func30, Try.ntmps30
  go_wp2_with (first | (go_at_call 52; refine (hM _).mono ?_; rintro e w' ⟨rfl, rfl⟩) | (go_at_call 53; refine (hD _).mono ?_; rintro e w' ⟨rfl, n, rfl⟩))
  go_ret2
  exact ⟨rfl, _, rfl⟩
 ·obtain ⟨e2, e1⟩ := md_no x y z (by omega)
  rw [e1, e2]
  clear e1 e2
  generalize x * y / 18446744073709551616 = p at *
  generalize x * y % 18446744073709551616 = r at *
  go_enter Try.func30, Try.ntmps30
  go_wp2_with (go_at_call 52; refine (hM _).mono ?_; rintro e w' ⟨rfl, rfl⟩)
  go_ret2
  exact ⟨rfl, 0, rfl⟩

/-- The product's halves, as the reference reckons them. -/
theorem product_arith (a b : Nat) (ha : a < 18446744073709551616) (hb : b < 18446744073709551616) :
  (a % 4294967296) * (b % 4294967296) < 18446744073709551616 ∧ (a / 4294967296) * (b % 4294967296) < 18446744073709551616 ∧ (a % 4294967296) * (b / 4294967296) < 18446744073709551616 ∧
  (a / 4294967296) * (b / 4294967296) < 18446744073709551616 ∧
  (a % 4294967296) * (b % 4294967296) / 4294967296 + (a / 4294967296) * (b % 4294967296) % 4294967296 + (a % 4294967296) * (b / 4294967296) % 4294967296 < 18446744073709551616 ∧
  (a / 4294967296) * (b / 4294967296) + (a / 4294967296) * (b % 4294967296) / 4294967296 < 18446744073709551616 ∧
  (a / 4294967296) * (b / 4294967296) + (a / 4294967296) * (b % 4294967296) / 4294967296 + (a % 4294967296) * (b / 4294967296) / 4294967296 < 18446744073709551616 ∧
  (a / 4294967296) * (b / 4294967296) + (a / 4294967296) * (b % 4294967296) / 4294967296 + (a % 4294967296) * (b / 4294967296) / 4294967296 +
   ((a % 4294967296) * (b % 4294967296) / 4294967296 + (a / 4294967296) * (b % 4294967296) % 4294967296 + (a % 4294967296) * (b / 4294967296) % 4294967296) / 4294967296 = a * b / 18446744073709551616 ∧
  ((a % 4294967296) * (b % 4294967296) / 4294967296 + (a / 4294967296) * (b % 4294967296) % 4294967296 + (a % 4294967296) * (b / 4294967296) % 4294967296) * 4294967296 % 18446744073709551616 + (a % 4294967296) * (b % 4294967296) % 4294967296 = a * b % 18446744073709551616 ∧
  a * b / 18446744073709551616 < 18446744073709551616 := by
 have e : a * b = (a / 4294967296) * (b / 4294967296) * (4294967296 * 4294967296) + ((a / 4294967296) * (b % 4294967296) + (a % 4294967296) * (b / 4294967296)) * 4294967296 + (a % 4294967296) * (b % 4294967296) := by
  rw [← Lib.split_mul, Nat.div_add_mod' a 4294967296, Nat.div_add_mod' b 4294967296]
 have h1 := Lib.half_mul_le (a := a / 4294967296) (b := b / 4294967296) (by omega) (by omega)
 have h2 := Lib.half_mul_le (a := a / 4294967296) (b := b % 4294967296) (by omega) (by omega)
 have h3 := Lib.half_mul_le (a := a % 4294967296) (b := b / 4294967296) (by omega) (by omega)
 have h4 := Lib.half_mul_le (a := a % 4294967296) (b := b % 4294967296) (by omega) (by omega)
 have h5 : a * b / 18446744073709551616 < 18446744073709551616 := by
  rw [Nat.div_lt_iff_lt_mul (by omega)]
  exact Nat.lt_of_le_of_lt (Nat.mul_le_mul_right b (Nat.le_of_lt ha)) (Nat.mul_lt_mul_of_pos_left hb (by omega))
 generalize a * b = t at *
 generalize (a / 4294967296) * (b / 4294967296) = p at *
 generalize (a / 4294967296) * (b % 4294967296) = q at *
 generalize (a % 4294967296) * (b / 4294967296) = r at *
 generalize (a % 4294967296) * (b % 4294967296) = s at *
 refine ⟨by omega, by omega, by omega, by omega, by omega, by omega, by omega, by omega, by omega, h5⟩

theorem wor32 (a b : Nat) (hb : b < 4294967296) : bits .or .u64 (((a * 4294967296 % 18446744073709551616 : Nat) : Int)) (b : Int) = ((a * 4294967296 % 18446744073709551616 + b : Nat) : Int) := by
 rw [bits_or_u64_nat _ _ (by omega) (by omega)]
 have e : a * 4294967296 % 18446744073709551616 = a % 4294967296 * 2 ^ 32 := by omega
 rw [e, or_add _ _ 32 (by omega)]

theorem mulK (a : Nat) : (a : Int) * 4294967296 = ((a * 4294967296 : Nat) : Int) := by omega

set_option maxHeartbeats 1000000 in
theorem product (a b : Nat) (w : World) (ha : a < 18446744073709551616) (hb : b < 18446744073709551616) :
  Calls Try.prog 65 #[.int .u64 a, .int .u64 b] w fun e w' => e = .returned (.tuple #[.int .u64 ((a * b / 18446744073709551616 : Nat) : Int), .int .u64 ((a * b % 18446744073709551616 : Nat) : Int)]) ∧ w = w' := by
 obtain ⟨c1, c2, c3, c4, c5, c6, c7, c8, c9, c10⟩ := product_arith a b ha hb
 have d5 := Nat.lt_of_le_of_lt (Nat.le_add_right _ _) c5
 have d8 := c8 ▸ c10
 have C8 := Lib.hid c8
 have C9 := Lib.hid c9
 clear c8 c9 c10
 go_enter Try.func65, Try.ntmps65
 go_wp2
 simp only [castLow a ha, castLow b hb, castHigh, castMul, mulK, castAdd, wrapFit _ c1, wrapFit _ c2, wrapFit _ c3, wrapFit _ c4, castLow _ c1, castLow _ c2, castLow _ c3, wrapFit _ c5, wrapFit _ c6, wrapFit _ c7, wrapFit _ d5, wrapFit _ d8]
 rw [wrapMod, wor32 _ _ (Nat.mod_lt _ (by omega)), C8.out, C9.out]
 go_ret2
 exact ⟨rfl, rfl⟩

/-- What holds before the bit j - 1 of the low half is taken: the rest r and the quotient o of what was taken. -/
def Inv (H low c j r o : Nat) : Prop := H * 2 ^ (64 - j) + low / 2 ^ j = o * c + r ∧ r < c ∧ o < 2 ^ (64 - j)

theorem inv_start (H low c : Nat) (h : H < c) (hl : low < 18446744073709551616) : Inv H low c 64 H 0 := by
 refine ⟨?_, h, by simp⟩
 rw [show (2 : Nat) ^ 64 = 18446744073709551616 from rfl, Nat.div_eq_of_lt hl]
 simp

theorem inv_end (H low c r o : Nat) (h : Inv H low c 0 r o) : o = divQ H low c := by
 obtain ⟨h1, h2, _⟩ := h
 unfold divQ
 rw [Nat.sub_zero, Nat.pow_zero, Nat.div_one, show (2 : Nat) ^ 64 = 18446744073709551616 from rfl] at h1
 rw [h1, Nat.mul_comm o c, Nat.mul_add_div (by omega), Nat.div_eq_of_lt h2, Nat.add_zero]

theorem inv_bounds (H low c m r o : Nat) (hm : m ≤ 63) (h : Inv H low c (m + 1) r o) : o ≤ 9223372036854775807 := by
 have h1 : (2 : Nat) ^ (64 - (m + 1)) ≤ 2 ^ 63 := Nat.pow_le_pow_right (by omega) (by omega)
 have h2 := h.2.2
 omega

theorem inv_step (H low c m r o : Nat) (hm : m ≤ 63) (h : Inv H low c (m + 1) r o) :
  H * 2 ^ (64 - m) + low / 2 ^ m = (2 * o) * c + (2 * r + low / 2 ^ m % 2) ∧ 2 * o + 1 < 2 ^ (64 - m) := by
 obtain ⟨h1, _, h3⟩ := h
 have e : (2 : Nat) ^ (64 - m) = 2 ^ (64 - (m + 1)) * 2 := by rw [← Nat.pow_succ, show (64 - (m + 1)).succ = 64 - m by omega]
 have e2 : low / 2 ^ (m + 1) = low / 2 ^ m / 2 := by rw [Nat.pow_succ, Nat.div_div_eq_div_mul]
 rw [e2] at h1
 rw [e, ← Nat.mul_assoc, Nat.mul_assoc 2 o c]
 omega

theorem inv_yes (H low c m r o : Nat) (hm : m ≤ 63) (h : Inv H low c (m + 1) r o) (hc : c ≤ 2 * r + low / 2 ^ m % 2) : Inv H low c m (2 * r + low / 2 ^ m % 2 - c) (o * 2 + 1) := by
 obtain ⟨h1, h2⟩ := inv_step H low c m r o hm h
 have h3 := h.2.1
 refine ⟨?_, by omega, by omega⟩
 rw [h1, Nat.mul_comm o 2, Nat.add_mul]
 omega

theorem inv_no (H low c m r o : Nat) (hm : m ≤ 63) (h : Inv H low c (m + 1) r o) (hc : 2 * r + low / 2 ^ m % 2 < c) : Inv H low c m (2 * r + low / 2 ^ m % 2) (o * 2) := by
 obtain ⟨h1, h2⟩ := inv_step H low c m r o hm h
 refine ⟨?_, hc, by omega⟩
 rw [h1, Nat.mul_comm o 2]

theorem wbit (n : Nat) (h : n < 18446744073709551616) : bits .and .u64 (n : Int) 1 = ((n % 2 : Nat) : Int) := by
 have e := bits_and_u64_nat n 1 h (by omega)
 rw [Nat.and_one_is_mod] at e
 exact e
theorem wor1 (a b : Nat) (hb : b < 2) : bits .or .u64 (((a * 2 % 18446744073709551616 : Nat) : Int)) (b : Int) = ((a * 2 % 18446744073709551616 + b : Nat) : Int) := by
 rw [bits_or_u64_nat _ _ (by omega) (by omega)]
 have e : a * 2 % 18446744073709551616 = a % 9223372036854775808 * 2 ^ 1 := by omega
 rw [e, or_add _ _ 1 (by omega)]

set_option maxHeartbeats 2000000 in
theorem refmd_yes (x y c H low : Nat) (w : World) (hx : x < 18446744073709551616) (hy : y < 18446744073709551616) (hc : c < 18446744073709551616) (hH : H < c) (hl : low < 18446744073709551616)
  (eH : Hid (x * y / 18446744073709551616 = H)) (el : Hid (x * y % 18446744073709551616 = low)) :
  Calls Try.prog 42 #[.int .u64 x, .int .u64 y, .int .u64 c] w fun e w' => e = .returned (.tuple #[.int .u64 (divQ H low c), .bool true]) ∧ w = w' := by
 have hP := fun w => product x y w hx hy
 rw [eH.out, el.out] at hP
 clear eH el
 have hc0 : ((c : Int) == 0) = false := by simp; omega
 have I0 := Lib.hid (inv_start H low c hH hl)
 go_enter Try.func42, Try.ntmps42
 go_wp2_with (go_at_call 65; refine (hP _).mono ?_; rintro e w' ⟨rfl, rfl⟩)
 clear hP
 go_loopg [8, 10, 11] 64 (fun g s8 s10 s11 wx => w = wx ∧ ∃ j r o : Nat, j ≤ 64 ∧ s8 = .int .u64 r ∧ s10 = .int .u64 o ∧ s11 = .int .i64 ((j : Int) - 1) ∧ j = g ∧ Hid (Inv H low c j r o))
 case atStart => exact ⟨rfl, 64, H, 0, by omega, rfl, rfl, rfl, rfl, I0⟩
 case round =>
  obtain ⟨rfl, j, r, o, hj, rfl, rfl, rfl, rfl, hI⟩ := hrel
  clear I0
  by_cases hz : j = 0
  ·subst hz
   have hE := Lib.hid (inv_end H low c r o hI.out)
   rw [show (((0 : Nat) : Int) - 1) = -1 from rfl]
   go_wp2
   go_ret2
   exact ⟨by rw [hE.out]; rfl, rfl⟩
  ·obtain ⟨m, rfl⟩ : ∃ m, j = m + 1 := ⟨j - 1, by omega⟩
   rw [show (((m + 1 : Nat) : Int) - 1) = (m : Int) by omega]
   have hm : m ≤ 63 := by omega
   have hr := hI.out.2.1
   have ho := inv_bounds H low c m r o hm hI.out
   have hb : low / 2 ^ m < 18446744073709551616 := Nat.lt_of_le_of_lt (Nat.div_le_self _ _) hl
   obtain ⟨bit, eb⟩ : ∃ bit, low / 2 ^ m % 2 = bit := ⟨_, rfl⟩
   have hb2 : bit < 2 := by omega
   obtain ⟨cy, ec⟩ : ∃ cy, r / 9223372036854775808 = cy := ⟨_, rfl⟩
   have rA : (r : Int) / 9223372036854775808 = (cy : Int) := by omega
   have rB : bits .and .u64 ((low : Int) / 2 ^ m) 1 = (bit : Int) := by
    rw [← eb, ← wbit _ hb]; simp
   have rC : bits .or .u64 (IntKind.u64.wrap ((r : Int) * 2)) (bit : Int) = ((r * 2 % 18446744073709551616 + bit : Nat) : Int) := by
    rw [← wor1 _ _ hb2, ← wrapMod]; simp
   obtain ⟨rr, er⟩ : ∃ rr, r * 2 % 18446744073709551616 + bit = rr := ⟨_, rfl⟩
   rw [er] at rC
   have rC0 : r < 9223372036854775808 → bits .or .u64 ((r : Int) * 2) (bit : Int) = (rr : Int) := fun h => by
    rw [← rC, show (r : Int) * 2 = ((r * 2 : Nat) : Int) by omega, wrapFit _ (by omega)]
   have rE : bits .or .u64 ((o : Int) * 2) 1 = (o : Int) * 2 + 1 := by
    have := wor1 o 1 (by omega)
    rw [show o * 2 % 18446744073709551616 = o * 2 by omega] at this
    simpa using this
   by_cases hs : c ≤ 2 * r + bit
   ·have hn := Lib.hid (inv_yes H low c m r o hm hI.out (by rw [eb]; exact hs))
    rw [eb] at hn
    have rF : IntKind.u64.wrap ((rr : Int) - (c : Int)) = ((2 * r + bit - c : Nat) : Int) := by rw [IntKind.wrap_u64]; omega
    have hcy : cy = 0 ∨ cy = 1 := by omega
    rcases hcy with hcy | hcy
    ·subst hcy
     have rC1 := rC0 (by omega)
     have h1 : c ≤ rr := by omega
     have rF' : (rr : Int) - (c : Int) = ((2 * r + bit - c : Nat) : Int) := by omega
     clear hs ec er eb hr hb rC rC0 rF
     go_wp2
     go_roundg m
     case measure => omega
     case rel => exact ⟨rfl, m, 2 * r + bit - c, o * 2 + 1, by omega, by first | rfl | go_num, by first | rfl | go_num, by first | rfl | go_num, rfl, hn⟩
    ·subst hcy
     clear rC0
     clear hs ec er eb hr hb
     go_wp2
     go_roundg m
     case measure => omega
     case rel => exact ⟨rfl, m, 2 * r + bit - c, o * 2 + 1, by omega, by first | rfl | go_num, by first | rfl | go_num, by first | rfl | go_num, rfl, hn⟩
   ·have hn := Lib.hid (inv_no H low c m r o hm hI.out (by rw [eb]; omega))
    rw [eb] at hn
    obtain rfl : cy = 0 := by omega
    have rC1 := rC0 (by omega)
    clear rC rC0
    have e2 : 2 * r + bit = rr := by omega
    rw [e2] at hn hs
    have h1 : rr < c := by omega
    clear e2
    clear hs ec er eb hr hb
    go_wp2
    go_roundg m
    case measure => omega
    case rel => exact ⟨rfl, m, rr, o * 2, by omega, by first | rfl | go_num, by first | rfl | go_num, by first | rfl | go_num, rfl, hn⟩

theorem ref_muldiv (a b c : Int) (w : World) (ha : W64 a) (hb : W64 b) (hc : W64 c) :
  Calls Try.prog 42 #[.int .u64 a, .int .u64 b, .int .u64 c] w fun e w' => e = .returned (.tuple #[.int .u64 (mdV a b c), .bool (mdB a b c)]) ∧ w = w' := by
 obtain ⟨a0, a1⟩ := ha; obtain ⟨b0, b1⟩ := hb; obtain ⟨c0, c1⟩ := hc
 obtain ⟨x, rfl⟩ := Int.eq_ofNat_of_zero_le a0
 obtain ⟨y, rfl⟩ := Int.eq_ofNat_of_zero_le b0
 obtain ⟨z, rfl⟩ := Int.eq_ofNat_of_zero_le c0
 have hr := Nat.mod_lt (x * y) (show 0 < 18446744073709551616 by omega)
 by_cases h : x * y / 18446744073709551616 < z
 ·obtain ⟨e2, e1⟩ := md_of x y z h
  rw [e1, e2]
  exact refmd_yes x y z _ _ w (by omega) (by omega) (by omega) h hr (Lib.hid rfl) (Lib.hid rfl)
 ·obtain ⟨e2, e1⟩ := md_no x y z (by omega)
  rw [e1, e2]
  clear e1 e2
  have hP := fun w => product x y w (by omega) (by omega)
  generalize x * y / 18446744073709551616 = p at *
  generalize x * y % 18446744073709551616 = r at *
  have h' : (z : Int) ≤ (p : Int) := by omega
  have hb' : decide ((z : Int) ≤ (p : Int)) = true := decide_eq_true h'
  by_cases hz : z = 0
  ·subst hz
   go_enter Try.func42, Try.ntmps42
   go_wp2_with (go_at_call 65; refine (hP _).mono ?_; rintro e w' ⟨rfl, rfl⟩)
   go_ret2
   exact ⟨rfl, rfl⟩
  ·have hc0 : ((z : Int) == 0) = false := by simp; omega
   go_enter Try.func42, Try.ntmps42
   go_wp2_with (go_at_call 65; refine (hP _).mono ?_; rintro e w' ⟨rfl, rfl⟩)
   go_ret2
   exact ⟨rfl, rfl⟩

end Go.Proofs.Ytglglhcnofbagaa.Mo
namespace Go.Proofs.Ytglglhcnofbagaa.Mo
set_option maxRecDepth 100000
open Go.RowKit
set_option linter.unusedSimpArgs false
set_option linter.unusedVariables false


theorem max_int {ρ : Operand → Value} {o : Oper} {x y : Operand} (ho : o.op = .call { callee := .builtin .max, args := #[x, y], argTypes := #[3, 3] }) (a b : Int) (hx : ρ x = .int .i64 a) (hy : ρ y = .int .i64 b) (w : World) : (execOp ρ o).run Try.prog w = .ok (.value (.int .i64 (max a b))) w := by
 unfold execOp
 simp only [ho, hx, hy, resolve, invoke, builtin, Sem.run_bind, Sem.run_pure, Result.andThen_ok, List.map_toArray, List.map_cons, List.map_nil]
 simp [go_sem]
 by_cases hab : a < b
 ·rw [if_pos hab, Int.max_eq_right (by omega)]
 ·rw [if_neg hab, Int.max_eq_left (by omega)]
theorem min_int {ρ : Operand → Value} {o : Oper} {x y : Operand} (ho : o.op = .call { callee := .builtin .min, args := #[x, y], argTypes := #[3, 3] }) (a b : Int) (hx : ρ x = .int .i64 a) (hy : ρ y = .int .i64 b) (w : World) : (execOp ρ o).run Try.prog w = .ok (.value (.int .i64 (min a b))) w := by
 unfold execOp
 simp only [ho, hx, hy, resolve, invoke, builtin, Sem.run_bind, Sem.run_pure, Result.andThen_ok, List.map_toArray, List.map_cons, List.map_nil]
 simp [go_sem]
 by_cases hab : b < a
 ·rw [if_pos hab, Int.min_eq_right (by omega)]
 ·rw [if_neg hab, Int.min_eq_left (by omega)]
theorem conv_iu {ρ : Operand → Value} {o : Oper} {x : Operand} (ho : o.op = .convert 3 22 x) (a : Int) (h0 : 0 ≤ a) (h1 : a ≤ 9223372036854775807) (hx : ρ x = .int .i64 a) (w : World) : (execOp ρ o).run Try.prog w = .ok (.value (.int .u64 a)) w := by
 have hw : IntKind.u64.wrap a = a := by rw [IntKind.wrap_u64]; omega
 unfold execOp
 simp only [ho, hx]
 go_simp
/-- A number as gas counts it. -/
def lim (n : Int) : Int := max 0 (min n 1073741824)
def usedV (s t : Int) : Int := 50 + lim s + 20 * lim t
def prioV (f g : Int) : Int := if g = 0 then 0 else if mdB 1000 f g = true then mdV 1000 f g else 18446744073709551615
theorem lim_range (n : Int) : 0 ≤ lim n ∧ lim n ≤ 1073741824 := by unfold lim; omega
theorem md_comm (a b c : Int) : mdV b a c = mdV a b c ∧ mdB b a c = mdB a b c := by
 unfold mdV mdB
 rw [Int.mul_comm b a]
 exact ⟨rfl, rfl⟩
theorem gas_count (n : Int) (w : World) : Calls Try.prog 77 #[.int .i64 n] w fun e w' => e = .returned (.int .u64 (lim n)) ∧ w = w' := by
 have hr := lim_range n
 have e1 : min (max n 0) 1073741824 = lim n := by unfold lim; omega
 generalize lim n = L at *
 go_enter Try.func77, Try.ntmps77
 go_upto_region 1 with fail
 refine wl <| gzv (.int .i64 n) rfl <| gzw (.int .i64 (max n 0)) (max_int rfl n 0) <| gzv (.int .i64 L) ((min_int rfl (max n 0) 1073741824 (by kernel_rfl) (by kernel_rfl) _).trans (by rw [e1])) <|
  gzv (.int .u64 L) (conv_iu rfl L (by omega) (by omega) (by kernel_rfl) _) <| gz1 (.int .u64 L) <| wn ?_
 simp only [pu]
 go_wp2_with fail
 go_ret
 exact ⟨rfl, rfl⟩
theorem ref_limited (n : Int) (w : World) : Calls Try.prog 63 #[.int .i64 n] w fun e w' => e = .returned (.int .u64 (lim n)) ∧ w = w' := by
 have hr := lim_range n
 have e1 : max 0 (min n 1073741824) = lim n := by unfold lim; omega
 generalize lim n = L at *
 go_enter Try.func63, Try.ntmps63
 go_upto_region 1 with fail
 refine wl <| gzv (.int .i64 n) rfl <| gzw (.int .i64 (min n 1073741824)) (min_int rfl n 1073741824) <| gzv (.int .i64 L) ((max_int rfl 0 (min n 1073741824) (by kernel_rfl) (by kernel_rfl) _).trans (by rw [e1])) <|
  gzv (.int .u64 L) (conv_iu rfl L (by omega) (by omega) (by kernel_rfl) _) <| gz1 (.int .u64 L) <| wn ?_
 simp only [pu]
 go_wp2_with fail
 go_ret
 exact ⟨rfl, rfl⟩
theorem gas_used (s t : Int) (w : World) : Calls Try.prog 55 #[.int .i64 s, .int .i64 t] w fun e w' => e = .returned (.int .u64 (usedV s t)) ∧ w = w' := by
 have h1 := lim_range s
 have h2 := lim_range t
 have c1 := fun w => gas_count s w
 have c2 := fun w => gas_count t w
 unfold usedV
 generalize lim s = a at *
 generalize lim t = b at *
 go_enter Try.func55, Try.ntmps55
 go_wp2_with fail
 refine (c1 _).mono ?_
 rintro e w' ⟨rfl, rfl⟩
 go_wp2_with fail
 refine (c2 _).mono ?_
 rintro e w' ⟨rfl, rfl⟩
 go_wp2
 go_ret
 exact ⟨rfl, rfl⟩
theorem ref_used (s t : Int) (w : World) : Calls Try.prog 40 #[.int .i64 s, .int .i64 t] w fun e w' => e = .returned (.int .u64 (usedV s t)) ∧ w = w' := by
 have h1 := lim_range s
 have h2 := lim_range t
 have c1 := fun w => ref_limited s w
 have c2 := fun w => ref_limited t w
 unfold usedV
 generalize lim s = a at *
 generalize lim t = b at *
 go_enter Try.func40, Try.ntmps40
 go_wp2_with fail
 refine (c1 _).mono ?_
 rintro e w' ⟨rfl, rfl⟩
 go_wp2_with fail
 refine (c2 _).mono ?_
 rintro e w' ⟨rfl, rfl⟩
 go_wp2
 go_ret
 exact ⟨rfl, rfl⟩
theorem gas_need (a b : Int) (w : World) (ha : W64 a) (hb : W64 b) :
  Calls Try.prog 56 #[.int .u64 a, .int .u64 b] w fun e w' => e = .returned (.tuple #[.int .u64 (mulV a b), .bool (mulB a b)]) ∧ w = w' := by
 have c := fun w => money_mul a b w ha hb
 generalize mulV a b = v at *
 generalize mulB a b = t at *
 go_enter Try.func56, Try.ntmps56
 go_wp2_with fail
 refine (c _).mono ?_
 rintro e w' ⟨rfl, rfl⟩
 go_wp2
 go_ret2
 exact ⟨rfl, rfl⟩
theorem ref_need (a b : Int) (w : World) (ha : W64 a) (hb : W64 b) :
  Calls Try.prog 41 #[.int .u64 a, .int .u64 b] w fun e w' => e = .returned (.tuple #[.int .u64 (mulV a b), .bool (mulB a b)]) ∧ w = w' := by
 have c := fun w => ref_mul a b w ha hb
 generalize mulV a b = v at *
 generalize mulB a b = t at *
 go_enter Try.func41, Try.ntmps41
 go_wp2_with fail
 refine (c _).mono ?_
 rintro e w' ⟨rfl, rfl⟩
 go_wp2
 go_ret2
 exact ⟨rfl, rfl⟩
theorem gas_prio (f g : Int) (w : World) (hf : W64 f) (hg : W64 g) :
  Calls Try.prog 14 #[.int .u64 f, .int .u64 g] w fun e w' => e = .returned (.int .u64 (prioV f g)) ∧ ∃ n, w' = w.drewN n := by
 by_cases h : g = 0
 ·subst h
  go_enter Try.func14, Try.ntmps14
  go_wp2
  go_ret
  exact ⟨rfl, 0, rfl⟩
 ·have h0 : (g == 0) = false := by simpa using h
  have c := fun w => money_muldiv 1000 f g w ⟨by omega, by omega⟩ hf hg
  have e : prioV f g = if mdB 1000 f g = true then mdV 1000 f g else 18446744073709551615 := by unfold prioV; rw [if_neg h]
  rw [e]
  clear e
  generalize mdV 1000 f g = v at *
  cases hb : mdB 1000 f g
  ·rw [hb] at c
   clear hb
   go_enter Try.func14, Try.ntmps14
   go_wp2_with fail
   refine (c _).mono ?_
   rintro e w' ⟨rfl, n, rfl⟩
   go_wp2
   go_ret
   exact ⟨rfl, n, rfl⟩
  ·rw [hb] at c
   clear hb
   go_enter Try.func14, Try.ntmps14
   go_wp2_with fail
   refine (c _).mono ?_
   rintro e w' ⟨rfl, n, rfl⟩
   go_wp2
   go_ret
   exact ⟨rfl, n, rfl⟩
theorem ref_prio (f g : Int) (w : World) (hf : W64 f) (hg : W64 g) :
  Calls Try.prog 19 #[.int .u64 f, .int .u64 g] w fun e w' => e = .returned (.int .u64 (prioV f g)) ∧ w = w' := by
 by_cases h : g = 0
 ·subst h
  go_enter Try.func19, Try.ntmps19
  go_wp2
  go_ret
  exact ⟨rfl, rfl⟩
 ·have h0 : (g == 0) = false := by simpa using h
  have c := fun w => ref_muldiv f 1000 g w hf ⟨by omega, by omega⟩ hg
  have e : prioV f g = if mdB 1000 f g = true then mdV 1000 f g else 18446744073709551615 := by unfold prioV; rw [if_neg h]
  rw [e]
  rw [(md_comm 1000 f g).1, (md_comm 1000 f g).2] at c
  clear e
  generalize mdV 1000 f g = v at *
  cases hb : mdB 1000 f g
  ·rw [hb] at c
   clear hb
   go_enter Try.func19, Try.ntmps19
   go_wp2_with fail
   refine (c _).mono ?_
   rintro e w' ⟨rfl, rfl⟩
   go_wp2
   go_ret
   exact ⟨rfl, rfl⟩
  ·rw [hb] at c
   clear hb
   go_enter Try.func19, Try.ntmps19
   go_wp2_with fail
   refine (c _).mono ?_
   rintro e w' ⟨rfl, rfl⟩
   go_wp2
   go_ret
   exact ⟨rfl, rfl⟩
end Go.Proofs.Ytglglhcnofbagaa.Mo
namespace Go.Proofs.Ytglglhcnofbagaa.Lg
set_option maxRecDepth 100000
open Go.RowKit
open Mo (usedV prioV mulB mulV)
set_option linter.unusedVariables false

/-- A result. -/
structure Res where
 code : Int
 snd : ByteArray
 sq : Int
 gas : Int
 pr : Int
abbrev resA (r : Res) : Array Value := #[.int .i64 r.code, .string r.snd, .int .u64 r.sq, .int .u64 r.gas, .int .u64 r.pr]
def zRes (e : Int) : Res := ⟨e, mtS, 0, 0, 0⟩
def amts (t : Txd) : List Int := t.fee :: t.tr.map (·.2)
def cosB (t : Txd) : Bool := sumB (amts t)
def cosV (t : Txd) : Int := sumV (amts t)
/-- The account of a name, or a new one. -/
def getA (A : List Ac) (s : ByteArray) : Ac := if fndL A s < A.length then aca A (fndL A s) else (s, 0, 0)
def givA (A : List Ac) (x : Tf) : List Ac := putL A ((getA A x.1).1, (getA A x.1).2.1 + x.2, (getA A x.1).2.2)
def subA (A : List Ac) (t : Txd) : List Ac := putL A ((getX A t.snd).1.1, (getX A t.snd).1.2.1 - cosV t, (getX A t.snd).1.2.2 + 1)
def giveJ (A : List Ac) (t : Txd) (j : Nat) : List Ac := (t.tr.take j).foldl givA (subA A t)
def doneL (A : List Ac) (t : Txd) : List Ac := giveJ A t t.tr.length
/-- The first error of a transaction behind its reading. -/
def faultX (A : List Ac) (price : Int) (t : Txd) (size : Int) : Int :=
 if (getX A t.snd).2 = false then 13 else if (getX A t.snd).1.2.2 ≠ t.sq then 14 else if t.sq = 18446744073709551615 then 6
 else if t.gas < usedV size t.tr.length then 15 else if mulB t.gas price = false then 6 else if t.fee < mulV t.gas price then 16
 else if cosB t = false then 6 else if (getX A t.snd).1.2.1 < cosV t then 17 else if 256 < (doneL A t).length then 3 else 0
def txX (A : List Ac) (c price : Int) (L : List Int) : (List Ac × Int) × Res :=
 if valE A c ≠ 0 then ((A, c), zRes 1) else if (decX L).2 ≠ 0 then ((A, c), zRes (decX L).2) else
 if faultX A price (decX L).1 L.length ≠ 0 then ((A, c), ⟨faultX A price (decX L).1 L.length, (decX L).1.snd, (decX L).1.sq, (decX L).1.gas, prioV (decX L).1.fee (decX L).1.gas⟩)
 else ((doneL A (decX L).1, c + (decX L).1.fee), ⟨0, (decX L).1.snd, (decX L).1.sq, (decX L).1.gas, prioV (decX L).1.fee (decX L).1.gas⟩)

theorem get_name {A : List Ac} {s : ByteArray} (h : (getX A s).2 = true) : fndL A s < A.length ∧ (getX A s).1 = aca A (fndL A s) ∧ (getX A s).1.1 = s := by
 unfold getX at *
 by_cases hf : fndL A s < A.length
 ·rw [if_pos hf] at *
  exact ⟨hf, rfl, (fnd_at hf).1⟩
 ·rw [if_neg hf] at h
  cases h
theorem getA_name (A : List Ac) (s : ByteArray) : (getA A s).1 = s := by
 unfold getA
 split
 ·rename_i h; exact (fnd_at h).1
 ·rfl
theorem bals_set {A : List Ac} {i : Nat} {a : Ac} (h : i < A.length) : tot (bals (A.set i a)) = tot (bals A) - (aca A i).2.1 + a.2.1 := by
 have e : A.set i a = A.take i ++ a :: A.drop (i + 1) := List.set_eq_take_append_cons_drop.trans (if_pos h)
 have e2 : A = A.take i ++ aca A i :: A.drop (i + 1) := by rw [aca_get h, List.getElem_cons_drop, List.take_append_drop]
 have h1 : tot (bals (A.set i a)) = tot (bals (A.take i)) + (a.2.1 + tot (bals (A.drop (i + 1)))) := by
  rw [e]; unfold bals; rw [List.map_append, List.map_cons, tot_append, tot_cons]
 have h2 : tot (bals A) = tot (bals (A.take i)) + ((aca A i).2.1 + tot (bals (A.drop (i + 1)))) := by
  conv => lhs; rw [e2]
  unfold bals; rw [List.map_append, List.map_cons, tot_append, tot_cons]
 omega
theorem put_tot (A : List Ac) (a : Ac) : tot (bals (putL A a)) = tot (bals A) - (getA A a.1).2.1 + a.2.1 := by
 by_cases h : fndL A a.1 < A.length
 ·rw [put_found h, bals_set h]; unfold getA; rw [if_pos h]
 ·rw [put_new h]
  have e : tot (bals A) = tot (bals (A.take (lesL A a.1))) + tot (bals (A.drop (lesL A a.1))) := by
   rw [← tot_append]; unfold bals; rw [← List.map_append, List.take_append_drop]
  have h1 : tot (bals (A.take (lesL A a.1) ++ a :: A.drop (lesL A a.1))) = tot (bals (A.take (lesL A a.1))) + (a.2.1 + tot (bals (A.drop (lesL A a.1)))) := by
   unfold bals; rw [List.map_append, List.map_cons, tot_append, tot_cons]
  unfold getA
  rw [if_neg h, h1, e]
  show _ = _ - 0 + _
  omega
theorem giv_tot (A : List Ac) (x : Tf) : tot (bals (givA A x)) = tot (bals A) + x.2 := by
 unfold givA
 rw [put_tot]
 simp only [getA_name]
 omega
theorem sub_tot {A : List Ac} {t : Txd} (h : (getX A t.snd).2 = true) : tot (bals (subA A t)) = tot (bals A) - cosV t := by
 obtain ⟨h1, h2, h3⟩ := get_name h
 unfold subA
 rw [put_tot]
 have e : getA A (getX A t.snd).1.1 = (getX A t.snd).1 := by rw [h3]; unfold getA; rw [if_pos h1, h2]
 simp only [e]
 omega
theorem bal_le {A : List Ac} (hw : AcW A) {i : Nat} (h : i < A.length) : (aca A i).2.1 ≤ tot (bals A) := by
 have h1 := bals_set (a := (mtS, 0, 0)) h
 have h2 : 0 ≤ tot (bals (A.set i (mtS, 0, 0))) := tot_nonneg _ fun x hx => by
  obtain ⟨y, hy, rfl⟩ := List.mem_map.1 hx
  rcases List.mem_or_eq_of_mem_set hy with h3 | h3
  ·exact (acw_mem hw y h3).1.1
  ·subst h3; decide
 have h3 : ((mtS, 0, 0) : Ac).2.1 = 0 := rfl
 omega
theorem getA_w {A : List Ac} (hw : AcW A) (s : ByteArray) : W64 (getA A s).2.1 ∧ W64 (getA A s).2.2 ∧ (getA A s).2.1 ≤ tot (bals A) := by
 unfold getA
 split
 ·rename_i h; exact ⟨(hw _ h).1, (hw _ h).2, bal_le hw h⟩
 ·exact ⟨w64_0, w64_0, tot_nonneg _ fun x hx => by obtain ⟨y, hy, rfl⟩ := List.mem_map.1 hx; exact (acw_mem hw y hy).1.1⟩
/-- The amounts of the first transfers. -/
def amJ (t : Txd) (j : Nat) : Int := tot ((t.tr.take j).map (·.2))
theorem amJ_zero (t : Txd) : amJ t 0 = 0 := rfl
theorem amJ_succ {t : Txd} {j : Nat} (h : j < t.tr.length) : amJ t (j + 1) = amJ t j + (tfa t.tr j).2 := by
 unfold amJ
 rw [List.take_succ_eq_append_getElem h, List.map_append, tot_append, tfa_get h]
 show _ + tot [(t.tr[j]).2] = _
 rw [tot_cons]; show _ + (_ + 0) = _; omega
theorem cos_all (t : Txd) : tot (amts t) = t.fee + amJ t t.tr.length := by
 unfold amts amJ
 rw [tot_cons, List.take_length]
theorem cos_yes {t : Txd} (h : cosB t = true) : cosV t = tot (amts t) ∧ tot (amts t) < 18446744073709551616 := by
 have h1 : tot (amts t) < 18446744073709551616 := of_decide_eq_true h
 exact ⟨if_pos h1, h1⟩
theorem cos_no {t : Txd} (h : cosB t = false) : cosV t = 0 := if_neg (of_decide_eq_false h)
theorem amJ_le {t : Txd} (h : ∀ x, x ∈ t.tr → W64 x.2) (j : Nat) : 0 ≤ amJ t j ∧ amJ t j ≤ amJ t t.tr.length := by
 refine ⟨tot_nonneg _ fun x hx => ?_, ?_⟩
 ·obtain ⟨y, hy, rfl⟩ := List.mem_map.1 hx
  exact (h y (List.mem_of_mem_take hy)).1
 ·unfold amJ
  rw [List.take_length, List.map_take]
  refine tot_take_le _ (fun k hk => ?_) _
  rw [List.length_map] at hk
  rw [List.getD_eq_getElem?_getD, List.getElem?_map, List.getElem?_eq_getElem hk]
  exact h _ (List.getElem_mem hk)
theorem giveJ_succ {A : List Ac} {t : Txd} {j : Nat} (h : j < t.tr.length) : giveJ A t (j + 1) = givA (giveJ A t j) (tfa t.tr j) := by
 unfold giveJ
 rw [List.take_succ_eq_append_getElem h, List.foldl_append, tfa_get h]
 rfl
/-- What holds of the lists on the way: words, and the total. -/
structure GvJ (A : List Ac) (t : Txd) (j : Nat) (B : List Ac) : Prop where
 is : B = giveJ A t j
 w : AcW B
 s : tot (bals B) = tot (bals A) - tot (amts t) + amJ t j
 n : B.length ≤ A.length + j
theorem GvJ.start {A : List Ac} {t : Txd} (hw : AcW A) (hg : (getX A t.snd).2 = true) (hq : (getX A t.snd).1.2.2 < 18446744073709551615) (hc : cosB t = true) (hb : cosV t ≤ (getX A t.snd).1.2.1) (h0 : 0 ≤ cosV t) : GvJ A t 0 (subA A t) := by
 obtain ⟨h1, h2, h3⟩ := get_name hg
 have hwi := hw _ h1
 rw [← h2] at hwi
 obtain ⟨⟨p0, p1⟩, q0, q1⟩ := hwi
 refine ⟨rfl, put_w hw ⟨⟨?_, ?_⟩, ?_, ?_⟩, ?_, ?_⟩
 ·show 0 ≤ _ - _; omega
 ·show _ - _ ≤ _; omega
 ·show 0 ≤ _ + 1; omega
 ·show _ + 1 ≤ _; omega
 ·rw [sub_tot hg, (cos_yes hc).1, amJ_zero]; omega
 ·unfold subA; rw [put_len]; simp only [h3]; rw [if_pos h1]; omega
theorem GvJ.step {A B : List Ac} {t : Txd} {j : Nat} (h : GvJ A t j B) (hj : j < t.tr.length) (hA : tot (bals A) < 18446744073709551616) (ht : ∀ x, x ∈ t.tr → W64 x.2) (hf : 0 ≤ t.fee) : GvJ A t (j + 1) (givA B (tfa t.tr j)) ∧ W64 ((getA B (tfa t.tr j).1).2.1 + (tfa t.tr j).2) := by
 have hx : W64 (tfa t.tr j).2 := ht _ (by rw [tfa_get hj]; exact List.getElem_mem hj)
 obtain ⟨⟨b0, b1⟩, ⟨s0, s1⟩, b2⟩ := getA_w h.w (tfa t.tr j).1
 have hs := h.s
 have e1 := amJ_succ hj
 have l1 := (amJ_le ht (j + 1)).2
 have e2 := cos_all t
 obtain ⟨x0, x1⟩ := hx
 have hW : W64 ((getA B (tfa t.tr j).1).2.1 + (tfa t.tr j).2) := ⟨by omega, by omega⟩
 refine ⟨⟨by rw [giveJ_succ hj, h.is], put_w h.w ⟨hW, s0, s1⟩, by rw [giv_tot, hs, e1]; omega, ?_⟩, hW⟩
 unfold givA
 rw [put_len]
 have := h.n
 split <;> omega
end Go.Proofs.Ytglglhcnofbagaa.Lg
