/-
  The contract of Size, and what the operations on bits do to bytes and to numbers of 64 bits.
  Conditions: the argument is a number of 64 bits.
-/
import Derived.Test.YtebnlklodokhkaaDoorProg
import Derived.Test.YtebnlklodokhkaaDoorVAr
import Derived.WalkKit
import Derived.WalkSpells
import Derived.WalkLawsBesides
import Derived.Laws.BitsAllLaws
import Derived.Deep.LoopGhost
import Derived.Lib.Hide
namespace Go.Proofs.YtebnlklodokhkaaDoor
set_option maxRecDepth 100000
open Go.RowKit

/-- A number of 64 bits. -/
def W64 (x : Int) : Prop := 0 ≤ x ∧ x ≤ 18446744073709551615
/-- A byte. -/
def W8 (x : Int) : Prop := 0 ≤ x ∧ x ≤ 255

theorem nat_or128 : ∀ a, a < 256 → a ||| 128 = a % 128 + 128 := by decide +kernel
theorem nat_and127 : ∀ a, a < 256 → a &&& 127 = a % 128 := by decide +kernel
theorem or128 (x : Int) (h : W8 x) : bits .or .u8 x 128 = x % 128 + 128 := by
  obtain ⟨h0, h1⟩ := h
  rw [u8_or x 128 h0 (by omega) (by omega) (by omega), show (128 : Int).toNat = 128 from rfl, nat_or128 x.toNat (by omega)]
  omega
theorem and127 (x : Int) (h : W8 x) : bits .and .u8 x 127 = x % 128 := by
  obtain ⟨h0, h1⟩ := h
  rw [u8_and x 127 h0 (by omega) (by omega) (by omega), show (127 : Int).toNat = 127 from rfl, nat_and127 x.toNat (by omega)]
  omega
theorem andNot128 (x : Int) (h : W8 x) : bits .andNot .u8 x 128 = x % 128 := by
  obtain ⟨h0, h1⟩ := h
  rw [u8_andNot x 128 h0 (by omega) (by omega) (by omega), show 255 - (128 : Int).toNat = 127 from rfl, nat_and127 x.toNat (by omega)]
  omega
theorem pow7 (k : Nat) : (2 : Int) ^ (7 * k) = 128 ^ k := by
  rw [Int.pow_mul]
  rfl
/-- A group is put above what was read before. -/
theorem or64 (acc x : Int) (k : Nat) (h0 : 0 ≤ acc) (h1 : acc < 128 ^ k) (hx : 0 ≤ x) (h2 : x * 128 ^ k < 18446744073709551616) (h3 : acc < 18446744073709551616) :
    bits .or .u64 acc (IntKind.u64.wrap (x * 2 ^ (7 * k))) = acc + x * 128 ^ k := by
  rw [pow7, IntKind.wrap_u64, Int.emod_eq_of_lt (Int.mul_nonneg hx (Int.pow_nonneg (by omega))) h2]
  obtain ⟨a, rfl⟩ := Int.eq_ofNat_of_zero_le h0
  obtain ⟨y, rfl⟩ := Int.eq_ofNat_of_zero_le hx
  have e : ((y : Int) * 128 ^ k) = ((y * 2 ^ (7 * k) : Nat) : Int) := by
    rw [← pow7]
    simp
  rw [e] at h2 ⊢
  rw [u64_or_nat a _ (by omega) (by omega)]
  have ha : a < 2 ^ (7 * k) := by
    rw [← pow7] at h1
    exact_mod_cast h1
  rw [Nat.or_comm, Nat.mul_comm y, ← Nat.two_pow_add_eq_or_of_lt ha]
  omega

set_option maxHeartbeats 1000000 in
theorem size_any (n : Int) (w : World) (h : W64 n) :
    Calls Tryd.prog 68 #[.int .u64 n] w fun e w' => e = .returned (.int .i64 ((Enc n).length : Nat)) ∧ w = w' := by
  have HE := Enc_len n
  have HF := Lib.hid (fit_word h.1 h.2)
  have HU := Lib.hid (show enc 9 n = Enc n from rfl)
  generalize Enc n = E at *
  go_enter Tryd.func68, Tryd.ntmps68
  go_wp2_with fail
  go_loop [0, 3] (fun s0 s3 => ∃ (f j : Nat) (x : Int), s0 = .int .u64 x ∧ W64 x ∧ Hid (Fit f x) ∧ s3 = .int .i64 j ∧ Hid (j + (enc f x).length = E.length + 1) ∧ j ≤ E.length) (fun s0 _ => (intOf s0).toNat)
  case atStart => exact ⟨9, 1, n, rfl, h, HF, rfl, Lib.hid (by rw [HU.out]; omega), by omega⟩
  case round =>
    obtain ⟨f, j, x, rfl, ⟨hx0, hx1⟩, hf, rfl, hj, hj1⟩ := hrel
    by_cases hlt : x < 128
    · have hje : E.length = j := by have := hj.out; rw [enc_small f x hlt] at this; simp at this; omega
      have HJ := Lib.hid hje
      clear hje
      go_wp2
      go_ret
      exact ⟨by rw [HJ.out]; rfl, rfl⟩
    · obtain ⟨g, rfl⟩ := fit_pos hf.out hlt
      have hp := enc_pos g (x / 128)
      have hje : j + 1 + (enc g (x / 128)).length = E.length + 1 := by have := hj.out; rw [enc_large g x hlt] at this; simp at this; omega
      have hj2 : j + 1 ≤ E.length := by omega
      have HJ := Lib.hid hje
      have HF2 := Lib.hid (fit_down hf.out)
      clear hje hp
      go_wp2
      go_round
      case rel => exact ⟨g, j + 1, x / 128, rfl, ⟨by omega, by omega⟩, HF2, by go_num, HJ, hj2⟩
      case measure => simp [intOf]; omega
end Go.Proofs.YtebnlklodokhkaaDoor
