/-
  Bytes, varints and fields: the laws and the functions under them, in one text.
-/
import Derived.Laws.BitsAllLaws
import Derived.Test.YtaaeepanelmgnaaProg
import Derived.WalkKit
import Derived.WalkSpells
import Derived.WalkLawsBesides
import Derived.Deep.LoopGhost
import Derived.Lib.Hide
import Derived.OpenShut
import Derived.Below
import Derived.Laws.AppendOwnNone
import Derived.Laws.BytesArg
namespace Go.Proofs.Ytaaeepanelmgnaa
set_option maxRecDepth 100000
open Go

theorem pow_le {a b : Nat} (h : a ≤ b) : (128 : Int) ^ a ≤ 128 ^ b := by
  obtain ⟨d, rfl⟩ : ∃ d, b = a + d := ⟨b - a, by omega⟩
  rw [Int.pow_add]
  have h0 : (0 : Int) ≤ 128 ^ a := Int.pow_nonneg (by omega)
  have h1 : (0 : Int) < 128 ^ d := Int.pow_pos (by omega)
  have := Int.mul_le_mul_of_nonneg_left (show (1 : Int) ≤ 128 ^ d by omega) h0
  omega

/-- The encoding of n, by at most f + 1 bytes. -/
def enc : Nat → Int → List Int
  | 0, n => [n]
  | f + 1, n => if n < 128 then [n] else (n % 128 + 128) :: enc f (n / 128)
/-- n fits into f + 1 groups. -/
def Fit (f : Nat) (n : Int) : Prop := 0 ≤ n ∧ n < 128 ^ (f + 1)
/-- The encoding of a number of 64 bits. -/
def Enc (n : Int) : List Int := enc 9 n

theorem enc_small (f : Nat) (n : Int) (h : n < 128) : enc f n = [n] := by
  cases f with
  | zero => rfl
  | succ f => rw [enc, if_pos h]
theorem enc_large (f : Nat) (n : Int) (h : ¬ n < 128) : enc (f + 1) n = (n % 128 + 128) :: enc f (n / 128) := by
  rw [enc, if_neg h]
theorem fit_zero {n : Int} (h : Fit 0 n) : n < 128 := by
  have := h.2
  simpa using this
theorem fit_down {f : Nat} {n : Int} (h : Fit (f + 1) n) : Fit f (n / 128) := by
  obtain ⟨h0, h1⟩ := h
  refine ⟨by omega, ?_⟩
  rw [Int.pow_succ] at h1
  have : n / 128 < 128 ^ (f + 1) := Int.ediv_lt_of_lt_mul (by omega) h1
  exact this
theorem fit_pos {f : Nat} {n : Int} (h : Fit f n) (h1 : ¬ n < 128) : ∃ g, f = g + 1 := by
  cases f with
  | zero => exact absurd (fit_zero h) h1
  | succ g => exact ⟨g, rfl⟩
theorem fit_word {n : Int} (h0 : 0 ≤ n) (h1 : n ≤ 18446744073709551615) : Fit 9 n :=
  ⟨h0, by rw [show (128 : Int) ^ (9 + 1) = 1180591620717411303424 from rfl]; omega⟩

theorem enc_pos (f : Nat) (n : Int) : 0 < (enc f n).length := by
  cases f with
  | zero => simp [enc]
  | succ f => rw [enc]; split <;> simp
theorem enc_len (f : Nat) : ∀ n : Int, (enc f n).length ≤ f + 1 := by
  induction f with
  | zero => intro n; simp [enc]
  | succ f ih =>
    intro n
    rw [enc]
    split
    · simp
    · have := ih (n / 128)
      simp
      omega
theorem enc_one (f : Nat) (n : Int) (hf : Fit f n) (h : (enc f n).length = 1) : n < 128 := by
  by_cases hn : n < 128
  · exact hn
  · obtain ⟨g, rfl⟩ := fit_pos hf hn
    rw [enc_large g n hn] at h
    have := enc_pos g (n / 128)
    rw [List.length_cons] at h
    omega
theorem enc_more (f : Nat) (n : Int) (h : 1 < (enc f n).length) : ¬ n < 128 := by
  intro hn
  rw [enc_small f n hn] at h
  simp at h
theorem enc_bytes (f : Nat) : ∀ n : Int, Fit f n → ∀ x, x ∈ enc f n → 0 ≤ x ∧ x ≤ 255 := by
  induction f with
  | zero => intro n h x hx; have := fit_zero h; have := h.1; simp [enc] at hx; omega
  | succ f ih =>
    intro n h x hx
    by_cases hn : n < 128
    · rw [enc_small _ _ hn] at hx; have := h.1; simp at hx; omega
    · rw [enc_large _ _ hn, List.mem_cons] at hx
      rcases hx with rfl | hx
      · omega
      · exact ih _ (fit_down h) x hx

/-- What is read from the bytes l, the first of which has the index i, where the bytes before give acc: the number, the size, the error. -/
def rd : Int → Nat → List Int → Int × Int × Int
  | _, _, [] => (0, 0, 5)
  | acc, i, c :: t =>
    if i = 9 ∧ 1 < c then (0, 0, 6) else if 0 < i ∧ c = 0 then (0, 0, 4) else
    if c < 128 then (acc + c * 128 ^ i, (i : Int) + 1, 0) else rd (acc + (c - 128) * 128 ^ i) (i + 1) t

theorem rd_over {acc : Int} {i : Nat} {c : Int} {t : List Int} (h : i = 9) (h1 : 1 < c) : rd acc i (c :: t) = (0, 0, 6) := by rw [rd, if_pos ⟨h, h1⟩]
theorem rd_zero {acc : Int} {i : Nat} {c : Int} {t : List Int} (h : 0 < i) (h1 : c = 0) : rd acc i (c :: t) = (0, 0, 4) := by
  rw [rd, if_neg (by omega), if_pos ⟨h, h1⟩]
theorem rd_last {acc : Int} {i : Nat} {c : Int} {t : List Int} (h : ¬ (i = 9 ∧ 1 < c)) (h1 : ¬ (0 < i ∧ c = 0)) (h2 : c < 128) : rd acc i (c :: t) = (acc + c * 128 ^ i, (i : Int) + 1, 0) := by
  rw [rd, if_neg h, if_neg h1, if_pos h2]
theorem rd_next {acc : Int} {i : Nat} {c : Int} {t : List Int} (h : ¬ (i = 9 ∧ 1 < c)) (h2 : ¬ c < 128) : rd acc i (c :: t) = rd (acc + (c - 128) * 128 ^ i) (i + 1) t := by
  rw [rd, if_neg h, if_neg (by omega), if_neg h2]

/-- One encoding, whatever follows, is read. -/
theorem rd_enc (f : Nat) : ∀ (acc : Int) (i : Nat) (n : Int) (t : List Int), f + i = 9 → Fit f n → (i = 0 ∨ 0 < n) → (i = 9 → n ≤ 1) → (i ≤ 8 → n * 128 ^ i < 18446744073709551616) →
    rd acc i (enc f n ++ t) = (acc + n * 128 ^ i, (i : Int) + (enc f n).length, 0) := by
  induction f with
  | zero =>
    intro acc i n t hi hf h0 h9 _
    have := h9 (by omega)
    have h1 := fit_zero hf
    show rd acc i (n :: t) = _
    rw [rd_last (by omega) (by omega) h1]
    rfl
  | succ f ih =>
    intro acc i n t hi hf h0 h9 h8
    by_cases hn : n < 128
    · rw [enc_small _ _ hn]
      show rd acc i (n :: t) = _
      rw [rd_last (by omega) (by omega) hn]
      rfl
    · rw [enc_large _ _ hn]
      show rd acc i ((n % 128 + 128) :: (enc f (n / 128) ++ t)) = _
      rw [rd_next (by omega) (by omega)]
      have hp : (128 : Int) ^ (i + 1) = 128 ^ i * 128 := Int.pow_succ 128 i
      have hlt : n / 128 * 128 ^ (i + 1) ≤ n * 128 ^ i := by
        rw [hp, Int.mul_comm (128 ^ i) 128, ← Int.mul_assoc]
        exact Int.mul_le_mul_of_nonneg_right (by omega) (Int.pow_nonneg (by omega))
      have hb := h8 (by omega)
      rw [ih _ (i + 1) (n / 128) t (by omega) (fit_down hf) (by omega) ?_ (fun _ => by omega)]
      · have e : acc + (n % 128 + 128 - 128) * 128 ^ i + n / 128 * 128 ^ (i + 1) = acc + n * 128 ^ i := by
          rw [hp, Int.mul_comm (128 ^ i) 128, ← Int.mul_assoc, Int.add_assoc, ← Int.add_mul]
          congr 2
          omega
        rw [e]
        simp
        omega
      · intro h9'
        obtain rfl : i = 8 := by omega
        rw [show (128 : Int) ^ 8 = 72057594037927936 from rfl] at hb
        omega

/-- A beginning of an encoding that is not all of it is cut off. -/
theorem rd_cut (f : Nat) : ∀ (acc : Int) (i : Nat) (n : Int) (j : Nat), f + i = 9 → Fit f n → (i ≤ 8 → n * 128 ^ i < 18446744073709551616) → (i = 9 → n ≤ 1) → j < (enc f n).length →
    rd acc i ((enc f n).take j) = (0, 0, 5) := by
  induction f with
  | zero =>
    intro acc i n j hi hf h8 h9 hj
    simp [enc] at hj
    subst hj
    rfl
  | succ f ih =>
    intro acc i n j hi hf h8 h9 hj
    by_cases hn : n < 128
    · rw [enc_small _ _ hn] at hj ⊢
      simp at hj
      subst hj
      rfl
    · rw [enc_large _ _ hn] at hj ⊢
      cases j with
      | zero => rfl
      | succ j =>
        rw [List.take_succ_cons, rd_next (by omega) (by omega)]
        have hp : (128 : Int) ^ (i + 1) = 128 ^ i * 128 := Int.pow_succ 128 i
        have hlt : n / 128 * 128 ^ (i + 1) ≤ n * 128 ^ i := by
          rw [hp, Int.mul_comm (128 ^ i) 128, ← Int.mul_assoc]
          exact Int.mul_le_mul_of_nonneg_right (by omega) (Int.pow_nonneg (by omega))
        have hb := h8 (by omega)
        refine ih _ (i + 1) (n / 128) j (by omega) (fit_down hf) (fun _ => by omega) ?_ (by simpa using hj)
        intro h9'
        obtain rfl : i = 8 := by omega
        rw [show (128 : Int) ^ 8 = 72057594037927936 from rfl] at hb
        omega

/-- What can be read is an encoding: else the number and the size are 0. -/
theorem rd_inv : ∀ (l : List Int) (acc : Int) (i : Nat), i ≤ 9 → (∀ x, x ∈ l → 0 ≤ x ∧ x ≤ 255) →
    ((rd acc i l).1 = 0 ∧ (rd acc i l).2.1 = 0 ∧ (rd acc i l).2.2 ≠ 0) ∨
    (∃ m : Int, Fit (9 - i) m ∧ (i = 0 ∨ 0 < m) ∧ m * 128 ^ i < 18446744073709551616 ∧ rd acc i l = (acc + m * 128 ^ i, (i : Int) + (enc (9 - i) m).length, 0) ∧
      (enc (9 - i) m).length ≤ l.length ∧ enc (9 - i) m = l.take (enc (9 - i) m).length) := by
  intro l
  induction l with
  | nil => intro acc i hi hl; exact .inl ⟨rfl, rfl, by simp [rd]⟩
  | cons c t ih =>
    intro acc i hi hl
    have hc := hl c (by simp)
    by_cases h1 : i = 9 ∧ 1 < c
    · rw [rd_over h1.1 h1.2]; exact .inl ⟨rfl, rfl, by simp⟩
    by_cases h2 : 0 < i ∧ c = 0
    · rw [rd_zero h2.1 h2.2]; exact .inl ⟨rfl, rfl, by simp⟩
    by_cases h3 : c < 128
    · rw [rd_last h1 h2 h3]
      refine .inr ⟨c, ⟨hc.1, ?_⟩, by omega, ?_, ?_, ?_, ?_⟩
      · have : (128 : Int) ^ 1 ≤ 128 ^ (9 - i + 1) := pow_le (by omega)
        rw [show (128 : Int) ^ 1 = 128 from rfl] at this
        omega
      · by_cases h9 : i = 9
        · subst h9
          rw [show (128 : Int) ^ 9 = 9223372036854775808 from rfl]
          omega
        · have hp : (128 : Int) ^ i ≤ 128 ^ 8 := pow_le (by omega)
          rw [show (128 : Int) ^ 8 = 72057594037927936 from rfl] at hp
          have h0 : (0 : Int) ≤ 128 ^ i := Int.pow_nonneg (by omega)
          have := Int.mul_le_mul (show c ≤ 127 by omega) hp h0 (by omega)
          omega
      · rw [enc_small _ _ h3]; rfl
      · rw [enc_small _ _ h3]; simp
      · rw [enc_small _ _ h3]; simp
    · have h9 : i ≤ 8 := by omega
      rw [rd_next h1 h3]
      rcases ih (acc + (c - 128) * 128 ^ i) (i + 1) (by omega) (fun x hx => hl x (by simp [hx])) with h | ⟨m, hf, hp, hb, he, hlen, ht⟩
      · exact .inl h
      · have hpos : 0 < m := by omega
        have hm : ¬ (c - 128 + m * 128) < 128 := by omega
        obtain ⟨g, hg⟩ : ∃ g, 9 - i = g + 1 := ⟨8 - i, by omega⟩
        have hg' : 9 - (i + 1) = g := by omega
        rw [hg'] at hf he hlen ht
        have hpow : (128 : Int) ^ (i + 1) = 128 ^ i * 128 := Int.pow_succ 128 i
        have he2 : enc (g + 1) (c - 128 + m * 128) = c :: enc g m := by
          rw [enc_large _ _ hm, show (c - 128 + m * 128) % 128 + 128 = c by omega, show (c - 128 + m * 128) / 128 = m by omega]
        refine .inr ⟨c - 128 + m * 128, ?_, by omega, ?_, ?_, ?_, ?_⟩
        · rw [hg]
          refine ⟨by omega, ?_⟩
          have := hf.2
          rw [Int.pow_succ]
          omega
        · have h0 : (0 : Int) ≤ 128 ^ i := Int.pow_nonneg (by omega)
          rw [hpow] at hb
          have h5 : (m + 1) * (128 ^ i * 128) ≤ 18446744073709551616 := by
            have hcase : i ≤ 8 := h9
            have : i = 0 ∨ i = 1 ∨ i = 2 ∨ i = 3 ∨ i = 4 ∨ i = 5 ∨ i = 6 ∨ i = 7 ∨ i = 8 := by omega
            rcases this with rfl | rfl | rfl | rfl | rfl | rfl | rfl | rfl | rfl <;> simp at hb ⊢ <;> omega
          have h6 : (c - 128 + m * 128) * 128 ^ i < (m + 1) * (128 ^ i * 128) := by
            rw [Int.mul_comm (128 ^ i) 128, ← Int.mul_assoc]
            exact Int.mul_lt_mul_of_pos_right (by omega) (Int.pow_pos (by omega))
          omega
        · rw [he, hg, he2]
          have e : acc + (c - 128) * 128 ^ i + m * 128 ^ (i + 1) = acc + (c - 128 + m * 128) * 128 ^ i := by
            rw [hpow, Int.mul_comm (128 ^ i) 128, ← Int.mul_assoc, Int.add_assoc, ← Int.add_mul]
          rw [e]
          simp
          omega
        · rw [hg, he2]; simpa using hlen
        · rw [hg, he2]
          simp only [List.length_cons, List.take_succ_cons]
          rw [← ht]

theorem rd_Enc (n : Int) (h0 : 0 ≤ n) (h1 : n ≤ 18446744073709551615) (t : List Int) : rd 0 0 (Enc n ++ t) = (n, ((Enc n).length : Int), 0) := by
  have := rd_enc 9 0 0 n t rfl (fit_word h0 h1) (.inl rfl) (by omega) (fun _ => by simp; omega)
  unfold Enc
  rw [this]
  simp
theorem rd_Enc_cut (n : Int) (h0 : 0 ≤ n) (h1 : n ≤ 18446744073709551615) (j : Nat) (hj : j < (Enc n).length) : rd 0 0 ((Enc n).take j) = (0, 0, 5) :=
  rd_cut 9 0 0 n j rfl (fit_word h0 h1) (fun _ => by simp; omega) (by omega) hj
theorem rd_Inv (l : List Int) (hl : ∀ x, x ∈ l → 0 ≤ x ∧ x ≤ 255) : ((rd 0 0 l).1 = 0 ∧ (rd 0 0 l).2.1 = 0 ∧ (rd 0 0 l).2.2 ≠ 0) ∨
    (∃ m : Int, 0 ≤ m ∧ m ≤ 18446744073709551615 ∧ rd 0 0 l = (m, ((Enc m).length : Int), 0) ∧ (Enc m).length ≤ l.length ∧ Enc m = l.take (Enc m).length) := by
  rcases rd_inv l 0 0 (by omega) hl with h | ⟨m, hf, _, hb, he, h1, h2⟩
  · exact .inl h
  · refine .inr ⟨m, hf.1, by simpa using Int.le_of_lt_add_one (by simpa using hb), ?_, h1, h2⟩
    rw [he]
    simp [Enc]
theorem Enc_len (n : Int) : 0 < (Enc n).length ∧ (Enc n).length ≤ 10 := ⟨enc_pos 9 n, enc_len 9 n⟩
theorem Enc_bytes (n : Int) (h0 : 0 ≤ n) (h1 : n ≤ 18446744073709551615) : ∀ x, x ∈ Enc n → 0 ≤ x ∧ x ≤ 255 := enc_bytes 9 n (fit_word h0 h1)
end Go.Proofs.Ytaaeepanelmgnaa
namespace Go.Proofs.Ytaaeepanelmgnaa
set_option maxRecDepth 100000
open Go.RowKit

/-- A number of 64 bits. -/
def W64 (x : Int) : Prop := 0 ≤ x ∧ x ≤ 18446744073709551615
/-- A byte. -/
def W8 (x : Int) : Prop := 0 ≤ x ∧ x ≤ 255

theorem nat_or128 : ∀ a, a < 256 → a ||| 128 = a % 128 + 128 := by decide +kernel
theorem nat_and127 : ∀ a, a < 256 → a &&& 127 = a % 128 := by decide +kernel
theorem or128 (x : Int) (h : W8 x) : bits .or .u8 x 128 = x % 128 + 128 := by
  obtain ⟨h0, h1⟩ := h
  rw [u8_or x 128 h0 (by omega) (by omega) (by omega), show (128 : Int).toNat = 128 from rfl, nat_or128 x.toNat (by omega)]
  omega
theorem and127 (x : Int) (h : W8 x) : bits .and .u8 x 127 = x % 128 := by
  obtain ⟨h0, h1⟩ := h
  rw [u8_and x 127 h0 (by omega) (by omega) (by omega), show (127 : Int).toNat = 127 from rfl, nat_and127 x.toNat (by omega)]
  omega
theorem andNot128 (x : Int) (h : W8 x) : bits .andNot .u8 x 128 = x % 128 := by
  obtain ⟨h0, h1⟩ := h
  rw [u8_andNot x 128 h0 (by omega) (by omega) (by omega), show 255 - (128 : Int).toNat = 127 from rfl, nat_and127 x.toNat (by omega)]
  omega
theorem pow7 (k : Nat) : (2 : Int) ^ (7 * k) = 128 ^ k := by
  rw [Int.pow_mul]
  rfl
/-- A group is put above what was read before. -/
theorem or64 (acc x : Int) (k : Nat) (h0 : 0 ≤ acc) (h1 : acc < 128 ^ k) (hx : 0 ≤ x) (h2 : x * 128 ^ k < 18446744073709551616) (h3 : acc < 18446744073709551616) :
    bits .or .u64 acc (IntKind.u64.wrap (x * 2 ^ (7 * k))) = acc + x * 128 ^ k := by
  rw [pow7, IntKind.wrap_u64, Int.emod_eq_of_lt (Int.mul_nonneg hx (Int.pow_nonneg (by omega))) h2]
  obtain ⟨a, rfl⟩ := Int.eq_ofNat_of_zero_le h0
  obtain ⟨y, rfl⟩ := Int.eq_ofNat_of_zero_le hx
  have e : ((y : Int) * 128 ^ k) = ((y * 2 ^ (7 * k) : Nat) : Int) := by
    rw [← pow7]
    simp
  rw [e] at h2 ⊢
  rw [u64_or_nat a _ (by omega) (by omega)]
  have ha : a < 2 ^ (7 * k) := by
    rw [← pow7] at h1
    exact_mod_cast h1
  rw [Nat.or_comm, Nat.mul_comm y, ← Nat.two_pow_add_eq_or_of_lt ha]
  omega

set_option maxHeartbeats 1000000 in
theorem size_any (n : Int) (w : World) (h : W64 n) :
    Calls Try.prog 71 #[.int .u64 n] w fun e w' => e = .returned (.int .i64 ((Enc n).length : Nat)) ∧ w = w' := by
  have HE := Enc_len n
  have HF := Lib.hid (fit_word h.1 h.2)
  have HU := Lib.hid (show enc 9 n = Enc n from rfl)
  generalize Enc n = E at *
  go_enter Try.func71, Try.ntmps71
  go_wp2_with fail
  go_loop [0, 3] (fun s0 s3 => ∃ (f j : Nat) (x : Int), s0 = .int .u64 x ∧ W64 x ∧ Hid (Fit f x) ∧ s3 = .int .i64 j ∧ Hid (j + (enc f x).length = E.length + 1) ∧ j ≤ E.length) (fun s0 _ => (intOf s0).toNat)
  case atStart => exact ⟨9, 1, n, rfl, h, HF, rfl, Lib.hid (by rw [HU.out]; omega), by omega⟩
  case round =>
    obtain ⟨f, j, x, rfl, ⟨hx0, hx1⟩, hf, rfl, hj, hj1⟩ := hrel
    by_cases hlt : x < 128
    · have hje : E.length = j := by have := hj.out; rw [enc_small f x hlt] at this; simp at this; omega
      have HJ := Lib.hid hje
      clear hje
      go_wp2
      go_ret
      exact ⟨by rw [HJ.out]; rfl, rfl⟩
    · obtain ⟨g, rfl⟩ := fit_pos hf.out hlt
      have hp := enc_pos g (x / 128)
      have hje : j + 1 + (enc g (x / 128)).length = E.length + 1 := by have := hj.out; rw [enc_large g x hlt] at this; simp at this; omega
      have hj2 : j + 1 ≤ E.length := by omega
      have HJ := Lib.hid hje
      have HF2 := Lib.hid (fit_down hf.out)
      clear hje hp
      go_wp2
      go_round
      case rel => exact ⟨g, j + 1, x / 128, rfl, ⟨by omega, by omega⟩, HF2, by go_num, HJ, hj2⟩
      case measure => simp [intOf]; omega
end Go.Proofs.Ytaaeepanelmgnaa
namespace Go.Proofs.Ytaaeepanelmgnaa
set_option maxRecDepth 100000
open Go.RowKit

theorem info5 : (Try.prog.info? 5).map (fun i => (i.zero, i.size, i.bytes)) = some (some (.int .u8 0), 1, 1) := by kernel_rfl

/-- A slice value at a, of the capacity c, reads as the bytes L: it is nil, or its cells hold them. -/
def Sl (w : World) (a : Option Addr) (c : Nat) (L : List Int) : Prop :=
  (a = none ∧ c = 0 ∧ L = []) ∨ ∃ x, a = some x ∧ ∀ k, k < L.length → ∃ b off, x = ⟨b, off, none⟩ ∧ w.cell? ⟨b, off + k, none⟩ = some (.int .u8 (L.getD k 0))

theorem sl_at {w : World} {a : Option Addr} {c : Nat} {L : List Int} (h : Sl w a c L) {k : Nat} (hk : k < L.length) : ∃ b off, a = some ⟨b, off, none⟩ ∧ b < w.heap.size ∧ w.cell? ⟨b, off + k, none⟩ = some (.int .u8 (L.getD k 0)) := by
  rcases h with ⟨_, _, rfl⟩ | ⟨x, rfl, hx⟩
  · simp at hk
  · obtain ⟨b, off, rfl, hc⟩ := hx k hk
    exact ⟨b, off, rfl, World.block_lt_of_cell? w (⟨b, off + k, none⟩ : Addr) hc, hc⟩
theorem sl_below {w w' : World} {a : Option Addr} {c : Nat} {L : List Int} (h : Sl w a c L) (hb : Below w.heap.size w w') : Sl w' a c L := by
  rcases h with h | ⟨x, rfl, hx⟩
  · exact .inl h
  · refine .inr ⟨x, rfl, fun k hk => ?_⟩
    obtain ⟨b, off, rfl, hc⟩ := hx k hk
    exact ⟨b, off, rfl, (hb.cell (p := ⟨b, off + k, none⟩) (World.block_lt_of_cell? w _ hc)).trans hc⟩
/-- A row that the call made reads as its bytes. -/
theorem sl_own {w : World} {B : Nat} {v : Value} {n : Nat} {L : List Int} (h : w.ownsRow B 5 1 v n (L.map (Value.int .u8))) : ∃ a c, v = .slice a L.length c ∧ Sl w a c L ∧ n = L.length ∧ L.length ≤ c := by
  have hn : L.length = n := by have := h.1; simpa using this
  subst hn
  rcases h.2 with ⟨rfl, h0⟩ | ⟨g, cap, cur, rfl, hb, hg, hcap, _⟩
  · exact ⟨none, 0, by rw [h0], .inl ⟨rfl, rfl, List.eq_nil_of_length_eq_zero h0⟩, rfl, by omega⟩
  · refine ⟨some ⟨g, 0, none⟩, cap, rfl, .inr ⟨_, rfl, fun k hk => ⟨g, 0, rfl, ?_⟩⟩, rfl, hcap⟩
    have hk' := h.cells (g := g) rfl k (.int .u8 (L.getD k 0)) (by rw [List.getElem?_map, List.getElem?_eq_getElem hk, List.getD_eq_getElem?_getD, List.getElem?_eq_getElem hk]; rfl)
    rw [← hk', Go.WideShapes.add_plain]

theorem owns_below {w w' : World} {B B2 : Nat} {v : Value} {n : Nat} {xs : List Value} (h : w.ownsRow B 5 1 v n xs) (hb : Below B2 w w') (hlt : w.heap.size ≤ B2) : w'.ownsRow B 5 1 v n xs := by
  refine ⟨h.1, ?_⟩
  rcases h.2 with hn | ⟨g, cap, cur, rfl, h1, hg, rest⟩
  · exact .inl hn
  · have hl := (Array.getElem?_eq_some_iff.1 hg).1
    exact .inr ⟨g, cap, cur, rfl, h1, (hb.block g (by omega)).trans hg, rest⟩

/-- A slice of bytes as a string. -/
theorem conv_sl {a : Option Addr} {c : Nat} {L : List Int} {w : World} (h : Sl w a c L) : (convert 39 9 (.slice a L.length c)).run Try.prog w = .ok (.string (strOfNums L)) w := by
  rcases h with ⟨rfl, rfl, rfl⟩ | ⟨x, rfl, hx⟩
  · exact run_convert_bytes_nil w 39 5 Try.underlying39 Try.underlying5 _ _ 9 Try.underlying9
  · have hl : (loadCells x L.length).run Try.prog w = .ok (L.map (Value.int .u8)).toArray w := by
      have := run_loadCells_list (P := Try.prog) w x (L.map (Value.int .u8)) (fun j v hj => by
        have hj' : j < L.length := by
          rcases Nat.lt_or_ge j L.length with h | h
          · exact h
          · rw [List.getElem?_eq_none (by simpa using h)] at hj; cases hj
        obtain ⟨b, off, rfl, hc⟩ := hx j hj'
        rw [Go.WideShapes.add_plain, hc]
        rw [List.getElem?_map, List.getElem?_eq_getElem hj'] at hj
        rw [List.getD_eq_getElem?_getD, List.getElem?_eq_getElem hj']
        exact hj)
      simpa using this
    rw [run_convert_bytes_string w 39 9 5 _ _ c Try.underlying39 Try.underlying5 Try.underlying9, run_bytesToString w x _ c L hl, foldl_push_bytes]
    simp [strOfNums, ByteArray.empty, ByteArray.emptyWithCapacity]
    try rfl

/-- Two slices with the same bytes are equal as strings. -/
theorem same_true (a1 : Option Addr) (c1 : Nat) (a2 : Option Addr) (c2 : Nat) (L : List Int) (w : World) (h1 : Sl w a1 c1 L) (h2 : Sl w a2 c2 L) :
    Calls Try.prog 21 #[.slice a1 L.length c1, .slice a2 L.length c2] w fun e w' => e = .returned (.bool true) ∧ w = w' := by
  have C1 := conv_sl h1
  have C2 := conv_sl h2
  go_enter Try.func21, Try.ntmps21
  go_wp2
  go_ret
  exact ⟨rfl, rfl⟩

/-- 'append' to a row of the call's own, from whatever source. -/
theorem append_src {P : Program} {w : World} {ops : Array Oper} {rest : List Oper} {o : Oper} {a : Act} {Q : Exit → Act → World → Prop} (hgd : o.guard = none) (s x : Operand) (t : TypeId)
    (ho : o.op = .call { callee := .builtin .append, args := #[s, x], argTypes := #[t, t] })
    (base : Nat) (i : TypeInfo) (ht : P.underlying t = some (.slice 5)) (hi : P.info? 5 = some i) (hz : i.zero = some (.int .u8 0)) (hsize : i.size = 1) (hby : i.bytes = 1)
    (v : Value) (n : Nat) (xs : List Value) (hs : a.eval s = v) (hown : w.ownsRow base 5 1 v n xs)
    (ad : Option Addr) (m c : Nat) (L : List Int) (hx : a.eval x = .slice ad m c) (hm : L.length = m) (hr : Sl w ad c L) (hb : n + m ≤ 140737488355328) (hbase : base ≤ w.heap.size)
    (h : ∀ v' w', w'.ownsRow base 5 1 v' (n + m) (xs ++ L.map (Value.int .u8)) → w.grownBy w' v.ownBlock → wpList P ops Q rest (a.put o.dst v') w') : wpList P ops Q (o :: rest) a w := by
  subst hm
  rcases hr with ⟨rfl, rfl, rfl⟩ | ⟨y, rfl, hy⟩
  · exact wpList_append_own_none hgd s x t ho base 5 i 1 ht hi v n xs hs hown hx (h v w (by simpa using hown) (World.grownBy.refl w _))
  · refine wpList_append_own w hgd s x t ho base 5 i (.int .u8 0) 1 1 ht hi hz hsize hby rfl (by decide) v n xs hs hown y L.length c (L.map (Value.int .u8)) hx (by simp) ?_ (ints_oneCell _ _) (by unfold maxLen; omega) (by omega) hbase (fun v' w' h1 h2 _ => h v' w' h1 h2)
    intro j u hj
    have hj' : j < L.length := by
      rcases Nat.lt_or_ge j L.length with h | h
      · exact h
      · rw [List.getElem?_eq_none (by simpa using h)] at hj; cases hj
    obtain ⟨b, off, rfl, hc⟩ := hy j hj'
    rw [Go.WideShapes.add_plain, hc]
    rw [List.getElem?_map, List.getElem?_eq_getElem hj'] at hj
    rw [List.getD_eq_getElem?_getD, List.getElem?_eq_getElem hj']
    exact hj
/-- Behind an append to an owned row: all that lies below the base stays. -/
theorem after_append {w0 w w1 : World} {B B2 n : Nat} {v : Value} {xs : List Value} (hB : B2 ≤ B) (hs : B2 ≤ w.heap.size) (hown : w.ownsRow B 5 1 v n xs) (hnx : Below B2 w0 w) (hgrow : w.grownBy w1 v.ownBlock) : Below B2 w0 w1 :=
  hnx.grown hgrow hs (fun j hj => by have := (hown.lt j hj).1; omega)
/-- A new block of one cell, the one byte that is appended. -/
theorem sl_one (w : World) (x : Int) (t : Nat) : Sl (w.alloc (.cells #[.int .u8 x] t)) (some ⟨w.heap.size, 0, none⟩) 1 [x] := by
  refine .inr ⟨_, rfl, fun k hk => ⟨_, _, rfl, ?_⟩⟩
  have : k = 0 := by simpa using hk
  subst this
  simp
end Go.Proofs.Ytaaeepanelmgnaa
namespace Go.Proofs.Ytaaeepanelmgnaa
set_option maxRecDepth 100000
open Go.RowKit

theorem enc_snoc (f : Nat) (x : Int) (P E : List Int) (hx : ¬ x < 128) (h : P ++ enc (f + 1) x = E) : (P ++ [x % 128 + 128]) ++ enc f (x / 128) = E := by
  rw [enc_large f x hx] at h
  simpa using h

/-- An empty row that was just made. -/
theorem own_empty (w : World) : (w.alloc (.cells #[] 5)).ownsRow w.heap.size 5 1 (.slice (some ⟨w.heap.size, 0, none⟩) 0 0) 0 [] :=
  ⟨by simp, .inr ⟨w.heap.size, 0, #[], rfl, Nat.le_refl _, heap_alloc_new w _, by omega, by unfold maxLen; omega, rfl, rfl⟩⟩

set_option maxHeartbeats 2000000 in
theorem ref_append (a : Option Addr) (c : Nat) (L : List Int) (n : Int) (w : World) (hL : L.length ≤ 1000000) (hr : Sl w a c L) (hn : W64 n) :
    Calls Try.prog 58 #[.slice a L.length c, .int .u64 n] w fun e w' => ∃ v, e = .returned v ∧ w'.ownsRow w.heap.size 5 1 v (L ++ Enc n).length ((L ++ Enc n).map (Value.int .u8)) ∧ Below w.heap.size w w' := by
  have HE := Enc_len n
  have HF := Lib.hid (fit_word hn.1 hn.2)
  have HU := Lib.hid (show enc 9 n = Enc n from rfl)
  have HR := Lib.hid hr
  generalize Enc n = E at *
  obtain ⟨i0, hi, hz0, hz1, hz2⟩ := info_parts info5
  have HI := Lib.hid hi
  have HZ0 := Lib.hid hz0
  have HZ1 := Lib.hid hz1
  have HZ2 := Lib.hid hz2
  clear hi hz0 hz1 hz2
  have hr1 := sl_below hr ((Below.refl w.heap.size w).alloc (Nat.le_refl _) (.cells #[] 5))
  have HR1 := Lib.hid hr1
  clear hr1 hr
  go_enter Try.func58, Try.ntmps58
  go_wp2_with (at_builtin; refine append_src rfl _ _ 39 rfl w.heap.size i0 Try.underlying39 HI.out HZ0.out HZ1.out HZ2.out _ 0 [] rfl (own_empty w) a L.length c L rfl rfl HR1.out ?c1 ?c2 ?_)
  case c1 => omega
  case c2 => simp
  intro v' w1 hown hgrow
  have hbel := after_append (w0 := w) (Nat.le_refl _) (by simp) (own_empty w) ((Below.refl _ w).alloc (Nat.le_refl _) _) hgrow
  clear hgrow HR1
  go_wp2_with fail
  go_loopg [1, 5] 9 (fun g s1 s5 wx => ∃ (f : Nat) (x : Int) (P : List Int), s1 = .int .u64 x ∧ W64 x ∧ Hid (Fit f x) ∧ wx.ownsRow w.heap.size 5 1 s5 (L.length + P.length) ((L ++ P).map (Value.int .u8)) ∧ Below w.heap.size w wx ∧ Hid (P ++ enc f x = E) ∧ f = g)
  case atStart => exact ⟨9, n, [], rfl, hn, HF, by simpa using hown, hbel, HU, rfl⟩
  case round =>
    obtain ⟨f, x, P, rfl, ⟨hx0, hx1⟩, hf, ho, hb, hu, rfl⟩ := hrel
    have hlen : P.length ≤ E.length := by rw [← hu.out]; simp
    have hsz := hb.size
    by_cases hlt : x < 128
    · go_wp2_with (at_builtin; refine append_src rfl _ _ 39 rfl w.heap.size i0 Try.underlying39 HI.out HZ0.out HZ1.out HZ2.out _ (L.length + P.length) _ rfl (ho.alloc _) (some ⟨wr.heap.size, 0, none⟩) 1 1 [x] rfl rfl (sl_one _ _ _) ?d1 ?d2 ?_)
      case d1 => omega
      case d2 => simp; omega
      intro v1 w2 ho2 hgrow
      have hb2 := after_append (Nat.le_refl _) (hb.alloc hsz _).size (ho.alloc _) (hb.alloc hsz _) hgrow
      have hu2 := hu.out
      rw [enc_small f x hlt] at hu2
      have HO : Hid (w2.ownsRow w.heap.size 5 1 v1 (L ++ E).length ((L ++ E).map (Value.int .u8))) := by
        rw [← hu2]
        simpa [Hid, Nat.add_assoc] using ho2
      clear hgrow ho hb ho2 hu2
      go_wp2
      go_ret
      exact ⟨_, rfl, HO.out, hb2⟩
    · obtain ⟨f', rfl⟩ := fit_pos hf.out hlt
      have hy1 : bits .or .u8 (x % 256) 128 = x % 128 + 128 := (or128 (x % 256) ⟨by omega, by omega⟩).trans (by omega)
      have hy2 : bits .or .u8 (IntKind.u8.wrap x) 128 = x % 128 + 128 := by rw [IntKind.wrap_u8']; exact hy1
      have HY := Lib.hid (enc_snoc f' x P E hlt hu.out)
      generalize x % 128 + 128 = y at *
      go_wp2_with (at_builtin; refine append_src rfl _ _ 39 rfl w.heap.size i0 Try.underlying39 HI.out HZ0.out HZ1.out HZ2.out _ (L.length + P.length) _ rfl (ho.alloc _) (some ⟨wr.heap.size, 0, none⟩) 1 1 [y] rfl rfl (sl_one _ _ _) ?e1 ?e2 ?_)
      case e1 => omega
      case e2 => have := (hb.alloc hsz (.cells #[.int .u8 y] 5)).size; omega
      intro v1 w2 ho2 hgrow
      have hb2 := after_append (Nat.le_refl _) (hb.alloc hsz _).size (ho.alloc _) (hb.alloc hsz _) hgrow
      clear hgrow ho hb hy1 hy2
      go_wp2
      go_roundg f'
      case measure => omega
      case rel => exact ⟨f', x / 128, P ++ [y], by rfl, ⟨by omega, by omega⟩, Lib.hid (fit_down hf.out), by simpa [Nat.add_assoc] using ho2, hb2, HY, rfl⟩

end Go.Proofs.Ytaaeepanelmgnaa
namespace Go.Proofs.Ytaaeepanelmgnaa
set_option maxRecDepth 100000
open Go.RowKit

theorem div_pow (n : Int) (i : Nat) : n / 128 ^ (i + 1) = n / 128 ^ i / 128 := by
  have h0 : (0 : Int) ≤ 128 ^ i := Int.pow_nonneg (by omega)
  rw [Int.pow_succ, Int.ediv_ediv, if_neg (fun h => by omega), Int.sub_zero]
theorem next_byte (n : Int) (i : Nat) (P E : List Int) (h : P ++ enc (9 - i) (n / 128 ^ i) = E) (hP : P.length = i) (hE : E.length ≤ 10) (hlt : i + 1 < E.length) :
    bits .or .u8 (n / 2 ^ (7 * i) % 256) 128 = n / 128 ^ i % 128 + 128 ∧ (P ++ [n / 128 ^ i % 128 + 128]) ++ enc (9 - (i + 1)) (n / 128 ^ (i + 1)) = E := by
  have hl : P.length + (enc (9 - i) (n / 128 ^ i)).length = E.length := by rw [← h, List.length_append]
  have hx := enc_more (9 - i) (n / 128 ^ i) (by omega)
  obtain ⟨g, hg⟩ : ∃ g, 9 - i = g + 1 := ⟨8 - i, by omega⟩
  rw [pow7, div_pow, show 9 - (i + 1) = g by omega]
  rw [hg] at h
  exact ⟨(or128 _ ⟨by omega, by omega⟩).trans (by omega), enc_snoc g _ P E hx h⟩
theorem last_byte (n : Int) (i : Nat) (P E : List Int) (hn : W64 n) (h : P ++ enc (9 - i) (n / 128 ^ i) = E) (hP : P.length = i) (hE : E.length ≤ 10) (hlt : i + 1 = E.length) :
    n / 2 ^ (7 * i) % 256 = n / 128 ^ i ∧ P ++ [n / 128 ^ i] = E := by
  have hl : P.length + (enc (9 - i) (n / 128 ^ i)).length = E.length := by rw [← h, List.length_append]
  have hf : Fit (9 - i) (n / 128 ^ i) := by
    refine ⟨Int.ediv_nonneg hn.1 (Int.pow_nonneg (by omega)), Int.ediv_lt_of_lt_mul (Int.pow_pos (by omega)) ?_⟩
    rw [← Int.pow_add, show 9 - i + 1 + i = 10 by omega]
    have := hn.2
    rw [show (128 : Int) ^ 10 = 1180591620717411303424 from rfl]
    omega
  have hx := enc_one _ _ hf (by omega)
  rw [enc_small _ _ hx] at h
  rw [pow7]
  have := hf.1
  exact ⟨by omega, h⟩

set_option maxHeartbeats 2000000 in
theorem code_append (a : Option Addr) (c : Nat) (L : List Int) (n : Int) (w : World) (hL : L.length ≤ 1000000) (hr : Sl w a c L) (hn : W64 n) :
    Calls Try.prog 64 #[.slice a L.length c, .int .u64 n] w fun e w' => ∃ v, e = .returned v ∧ w'.ownsRow w.heap.size 5 1 v (L ++ Enc n).length ((L ++ Enc n).map (Value.int .u8)) ∧ Below w.heap.size w w' := by
  have HE := Enc_len n
  have HF := Lib.hid (fit_word hn.1 hn.2)
  have HU := Lib.hid (show enc 9 n = Enc n from rfl)
  have C := size_any n w hn
  generalize Enc n = E at *
  obtain ⟨i0, hi, hz0, hz1, hz2⟩ := info_parts info5
  have HI := Lib.hid hi
  have HZ0 := Lib.hid hz0
  have HZ1 := Lib.hid hz1
  have HZ2 := Lib.hid hz2
  clear hi hz0 hz1 hz2
  have HR := Lib.hid hr
  clear hr
  go_enter Try.func64, Try.ntmps64
  go_wp2_with fail
  refine C.mono ?_
  rintro e w' ⟨rfl, rfl⟩
  clear C
  go_wp2_with (at_make; refine wpList_make_own _ rfl _ _ 39 rfl w.heap.size 5 i0 (.int .u8 0) 1 Try.underlying39 HI.out HZ0.out HZ1.out .i64 .i64 _ (L.length + E.length) rfl rfl ?c1 ?c2 ?c3 ?c4 ?_)
  case c1 => omega
  case c2 => rw [HZ2.out]; omega
  case c3 => unfold maxLen; omega
  case c4 => exact Nat.le_refl _
  intro w1 ho hgrow
  have hb := (Below.refl w.heap.size w).grown hgrow (Nat.le_refl _) (fun k hk => by cases hk)
  have HR1 := Lib.hid (sl_below HR.out hb)
  have hsz := hb.size
  clear hgrow HR
  go_wp2_with (at_builtin; refine append_src rfl _ _ 39 rfl w.heap.size i0 Try.underlying39 HI.out HZ0.out HZ1.out HZ2.out _ 0 [] rfl ho a L.length c L rfl rfl HR1.out ?d1 ?d2 ?_)
  case d1 => omega
  case d2 => exact hsz
  intro v2 w2 ho2 hgrow
  have hb2 := after_append (Nat.le_refl _) hsz ho hb hgrow
  clear hgrow HR1 ho hb hsz
  go_wp2_with fail
  go_loopg [6, 19] E.length (fun g s6 s19 wx => ∃ (i : Nat) (P : List Int), s19 = .int .i64 i ∧ i < E.length ∧ Hid (P.length = i) ∧ wx.ownsRow w.heap.size 5 1 s6 (L.length + i) ((L ++ P).map (Value.int .u8)) ∧ Below w.heap.size w wx ∧ Hid (P ++ enc (9 - i) (n / 128 ^ i) = E) ∧ E.length - i = g)
  case atStart => exact ⟨0, [], rfl, by omega, rfl, by simpa using ho2, hb2, by simpa [Hid] using HU.out, by omega⟩
  case round =>
    obtain ⟨i, P, rfl, hi, hP, ho, hb, hu, rfl⟩ := hrel
    have hsz := hb.size
    by_cases hlt : i + 1 < E.length
    · go_wp2_with (at_builtin; refine append_src rfl _ _ 39 rfl w.heap.size i0 Try.underlying39 HI.out HZ0.out HZ1.out HZ2.out _ (L.length + i) _ rfl (ho.alloc _) (some ⟨wr.heap.size, 0, none⟩) 1 1 [_] rfl rfl (sl_one _ _ _) ?e1 ?e2 ?_)
      case e1 => omega
      case e2 => have := (hb.alloc hsz (.cells #[.int .u8 (bits .or .u8 (n / 2 ^ (7 * i) % 256) 128)] 5)).size; omega
      intro v1 w3 ho3 hgrow
      have hb3 := after_append (Nat.le_refl _) (hb.alloc hsz _).size (ho.alloc _) (hb.alloc hsz _) hgrow
      have HN := next_byte n i P E hu.out hP.out HE.2 hlt
      rw [HN.1] at ho3
      have HP := Lib.hid HN.2
      have HL : Hid ((P ++ [n / 128 ^ i % 128 + 128]).length = i + 1) := by show _ = _; rw [List.length_append, hP.out]; rfl
      clear hgrow ho hb HN
      go_wp2
      go_roundg (E.length - (i + 1))
      case measure => omega
      case rel => exact ⟨i + 1, P ++ [n / 128 ^ i % 128 + 128], by go_num, hlt, HL, by simpa [Nat.add_assoc] using ho3, hb3, HP, rfl⟩
    · go_wp2_with (at_builtin; refine append_src rfl _ _ 39 rfl w.heap.size i0 Try.underlying39 HI.out HZ0.out HZ1.out HZ2.out _ (L.length + i) _ rfl (ho.alloc _) (some ⟨wr.heap.size, 0, none⟩) 1 1 [_] rfl rfl (sl_one _ _ _) ?f1 ?f2 ?_)
      case f1 => omega
      case f2 => have := (hb.alloc hsz (.cells #[.int .u8 (n / 2 ^ (7 * (E.length - 1)) % 256)] 5)).size; omega
      intro v1 w3 ho3 hgrow
      have hb3 := after_append (Nat.le_refl _) (hb.alloc hsz _).size (ho.alloc _) (hb.alloc hsz _) hgrow
      obtain rfl : i = E.length - 1 := by omega
      have HN := last_byte n (E.length - 1) P E hn hu.out hP.out HE.2 (by omega)
      rw [HN.1] at ho3
      have HN2 := HN.2
      generalize n / 128 ^ (E.length - 1) = y at ho3 HN2
      have HO : Hid (w3.ownsRow w.heap.size 5 1 v1 (L ++ E).length ((L ++ E).map (Value.int .u8))) := by
        have e1 : L.length + (E.length - 1) + 1 = (L ++ E).length := by rw [List.length_append]; omega
        have e2 : (L ++ E).map (Value.int .u8) = L.map (Value.int .u8) ++ (P.map (Value.int .u8) ++ [.int .u8 y]) := by rw [← HN2]; simp
        rw [← e1, e2]
        exact Lib.hid (by simpa using ho3)
      clear hgrow ho hb HN ho3 HN2
      go_wp2
      go_ret
      exact ⟨_, rfl, HO.out, hb3⟩
end Go.Proofs.Ytaaeepanelmgnaa
namespace Go.Proofs.Ytaaeepanelmgnaa
set_option maxRecDepth 100000
open Go.RowKit

/-- What Read returns for the result r. -/
def rdOut (r : Int × Int × Int) : Value := .tuple #[.int .u64 r.1, .int .i64 r.2.1, .int .i64 r.2.2]

theorem grp (x : Int) (h : W8 x) : IntKind.u64.wrap (bits .andNot .u8 x 128) = x % 128 := by
  rw [andNot128 x h, IntKind.wrap_u64]
  omega
theorem grp2 (x : Int) (h : W8 x) : IntKind.u64.wrap (bits .and .u8 x 127) = x % 128 := by
  rw [and127 x h, IntKind.wrap_u64]
  omega
/-- A group y is put at the place k. -/
theorem put_group (acc y : Int) (k : Nat) (ha : 0 ≤ acc ∧ acc < 128 ^ k) (hk : k ≤ 9) (h0 : 0 ≤ y) (h1 : y < 128) (h9 : ¬ (k = 9 ∧ 1 < y)) :
    bits .or .u64 acc (IntKind.u64.wrap (y * 2 ^ (7 * k))) = acc + y * 128 ^ k := by
  have hp : (128 : Int) ^ k ≤ 128 ^ 9 := pow_le hk
  rw [show (128 : Int) ^ 9 = 9223372036854775808 from rfl] at hp
  refine or64 acc y k ha.1 ha.2 h0 ?_ (by omega)
  by_cases h : k = 9
  · subst h
    rw [show (128 : Int) ^ 9 = 9223372036854775808 from rfl]
    omega
  · have hp8 : (128 : Int) ^ k ≤ 128 ^ 8 := pow_le (by omega)
    rw [show (128 : Int) ^ 8 = 72057594037927936 from rfl] at hp8
    have := Int.mul_le_mul (show y ≤ 127 by omega) hp8 (Int.pow_nonneg (by omega)) (by omega)
    omega
theorem put_bound (acc y : Int) (k : Nat) (ha : 0 ≤ acc ∧ acc < 128 ^ k) (h0 : 0 ≤ y) (h1 : y < 128) : 0 ≤ acc + y * 128 ^ k ∧ acc + y * 128 ^ k < 128 ^ (k + 1) := by
  have hp : (0 : Int) < 128 ^ k := Int.pow_pos (by omega)
  have h2 := Int.mul_le_mul_of_nonneg_right (show y ≤ 127 by omega) (Int.le_of_lt hp)
  have h3 := Int.mul_nonneg h0 (Int.le_of_lt hp)
  rw [Int.pow_succ]
  omega
theorem last_group (acc x : Int) (k : Nat) (ha : 0 ≤ acc ∧ acc < 128 ^ k) (hk : k ≤ 9) (h0 : 0 ≤ x) (h1 : x < 128) (h9 : ¬ (k = 9 ∧ 1 < x)) :
    bits .or .u64 acc (IntKind.u64.wrap (x % 128 * 2 ^ (7 * k))) = acc + x * 128 ^ k := by
  rw [show x % 128 = x by omega]
  exact put_group acc x k ha hk h0 h1 h9
theorem next_group (acc x : Int) (k : Nat) (ha : 0 ≤ acc ∧ acc < 128 ^ k) (hk : k ≤ 8) (h0 : 128 ≤ x) (h1 : x ≤ 255) :
    bits .or .u64 acc (IntKind.u64.wrap (x % 128 * 2 ^ (7 * k))) = acc + (x - 128) * 128 ^ k ∧ 0 ≤ acc + (x - 128) * 128 ^ k ∧ acc + (x - 128) * 128 ^ k < 128 ^ (k + 1) := by
  rw [show x % 128 = x - 128 by omega]
  exact ⟨put_group acc (x - 128) k ha (by omega) (by omega) (by omega) (by omega), put_bound acc (x - 128) k ha (by omega) (by omega)⟩
theorem pow63 : (9223372036854775808 : Int) = 2 ^ (7 * 9) := rfl
theorem rd_out_eq {n1 n2 s1 s2 e1 e2 : Int} (h1 : n1 = n2) (h2 : s1 = s2) (h3 : e1 = e2) : Ending.returned (.tuple #[.int .u64 n1, .int .i64 s1, .int .i64 e1]) = Ending.returned (rdOut (n2, s2, e2)) := by
  subst h1 h2 h3
  rfl

set_option maxHeartbeats 4000000 in
theorem code_read (a : Option Addr) (c : Nat) (L : List Int) (w : World) (hL : L.length ≤ 1000000) (hr : Sl w a c L) (hw : ∀ x, x ∈ L → W8 x) :
    Calls Try.prog 69 #[.slice a L.length c] w fun e w' => e = .returned (rdOut (rd 0 0 L)) ∧ w = w' := by
  have HR := Lib.hid hr
  have HW := Lib.hid hw
  have HD : Hid (rd 0 0 L = rd 0 0 (L.drop 0)) := rfl
  clear hr hw
  generalize rd 0 0 L = R at *
  go_enter Try.func69, Try.ntmps69
  go_wp2_with fail
  go_loopg [2, 9] L.length (fun g s2 s9 wx => w = wx ∧ ∃ (k : Nat) (acc : Int), s9 = .int .i64 k ∧ k ≤ L.length ∧ k ≤ 9 ∧ s2 = .int .u64 acc ∧ Hid (0 ≤ acc ∧ acc < 128 ^ k) ∧ Hid (R = rd acc k (L.drop k)) ∧ L.length - k = g)
  case atStart => exact ⟨rfl, 0, 0, rfl, by omega, by omega, rfl, Lib.hid (by decide), HD, by omega⟩
  case round =>
    obtain ⟨rfl, k, acc, rfl, hk, hk9, rfl, ha, hd, rfl⟩ := hrel
    by_cases hlt : k < L.length
    · obtain ⟨b, off, rfl, _, hc⟩ := sl_at HR.out hlt
      have hx := HW.out (L.getD k 0) (by rw [List.getD_eq_getElem?_getD, List.getElem?_eq_getElem hlt]; exact List.getElem_mem hlt)
      have hs : L.drop k = L.getD k 0 :: L.drop (k + 1) := by rw [List.drop_eq_getElem_cons hlt, List.getD_eq_getElem?_getD, List.getElem?_eq_getElem hlt]; rfl
      have HS := Lib.hid hs
      clear hs
      generalize L.getD k 0 = x at *
      obtain ⟨hx0, hx1⟩ := hx
      go_wp2
      · have h9 : k = 9 := by omega
        have hv : R = (0, 0, 6) := by rw [hd.out, HS.out, rd_over h9 (by assumption)]
        clear hd HD
        go_ret3
        exact ⟨by rw [hv]; rfl, rfl⟩
      · have h9 : k = 9 := by omega
        have h0 : x = 0 := WalkArith.int_eq (by assumption)
        have hv : R = (0, 0, 4) := by rw [hd.out, HS.out, rd_zero (by omega) h0]
        clear hd HD
        go_ret3
        exact ⟨by rw [hv]; rfl, rfl⟩
      · have h9 : k = 9 := by omega
        have h0 : x ≠ 0 := WalkArith.int_ne (by assumption)
        have hv : R = (acc + x * 128 ^ k, (k : Int) + 1, 0) := by rw [hd.out, HS.out, rd_last (by omega) (by omega) (by omega)]
        clear hd HD
        go_ret3
        subst h9
        exact ⟨by rw [hv]; exact rd_out_eq (by rw [grp x ⟨hx0, hx1⟩, pow63]; exact last_group acc x 9 ha.out (by omega) (by omega) (by omega) (by omega)) (by omega) rfl, rfl⟩
      · have h0 : x = 0 := WalkArith.int_eq (by assumption)
        have hv : R = (0, 0, 4) := by rw [hd.out, HS.out, rd_zero (by omega) h0]
        clear hd HD
        go_ret3
        exact ⟨by rw [hv]; rfl, rfl⟩
      · have h0 : x ≠ 0 := WalkArith.int_ne (by assumption)
        have hv : R = (acc + x * 128 ^ k, (k : Int) + 1, 0) := by rw [hd.out, HS.out, rd_last (by omega) (by omega) (by omega)]
        clear hd HD
        go_ret3
        exact ⟨by rw [hv]; exact rd_out_eq (by rw [grp x ⟨hx0, hx1⟩]; exact last_group acc x k ha.out (by omega) (by omega) (by omega) (by omega)) (by omega) rfl, rfl⟩
      · have hd2 : R = rd (acc + (x - 128) * 128 ^ k) (k + 1) (L.drop (k + 1)) := by rw [hd.out, HS.out, rd_next (by omega) (by omega)]
        have HD2 := Lib.hid hd2
        clear hd2 hd HD
        go_roundg (L.length - (k + 1))
        case measure => omega
        case rel => exact ⟨rfl, k + 1, _, by go_num, by omega, by omega, by rw [grp x ⟨hx0, hx1⟩]; exact congrArg _ (next_group acc x k ha.out (by omega) (by omega) (by omega)).1, Lib.hid (next_group acc x k ha.out (by omega) (by omega) (by omega)).2, HD2, by omega⟩
      · have hv : R = (acc + x * 128 ^ k, (k : Int) + 1, 0) := by rw [hd.out, HS.out, rd_last (by omega) (by omega) (by omega)]
        clear hd HD
        go_ret3
        exact ⟨by rw [hv]; exact rd_out_eq (by rw [grp x ⟨hx0, hx1⟩]; exact last_group acc x k ha.out (by omega) (by omega) (by omega) (by omega)) (by omega) rfl, rfl⟩
      · have hd2 : R = rd (acc + (x - 128) * 128 ^ k) (k + 1) (L.drop (k + 1)) := by rw [hd.out, HS.out, rd_next (by omega) (by omega)]
        have HD2 := Lib.hid hd2
        clear hd2 hd HD
        go_roundg (L.length - (k + 1))
        case measure => omega
        case rel => exact ⟨rfl, k + 1, _, by go_num, by omega, by omega, by rw [grp x ⟨hx0, hx1⟩]; exact congrArg _ (next_group acc x k ha.out (by omega) (by omega) (by omega)).1, Lib.hid (next_group acc x k ha.out (by omega) (by omega) (by omega)).2, HD2, by omega⟩
    · go_wp2
      have hv : R = (0, 0, 5) := by rw [hd.out, List.drop_eq_nil_of_le (by omega)]; rfl
      clear hd HD
      go_ret3
      exact ⟨by rw [hv]; rfl, rfl⟩

set_option maxHeartbeats 4000000 in
theorem ref_read (a : Option Addr) (c : Nat) (L : List Int) (w : World) (hL : L.length ≤ 1000000) (hr : Sl w a c L) (hw : ∀ x, x ∈ L → W8 x) :
    Calls Try.prog 56 #[.slice a L.length c] w fun e w' => e = .returned (rdOut (rd 0 0 L)) ∧ w = w' := by
  have HR := Lib.hid hr
  have HW := Lib.hid hw
  have HD : Hid (rd 0 0 L = rd 0 0 (L.drop 0)) := rfl
  clear hr hw
  generalize rd 0 0 L = R at *
  go_enter Try.func56, Try.ntmps56
  go_wp2_with fail
  go_loopg [5, 6] (L.length + 1) (fun g s2 s9 wx => w = wx ∧ ∃ (k : Nat) (acc : Int), s9 = .int .i64 k ∧ k ≤ L.length ∧ k ≤ 9 ∧ s2 = .int .u64 acc ∧ Hid (0 ≤ acc ∧ acc < 128 ^ k) ∧ Hid (R = rd acc k (L.drop k)) ∧ L.length + 1 - k = g)
  case atStart => exact ⟨rfl, 0, 0, rfl, by omega, by omega, rfl, Lib.hid (by decide), HD, by omega⟩
  case round =>
    obtain ⟨rfl, k, acc, rfl, hk, hk9, rfl, ha, hd, rfl⟩ := hrel
    by_cases hlt : k < L.length
    · obtain ⟨b, off, rfl, _, hc⟩ := sl_at HR.out hlt
      have hx := HW.out (L.getD k 0) (by rw [List.getD_eq_getElem?_getD, List.getElem?_eq_getElem hlt]; exact List.getElem_mem hlt)
      have hs : L.drop k = L.getD k 0 :: L.drop (k + 1) := by rw [List.drop_eq_getElem_cons hlt, List.getD_eq_getElem?_getD, List.getElem?_eq_getElem hlt]; rfl
      have HS := Lib.hid hs
      clear hs
      generalize L.getD k 0 = x at *
      obtain ⟨hx0, hx1⟩ := hx
      have hge : ¬ (L.length : Int) ≤ (k : Int) := by omega
      by_cases h9 : k = 9
      · subst h9
        go_wp2
        · have hv : R = (0, 0, 6) := by rw [hd.out, HS.out, rd_over rfl (by assumption)]
          clear hd HD
          go_ret3
          exact ⟨by rw [hv]; rfl, rfl⟩
        · have h0 : x = 0 := WalkArith.int_eq (by assumption)
          have hv : R = (0, 0, 4) := by rw [hd.out, HS.out, rd_zero (by omega) h0]
          clear hd HD
          go_ret3
          exact ⟨by rw [hv]; rfl, rfl⟩
        · have h0 : x ≠ 0 := WalkArith.int_ne (by assumption)
          have hv : R = (acc + x * 128 ^ 9, ((9 : Nat) : Int) + 1, 0) := by rw [hd.out, HS.out, rd_last (by omega) (by omega) (by omega)]
          clear hd HD
          go_ret3
          exact ⟨by rw [hv]; exact rd_out_eq (by rw [grp2 x ⟨hx0, hx1⟩, pow63]; exact last_group acc x 9 ha.out (by omega) (by omega) (by omega) (by omega)) (by omega) rfl, rfl⟩
      · go_wp2
        · have h0 : x = 0 := WalkArith.int_eq (by assumption)
          have hv : R = (0, 0, 4) := by rw [hd.out, HS.out, rd_zero (by omega) h0]
          clear hd HD
          go_ret3
          exact ⟨by rw [hv]; rfl, rfl⟩
        · have h0 : x ≠ 0 := WalkArith.int_ne (by assumption)
          have hv : R = (acc + x * 128 ^ k, (k : Int) + 1, 0) := by rw [hd.out, HS.out, rd_last (by omega) (by omega) (by omega)]
          clear hd HD
          go_ret3
          exact ⟨by rw [hv]; exact rd_out_eq (by rw [grp2 x ⟨hx0, hx1⟩]; exact last_group acc x k ha.out (by omega) (by omega) (by omega) (by omega)) (by omega) rfl, rfl⟩
        · have hd2 : R = rd (acc + (x - 128) * 128 ^ k) (k + 1) (L.drop (k + 1)) := by rw [hd.out, HS.out, rd_next (by omega) (by omega)]
          have HD2 := Lib.hid hd2
          clear hd2 hd HD
          go_roundg (L.length + 1 - (k + 1))
          case measure => omega
          case rel => exact ⟨rfl, k + 1, _, by go_num, by omega, by omega, by rw [grp2 x ⟨hx0, hx1⟩]; exact congrArg _ (next_group acc x k ha.out (by omega) (by omega) (by omega)).1, Lib.hid (next_group acc x k ha.out (by omega) (by omega) (by omega)).2, HD2, by omega⟩
        · have hv : R = (acc + x * 128 ^ k, (k : Int) + 1, 0) := by rw [hd.out, HS.out, rd_last (by omega) (by omega) (by omega)]
          clear hd HD
          go_ret3
          exact ⟨by rw [hv]; exact rd_out_eq (by rw [grp2 x ⟨hx0, hx1⟩]; exact last_group acc x k ha.out (by omega) (by omega) (by omega) (by omega)) (by omega) rfl, rfl⟩
        · have hd2 : R = rd (acc + (x - 128) * 128 ^ k) (k + 1) (L.drop (k + 1)) := by rw [hd.out, HS.out, rd_next (by omega) (by omega)]
          have HD2 := Lib.hid hd2
          clear hd2 hd HD
          go_roundg (L.length + 1 - (k + 1))
          case measure => omega
          case rel => exact ⟨rfl, k + 1, _, by go_num, by omega, by omega, by rw [grp2 x ⟨hx0, hx1⟩]; exact congrArg _ (next_group acc x k ha.out (by omega) (by omega) (by omega)).1, Lib.hid (next_group acc x k ha.out (by omega) (by omega) (by omega)).2, HD2, by omega⟩
    · go_wp2
      have hv : R = (0, 0, 5) := by rw [hd.out, List.drop_eq_nil_of_le (by omega)]; rfl
      clear hd HD
      go_ret3
      exact ⟨by rw [hv]; rfl, rfl⟩
end Go.Proofs.Ytaaeepanelmgnaa
