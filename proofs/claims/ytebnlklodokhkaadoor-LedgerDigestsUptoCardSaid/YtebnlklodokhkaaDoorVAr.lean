/-
  The plain arithmetic of varints: the encoding of a number as a list of bytes, and what is read from a list of bytes.
  Conditions: none of their own.
-/
import Derived.Laws.BitsAllLaws
namespace Go.Proofs.YtebnlklodokhkaaDoor
set_option maxRecDepth 100000
open Go

theorem pow_le {a b : Nat} (h : a ≤ b) : (128 : Int) ^ a ≤ 128 ^ b := by
  obtain ⟨d, rfl⟩ : ∃ d, b = a + d := ⟨b - a, by omega⟩
  rw [Int.pow_add]
  have h0 : (0 : Int) ≤ 128 ^ a := Int.pow_nonneg (by omega)
  have h1 : (0 : Int) < 128 ^ d := Int.pow_pos (by omega)
  have := Int.mul_le_mul_of_nonneg_left (show (1 : Int) ≤ 128 ^ d by omega) h0
  omega

/-- The encoding of n, by at most f + 1 bytes. -/
def enc : Nat → Int → List Int
  | 0, n => [n]
  | f + 1, n => if n < 128 then [n] else (n % 128 + 128) :: enc f (n / 128)
/-- n fits into f + 1 groups. -/
def Fit (f : Nat) (n : Int) : Prop := 0 ≤ n ∧ n < 128 ^ (f + 1)
/-- The encoding of a number of 64 bits. -/
def Enc (n : Int) : List Int := enc 9 n

theorem enc_small (f : Nat) (n : Int) (h : n < 128) : enc f n = [n] := by
  cases f with
  | zero => rfl
  | succ f => rw [enc, if_pos h]
theorem enc_large (f : Nat) (n : Int) (h : ¬ n < 128) : enc (f + 1) n = (n % 128 + 128) :: enc f (n / 128) := by
  rw [enc, if_neg h]
theorem fit_zero {n : Int} (h : Fit 0 n) : n < 128 := by
  have := h.2
  simpa using this
theorem fit_down {f : Nat} {n : Int} (h : Fit (f + 1) n) : Fit f (n / 128) := by
  obtain ⟨h0, h1⟩ := h
  refine ⟨by omega, ?_⟩
  rw [Int.pow_succ] at h1
  have : n / 128 < 128 ^ (f + 1) := Int.ediv_lt_of_lt_mul (by omega) h1
  exact this
theorem fit_pos {f : Nat} {n : Int} (h : Fit f n) (h1 : ¬ n < 128) : ∃ g, f = g + 1 := by
  cases f with
  | zero => exact absurd (fit_zero h) h1
  | succ g => exact ⟨g, rfl⟩
theorem fit_word {n : Int} (h0 : 0 ≤ n) (h1 : n ≤ 18446744073709551615) : Fit 9 n :=
  ⟨h0, by rw [show (128 : Int) ^ (9 + 1) = 1180591620717411303424 from rfl]; omega⟩

theorem enc_pos (f : Nat) (n : Int) : 0 < (enc f n).length := by
  cases f with
  | zero => simp [enc]
  | succ f => rw [enc]; split <;> simp
theorem enc_len (f : Nat) : ∀ n : Int, (enc f n).length ≤ f + 1 := by
  induction f with
  | zero => intro n; simp [enc]
  | succ f ih =>
    intro n
    rw [enc]
    split
    · simp
    · have := ih (n / 128)
      simp
      omega
theorem enc_one (f : Nat) (n : Int) (hf : Fit f n) (h : (enc f n).length = 1) : n < 128 := by
  by_cases hn : n < 128
  · exact hn
  · obtain ⟨g, rfl⟩ := fit_pos hf hn
    rw [enc_large g n hn] at h
    have := enc_pos g (n / 128)
    rw [List.length_cons] at h
    omega
theorem enc_more (f : Nat) (n : Int) (h : 1 < (enc f n).length) : ¬ n < 128 := by
  intro hn
  rw [enc_small f n hn] at h
  simp at h
theorem enc_bytes (f : Nat) : ∀ n : Int, Fit f n → ∀ x, x ∈ enc f n → 0 ≤ x ∧ x ≤ 255 := by
  induction f with
  | zero => intro n h x hx; have := fit_zero h; have := h.1; simp [enc] at hx; omega
  | succ f ih =>
    intro n h x hx
    by_cases hn : n < 128
    · rw [enc_small _ _ hn] at hx; have := h.1; simp at hx; omega
    · rw [enc_large _ _ hn, List.mem_cons] at hx
      rcases hx with rfl | hx
      · omega
      · exact ih _ (fit_down h) x hx

/-- What is read from the bytes l, the first of which has the index i, where the bytes before give acc: the number, the size, the error. -/
def rd : Int → Nat → List Int → Int × Int × Int
  | _, _, [] => (0, 0, 5)
  | acc, i, c :: t =>
    if i = 9 ∧ 1 < c then (0, 0, 6) else if 0 < i ∧ c = 0 then (0, 0, 4) else
    if c < 128 then (acc + c * 128 ^ i, (i : Int) + 1, 0) else rd (acc + (c - 128) * 128 ^ i) (i + 1) t

theorem rd_over {acc : Int} {i : Nat} {c : Int} {t : List Int} (h : i = 9) (h1 : 1 < c) : rd acc i (c :: t) = (0, 0, 6) := by rw [rd, if_pos ⟨h, h1⟩]
theorem rd_zero {acc : Int} {i : Nat} {c : Int} {t : List Int} (h : 0 < i) (h1 : c = 0) : rd acc i (c :: t) = (0, 0, 4) := by
  rw [rd, if_neg (by omega), if_pos ⟨h, h1⟩]
theorem rd_last {acc : Int} {i : Nat} {c : Int} {t : List Int} (h : ¬ (i = 9 ∧ 1 < c)) (h1 : ¬ (0 < i ∧ c = 0)) (h2 : c < 128) : rd acc i (c :: t) = (acc + c * 128 ^ i, (i : Int) + 1, 0) := by
  rw [rd, if_neg h, if_neg h1, if_pos h2]
theorem rd_next {acc : Int} {i : Nat} {c : Int} {t : List Int} (h : ¬ (i = 9 ∧ 1 < c)) (h2 : ¬ c < 128) : rd acc i (c :: t) = rd (acc + (c - 128) * 128 ^ i) (i + 1) t := by
  rw [rd, if_neg h, if_neg (by omega), if_neg h2]

/-- One encoding, whatever follows, is read. -/
theorem rd_enc (f : Nat) : ∀ (acc : Int) (i : Nat) (n : Int) (t : List Int), f + i = 9 → Fit f n → (i = 0 ∨ 0 < n) → (i = 9 → n ≤ 1) → (i ≤ 8 → n * 128 ^ i < 18446744073709551616) →
    rd acc i (enc f n ++ t) = (acc + n * 128 ^ i, (i : Int) + (enc f n).length, 0) := by
  induction f with
  | zero =>
    intro acc i n t hi hf h0 h9 _
    have := h9 (by omega)
    have h1 := fit_zero hf
    show rd acc i (n :: t) = _
    rw [rd_last (by omega) (by omega) h1]
    rfl
  | succ f ih =>
    intro acc i n t hi hf h0 h9 h8
    by_cases hn : n < 128
    · rw [enc_small _ _ hn]
      show rd acc i (n :: t) = _
      rw [rd_last (by omega) (by omega) hn]
      rfl
    · rw [enc_large _ _ hn]
      show rd acc i ((n % 128 + 128) :: (enc f (n / 128) ++ t)) = _
      rw [rd_next (by omega) (by omega)]
      have hp : (128 : Int) ^ (i + 1) = 128 ^ i * 128 := Int.pow_succ 128 i
      have hlt : n / 128 * 128 ^ (i + 1) ≤ n * 128 ^ i := by
        rw [hp, Int.mul_comm (128 ^ i) 128, ← Int.mul_assoc]
        exact Int.mul_le_mul_of_nonneg_right (by omega) (Int.pow_nonneg (by omega))
      have hb := h8 (by omega)
      rw [ih _ (i + 1) (n / 128) t (by omega) (fit_down hf) (by omega) ?_ (fun _ => by omega)]
      · have e : acc + (n % 128 + 128 - 128) * 128 ^ i + n / 128 * 128 ^ (i + 1) = acc + n * 128 ^ i := by
          rw [hp, Int.mul_comm (128 ^ i) 128, ← Int.mul_assoc, Int.add_assoc, ← Int.add_mul]
          congr 2
          omega
        rw [e]
        simp
        omega
      · intro h9'
        obtain rfl : i = 8 := by omega
        rw [show (128 : Int) ^ 8 = 72057594037927936 from rfl] at hb
        omega

/-- A beginning of an encoding that is not all of it is cut off. -/
theorem rd_cut (f : Nat) : ∀ (acc : Int) (i : Nat) (n : Int) (j : Nat), f + i = 9 → Fit f n → (i ≤ 8 → n * 128 ^ i < 18446744073709551616) → (i = 9 → n ≤ 1) → j < (enc f n).length →
    rd acc i ((enc f n).take j) = (0, 0, 5) := by
  induction f with
  | zero =>
    intro acc i n j hi hf h8 h9 hj
    simp [enc] at hj
    subst hj
    rfl
  | succ f ih =>
    intro acc i n j hi hf h8 h9 hj
    by_cases hn : n < 128
    · rw [enc_small _ _ hn] at hj ⊢
      simp at hj
      subst hj
      rfl
    · rw [enc_large _ _ hn] at hj ⊢
      cases j with
      | zero => rfl
      | succ j =>
        rw [List.take_succ_cons, rd_next (by omega) (by omega)]
        have hp : (128 : Int) ^ (i + 1) = 128 ^ i * 128 := Int.pow_succ 128 i
        have hlt : n / 128 * 128 ^ (i + 1) ≤ n * 128 ^ i := by
          rw [hp, Int.mul_comm (128 ^ i) 128, ← Int.mul_assoc]
          exact Int.mul_le_mul_of_nonneg_right (by omega) (Int.pow_nonneg (by omega))
        have hb := h8 (by omega)
        refine ih _ (i + 1) (n / 128) j (by omega) (fit_down hf) (fun _ => by omega) ?_ (by simpa using hj)
        intro h9'
        obtain rfl : i = 8 := by omega
        rw [show (128 : Int) ^ 8 = 72057594037927936 from rfl] at hb
        omega

/-- What can be read is an encoding: else the number and the size are 0. -/
theorem rd_inv : ∀ (l : List Int) (acc : Int) (i : Nat), i ≤ 9 → (∀ x, x ∈ l → 0 ≤ x ∧ x ≤ 255) →
    ((rd acc i l).1 = 0 ∧ (rd acc i l).2.1 = 0 ∧ (rd acc i l).2.2 ≠ 0) ∨
    (∃ m : Int, Fit (9 - i) m ∧ (i = 0 ∨ 0 < m) ∧ m * 128 ^ i < 18446744073709551616 ∧ rd acc i l = (acc + m * 128 ^ i, (i : Int) + (enc (9 - i) m).length, 0) ∧
      (enc (9 - i) m).length ≤ l.length ∧ enc (9 - i) m = l.take (enc (9 - i) m).length) := by
  intro l
  induction l with
  | nil => intro acc i hi hl; exact .inl ⟨rfl, rfl, by simp [rd]⟩
  | cons c t ih =>
    intro acc i hi hl
    have hc := hl c (by simp)
    by_cases h1 : i = 9 ∧ 1 < c
    · rw [rd_over h1.1 h1.2]; exact .inl ⟨rfl, rfl, by simp⟩
    by_cases h2 : 0 < i ∧ c = 0
    · rw [rd_zero h2.1 h2.2]; exact .inl ⟨rfl, rfl, by simp⟩
    by_cases h3 : c < 128
    · rw [rd_last h1 h2 h3]
      refine .inr ⟨c, ⟨hc.1, ?_⟩, by omega, ?_, ?_, ?_, ?_⟩
      · have : (128 : Int) ^ 1 ≤ 128 ^ (9 - i + 1) := pow_le (by omega)
        rw [show (128 : Int) ^ 1 = 128 from rfl] at this
        omega
      · by_cases h9 : i = 9
        · subst h9
          rw [show (128 : Int) ^ 9 = 9223372036854775808 from rfl]
          omega
        · have hp : (128 : Int) ^ i ≤ 128 ^ 8 := pow_le (by omega)
          rw [show (128 : Int) ^ 8 = 72057594037927936 from rfl] at hp
          have h0 : (0 : Int) ≤ 128 ^ i := Int.pow_nonneg (by omega)
          have := Int.mul_le_mul (show c ≤ 127 by omega) hp h0 (by omega)
          omega
      · rw [enc_small _ _ h3]; rfl
      · rw [enc_small _ _ h3]; simp
      · rw [enc_small _ _ h3]; simp
    · have h9 : i ≤ 8 := by omega
      rw [rd_next h1 h3]
      rcases ih (acc + (c - 128) * 128 ^ i) (i + 1) (by omega) (fun x hx => hl x (by simp [hx])) with h | ⟨m, hf, hp, hb, he, hlen, ht⟩
      · exact .inl h
      · have hpos : 0 < m := by omega
        have hm : ¬ (c - 128 + m * 128) < 128 := by omega
        obtain ⟨g, hg⟩ : ∃ g, 9 - i = g + 1 := ⟨8 - i, by omega⟩
        have hg' : 9 - (i + 1) = g := by omega
        rw [hg'] at hf he hlen ht
        have hpow : (128 : Int) ^ (i + 1) = 128 ^ i * 128 := Int.pow_succ 128 i
        have he2 : enc (g + 1) (c - 128 + m * 128) = c :: enc g m := by
          rw [enc_large _ _ hm, show (c - 128 + m * 128) % 128 + 128 = c by omega, show (c - 128 + m * 128) / 128 = m by omega]
        refine .inr ⟨c - 128 + m * 128, ?_, by omega, ?_, ?_, ?_, ?_⟩
        · rw [hg]
          refine ⟨by omega, ?_⟩
          have := hf.2
          rw [Int.pow_succ]
          omega
        · have h0 : (0 : Int) ≤ 128 ^ i := Int.pow_nonneg (by omega)
          rw [hpow] at hb
          have h5 : (m + 1) * (128 ^ i * 128) ≤ 18446744073709551616 := by
            have hcase : i ≤ 8 := h9
            have : i = 0 ∨ i = 1 ∨ i = 2 ∨ i = 3 ∨ i = 4 ∨ i = 5 ∨ i = 6 ∨ i = 7 ∨ i = 8 := by omega
            rcases this with rfl | rfl | rfl | rfl | rfl | rfl | rfl | rfl | rfl <;> simp at hb ⊢ <;> omega
          have h6 : (c - 128 + m * 128) * 128 ^ i < (m + 1) * (128 ^ i * 128) := by
            rw [Int.mul_comm (128 ^ i) 128, ← Int.mul_assoc]
            exact Int.mul_lt_mul_of_pos_right (by omega) (Int.pow_pos (by omega))
          omega
        · rw [he, hg, he2]
          have e : acc + (c - 128) * 128 ^ i + m * 128 ^ (i + 1) = acc + (c - 128 + m * 128) * 128 ^ i := by
            rw [hpow, Int.mul_comm (128 ^ i) 128, ← Int.mul_assoc, Int.add_assoc, ← Int.add_mul]
          rw [e]
          simp
          omega
        · rw [hg, he2]; simpa using hlen
        · rw [hg, he2]
          simp only [List.length_cons, List.take_succ_cons]
          rw [← ht]

theorem rd_Enc (n : Int) (h0 : 0 ≤ n) (h1 : n ≤ 18446744073709551615) (t : List Int) : rd 0 0 (Enc n ++ t) = (n, ((Enc n).length : Int), 0) := by
  have := rd_enc 9 0 0 n t rfl (fit_word h0 h1) (.inl rfl) (by omega) (fun _ => by simp; omega)
  unfold Enc
  rw [this]
  simp
theorem rd_Enc_cut (n : Int) (h0 : 0 ≤ n) (h1 : n ≤ 18446744073709551615) (j : Nat) (hj : j < (Enc n).length) : rd 0 0 ((Enc n).take j) = (0, 0, 5) :=
  rd_cut 9 0 0 n j rfl (fit_word h0 h1) (fun _ => by simp; omega) (by omega) hj
theorem rd_Inv (l : List Int) (hl : ∀ x, x ∈ l → 0 ≤ x ∧ x ≤ 255) : ((rd 0 0 l).1 = 0 ∧ (rd 0 0 l).2.1 = 0 ∧ (rd 0 0 l).2.2 ≠ 0) ∨
    (∃ m : Int, 0 ≤ m ∧ m ≤ 18446744073709551615 ∧ rd 0 0 l = (m, ((Enc m).length : Int), 0) ∧ (Enc m).length ≤ l.length ∧ Enc m = l.take (Enc m).length) := by
  rcases rd_inv l 0 0 (by omega) hl with h | ⟨m, hf, _, hb, he, h1, h2⟩
  · exact .inl h
  · refine .inr ⟨m, hf.1, by simpa using Int.le_of_lt_add_one (by simpa using hb), ?_, h1, h2⟩
    rw [he]
    simp [Enc]
theorem Enc_len (n : Int) : 0 < (Enc n).length ∧ (Enc n).length ≤ 10 := ⟨enc_pos 9 n, enc_len 9 n⟩
theorem Enc_bytes (n : Int) (h0 : 0 ≤ n) (h1 : n ≤ 18446744073709551615) : ∀ x, x ∈ Enc n → 0 ≤ x ∧ x ≤ 255 := enc_bytes 9 n (fit_word h0 h1)
end Go.Proofs.YtebnlklodokhkaaDoor
