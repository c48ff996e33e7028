/-
  The plain arithmetic of varints: the encoding of a number as a list of bytes, and what is read from a list of bytes.
  Conditions: none of their own. The contract of Size, and what the operations on bits do to bytes and to numbers of 64 bits.
  Conditions: the argument is a number of 64 bits. Slices of bytes: how one reads as a list, nil or not, and what stays readable when a call makes new memory; two equal slices; an append from whatever source.
  Conditions: none of their own. The contracts of the two functions that append an encoding, and of SizeVarint: a new row with the given bytes and the encoding of the number.
  Conditions: the number has 64 bits; at most 1000000 bytes come in. The contract of varint.Append: a new row with the given bytes and the encoding of the number.
  Conditions: the number has 64 bits; at most 1000000 bytes come in. The contracts of the two functions that read an encoding: both return what rd says of the bytes.
  Conditions: at most 1000000 bytes come in. The plain arithmetic of messages: the encoding of a field as a list of bytes, what is read as one field, and what is read as a message.
  Conditions: none of their own. Slices of bytes, more: parts of a slice; rows that a call made and what becomes of them; blocks that were just made.
  Conditions: none of their own.
-/
import Derived.Laws.BitsAllLaws
import Derived.Test.YtglglhcnofbagaaProg
import Derived.WalkKit
import Derived.WalkSpells
import Derived.WalkLawsBesides
import Derived.Deep.LoopGhost
import Derived.Lib.Hide
import Derived.OpenShut
import Derived.Below
import Derived.Laws.AppendOwnNone
import Derived.Laws.BytesArg
import Derived.Lib.AppendZeros
import Derived.Deep.Onto
import Derived.Deep.RegionHeld3
namespace Go.Proofs.Ytglglhcnofbagaa
set_option maxRecDepth 100000
open Go

theorem pow_le {a b : Nat} (h : a ≤ b) : (128 : Int) ^ a ≤ 128 ^ b := by
  obtain ⟨d, rfl⟩ : ∃ d, b = a + d := ⟨b - a, by omega⟩
  rw [Int.pow_add]
  have h0 : (0 : Int) ≤ 128 ^ a := Int.pow_nonneg (by omega)
  have h1 : (0 : Int) < 128 ^ d := Int.pow_pos (by omega)
  have := Int.mul_le_mul_of_nonneg_left (show (1 : Int) ≤ 128 ^ d by omega) h0
  omega

/-- The encoding of n, by at most f + 1 bytes. -/
def enc : Nat → Int → List Int
  | 0, n => [n]
  | f + 1, n => if n < 128 then [n] else (n % 128 + 128) :: enc f (n / 128)
/-- n fits into f + 1 groups. -/
def Fit (f : Nat) (n : Int) : Prop := 0 ≤ n ∧ n < 128 ^ (f + 1)
/-- The encoding of a number of 64 bits. -/
def Enc (n : Int) : List Int := enc 9 n

theorem enc_small (f : Nat) (n : Int) (h : n < 128) : enc f n = [n] := by
  cases f with
  | zero => rfl
  | succ f => rw [enc, if_pos h]
theorem enc_large (f : Nat) (n : Int) (h : ¬ n < 128) : enc (f + 1) n = (n % 128 + 128) :: enc f (n / 128) := by
  rw [enc, if_neg h]
theorem fit_zero {n : Int} (h : Fit 0 n) : n < 128 := by
  have := h.2
  simpa using this
theorem fit_down {f : Nat} {n : Int} (h : Fit (f + 1) n) : Fit f (n / 128) := by
  obtain ⟨h0, h1⟩ := h
  refine ⟨by omega, ?_⟩
  rw [Int.pow_succ] at h1
  have : n / 128 < 128 ^ (f + 1) := Int.ediv_lt_of_lt_mul (by omega) h1
  exact this
theorem fit_pos {f : Nat} {n : Int} (h : Fit f n) (h1 : ¬ n < 128) : ∃ g, f = g + 1 := by
  cases f with
  | zero => exact absurd (fit_zero h) h1
  | succ g => exact ⟨g, rfl⟩
theorem fit_word {n : Int} (h0 : 0 ≤ n) (h1 : n ≤ 18446744073709551615) : Fit 9 n :=
  ⟨h0, by rw [show (128 : Int) ^ (9 + 1) = 1180591620717411303424 from rfl]; omega⟩

theorem enc_pos (f : Nat) (n : Int) : 0 < (enc f n).length := by
  cases f with
  | zero => simp [enc]
  | succ f => rw [enc]; split <;> simp
theorem enc_len (f : Nat) : ∀ n : Int, (enc f n).length ≤ f + 1 := by
  induction f with
  | zero => intro n; simp [enc]
  | succ f ih =>
    intro n
    rw [enc]
    split
    · simp
    · have := ih (n / 128)
      simp
      omega
theorem enc_bytes (f : Nat) : ∀ n : Int, Fit f n → ∀ x, x ∈ enc f n → 0 ≤ x ∧ x ≤ 255 := by
  induction f with
  | zero => intro n h x hx; have := fit_zero h; have := h.1; simp [enc] at hx; omega
  | succ f ih =>
    intro n h x hx
    by_cases hn : n < 128
    · rw [enc_small _ _ hn] at hx; have := h.1; simp at hx; omega
    · rw [enc_large _ _ hn, List.mem_cons] at hx
      rcases hx with rfl | hx
      · omega
      · exact ih _ (fit_down h) x hx

/-- What is read from the bytes l, the first of which has the index i, where the bytes before give acc: the number, the size, the error. -/
def rd : Int → Nat → List Int → Int × Int × Int
  | _, _, [] => (0, 0, 5)
  | acc, i, c :: t =>
    if i = 9 ∧ 1 < c then (0, 0, 6) else if 0 < i ∧ c = 0 then (0, 0, 4) else
    if c < 128 then (acc + c * 128 ^ i, (i : Int) + 1, 0) else rd (acc + (c - 128) * 128 ^ i) (i + 1) t

theorem rd_over {acc : Int} {i : Nat} {c : Int} {t : List Int} (h : i = 9) (h1 : 1 < c) : rd acc i (c :: t) = (0, 0, 6) := by rw [rd, if_pos ⟨h, h1⟩]
theorem rd_zero {acc : Int} {i : Nat} {c : Int} {t : List Int} (h : 0 < i) (h1 : c = 0) : rd acc i (c :: t) = (0, 0, 4) := by
  rw [rd, if_neg (by omega), if_pos ⟨h, h1⟩]
theorem rd_last {acc : Int} {i : Nat} {c : Int} {t : List Int} (h : ¬ (i = 9 ∧ 1 < c)) (h1 : ¬ (0 < i ∧ c = 0)) (h2 : c < 128) : rd acc i (c :: t) = (acc + c * 128 ^ i, (i : Int) + 1, 0) := by
  rw [rd, if_neg h, if_neg h1, if_pos h2]
theorem rd_next {acc : Int} {i : Nat} {c : Int} {t : List Int} (h : ¬ (i = 9 ∧ 1 < c)) (h2 : ¬ c < 128) : rd acc i (c :: t) = rd (acc + (c - 128) * 128 ^ i) (i + 1) t := by
  rw [rd, if_neg h, if_neg (by omega), if_neg h2]

/-- One encoding, whatever follows, is read. -/
theorem rd_enc (f : Nat) : ∀ (acc : Int) (i : Nat) (n : Int) (t : List Int), f + i = 9 → Fit f n → (i = 0 ∨ 0 < n) → (i = 9 → n ≤ 1) → (i ≤ 8 → n * 128 ^ i < 18446744073709551616) →
    rd acc i (enc f n ++ t) = (acc + n * 128 ^ i, (i : Int) + (enc f n).length, 0) := by
  induction f with
  | zero =>
    intro acc i n t hi hf h0 h9 _
    have := h9 (by omega)
    have h1 := fit_zero hf
    show rd acc i (n :: t) = _
    rw [rd_last (by omega) (by omega) h1]
    rfl
  | succ f ih =>
    intro acc i n t hi hf h0 h9 h8
    by_cases hn : n < 128
    · rw [enc_small _ _ hn]
      show rd acc i (n :: t) = _
      rw [rd_last (by omega) (by omega) hn]
      rfl
    · rw [enc_large _ _ hn]
      show rd acc i ((n % 128 + 128) :: (enc f (n / 128) ++ t)) = _
      rw [rd_next (by omega) (by omega)]
      have hp : (128 : Int) ^ (i + 1) = 128 ^ i * 128 := Int.pow_succ 128 i
      have hlt : n / 128 * 128 ^ (i + 1) ≤ n * 128 ^ i := by
        rw [hp, Int.mul_comm (128 ^ i) 128, ← Int.mul_assoc]
        exact Int.mul_le_mul_of_nonneg_right (by omega) (Int.pow_nonneg (by omega))
      have hb := h8 (by omega)
      rw [ih _ (i + 1) (n / 128) t (by omega) (fit_down hf) (by omega) ?_ (fun _ => by omega)]
      · have e : acc + (n % 128 + 128 - 128) * 128 ^ i + n / 128 * 128 ^ (i + 1) = acc + n * 128 ^ i := by
          rw [hp, Int.mul_comm (128 ^ i) 128, ← Int.mul_assoc, Int.add_assoc, ← Int.add_mul]
          congr 2
          omega
        rw [e]
        simp
        omega
      · intro h9'
        obtain rfl : i = 8 := by omega
        rw [show (128 : Int) ^ 8 = 72057594037927936 from rfl] at hb
        omega

/-- What can be read is an encoding: else the number and the size are 0. -/
theorem rd_inv : ∀ (l : List Int) (acc : Int) (i : Nat), i ≤ 9 → (∀ x, x ∈ l → 0 ≤ x ∧ x ≤ 255) →
    ((rd acc i l).1 = 0 ∧ (rd acc i l).2.1 = 0 ∧ (rd acc i l).2.2 ≠ 0) ∨
    (∃ m : Int, Fit (9 - i) m ∧ (i = 0 ∨ 0 < m) ∧ m * 128 ^ i < 18446744073709551616 ∧ rd acc i l = (acc + m * 128 ^ i, (i : Int) + (enc (9 - i) m).length, 0) ∧
      (enc (9 - i) m).length ≤ l.length ∧ enc (9 - i) m = l.take (enc (9 - i) m).length) := by
  intro l
  induction l with
  | nil => intro acc i hi hl; exact .inl ⟨rfl, rfl, by simp [rd]⟩
  | cons c t ih =>
    intro acc i hi hl
    have hc := hl c (by simp)
    by_cases h1 : i = 9 ∧ 1 < c
    · rw [rd_over h1.1 h1.2]; exact .inl ⟨rfl, rfl, by simp⟩
    by_cases h2 : 0 < i ∧ c = 0
    · rw [rd_zero h2.1 h2.2]; exact .inl ⟨rfl, rfl, by simp⟩
    by_cases h3 : c < 128
    · rw [rd_last h1 h2 h3]
      refine .inr ⟨c, ⟨hc.1, ?_⟩, by omega, ?_, ?_, ?_, ?_⟩
      · have : (128 : Int) ^ 1 ≤ 128 ^ (9 - i + 1) := pow_le (by omega)
        rw [show (128 : Int) ^ 1 = 128 from rfl] at this
        omega
      · by_cases h9 : i = 9
        · subst h9
          rw [show (128 : Int) ^ 9 = 9223372036854775808 from rfl]
          omega
        · have hp : (128 : Int) ^ i ≤ 128 ^ 8 := pow_le (by omega)
          rw [show (128 : Int) ^ 8 = 72057594037927936 from rfl] at hp
          have h0 : (0 : Int) ≤ 128 ^ i := Int.pow_nonneg (by omega)
          have := Int.mul_le_mul (show c ≤ 127 by omega) hp h0 (by omega)
          omega
      · rw [enc_small _ _ h3]; rfl
      · rw [enc_small _ _ h3]; simp
      · rw [enc_small _ _ h3]; simp
    · have h9 : i ≤ 8 := by omega
      rw [rd_next h1 h3]
      rcases ih (acc + (c - 128) * 128 ^ i) (i + 1) (by omega) (fun x hx => hl x (by simp [hx])) with h | ⟨m, hf, hp, hb, he, hlen, ht⟩
      · exact .inl h
      · have hpos : 0 < m := by omega
        have hm : ¬ (c - 128 + m * 128) < 128 := by omega
        obtain ⟨g, hg⟩ : ∃ g, 9 - i = g + 1 := ⟨8 - i, by omega⟩
        have hg' : 9 - (i + 1) = g := by omega
        rw [hg'] at hf he hlen ht
        have hpow : (128 : Int) ^ (i + 1) = 128 ^ i * 128 := Int.pow_succ 128 i
        have he2 : enc (g + 1) (c - 128 + m * 128) = c :: enc g m := by
          rw [enc_large _ _ hm, show (c - 128 + m * 128) % 128 + 128 = c by omega, show (c - 128 + m * 128) / 128 = m by omega]
        refine .inr ⟨c - 128 + m * 128, ?_, by omega, ?_, ?_, ?_, ?_⟩
        · rw [hg]
          refine ⟨by omega, ?_⟩
          have := hf.2
          rw [Int.pow_succ]
          omega
        · have h0 : (0 : Int) ≤ 128 ^ i := Int.pow_nonneg (by omega)
          rw [hpow] at hb
          have h5 : (m + 1) * (128 ^ i * 128) ≤ 18446744073709551616 := by
            have hcase : i ≤ 8 := h9
            have : i = 0 ∨ i = 1 ∨ i = 2 ∨ i = 3 ∨ i = 4 ∨ i = 5 ∨ i = 6 ∨ i = 7 ∨ i = 8 := by omega
            rcases this with rfl | rfl | rfl | rfl | rfl | rfl | rfl | rfl | rfl <;> simp at hb ⊢ <;> omega
          have h6 : (c - 128 + m * 128) * 128 ^ i < (m + 1) * (128 ^ i * 128) := by
            rw [Int.mul_comm (128 ^ i) 128, ← Int.mul_assoc]
            exact Int.mul_lt_mul_of_pos_right (by omega) (Int.pow_pos (by omega))
          omega
        · rw [he, hg, he2]
          have e : acc + (c - 128) * 128 ^ i + m * 128 ^ (i + 1) = acc + (c - 128 + m * 128) * 128 ^ i := by
            rw [hpow, Int.mul_comm (128 ^ i) 128, ← Int.mul_assoc, Int.add_assoc, ← Int.add_mul]
          rw [e]
          simp
          omega
        · rw [hg, he2]; simpa using hlen
        · rw [hg, he2]
          simp only [List.length_cons, List.take_succ_cons]
          rw [← ht]

theorem rd_Enc (n : Int) (h0 : 0 ≤ n) (h1 : n ≤ 18446744073709551615) (t : List Int) : rd 0 0 (Enc n ++ t) = (n, ((Enc n).length : Int), 0) := by
  have := rd_enc 9 0 0 n t rfl (fit_word h0 h1) (.inl rfl) (by omega) (fun _ => by simp; omega)
  unfold Enc
  rw [this]
  simp
theorem rd_Inv (l : List Int) (hl : ∀ x, x ∈ l → 0 ≤ x ∧ x ≤ 255) : ((rd 0 0 l).1 = 0 ∧ (rd 0 0 l).2.1 = 0 ∧ (rd 0 0 l).2.2 ≠ 0) ∨
    (∃ m : Int, 0 ≤ m ∧ m ≤ 18446744073709551615 ∧ rd 0 0 l = (m, ((Enc m).length : Int), 0) ∧ (Enc m).length ≤ l.length ∧ Enc m = l.take (Enc m).length) := by
  rcases rd_inv l 0 0 (by omega) hl with h | ⟨m, hf, _, hb, he, h1, h2⟩
  · exact .inl h
  · refine .inr ⟨m, hf.1, by simpa using Int.le_of_lt_add_one (by simpa using hb), ?_, h1, h2⟩
    rw [he]
    simp [Enc]
theorem Enc_len (n : Int) : 0 < (Enc n).length ∧ (Enc n).length ≤ 10 := ⟨enc_pos 9 n, enc_len 9 n⟩
theorem Enc_bytes (n : Int) (h0 : 0 ≤ n) (h1 : n ≤ 18446744073709551615) : ∀ x, x ∈ Enc n → 0 ≤ x ∧ x ≤ 255 := enc_bytes 9 n (fit_word h0 h1)
end Go.Proofs.Ytglglhcnofbagaa
namespace Go.Proofs.Ytglglhcnofbagaa
set_option maxRecDepth 100000
open Go.RowKit

/-- A number of 64 bits. -/
def W64 (x : Int) : Prop := 0 ≤ x ∧ x ≤ 18446744073709551615
/-- A byte. -/
def W8 (x : Int) : Prop := 0 ≤ x ∧ x ≤ 255

theorem nat_or128 : ∀ a, a < 256 → a ||| 128 = a % 128 + 128 := by decide +kernel
theorem nat_and127 : ∀ a, a < 256 → a &&& 127 = a % 128 := by decide +kernel
theorem or128 (x : Int) (h : W8 x) : bits .or .u8 x 128 = x % 128 + 128 := by
  obtain ⟨h0, h1⟩ := h
  rw [u8_or x 128 h0 (by omega) (by omega) (by omega), show (128 : Int).toNat = 128 from rfl, nat_or128 x.toNat (by omega)]
  omega
theorem and127 (x : Int) (h : W8 x) : bits .and .u8 x 127 = x % 128 := by
  obtain ⟨h0, h1⟩ := h
  rw [u8_and x 127 h0 (by omega) (by omega) (by omega), show (127 : Int).toNat = 127 from rfl, nat_and127 x.toNat (by omega)]
  omega
theorem andNot128 (x : Int) (h : W8 x) : bits .andNot .u8 x 128 = x % 128 := by
  obtain ⟨h0, h1⟩ := h
  rw [u8_andNot x 128 h0 (by omega) (by omega) (by omega), show 255 - (128 : Int).toNat = 127 from rfl, nat_and127 x.toNat (by omega)]
  omega
theorem pow7 (k : Nat) : (2 : Int) ^ (7 * k) = 128 ^ k := by
  rw [Int.pow_mul]
  rfl
/-- A group is put above what was read before. -/
theorem or64 (acc x : Int) (k : Nat) (h0 : 0 ≤ acc) (h1 : acc < 128 ^ k) (hx : 0 ≤ x) (h2 : x * 128 ^ k < 18446744073709551616) (h3 : acc < 18446744073709551616) :
    bits .or .u64 acc (IntKind.u64.wrap (x * 2 ^ (7 * k))) = acc + x * 128 ^ k := by
  rw [pow7, IntKind.wrap_u64, Int.emod_eq_of_lt (Int.mul_nonneg hx (Int.pow_nonneg (by omega))) h2]
  obtain ⟨a, rfl⟩ := Int.eq_ofNat_of_zero_le h0
  obtain ⟨y, rfl⟩ := Int.eq_ofNat_of_zero_le hx
  have e : ((y : Int) * 128 ^ k) = ((y * 2 ^ (7 * k) : Nat) : Int) := by
    rw [← pow7]
    simp
  rw [e] at h2 ⊢
  rw [u64_or_nat a _ (by omega) (by omega)]
  have ha : a < 2 ^ (7 * k) := by
    rw [← pow7] at h1
    exact_mod_cast h1
  rw [Nat.or_comm, Nat.mul_comm y, ← Nat.two_pow_add_eq_or_of_lt ha]
  omega

end Go.Proofs.Ytglglhcnofbagaa
namespace Go.Proofs.Ytglglhcnofbagaa
set_option maxRecDepth 100000
open Go.RowKit

theorem info5 : (Try.prog.info? 5).map (fun i => (i.zero, i.size, i.bytes)) = some (some (.int .u8 0), 1, 1) := by kernel_rfl

/-- A slice value at a, of the capacity c, reads as the bytes L: it is nil, or its cells hold them. -/
def Sl (w : World) (a : Option Addr) (c : Nat) (L : List Int) : Prop :=
  (a = none ∧ c = 0 ∧ L = []) ∨ ∃ x, a = some x ∧ ∀ k, k < L.length → ∃ b off, x = ⟨b, off, none⟩ ∧ w.cell? ⟨b, off + k, none⟩ = some (.int .u8 (L.getD k 0))

theorem sl_at {w : World} {a : Option Addr} {c : Nat} {L : List Int} (h : Sl w a c L) {k : Nat} (hk : k < L.length) : ∃ b off, a = some ⟨b, off, none⟩ ∧ b < w.heap.size ∧ w.cell? ⟨b, off + k, none⟩ = some (.int .u8 (L.getD k 0)) := by
  rcases h with ⟨_, _, rfl⟩ | ⟨x, rfl, hx⟩
  · simp at hk
  · obtain ⟨b, off, rfl, hc⟩ := hx k hk
    exact ⟨b, off, rfl, World.block_lt_of_cell? w (⟨b, off + k, none⟩ : Addr) hc, hc⟩
theorem sl_below {w w' : World} {a : Option Addr} {c : Nat} {L : List Int} (h : Sl w a c L) (hb : Below w.heap.size w w') : Sl w' a c L := by
  rcases h with h | ⟨x, rfl, hx⟩
  · exact .inl h
  · refine .inr ⟨x, rfl, fun k hk => ?_⟩
    obtain ⟨b, off, rfl, hc⟩ := hx k hk
    exact ⟨b, off, rfl, (hb.cell (p := ⟨b, off + k, none⟩) (World.block_lt_of_cell? w _ hc)).trans hc⟩
/-- A row that the call made reads as its bytes. -/
theorem sl_own {w : World} {B : Nat} {v : Value} {n : Nat} {L : List Int} (h : w.ownsRow B 5 1 v n (L.map (Value.int .u8))) : ∃ a c, v = .slice a L.length c ∧ Sl w a c L ∧ n = L.length ∧ L.length ≤ c := by
  have hn : L.length = n := by have := h.1; simpa using this
  subst hn
  rcases h.2 with ⟨rfl, h0⟩ | ⟨g, cap, cur, rfl, hb, hg, hcap, _⟩
  · exact ⟨none, 0, by rw [h0], .inl ⟨rfl, rfl, List.eq_nil_of_length_eq_zero h0⟩, rfl, by omega⟩
  · refine ⟨some ⟨g, 0, none⟩, cap, rfl, .inr ⟨_, rfl, fun k hk => ⟨g, 0, rfl, ?_⟩⟩, rfl, hcap⟩
    have hk' := h.cells (g := g) rfl k (.int .u8 (L.getD k 0)) (by rw [List.getElem?_map, List.getElem?_eq_getElem hk, List.getD_eq_getElem?_getD, List.getElem?_eq_getElem hk]; rfl)
    rw [← hk', Go.WideShapes.add_plain]

/-- A slice of bytes as a string. -/
theorem conv_sl {a : Option Addr} {c : Nat} {L : List Int} {w : World} (h : Sl w a c L) : (convert 29 9 (.slice a L.length c)).run Try.prog w = .ok (.string (strOfNums L)) w := by
  rcases h with ⟨rfl, rfl, rfl⟩ | ⟨x, rfl, hx⟩
  · exact run_convert_bytes_nil w 29 5 Try.underlying29 Try.underlying5 _ _ 9 Try.underlying9
  · have hl : (loadCells x L.length).run Try.prog w = .ok (L.map (Value.int .u8)).toArray w := by
      have := run_loadCells_list (P := Try.prog) w x (L.map (Value.int .u8)) (fun j v hj => by
        have hj' : j < L.length := by
          rcases Nat.lt_or_ge j L.length with h | h
          · exact h
          · rw [List.getElem?_eq_none (by simpa using h)] at hj; cases hj
        obtain ⟨b, off, rfl, hc⟩ := hx j hj'
        rw [Go.WideShapes.add_plain, hc]
        rw [List.getElem?_map, List.getElem?_eq_getElem hj'] at hj
        rw [List.getD_eq_getElem?_getD, List.getElem?_eq_getElem hj']
        exact hj)
      simpa using this
    rw [run_convert_bytes_string w 29 9 5 _ _ c Try.underlying29 Try.underlying5 Try.underlying9, run_bytesToString w x _ c L hl, foldl_push_bytes]
    simp [strOfNums, ByteArray.empty, ByteArray.emptyWithCapacity]
    try rfl

/-- 'append' to a row of the call's own, from whatever source. -/
theorem append_src {P : Program} {w : World} {ops : Array Oper} {rest : List Oper} {o : Oper} {a : Act} {Q : Exit → Act → World → Prop} (hgd : o.guard = none) (s x : Operand) (t : TypeId)
    (ho : o.op = .call { callee := .builtin .append, args := #[s, x], argTypes := #[t, t] })
    (base : Nat) (i : TypeInfo) (ht : P.underlying t = some (.slice 5)) (hi : P.info? 5 = some i) (hz : i.zero = some (.int .u8 0)) (hsize : i.size = 1) (hby : i.bytes = 1)
    (v : Value) (n : Nat) (xs : List Value) (hs : a.eval s = v) (hown : w.ownsRow base 5 1 v n xs)
    (ad : Option Addr) (m c : Nat) (L : List Int) (hx : a.eval x = .slice ad m c) (hm : L.length = m) (hr : Sl w ad c L) (hb : n + m ≤ 140737488355328) (hbase : base ≤ w.heap.size)
    (h : ∀ v' w', w'.ownsRow base 5 1 v' (n + m) (xs ++ L.map (Value.int .u8)) → w.grownBy w' v.ownBlock → wpList P ops Q rest (a.put o.dst v') w') : wpList P ops Q (o :: rest) a w := by
  subst hm
  rcases hr with ⟨rfl, rfl, rfl⟩ | ⟨y, rfl, hy⟩
  · exact wpList_append_own_none hgd s x t ho base 5 i 1 ht hi v n xs hs hown hx (h v w (by simpa using hown) (World.grownBy.refl w _))
  · refine wpList_append_own w hgd s x t ho base 5 i (.int .u8 0) 1 1 ht hi hz hsize hby rfl (by decide) v n xs hs hown y L.length c (L.map (Value.int .u8)) hx (by simp) ?_ (ints_oneCell _ _) (by unfold maxLen; omega) (by omega) hbase (fun v' w' h1 h2 _ => h v' w' h1 h2)
    intro j u hj
    have hj' : j < L.length := by
      rcases Nat.lt_or_ge j L.length with h | h
      · exact h
      · rw [List.getElem?_eq_none (by simpa using h)] at hj; cases hj
    obtain ⟨b, off, rfl, hc⟩ := hy j hj'
    rw [Go.WideShapes.add_plain, hc]
    rw [List.getElem?_map, List.getElem?_eq_getElem hj'] at hj
    rw [List.getD_eq_getElem?_getD, List.getElem?_eq_getElem hj']
    exact hj
/-- Behind an append to an owned row: all that lies below the base stays. -/
theorem after_append {w0 w w1 : World} {B B2 n : Nat} {v : Value} {xs : List Value} (hB : B2 ≤ B) (hs : B2 ≤ w.heap.size) (hown : w.ownsRow B 5 1 v n xs) (hnx : Below B2 w0 w) (hgrow : w.grownBy w1 v.ownBlock) : Below B2 w0 w1 :=
  hnx.grown hgrow hs (fun j hj => by have := (hown.lt j hj).1; omega)
/-- A new block of one cell, the one byte that is appended. -/
theorem sl_one (w : World) (x : Int) (t : Nat) : Sl (w.alloc (.cells #[.int .u8 x] t)) (some ⟨w.heap.size, 0, none⟩) 1 [x] := by
  refine .inr ⟨_, rfl, fun k hk => ⟨_, _, rfl, ?_⟩⟩
  have : k = 0 := by simpa using hk
  subst this
  simp
end Go.Proofs.Ytglglhcnofbagaa
namespace Go.Proofs.Ytglglhcnofbagaa
set_option maxRecDepth 100000
open Go.RowKit

theorem enc_snoc (f : Nat) (x : Int) (P E : List Int) (hx : ¬ x < 128) (h : P ++ enc (f + 1) x = E) : (P ++ [x % 128 + 128]) ++ enc f (x / 128) = E := by
  rw [enc_large f x hx] at h
  simpa using h

/-- An empty row that was just made. -/
theorem own_empty (w : World) : (w.alloc (.cells #[] 5)).ownsRow w.heap.size 5 1 (.slice (some ⟨w.heap.size, 0, none⟩) 0 0) 0 [] :=
  ⟨by simp, .inr ⟨w.heap.size, 0, #[], rfl, Nat.le_refl _, heap_alloc_new w _, by omega, by unfold maxLen; omega, rfl, rfl⟩⟩

set_option maxHeartbeats 2000000 in
theorem ref_append (a : Option Addr) (c : Nat) (L : List Int) (n : Int) (w : World) (hL : L.length ≤ 1000000) (hr : Sl w a c L) (hn : W64 n) :
    Calls Try.prog 68 #[.slice a L.length c, .int .u64 n] w fun e w' => ∃ v, e = .returned v ∧ w'.ownsRow w.heap.size 5 1 v (L ++ Enc n).length ((L ++ Enc n).map (Value.int .u8)) ∧ Below w.heap.size w w' := by
  have HE := Enc_len n
  have HF := Lib.hid (fit_word hn.1 hn.2)
  have HU := Lib.hid (show enc 9 n = Enc n from rfl)
  have HR := Lib.hid hr
  generalize Enc n = E at *
  obtain ⟨i0, hi, hz0, hz1, hz2⟩ := info_parts info5
  have HI := Lib.hid hi
  have HZ0 := Lib.hid hz0
  have HZ1 := Lib.hid hz1
  have HZ2 := Lib.hid hz2
  clear hi hz0 hz1 hz2
  have hr1 := sl_below hr ((Below.refl w.heap.size w).alloc (Nat.le_refl _) (.cells #[] 5))
  have HR1 := Lib.hid hr1
  clear hr1 hr
  go_enter Try.func68, Try.ntmps68
  go_wp2_with (at_builtin; refine append_src rfl _ _ 29 rfl w.heap.size i0 Try.underlying29 HI.out HZ0.out HZ1.out HZ2.out _ 0 [] rfl (own_empty w) a L.length c L rfl rfl HR1.out ?c1 ?c2 ?_)
  case c1 => omega
  case c2 => simp
  intro v' w1 hown hgrow
  have hbel := after_append (w0 := w) (Nat.le_refl _) (by simp) (own_empty w) ((Below.refl _ w).alloc (Nat.le_refl _) _) hgrow
  clear hgrow HR1
  go_wp2_with fail
  go_loopg [1, 5] 9 (fun g s1 s5 wx => ∃ (f : Nat) (x : Int) (P : List Int), s1 = .int .u64 x ∧ W64 x ∧ Hid (Fit f x) ∧ wx.ownsRow w.heap.size 5 1 s5 (L.length + P.length) ((L ++ P).map (Value.int .u8)) ∧ Below w.heap.size w wx ∧ Hid (P ++ enc f x = E) ∧ f = g)
  case atStart => exact ⟨9, n, [], rfl, hn, HF, by simpa using hown, hbel, HU, rfl⟩
  case round =>
    obtain ⟨f, x, P, rfl, ⟨hx0, hx1⟩, hf, ho, hb, hu, rfl⟩ := hrel
    have hlen : P.length ≤ E.length := by rw [← hu.out]; simp
    have hsz := hb.size
    by_cases hlt : x < 128
    · go_wp2_with (at_builtin; refine append_src rfl _ _ 29 rfl w.heap.size i0 Try.underlying29 HI.out HZ0.out HZ1.out HZ2.out _ (L.length + P.length) _ rfl (ho.alloc _) (some ⟨wr.heap.size, 0, none⟩) 1 1 [x] rfl rfl (sl_one _ _ _) ?d1 ?d2 ?_)
      case d1 => omega
      case d2 => simp; omega
      intro v1 w2 ho2 hgrow
      have hb2 := after_append (Nat.le_refl _) (hb.alloc hsz _).size (ho.alloc _) (hb.alloc hsz _) hgrow
      have hu2 := hu.out
      rw [enc_small f x hlt] at hu2
      have HO : Hid (w2.ownsRow w.heap.size 5 1 v1 (L ++ E).length ((L ++ E).map (Value.int .u8))) := by
        rw [← hu2]
        simpa [Hid, Nat.add_assoc] using ho2
      clear hgrow ho hb ho2 hu2
      go_wp2
      go_ret
      exact ⟨_, rfl, HO.out, hb2⟩
    · obtain ⟨f', rfl⟩ := fit_pos hf.out hlt
      have hy1 : bits .or .u8 (x % 256) 128 = x % 128 + 128 := (or128 (x % 256) ⟨by omega, by omega⟩).trans (by omega)
      have hy2 : bits .or .u8 (IntKind.u8.wrap x) 128 = x % 128 + 128 := by rw [IntKind.wrap_u8']; exact hy1
      have HY := Lib.hid (enc_snoc f' x P E hlt hu.out)
      generalize x % 128 + 128 = y at *
      go_wp2_with (at_builtin; refine append_src rfl _ _ 29 rfl w.heap.size i0 Try.underlying29 HI.out HZ0.out HZ1.out HZ2.out _ (L.length + P.length) _ rfl (ho.alloc _) (some ⟨wr.heap.size, 0, none⟩) 1 1 [y] rfl rfl (sl_one _ _ _) ?e1 ?e2 ?_)
      case e1 => omega
      case e2 => have := (hb.alloc hsz (.cells #[.int .u8 y] 5)).size; omega
      intro v1 w2 ho2 hgrow
      have hb2 := after_append (Nat.le_refl _) (hb.alloc hsz _).size (ho.alloc _) (hb.alloc hsz _) hgrow
      clear hgrow ho hb hy1 hy2
      go_wp2
      go_roundg f'
      case measure => omega
      case rel => exact ⟨f', x / 128, P ++ [y], by rfl, ⟨by omega, by omega⟩, Lib.hid (fit_down hf.out), by simpa [Nat.add_assoc] using ho2, hb2, HY, rfl⟩

end Go.Proofs.Ytglglhcnofbagaa
namespace Go.Proofs.Ytglglhcnofbagaa
set_option maxRecDepth 100000
open Go.RowKit

end Go.Proofs.Ytglglhcnofbagaa
namespace Go.Proofs.Ytglglhcnofbagaa
set_option maxRecDepth 100000
open Go.RowKit

/-- What Read returns for the result r. -/
def rdOut (r : Int × Int × Int) : Value := .tuple #[.int .u64 r.1, .int .i64 r.2.1, .int .i64 r.2.2]

theorem grp (x : Int) (h : W8 x) : IntKind.u64.wrap (bits .andNot .u8 x 128) = x % 128 := by
  rw [andNot128 x h, IntKind.wrap_u64]
  omega
theorem grp2 (x : Int) (h : W8 x) : IntKind.u64.wrap (bits .and .u8 x 127) = x % 128 := by
  rw [and127 x h, IntKind.wrap_u64]
  omega
/-- A group y is put at the place k. -/
theorem put_group (acc y : Int) (k : Nat) (ha : 0 ≤ acc ∧ acc < 128 ^ k) (hk : k ≤ 9) (h0 : 0 ≤ y) (h1 : y < 128) (h9 : ¬ (k = 9 ∧ 1 < y)) :
    bits .or .u64 acc (IntKind.u64.wrap (y * 2 ^ (7 * k))) = acc + y * 128 ^ k := by
  have hp : (128 : Int) ^ k ≤ 128 ^ 9 := pow_le hk
  rw [show (128 : Int) ^ 9 = 9223372036854775808 from rfl] at hp
  refine or64 acc y k ha.1 ha.2 h0 ?_ (by omega)
  by_cases h : k = 9
  · subst h
    rw [show (128 : Int) ^ 9 = 9223372036854775808 from rfl]
    omega
  · have hp8 : (128 : Int) ^ k ≤ 128 ^ 8 := pow_le (by omega)
    rw [show (128 : Int) ^ 8 = 72057594037927936 from rfl] at hp8
    have := Int.mul_le_mul (show y ≤ 127 by omega) hp8 (Int.pow_nonneg (by omega)) (by omega)
    omega
theorem put_bound (acc y : Int) (k : Nat) (ha : 0 ≤ acc ∧ acc < 128 ^ k) (h0 : 0 ≤ y) (h1 : y < 128) : 0 ≤ acc + y * 128 ^ k ∧ acc + y * 128 ^ k < 128 ^ (k + 1) := by
  have hp : (0 : Int) < 128 ^ k := Int.pow_pos (by omega)
  have h2 := Int.mul_le_mul_of_nonneg_right (show y ≤ 127 by omega) (Int.le_of_lt hp)
  have h3 := Int.mul_nonneg h0 (Int.le_of_lt hp)
  rw [Int.pow_succ]
  omega
theorem last_group (acc x : Int) (k : Nat) (ha : 0 ≤ acc ∧ acc < 128 ^ k) (hk : k ≤ 9) (h0 : 0 ≤ x) (h1 : x < 128) (h9 : ¬ (k = 9 ∧ 1 < x)) :
    bits .or .u64 acc (IntKind.u64.wrap (x % 128 * 2 ^ (7 * k))) = acc + x * 128 ^ k := by
  rw [show x % 128 = x by omega]
  exact put_group acc x k ha hk h0 h1 h9
theorem next_group (acc x : Int) (k : Nat) (ha : 0 ≤ acc ∧ acc < 128 ^ k) (hk : k ≤ 8) (h0 : 128 ≤ x) (h1 : x ≤ 255) :
    bits .or .u64 acc (IntKind.u64.wrap (x % 128 * 2 ^ (7 * k))) = acc + (x - 128) * 128 ^ k ∧ 0 ≤ acc + (x - 128) * 128 ^ k ∧ acc + (x - 128) * 128 ^ k < 128 ^ (k + 1) := by
  rw [show x % 128 = x - 128 by omega]
  exact ⟨put_group acc (x - 128) k ha (by omega) (by omega) (by omega) (by omega), put_bound acc (x - 128) k ha (by omega) (by omega)⟩
theorem pow63 : (9223372036854775808 : Int) = 2 ^ (7 * 9) := rfl
theorem rd_out_eq {n1 n2 s1 s2 e1 e2 : Int} (h1 : n1 = n2) (h2 : s1 = s2) (h3 : e1 = e2) : Ending.returned (.tuple #[.int .u64 n1, .int .i64 s1, .int .i64 e1]) = Ending.returned (rdOut (n2, s2, e2)) := by
  subst h1 h2 h3
  rfl

set_option maxHeartbeats 4000000 in
theorem code_read (a : Option Addr) (c : Nat) (L : List Int) (w : World) (hL : L.length ≤ 1000000) (hr : Sl w a c L) (hw : ∀ x, x ∈ L → W8 x) :
    Calls Try.prog 93 #[.slice a L.length c] w fun e w' => e = .returned (rdOut (rd 0 0 L)) ∧ w = w' := by
  have HR := Lib.hid hr
  have HW := Lib.hid hw
  have HD : Hid (rd 0 0 L = rd 0 0 (L.drop 0)) := rfl
  clear hr hw
  generalize rd 0 0 L = R at *
  go_enter Try.func93, Try.ntmps93
  go_wp2_with fail
  go_loopg [2, 9] L.length (fun g s2 s9 wx => w = wx ∧ ∃ (k : Nat) (acc : Int), s9 = .int .i64 k ∧ k ≤ L.length ∧ k ≤ 9 ∧ s2 = .int .u64 acc ∧ Hid (0 ≤ acc ∧ acc < 128 ^ k) ∧ Hid (R = rd acc k (L.drop k)) ∧ L.length - k = g)
  case atStart => exact ⟨rfl, 0, 0, rfl, by omega, by omega, rfl, Lib.hid (by decide), HD, by omega⟩
  case round =>
    obtain ⟨rfl, k, acc, rfl, hk, hk9, rfl, ha, hd, rfl⟩ := hrel
    by_cases hlt : k < L.length
    · obtain ⟨b, off, rfl, _, hc⟩ := sl_at HR.out hlt
      have hx := HW.out (L.getD k 0) (by rw [List.getD_eq_getElem?_getD, List.getElem?_eq_getElem hlt]; exact List.getElem_mem hlt)
      have hs : L.drop k = L.getD k 0 :: L.drop (k + 1) := by rw [List.drop_eq_getElem_cons hlt, List.getD_eq_getElem?_getD, List.getElem?_eq_getElem hlt]; rfl
      have HS := Lib.hid hs
      clear hs
      generalize L.getD k 0 = x at *
      obtain ⟨hx0, hx1⟩ := hx
      go_wp2
      · have h9 : k = 9 := by omega
        have hv : R = (0, 0, 6) := by rw [hd.out, HS.out, rd_over h9 (by assumption)]
        clear hd HD
        go_ret3
        exact ⟨by rw [hv]; rfl, rfl⟩
      · have h9 : k = 9 := by omega
        have h0 : x = 0 := WalkArith.int_eq (by assumption)
        have hv : R = (0, 0, 4) := by rw [hd.out, HS.out, rd_zero (by omega) h0]
        clear hd HD
        go_ret3
        exact ⟨by rw [hv]; rfl, rfl⟩
      · have h9 : k = 9 := by omega
        have h0 : x ≠ 0 := WalkArith.int_ne (by assumption)
        have hv : R = (acc + x * 128 ^ k, (k : Int) + 1, 0) := by rw [hd.out, HS.out, rd_last (by omega) (by omega) (by omega)]
        clear hd HD
        go_ret3
        subst h9
        exact ⟨by rw [hv]; exact rd_out_eq (by rw [grp x ⟨hx0, hx1⟩, pow63]; exact last_group acc x 9 ha.out (by omega) (by omega) (by omega) (by omega)) (by omega) rfl, rfl⟩
      · have h0 : x = 0 := WalkArith.int_eq (by assumption)
        have hv : R = (0, 0, 4) := by rw [hd.out, HS.out, rd_zero (by omega) h0]
        clear hd HD
        go_ret3
        exact ⟨by rw [hv]; rfl, rfl⟩
      · have h0 : x ≠ 0 := WalkArith.int_ne (by assumption)
        have hv : R = (acc + x * 128 ^ k, (k : Int) + 1, 0) := by rw [hd.out, HS.out, rd_last (by omega) (by omega) (by omega)]
        clear hd HD
        go_ret3
        exact ⟨by rw [hv]; exact rd_out_eq (by rw [grp x ⟨hx0, hx1⟩]; exact last_group acc x k ha.out (by omega) (by omega) (by omega) (by omega)) (by omega) rfl, rfl⟩
      · have hd2 : R = rd (acc + (x - 128) * 128 ^ k) (k + 1) (L.drop (k + 1)) := by rw [hd.out, HS.out, rd_next (by omega) (by omega)]
        have HD2 := Lib.hid hd2
        clear hd2 hd HD
        go_roundg (L.length - (k + 1))
        case measure => omega
        case rel => exact ⟨rfl, k + 1, _, by go_num, by omega, by omega, by rw [grp x ⟨hx0, hx1⟩]; exact congrArg _ (next_group acc x k ha.out (by omega) (by omega) (by omega)).1, Lib.hid (next_group acc x k ha.out (by omega) (by omega) (by omega)).2, HD2, by omega⟩
      · have hv : R = (acc + x * 128 ^ k, (k : Int) + 1, 0) := by rw [hd.out, HS.out, rd_last (by omega) (by omega) (by omega)]
        clear hd HD
        go_ret3
        exact ⟨by rw [hv]; exact rd_out_eq (by rw [grp x ⟨hx0, hx1⟩]; exact last_group acc x k ha.out (by omega) (by omega) (by omega) (by omega)) (by omega) rfl, rfl⟩
      · have hd2 : R = rd (acc + (x - 128) * 128 ^ k) (k + 1) (L.drop (k + 1)) := by rw [hd.out, HS.out, rd_next (by omega) (by omega)]
        have HD2 := Lib.hid hd2
        clear hd2 hd HD
        go_roundg (L.length - (k + 1))
        case measure => omega
        case rel => exact ⟨rfl, k + 1, _, by go_num, by omega, by omega, by rw [grp x ⟨hx0, hx1⟩]; exact congrArg _ (next_group acc x k ha.out (by omega) (by omega) (by omega)).1, Lib.hid (next_group acc x k ha.out (by omega) (by omega) (by omega)).2, HD2, by omega⟩
    · go_wp2
      have hv : R = (0, 0, 5) := by rw [hd.out, List.drop_eq_nil_of_le (by omega)]; rfl
      clear hd HD
      go_ret3
      exact ⟨by rw [hv]; rfl, rfl⟩

set_option maxHeartbeats 4000000 in
theorem ref_read (a : Option Addr) (c : Nat) (L : List Int) (w : World) (hL : L.length ≤ 1000000) (hr : Sl w a c L) (hw : ∀ x, x ∈ L → W8 x) :
    Calls Try.prog 82 #[.slice a L.length c] w fun e w' => e = .returned (rdOut (rd 0 0 L)) ∧ w = w' := by
  have HR := Lib.hid hr
  have HW := Lib.hid hw
  have HD : Hid (rd 0 0 L = rd 0 0 (L.drop 0)) := rfl
  clear hr hw
  generalize rd 0 0 L = R at *
  go_enter Try.func82, Try.ntmps82
  go_wp2_with fail
  go_loopg [5, 6] (L.length + 1) (fun g s2 s9 wx => w = wx ∧ ∃ (k : Nat) (acc : Int), s9 = .int .i64 k ∧ k ≤ L.length ∧ k ≤ 9 ∧ s2 = .int .u64 acc ∧ Hid (0 ≤ acc ∧ acc < 128 ^ k) ∧ Hid (R = rd acc k (L.drop k)) ∧ L.length + 1 - k = g)
  case atStart => exact ⟨rfl, 0, 0, rfl, by omega, by omega, rfl, Lib.hid (by decide), HD, by omega⟩
  case round =>
    obtain ⟨rfl, k, acc, rfl, hk, hk9, rfl, ha, hd, rfl⟩ := hrel
    by_cases hlt : k < L.length
    · obtain ⟨b, off, rfl, _, hc⟩ := sl_at HR.out hlt
      have hx := HW.out (L.getD k 0) (by rw [List.getD_eq_getElem?_getD, List.getElem?_eq_getElem hlt]; exact List.getElem_mem hlt)
      have hs : L.drop k = L.getD k 0 :: L.drop (k + 1) := by rw [List.drop_eq_getElem_cons hlt, List.getD_eq_getElem?_getD, List.getElem?_eq_getElem hlt]; rfl
      have HS := Lib.hid hs
      clear hs
      generalize L.getD k 0 = x at *
      obtain ⟨hx0, hx1⟩ := hx
      have hge : ¬ (L.length : Int) ≤ (k : Int) := by omega
      by_cases h9 : k = 9
      · subst h9
        go_wp2
        · have hv : R = (0, 0, 6) := by rw [hd.out, HS.out, rd_over rfl (by assumption)]
          clear hd HD
          go_ret3
          exact ⟨by rw [hv]; rfl, rfl⟩
        · have h0 : x = 0 := WalkArith.int_eq (by assumption)
          have hv : R = (0, 0, 4) := by rw [hd.out, HS.out, rd_zero (by omega) h0]
          clear hd HD
          go_ret3
          exact ⟨by rw [hv]; rfl, rfl⟩
        · have h0 : x ≠ 0 := WalkArith.int_ne (by assumption)
          have hv : R = (acc + x * 128 ^ 9, ((9 : Nat) : Int) + 1, 0) := by rw [hd.out, HS.out, rd_last (by omega) (by omega) (by omega)]
          clear hd HD
          go_ret3
          exact ⟨by rw [hv]; exact rd_out_eq (by rw [grp2 x ⟨hx0, hx1⟩, pow63]; exact last_group acc x 9 ha.out (by omega) (by omega) (by omega) (by omega)) (by omega) rfl, rfl⟩
      · go_wp2
        · have h0 : x = 0 := WalkArith.int_eq (by assumption)
          have hv : R = (0, 0, 4) := by rw [hd.out, HS.out, rd_zero (by omega) h0]
          clear hd HD
          go_ret3
          exact ⟨by rw [hv]; rfl, rfl⟩
        · have h0 : x ≠ 0 := WalkArith.int_ne (by assumption)
          have hv : R = (acc + x * 128 ^ k, (k : Int) + 1, 0) := by rw [hd.out, HS.out, rd_last (by omega) (by omega) (by omega)]
          clear hd HD
          go_ret3
          exact ⟨by rw [hv]; exact rd_out_eq (by rw [grp2 x ⟨hx0, hx1⟩]; exact last_group acc x k ha.out (by omega) (by omega) (by omega) (by omega)) (by omega) rfl, rfl⟩
        · have hd2 : R = rd (acc + (x - 128) * 128 ^ k) (k + 1) (L.drop (k + 1)) := by rw [hd.out, HS.out, rd_next (by omega) (by omega)]
          have HD2 := Lib.hid hd2
          clear hd2 hd HD
          go_roundg (L.length + 1 - (k + 1))
          case measure => omega
          case rel => exact ⟨rfl, k + 1, _, by go_num, by omega, by omega, by rw [grp2 x ⟨hx0, hx1⟩]; exact congrArg _ (next_group acc x k ha.out (by omega) (by omega) (by omega)).1, Lib.hid (next_group acc x k ha.out (by omega) (by omega) (by omega)).2, HD2, by omega⟩
        · have hv : R = (acc + x * 128 ^ k, (k : Int) + 1, 0) := by rw [hd.out, HS.out, rd_last (by omega) (by omega) (by omega)]
          clear hd HD
          go_ret3
          exact ⟨by rw [hv]; exact rd_out_eq (by rw [grp2 x ⟨hx0, hx1⟩]; exact last_group acc x k ha.out (by omega) (by omega) (by omega) (by omega)) (by omega) rfl, rfl⟩
        · have hd2 : R = rd (acc + (x - 128) * 128 ^ k) (k + 1) (L.drop (k + 1)) := by rw [hd.out, HS.out, rd_next (by omega) (by omega)]
          have HD2 := Lib.hid hd2
          clear hd2 hd HD
          go_roundg (L.length + 1 - (k + 1))
          case measure => omega
          case rel => exact ⟨rfl, k + 1, _, by go_num, by omega, by omega, by rw [grp2 x ⟨hx0, hx1⟩]; exact congrArg _ (next_group acc x k ha.out (by omega) (by omega) (by omega)).1, Lib.hid (next_group acc x k ha.out (by omega) (by omega) (by omega)).2, HD2, by omega⟩
    · go_wp2
      have hv : R = (0, 0, 5) := by rw [hd.out, List.drop_eq_nil_of_le (by omega)]; rfl
      clear hd HD
      go_ret3
      exact ⟨by rw [hv]; rfl, rfl⟩
end Go.Proofs.Ytglglhcnofbagaa
namespace Go.Proofs.Ytglglhcnofbagaa
set_option maxRecDepth 100000
open Go

/-- A field. -/
structure Fld where
  num : Int
  kind : Int
  val : Int
  bytes : List Int

/-- The number behind the tag. -/
def secI (kind val : Int) (n : Nat) : Int := if kind = 2 then (n : Int) else val
/-- The field is valid: by its number, its kind, its value and the number of its bytes. -/
def Vfi (num kind val : Int) (n : Nat) : Prop := 1 ≤ num ∧ num ≤ 536870911 ∧ ((kind = 0 ∧ n = 0) ∨ (kind = 2 ∧ val = 0))
/-- The encoding of a field. -/
def encI (num kind val : Int) (B : List Int) : List Int := Enc (8 * num + kind) ++ (Enc (secI kind val B.length) ++ B)
def encF (f : Fld) : List Int := encI f.num f.kind f.val f.bytes
/-- A valid field whose value has 64 bits and whose bytes are bytes, not too many. -/
def Vf (f : Fld) : Prop := Vfi f.num f.kind f.val f.bytes.length ∧ (0 ≤ f.val ∧ f.val ≤ 18446744073709551615) ∧ (∀ x, x ∈ f.bytes → 0 ≤ x ∧ x ≤ 255) ∧ f.bytes.length ≤ 1000000

def zeroF : Fld := ⟨0, 0, 0, []⟩
/-- What is read as one field at the beginning of L: the field, its size, the error. -/
def onef (L : List Int) : Fld × Int × Int :=
  if (rd 0 0 L).2.2 ≠ 0 then (zeroF, 0, (rd 0 0 L).2.2) else
  if (rd 0 0 L).1 / 8 < 1 ∨ 536870911 < (rd 0 0 L).1 / 8 ∨ ((rd 0 0 L).1 % 8 ≠ 0 ∧ (rd 0 0 L).1 % 8 ≠ 2) then (zeroF, 0, 4) else
  if (rd 0 0 (L.drop (rd 0 0 L).2.1.toNat)).2.2 ≠ 0 then (zeroF, 0, (rd 0 0 (L.drop (rd 0 0 L).2.1.toNat)).2.2) else
  if (rd 0 0 L).1 % 8 = 0 then (⟨(rd 0 0 L).1 / 8, 0, (rd 0 0 (L.drop (rd 0 0 L).2.1.toNat)).1, []⟩, (rd 0 0 L).2.1 + (rd 0 0 (L.drop (rd 0 0 L).2.1.toNat)).2.1, 0) else
  if ((L.drop ((rd 0 0 L).2.1.toNat + (rd 0 0 (L.drop (rd 0 0 L).2.1.toNat)).2.1.toNat)).length : Int) < (rd 0 0 (L.drop (rd 0 0 L).2.1.toNat)).1 then (zeroF, 0, 5) else
  (⟨(rd 0 0 L).1 / 8, 2, 0, (L.drop ((rd 0 0 L).2.1.toNat + (rd 0 0 (L.drop (rd 0 0 L).2.1.toNat)).2.1.toNat)).take (rd 0 0 (L.drop (rd 0 0 L).2.1.toNat)).1.toNat⟩,
    (rd 0 0 L).2.1 + (rd 0 0 (L.drop (rd 0 0 L).2.1.toNat)).2.1 + (rd 0 0 (L.drop (rd 0 0 L).2.1.toNat)).1, 0)

/-- The tag's number and kind are those of a field. -/
def goodT (t : Int) : Prop := 1 ≤ t / 8 ∧ t / 8 ≤ 536870911 ∧ (t % 8 = 0 ∨ t % 8 = 2)

theorem one_tag {L : List Int} {a s e : Int} (h : rd 0 0 L = (a, s, e)) (he : e ≠ 0) : onef L = (zeroF, 0, e) := by
  unfold onef; rw [h]; rw [if_pos he]
theorem one_bad {L : List Int} {t s : Int} (h : rd 0 0 L = (t, s, 0)) (hb : ¬ goodT t) : onef L = (zeroF, 0, 4) := by
  unfold onef; rw [h]; rw [if_neg (by simp), if_pos]
  unfold goodT at hb
  simp only
  omega
theorem one_len {L : List Int} {t a s e : Int} {h : Nat} (h1 : rd 0 0 L = (t, (h : Int), 0)) (hg : goodT t) (h2 : rd 0 0 (L.drop h) = (a, s, e)) (he : e ≠ 0) : onef L = (zeroF, 0, e) := by
  unfold onef; rw [h1]; simp only [Int.toNat_natCast]; rw [h2]
  unfold goodT at hg
  rw [if_neg (by simp), if_neg (by omega), if_pos he]
theorem one_var {L : List Int} {t n : Int} {h k : Nat} (h1 : rd 0 0 L = (t, (h : Int), 0)) (hg : goodT t) (h2 : rd 0 0 (L.drop h) = (n, (k : Int), 0)) (h0 : t % 8 = 0) : onef L = (⟨t / 8, 0, n, []⟩, ((h + k : Nat) : Int), 0) := by
  unfold onef; rw [h1]; simp only [Int.toNat_natCast]; rw [h2]
  unfold goodT at hg
  rw [if_neg (by simp), if_neg (by omega), if_neg (by simp), if_pos h0]
  simp
theorem one_short {L : List Int} {t n : Int} {h k : Nat} (h1 : rd 0 0 L = (t, (h : Int), 0)) (hg : goodT t) (h2 : rd 0 0 (L.drop h) = (n, (k : Int), 0)) (h0 : t % 8 = 2) (hs : ((L.drop (h + k)).length : Int) < n) : onef L = (zeroF, 0, 5) := by
  unfold onef; rw [h1]; simp only [Int.toNat_natCast]; rw [h2]
  unfold goodT at hg
  rw [if_neg (by simp), if_neg (by omega), if_neg (by simp), if_neg (by omega), if_pos (by simpa using hs)]
theorem one_bytes {L : List Int} {t : Int} {n h k : Nat} (h1 : rd 0 0 L = (t, (h : Int), 0)) (hg : goodT t) (h2 : rd 0 0 (L.drop h) = ((n : Int), (k : Int), 0)) (h0 : t % 8 = 2) (hs : n ≤ (L.drop (h + k)).length) :
    onef L = (⟨t / 8, 2, 0, (L.drop (h + k)).take n⟩, ((h + k + n : Nat) : Int), 0) := by
  unfold onef; rw [h1]; simp only [Int.toNat_natCast]; rw [h2]
  unfold goodT at hg
  rw [if_neg (by simp), if_neg (by omega), if_neg (by simp), if_neg (by omega), if_neg (by simp only [Int.toNat_natCast]; omega)]
  simp

theorem drop_bytes {L : List Int} (hl : ∀ x, x ∈ L → 0 ≤ x ∧ x ≤ 255) (k : Nat) : ∀ x, x ∈ L.drop k → 0 ≤ x ∧ x ≤ 255 := fun x hx => hl x (List.mem_of_mem_drop hx)
theorem take_bytes {L : List Int} (hl : ∀ x, x ∈ L → 0 ≤ x ∧ x ≤ 255) (k : Nat) : ∀ x, x ∈ L.take k → 0 ≤ x ∧ x ≤ 255 := fun x hx => hl x (List.mem_of_mem_take hx)

theorem trip {r : Int × Int × Int} (h1 : r.1 = 0) (h2 : r.2.1 = 0) : r = (0, 0, r.2.2) := by
  obtain ⟨a, b, c⟩ := r
  simp only at h1 h2
  rw [h1, h2]

/-- The ways of reading one field. -/
theorem one_cases (L : List Int) (hl : ∀ x, x ∈ L → 0 ≤ x ∧ x ≤ 255) :
    (∃ e, rd 0 0 L = (0, 0, e) ∧ e ≠ 0) ∨
    ∃ (t : Int) (h : Nat), 0 ≤ t ∧ t ≤ 18446744073709551615 ∧ rd 0 0 L = (t, (h : Int), 0) ∧ 0 < h ∧ h ≤ 10 ∧ h ≤ L.length ∧ Enc t = L.take h ∧ (Enc t).length = h ∧
      (¬ goodT t ∨ (goodT t ∧
        ((∃ e, rd 0 0 (L.drop h) = (0, 0, e) ∧ e ≠ 0) ∨
         ∃ (n k : Nat), (n : Int) ≤ 18446744073709551615 ∧ rd 0 0 (L.drop h) = ((n : Int), (k : Int), 0) ∧ 0 < k ∧ k ≤ 10 ∧ h + k ≤ L.length ∧ Enc n = (L.drop h).take k ∧ (Enc (n : Int)).length = k))) := by
  rcases rd_Inv L hl with ⟨h1, h2, h3⟩ | ⟨t, ht0, ht1, hr, hle, htk⟩
  · refine .inl ⟨(rd 0 0 L).2.2, ?_, h3⟩
    exact trip h1 h2
  · refine .inr ⟨t, (Enc t).length, ht0, ht1, hr, (Enc_len t).1, (Enc_len t).2, hle, htk, rfl, ?_⟩
    by_cases hg : goodT t
    · refine .inr ⟨hg, ?_⟩
      rcases rd_Inv (L.drop (Enc t).length) (drop_bytes hl _) with ⟨h1, h2, h3⟩ | ⟨n, hn0, hn1, hr2, hle2, htk2⟩
      · refine .inl ⟨(rd 0 0 (L.drop (Enc t).length)).2.2, ?_, h3⟩
        exact trip h1 h2
      · obtain ⟨N, rfl⟩ := Int.eq_ofNat_of_zero_le hn0
        rw [List.length_drop] at hle2
        exact .inr ⟨N, (Enc (N : Int)).length, hn1, hr2, (Enc_len _).1, (Enc_len _).2, by omega, htk2, rfl⟩
    · exact .inl hg

/-- One field: the field, or the error. -/
theorem one_inv (L : List Int) (hl : ∀ x, x ∈ L → 0 ≤ x ∧ x ≤ 255) (hL : L.length ≤ 1000000) :
    (∃ e, onef L = (zeroF, 0, e) ∧ e ≠ 0) ∨ ∃ f, Vf f ∧ onef L = (f, ((encF f).length : Int), 0) ∧ (encF f).length ≤ L.length ∧ L = encF f ++ L.drop (encF f).length := by
  rcases one_cases L hl with ⟨e, h, he⟩ | ⟨t, h, ht0, ht1, hr, h0, h10, hle, htk, hlen, hc⟩
  · exact .inl ⟨e, one_tag h he, he⟩
  rcases hc with hb | ⟨hg, hc⟩
  · exact .inl ⟨4, one_bad hr hb, by omega⟩
  rcases hc with ⟨e, h2, he⟩ | ⟨n, k, hn, h2, hk0, hk10, hle2, htk2, hlen2⟩
  · exact .inl ⟨e, one_len hr hg h2 he, he⟩
  have hL1 : L = Enc t ++ (Enc (n : Int) ++ L.drop (h + k)) := by
    rw [htk, htk2, ← List.drop_drop, List.take_append_drop, List.take_append_drop]
  have hg' := hg
  unfold goodT at hg'
  by_cases h8 : t % 8 = 0
  · have ht : 8 * (t / 8) + 0 = t := by omega
    have he : encF ⟨t / 8, 0, n, []⟩ = Enc t ++ Enc (n : Int) := by
      show Enc (8 * (t / 8) + 0) ++ (Enc (secI 0 n 0) ++ []) = _
      rw [ht, List.append_nil]; rfl
    have hl2 : (encF ⟨t / 8, 0, n, []⟩).length = h + k := by rw [he, List.length_append, hlen, hlen2]
    refine .inr ⟨⟨t / 8, 0, n, []⟩, ⟨⟨by simp only; omega, by simp only; omega, .inl ⟨rfl, rfl⟩⟩, ⟨by simp only; omega, hn⟩, by simp, by simp⟩, ?_, ?_, ?_⟩
    · rw [one_var hr hg h2 h8, hl2]
    · rw [hl2]; omega
    · rw [hl2, he, List.append_assoc]; exact hL1
  · have h82 : t % 8 = 2 := by omega
    by_cases hs : n ≤ (L.drop (h + k)).length
    · have hbl : ((L.drop (h + k)).take n).length = n := by rw [List.length_take]; omega
      have he : encF ⟨t / 8, 2, 0, (L.drop (h + k)).take n⟩ = Enc t ++ (Enc (n : Int) ++ (L.drop (h + k)).take n) := by
        show Enc (8 * (t / 8) + 2) ++ (Enc (secI 2 0 ((L.drop (h + k)).take n).length) ++ _) = _
        rw [hbl, show 8 * (t / 8) + 2 = t by omega]; rfl
      have hl2 : (encF ⟨t / 8, 2, 0, (L.drop (h + k)).take n⟩).length = h + k + n := by rw [he, List.length_append, List.length_append, hlen, hlen2, hbl, Nat.add_assoc]
      refine .inr ⟨⟨t / 8, 2, 0, (L.drop (h + k)).take n⟩, ⟨⟨by simp only; omega, by simp only; omega, .inr ⟨rfl, rfl⟩⟩, ⟨by simp only; omega, by simp only; omega⟩, take_bytes (drop_bytes hl _) _, ?_⟩, ?_, ?_, ?_⟩
      · simp only [hbl]; rw [List.length_drop] at hs; omega
      · rw [one_bytes hr hg h2 h82 hs, hl2]
      · rw [hl2]; rw [List.length_drop] at hs; omega
      · have hd : L.drop (h + k + n) = (L.drop (h + k)).drop n := by rw [List.drop_drop]
        rw [hl2, he, hd, List.append_assoc, List.append_assoc, List.take_append_drop]; exact hL1
    · exact .inl ⟨5, one_short hr hg h2 h82 (by omega), by omega⟩

theorem tag_bounds {f : Fld} (h : Vf f) : 0 ≤ 8 * f.num + f.kind ∧ 8 * f.num + f.kind ≤ 18446744073709551615 := by
  obtain ⟨⟨h1, h2, h3⟩, _⟩ := h
  omega
theorem sec_bounds {f : Fld} (h : Vf f) : 0 ≤ secI f.kind f.val f.bytes.length ∧ secI f.kind f.val f.bytes.length ≤ 18446744073709551615 := by
  obtain ⟨_, h1, _, h3⟩ := h
  unfold secI
  split <;> omega
/-- The encoding of a field is read, whatever follows. -/
theorem one_enc (f : Fld) (h : Vf f) (T : List Int) : onef (encF f ++ T) = (f, ((encF f).length : Int), 0) := by
  have tb := tag_bounds h
  have sb := sec_bounds h
  obtain ⟨⟨v1, v2, v3⟩, w1, w2, w3⟩ := h
  have e0 : encF f ++ T = Enc (8 * f.num + f.kind) ++ (Enc (secI f.kind f.val f.bytes.length) ++ (f.bytes ++ T)) := by simp [encF, encI]
  have r1 := rd_Enc _ tb.1 tb.2 (Enc (secI f.kind f.val f.bytes.length) ++ (f.bytes ++ T))
  have r2 := rd_Enc _ sb.1 sb.2 (f.bytes ++ T)
  rw [← e0] at r1
  have d1 : (encF f ++ T).drop (Enc (8 * f.num + f.kind)).length = Enc (secI f.kind f.val f.bytes.length) ++ (f.bytes ++ T) := by rw [e0, List.drop_left]
  rw [← d1] at r2
  have d2 : (encF f ++ T).drop ((Enc (8 * f.num + f.kind)).length + (Enc (secI f.kind f.val f.bytes.length)).length) = f.bytes ++ T := by rw [← List.drop_drop, d1, List.drop_left]
  have hg : goodT (8 * f.num + f.kind) := by unfold goodT; omega
  have hlen : (encF f).length = (Enc (8 * f.num + f.kind)).length + (Enc (secI f.kind f.val f.bytes.length)).length + f.bytes.length := by
    simp only [encF, encI, List.length_append]; omega
  rw [hlen]
  obtain ⟨num, kind, val, B⟩ := f
  simp only at *
  rcases v3 with ⟨rfl, v4⟩ | ⟨rfl, v4⟩
  · obtain rfl : B = [] := List.eq_nil_of_length_eq_zero v4
    rw [one_var r1 hg r2 (by omega), show (8 * num + 0) / 8 = num by omega]
    rfl
  · subst v4
    have hs : secI 2 0 B.length = (B.length : Int) := rfl
    rw [hs] at r2 d2 ⊢
    rw [one_bytes r1 hg r2 (by omega) (by rw [d2, List.length_append]; omega), d2, List.take_left, show (8 * num + 2) / 8 = num by omega]

/-- What is read as a message: the fields, the offset, the error. -/
def fldsG : Nat → List Fld → Nat → List Int → List Fld × Int × Int
  | 0, acc, _, _ => (acc, 0, 0)
  | f + 1, acc, i, L =>
    if L.length = 0 then (acc, 0, 0) else if 1024 ≤ acc.length then ([], (i : Int), 3) else
    if (onef L).2.2 ≠ 0 then ([], (i : Int), (onef L).2.2) else fldsG f (acc ++ [(onef L).1]) (i + (onef L).2.1.toNat) (L.drop (onef L).2.1.toNat)
def flds (L : List Int) : List Fld × Int × Int := fldsG (L.length + 1) [] 0 L

theorem flds_end {f : Nat} {acc : List Fld} {i : Nat} {L : List Int} (h : L.length = 0) : fldsG (f + 1) acc i L = (acc, 0, 0) := by rw [fldsG, if_pos h]
theorem flds_limit {f : Nat} {acc : List Fld} {i : Nat} {L : List Int} (h : ¬ L.length = 0) (h1 : 1024 ≤ acc.length) : fldsG (f + 1) acc i L = ([], (i : Int), 3) := by rw [fldsG, if_neg h, if_pos h1]
theorem flds_err {f : Nat} {acc : List Fld} {i : Nat} {L : List Int} {x : Fld} {s e : Int} (h : ¬ L.length = 0) (h1 : acc.length < 1024) (h2 : onef L = (x, s, e)) (he : e ≠ 0) : fldsG (f + 1) acc i L = ([], (i : Int), e) := by
  rw [fldsG, if_neg h, if_neg (by omega), h2, if_pos he]
theorem flds_next {f : Nat} {acc : List Fld} {i : Nat} {L : List Int} {x : Fld} {s : Nat} (h : ¬ L.length = 0) (h1 : acc.length < 1024) (h2 : onef L = (x, (s : Int), 0)) : fldsG (f + 1) acc i L = fldsG f (acc ++ [x]) (i + s) (L.drop s) := by
  rw [fldsG, if_neg h, if_neg (by omega), h2, if_neg (by simp)]
  simp

theorem encF_pos (f : Fld) : 2 ≤ (encF f).length := by
  have h1 := (Enc_len (8 * f.num + f.kind)).1
  have h2 := (Enc_len (secI f.kind f.val f.bytes.length)).1
  simp only [encF, encI, List.length_append]
  omega
theorem encF_le (f : Fld) : (encF f).length ≤ 20 + f.bytes.length := by
  have h1 := (Enc_len (8 * f.num + f.kind)).2
  have h2 := (Enc_len (secI f.kind f.val f.bytes.length)).2
  simp only [encF, encI, List.length_append]
  omega
theorem encF_bytes (f : Fld) (h : Vf f) : ∀ x, x ∈ encF f → 0 ≤ x ∧ x ≤ 255 := by
  intro x hx
  have tb := tag_bounds h
  have sb := sec_bounds h
  simp only [encF, encI, List.mem_append] at hx
  rcases hx with hx | hx | hx
  · exact Enc_bytes _ tb.1 tb.2 x hx
  · exact Enc_bytes _ sb.1 sb.2 x hx
  · exact h.2.2.1 x hx

/-- Fields that were written are read. -/
theorem flds_enc (F : List Fld) : ∀ (f : Nat) (acc : List Fld) (i : Nat), (∀ x, x ∈ F → Vf x) → acc.length + F.length ≤ 1024 → (F.flatMap encF).length < f → fldsG f acc i (F.flatMap encF) = (acc ++ F, 0, 0) := by
  induction F with
  | nil =>
    intro f acc i _ _ hf
    obtain ⟨g, rfl⟩ : ∃ g, f = g + 1 := ⟨f - 1, by omega⟩
    rw [flds_end (by simp)]
    simp
  | cons x F ih =>
    intro f acc i hv hn hf
    obtain ⟨g, rfl⟩ : ∃ g, f = g + 1 := ⟨f - 1, by omega⟩
    have hp := encF_pos x
    rw [List.flatMap_cons, List.length_append] at hf
    simp only [List.length_cons] at hn
    rw [List.flatMap_cons, flds_next (by rw [List.length_append]; omega) (by omega) (one_enc x (hv x (by simp)) _), List.drop_left, ih g _ _ (fun y hy => hv y (by simp [hy])) (by simp; omega) (by omega)]
    simp
/-- What is read as a message is written again as it is; an error has an offset within the bytes. -/
theorem flds_inv (f : Nat) : ∀ (acc : List Fld) (i : Nat) (L : List Int), (∀ x, x ∈ L → 0 ≤ x ∧ x ≤ 255) → L.length ≤ 1000000 → L.length < f →
    (∃ e j, fldsG f acc i L = ([], ((j : Nat) : Int), e) ∧ e ≠ 0 ∧ i ≤ j ∧ j < i + L.length) ∨ ∃ G, fldsG f acc i L = (acc ++ G, 0, 0) ∧ G.flatMap encF = L ∧ (∀ x, x ∈ G → Vf x) := by
  induction f with
  | zero => intro acc i L _ _ h; omega
  | succ f ih =>
    intro acc i L hl hL hf
    by_cases h0 : L.length = 0
    · exact .inr ⟨[], by rw [flds_end h0, List.append_nil], (List.eq_nil_of_length_eq_zero h0).symm, by simp⟩
    by_cases h1 : 1024 ≤ acc.length
    · exact .inl ⟨3, i, flds_limit h0 h1, by omega, by omega, by omega⟩
    rcases one_inv L hl hL with ⟨e, ho, he⟩ | ⟨x, hx, ho, hle, hL2⟩
    · exact .inl ⟨e, i, flds_err h0 (by omega) ho he, he, by omega, by omega⟩
    · have hp := encF_pos x
      rw [flds_next h0 (by omega) ho]
      have hd : (L.drop (encF x).length).length = L.length - (encF x).length := List.length_drop
      rcases ih (acc ++ [x]) (i + (encF x).length) (L.drop (encF x).length) (drop_bytes hl _) (by omega) (by omega) with ⟨e, j, h2, h3, h4, h5⟩ | ⟨G, h2, h3, h4⟩
      · exact .inl ⟨e, j, h2, h3, by omega, by omega⟩
      · refine .inr ⟨x :: G, by rw [h2]; simp, by rw [List.flatMap_cons, h3]; exact hL2.symm, ?_⟩
        intro y hy
        rcases List.mem_cons.1 hy with rfl | hy
        · exact hx
        · exact h4 y hy
end Go.Proofs.Ytglglhcnofbagaa
namespace Go.Proofs.Ytglglhcnofbagaa
set_option maxRecDepth 100000
open Go.RowKit

theorem info25 : (Try.prog.info? 66).map (fun i => (i.zero, i.size, i.bytes)) = some (some (.agg #[.int .i64 0, .int .i64 0, .int .u64 0, .slice none 0 0]), 4, 48) := by kernel_rfl
theorem getD_lt {α : Type} (l : List α) (k : Nat) (d : α) (h : k < l.length) : l.getD k d = l[k] := by rw [List.getD_eq_getElem?_getD, List.getElem?_eq_getElem h]; rfl

theorem own_at {w : World} {B e s n c : Nat} {a : Option Addr} {xs : List Value} (h : w.ownsRow B e s (.slice a n c) n xs) (hn : 0 < n) : ∃ g, a = some ⟨g, 0, none⟩ ∧ B ≤ g ∧ g < w.heap.size := by
  rcases h.2 with ⟨_, h0⟩ | ⟨g, cap, cur, e, hb, hg, _⟩
  · omega
  · simp only [Value.slice.injEq] at e
    exact ⟨g, e.1, hb, (Array.getElem?_eq_some_iff.1 hg).1⟩
theorem own_base {w : World} {B B' e size n : Nat} {v : Value} {xs : List Value} (h : w.ownsRow B' e size v n xs) (hB : B ≤ B') : w.ownsRow B e size v n xs :=
  ⟨h.1, h.2.imp id (fun ⟨g, cap, cur, a, b, c⟩ => ⟨g, cap, cur, a, Nat.le_trans hB b, c⟩)⟩
theorem own_below {w w' : World} {B e size n : Nat} {v : Value} {xs : List Value} (h : w.ownsRow B e size v n xs) (hb : Below w.heap.size w w') : w'.ownsRow B e size v n xs := by
  refine ⟨h.1, ?_⟩
  rcases h.2 with hn | ⟨g, cap, cur, rfl, hg, hgg, rest⟩
  · exact .inl hn
  · exact .inr ⟨g, cap, cur, rfl, hg, by rw [hb.block g (Array.getElem?_eq_some_iff.1 hgg).1]; exact hgg, rest⟩
/-- Rows of different element types lie in different blocks. -/
theorem own_ne {w : World} {B B' e e' size size' n n' : Nat} {v v' : Value} {xs xs' : List Value} (h : w.ownsRow B e size v n xs) (h' : w.ownsRow B' e' size' v' n' xs') (hne : e ≠ e') : v.ownBlock = none ∨ v.ownBlock ≠ v'.ownBlock := by
  rcases h.2 with ⟨rfl, _⟩ | ⟨g, cap, cur, rfl, _, hgg, _⟩
  · exact .inl rfl
  · rcases h'.2 with ⟨rfl, _⟩ | ⟨g', cap', cur', rfl, _, hgg', _⟩
    · exact .inr (by simp [Value.ownBlock])
    · refine .inr fun he => ?_
      simp only [Value.ownBlock, Option.some.injEq] at he
      subst he
      rw [hgg] at hgg'
      simp only [Option.some.injEq, Obj.cells.injEq] at hgg'
      exact hne hgg'.2.1

theorem sl_take {w : World} {a : Option Addr} {c : Nat} {M : List Int} (h : Sl w a c M) (n : Nat) : Sl w a c (M.take n) := by
  rcases h with ⟨rfl, rfl, rfl⟩ | ⟨x, rfl, hx⟩
  · exact .inl ⟨rfl, rfl, by simp⟩
  · refine .inr ⟨x, rfl, fun k hk => ?_⟩
    rw [List.length_take] at hk
    obtain ⟨b, off, rfl, hc⟩ := hx k (by omega)
    refine ⟨b, off, rfl, ?_⟩
    rw [hc, List.getD_eq_getElem?_getD, List.getD_eq_getElem?_getD, List.getElem?_take, if_pos (by omega)]
theorem slice_to (kh : IntKind) (a : Option Addr) (n c k : Nat) (w : World) (h : k ≤ c) : (Instr.slice 29 (.slice a n c) none (some (.int kh (k : Int))) none).run Try.prog w = .ok (.slice a k c) w := by
  have hs : (sizeOf (Try.prog.elem 29)).run Try.prog w = .ok 1 w := by kernel_rfl
  have e := run_slice_h (P := Try.prog) w 29 a n c (by kernel_rfl) kh (k : Int) (by omega) (by omega)
  rw [e, hs]
  cases a <;> simp [sliced, Result.andThen, Addr.add]
/-- Where the rest of a slice begins. -/
def fromA (a : Option Addr) (c k : Nat) : Option Addr := if c = k then a else a.map (·.add k)
theorem slice_from (kl : IntKind) (a : Option Addr) (n c k : Nat) (w : World) (h : k ≤ n) : (Instr.slice 29 (.slice a n c) (some (.int kl (k : Int))) none none).run Try.prog w = .ok (.slice (fromA a c k) (n - k) (c - k)) w := by
  have hs : (sizeOf (Try.prog.elem 29)).run Try.prog w = .ok 1 w := by kernel_rfl
  have e := run_slice_l (P := Try.prog) w 29 a n c (by kernel_rfl) kl (k : Int) (by omega) (by omega)
  rw [e, hs]
  by_cases hk : c = k <;> cases a <;> simp [sliced, Result.andThen, fromA, hk]
/-- A part of a slice. -/
theorem slice_part (kl kh : IntKind) (a : Option Addr) (n c k m : Nat) (w : World) (h : k ≤ m) (h1 : m ≤ c) : (Instr.slice 29 (.slice a n c) (some (.int kl (k : Int))) (some (.int kh (m : Int))) none).run Try.prog w = .ok (.slice (fromA a c k) (m - k) (c - k)) w := by
  have hs : (sizeOf (Try.prog.elem 29)).run Try.prog w = .ok 1 w := by kernel_rfl
  have e := run_slice_lh (P := Try.prog) w 29 a n c (by kernel_rfl) kl kh (k : Int) (m : Int) (by omega) (by omega) (by omega)
  rw [e, hs]
  by_cases hk : c = k <;> cases a <;> simp [sliced, Result.andThen, fromA, hk]
theorem sl_from {w : World} {a : Option Addr} {c : Nat} {L : List Int} (h : Sl w a c L) (k : Nat) (hc : L.length ≤ c) : Sl w (fromA a c k) (c - k) (L.drop k) := by
  rcases h with ⟨rfl, rfl, rfl⟩ | ⟨x, rfl, hx⟩
  · exact .inl ⟨by simp [fromA], by omega, by simp⟩
  · by_cases hk : c = k
    · refine .inr ⟨x, by simp [fromA, hk], fun j hj => ?_⟩
      rw [List.length_drop] at hj
      omega
    · refine .inr ⟨x.add k, by simp [fromA, hk], fun j hj => ?_⟩
      rw [List.length_drop] at hj
      obtain ⟨b, off, rfl, h1⟩ := hx (k + j) (by omega)
      refine ⟨b, off + k, by rw [Go.WideShapes.add_plain], ?_⟩
      rw [Nat.add_assoc, h1, List.getD_eq_getElem?_getD, List.getD_eq_getElem?_getD, List.getElem?_drop]

/-- A row that is nil or was made by the call, as bytes. -/
def Own (w : World) (B : Nat) (v : Value) (L : List Int) : Prop := w.ownsRow B 5 1 v L.length (L.map (Value.int .u8))
theorem Own.sl {w : World} {B : Nat} {v : Value} {L : List Int} (h : Own w B v L) : ∃ a c, v = .slice a L.length c ∧ Sl w a c L ∧ L.length ≤ c := by
  obtain ⟨a, c, h1, h2, _, h3⟩ := sl_own h
  exact ⟨a, c, h1, h2, h3⟩
theorem Own.below {w w' : World} {B : Nat} {v : Value} {L : List Int} (h : Own w B v L) (hb : Below w.heap.size w w') : Own w' B v L := own_below h hb
theorem Own.base {w : World} {B B' : Nat} {v : Value} {L : List Int} (h : Own w B' v L) (hB : B ≤ B') : Own w B v L := World.ownsRow.mono h hB
theorem Own.nil (w : World) (B : Nat) : Own w B (.slice none 0 0) [] := World.ownsRow_nil _ _ _ _
end Go.Proofs.Ytglglhcnofbagaa
