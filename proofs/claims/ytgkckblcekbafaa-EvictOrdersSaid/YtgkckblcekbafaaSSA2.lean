/-
  The program's words of a block, made byte by byte: as lists. They are the reference's.
-/
import Derived.Test.YtgkckblcekbafaaSS3
namespace Go.Proofs.Ytgkckblcekbafaa
set_option maxRecDepth 100000

theorem oo_join (a b : Int) (i : Nat) (h0 : 0 ≤ a) (h1 : 0 ≤ b) (h2 : b < 2 ^ i) (h3 : a * 2 ^ i + b < 4294967296) : oo (a * 2 ^ i) b = a * 2 ^ i + b := by
  obtain ⟨n, rfl⟩ := Int.eq_ofNat_of_zero_le h0
  obtain ⟨m, rfl⟩ := Int.eq_ofNat_of_zero_le h1
  have h2' : m < 2 ^ i := by exact_mod_cast h2
  have e : ((n : Int) * 2 ^ i) = ((n * 2 ^ i : Nat) : Int) := by push_cast; rfl
  rw [e] at h3 ⊢
  have h3' : n * 2 ^ i + m < 4294967296 := by omega
  unfold oo
  rw [u32_or_nat _ _ (by omega) (by omega), Nat.mul_comm n, ← Nat.two_pow_add_eq_or_of_lt h2']
  push_cast
  rfl

theorem word4_sum (a b c d : Int) (ha : W8 a) (hb : W8 b) (hc : W8 c) (hd : W8 d) : word4 a b c d = a * 16777216 + b * 65536 + c * 256 + d := by
  obtain ⟨a0, a1⟩ := ha; obtain ⟨b0, b1⟩ := hb; obtain ⟨c0, c1⟩ := hc; obtain ⟨d0, d1⟩ := hd
  unfold word4
  rw [Int.emod_eq_of_lt (show 0 ≤ a * 16777216 by omega) (by omega), Int.emod_eq_of_lt (show 0 ≤ b * 65536 by omega) (by omega), Int.emod_eq_of_lt (show 0 ≤ c * 256 by omega) (by omega)]
  have e1 : oo (a * 16777216) (b * 65536) = a * 16777216 + b * 65536 := oo_join a (b * 65536) 24 a0 (by omega) (by omega) (by omega)
  have e2 : oo (a * 16777216 + b * 65536) (c * 256) = a * 16777216 + b * 65536 + c * 256 := by
    have := oo_join (a * 256 + b) (c * 256) 16 (by omega) (by omega) (by omega) (by omega)
    have q : (a * 256 + b) * 2 ^ 16 = a * 16777216 + b * 65536 := by omega
    rw [q] at this
    exact this
  have e3 : oo (a * 16777216 + b * 65536 + c * 256) d = a * 16777216 + b * 65536 + c * 256 + d := by
    have := oo_join (a * 65536 + b * 256 + c) d 8 (by omega) (by omega) (by omega) (by omega)
    have q : (a * 65536 + b * 256 + c) * 2 ^ 8 = a * 16777216 + b * 65536 + c * 256 := by omega
    rw [q] at this
    exact this
  rw [e1, e2, e3]

/-- One byte comes to a word. -/
def push (a c : Int) : Int := oo (a * 256 % 4294967296) c
theorem push_sum (a c : Int) (ha : 0 ≤ a) (h : a < 16777216) (hc : W8 c) : push a c = a * 256 + c := by
  obtain ⟨c0, c1⟩ := hc
  unfold push
  rw [Int.emod_eq_of_lt (by omega) (by omega)]
  exact oo_join a c 8 ha c0 (by omega) (by omega)
theorem push4 (a b c d : Int) (ha : W8 a) (hb : W8 b) (hc : W8 c) (hd : W8 d) : push (push (push (push 0 a) b) c) d = word4 a b c d := by
  rw [word4_sum a b c d ha hb hc hd]
  have wa := ha; have wb := hb; have wc := hc
  obtain ⟨a0, a1⟩ := ha; obtain ⟨b0, b1⟩ := hb; obtain ⟨c0, c1⟩ := hc
  rw [push_sum 0 a (by omega) (by omega) wa, push_sum _ b (by omega) (by omega) wb, push_sum _ c (by omega) (by omega) wc, push_sum _ d (by omega) (by omega) hd]
  omega

/-- The words when i bytes have come. -/
def fw (B : List Int) : Nat → List Int
  | 0 => List.replicate 64 0
  | i + 1 => (fw B i).set (i / 4) (push ((fw B i).getD (i / 4) 0) (B.getD i 0))
theorem fw_len (B : List Int) (i : Nat) : (fw B i).length = 64 := by
  induction i with
  | zero => rfl
  | succ i ih => simp [fw, ih]
theorem mid_get (P Z : List Int) (x : Int) (t : Nat) (h : P.length = t) : (P ++ x :: Z).getD t 0 = x := by
  subst h
  simp
theorem mid_set (P Z : List Int) (x y : Int) (t : Nat) (h : P.length = t) : (P ++ x :: Z).set t y = P ++ y :: Z := by
  subst h
  simp
theorem fw4 (B : List Int) (hB : B.length = 64) (h8 : ∀ x, x ∈ B → W8 x) : ∀ t, t ≤ 16 → fw B (4 * t) = words B t ++ List.replicate (64 - t) 0 := by
  intro t
  induction t with
  | zero => intro _; rfl
  | succ t ih =>
    intro ht
    have ih := ih (by omega)
    have hr : List.replicate (64 - t) (0 : Int) = 0 :: List.replicate (64 - (t + 1)) 0 := by rw [show 64 - t = (64 - (t + 1)) + 1 by omega]; rfl
    rw [hr] at ih
    have hl := words_len B t
    rw [show 4 * (t + 1) = 4 * t + 1 + 1 + 1 + 1 by omega]
    simp only [fw]
    rw [show (4 * t + 1 + 1 + 1) / 4 = t by omega, show (4 * t + 1 + 1) / 4 = t by omega, show (4 * t + 1) / 4 = t by omega, show 4 * t / 4 = t by omega, ih]
    rw [mid_get _ _ _ t hl, mid_set _ _ _ _ t hl, mid_get _ _ _ t hl, mid_set _ _ _ _ t hl, mid_get _ _ _ t hl, mid_set _ _ _ _ t hl, mid_get _ _ _ t hl, mid_set _ _ _ _ t hl]
    rw [push4 _ _ _ _ (W8.getD h8 _ (by omega)) (W8.getD h8 _ (by omega)) (W8.getD h8 _ (by omega)) (W8.getD h8 _ (by omega))]
    simp [words, word]
end Go.Proofs.Ytgkckblcekbafaa
