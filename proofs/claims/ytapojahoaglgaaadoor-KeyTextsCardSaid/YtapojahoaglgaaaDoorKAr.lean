/-
  Keys as lists: their order, their texts. No program, no memory.
-/
import Derived.Laws.BitsAllLaws
namespace Go.Proofs.YtapojahoaglgaaaDoor

/-- The order of two keys: byte by byte. -/
def cmpL : List Int → List Int → Int
  | a :: A, b :: B => if a < b then -1 else if b < a then 1 else cmpL A B
  | _, _ => 0
theorem cmpL_self (A : List Int) : cmpL A A = 0 := by
  induction A with
  | nil => rfl
  | cons a A ih => simp [cmpL, ih]
theorem cmpL_zero {A B : List Int} (hl : A.length = B.length) : cmpL A B = 0 ↔ A = B := by
  induction A generalizing B with
  | nil => cases B with
    | nil => simp [cmpL]
    | cons b B => simp at hl
  | cons a A ih => cases B with
    | nil => simp at hl
    | cons b B =>
      simp only [List.length_cons, Nat.add_right_cancel_iff] at hl
      simp only [cmpL]
      split
      · simp; intro h; omega
      · split
        · simp; intro h; omega
        · have : a = b := by omega
          simp [ih hl, this]
theorem cmpL_anti (A B : List Int) (hl : A.length = B.length) : cmpL B A = - cmpL A B := by
  induction A generalizing B with
  | nil => cases B with
    | nil => rfl
    | cons b B => simp at hl
  | cons a A ih => cases B with
    | nil => simp at hl
    | cons b B =>
      simp only [List.length_cons, Nat.add_right_cancel_iff] at hl
      simp only [cmpL]
      by_cases h1 : a < b
      · rw [if_neg (by omega), if_pos h1, if_pos h1]; rfl
      · by_cases h2 : b < a
        · rw [if_pos h2, if_neg h1, if_pos h2]
        · rw [if_neg h2, if_neg h1, if_neg h1, if_neg h2, ih B hl]
theorem cmpL_range (A B : List Int) : cmpL A B = -1 ∨ cmpL A B = 0 ∨ cmpL A B = 1 := by
  induction A generalizing B with
  | nil => cases B <;> simp [cmpL]
  | cons a A ih => cases B with
    | nil => simp [cmpL]
    | cons b B =>
      simp only [cmpL]
      split
      · exact .inl rfl
      · split
        · exact .inr (.inr rfl)
        · exact ih B
theorem cmpL_trans (A B C : List Int) (h1 : A.length = B.length) (h2 : B.length = C.length) (hab : cmpL A B < 0) (hbc : cmpL B C < 0) : cmpL A C < 0 := by
  induction A generalizing B C with
  | nil => cases B <;> simp [cmpL] at hab
  | cons a A ih => cases B with
    | nil => simp at h1
    | cons b B => cases C with
      | nil => simp at h2
      | cons c C =>
        simp only [List.length_cons, Nat.add_right_cancel_iff] at h1 h2
        simp only [cmpL] at hab hbc ⊢
        by_cases x1 : a < b
        · by_cases x2 : b < c
          · rw [if_pos (by omega)]; omega
          · rw [if_neg x2] at hbc
            by_cases x3 : c < b
            · rw [if_pos x3] at hbc; omega
            · rw [if_pos (by omega)]; omega
        · rw [if_neg x1] at hab
          by_cases x1' : b < a
          · rw [if_pos x1'] at hab; omega
          · rw [if_neg x1'] at hab
            by_cases x2 : b < c
            · rw [if_pos (by omega)]; omega
            · rw [if_neg x2] at hbc
              by_cases x3 : c < b
              · rw [if_pos x3] at hbc; omega
              · rw [if_neg x3] at hbc
                rw [if_neg (by omega), if_neg (by omega)]
                exact ih B C h1 h2 hab hbc

/-- A hexadecimal digit, and the text of bytes. -/
def hexd (n : Int) : Int := if n < 10 then 48 + n else 87 + n
def hexL (L : List Int) : List Int := L.flatMap fun x => [hexd (x / 16), hexd (x % 16)]
theorem hexL_len (L : List Int) : (hexL L).length = 2 * L.length := by
  induction L with
  | nil => rfl
  | cons x L ih =>
    have : hexL (x :: L) = hexd (x / 16) :: hexd (x % 16) :: hexL L := rfl
    rw [this]; simp [ih]; omega
theorem hexd_lt {a b : Int} (ha : 0 ≤ a) (ha1 : a < 16) (hb : 0 ≤ b) (hb1 : b < 16) : hexd a < hexd b ↔ a < b := by
  unfold hexd
  split <;> split <;> omega
/-- The order of the texts is the order of the keys. -/
theorem cmpL_hex (A B : List Int) (hA : ∀ x, x ∈ A → 0 ≤ x ∧ x ≤ 255) (hB : ∀ x, x ∈ B → 0 ≤ x ∧ x ≤ 255) (hl : A.length = B.length) : cmpL (hexL A) (hexL B) = cmpL A B := by
  induction A generalizing B with
  | nil => cases B with
    | nil => rfl
    | cons b B => simp at hl
  | cons a A ih => cases B with
    | nil => simp at hl
    | cons b B =>
      simp only [List.length_cons, Nat.add_right_cancel_iff] at hl
      have ha := hA a (by simp)
      have hb := hB b (by simp)
      have ih := ih B (fun x hx => hA x (by simp [hx])) (fun x hx => hB x (by simp [hx])) hl
      have ea : hexL (a :: A) = hexd (a / 16) :: hexd (a % 16) :: hexL A := rfl
      have eb : hexL (b :: B) = hexd (b / 16) :: hexd (b % 16) :: hexL B := rfl
      rw [ea, eb]
      have u1 := hexd_lt (show 0 ≤ a / 16 by omega) (by omega) (show 0 ≤ b / 16 by omega) (by omega)
      have u2 := hexd_lt (show 0 ≤ b / 16 by omega) (by omega) (show 0 ≤ a / 16 by omega) (by omega)
      have v1 := hexd_lt (show 0 ≤ a % 16 by omega) (by omega) (show 0 ≤ b % 16 by omega) (by omega)
      have v2 := hexd_lt (show 0 ≤ b % 16 by omega) (by omega) (show 0 ≤ a % 16 by omega) (by omega)
      simp only [cmpL, u1, u2, v1, v2, ih]
      by_cases h1 : a / 16 < b / 16
      · rw [if_pos h1, if_pos (by omega)]
      · rw [if_neg h1]
        by_cases h2 : b / 16 < a / 16
        · rw [if_pos h2, if_neg (by omega), if_pos (by omega)]
        · rw [if_neg h2]
          by_cases h3 : a % 16 < b % 16
          · rw [if_pos h3, if_pos (by omega)]
          · rw [if_neg h3]
            by_cases h4 : b % 16 < a % 16
            · rw [if_pos h4, if_neg (by omega), if_pos (by omega)]
            · rw [if_neg h4, if_neg (by omega), if_neg (by omega)]
end Go.Proofs.YtapojahoaglgaaaDoor
