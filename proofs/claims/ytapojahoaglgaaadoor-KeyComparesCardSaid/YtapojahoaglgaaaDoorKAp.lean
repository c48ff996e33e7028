/-
  Texts of keys, read: as lists. No program, no memory.
-/
import Derived.Test.YtapojahoaglgaaaDoorKAr
namespace Go.Proofs.YtapojahoaglgaaaDoor

/-- The value of a hexadecimal digit; -1 if it is none. -/
def digL (x : Int) : Int := if 48 ≤ x ∧ x ≤ 57 then x - 48 else if 97 ≤ x ∧ x ≤ 102 then x - 87 else -1
theorem digL_range (x : Int) : -1 ≤ digL x ∧ digL x ≤ 15 := by unfold digL; split <;> (try split) <;> omega
theorem digL_hexd (n : Int) (h0 : 0 ≤ n) (h1 : n < 16) : digL (hexd n) = n := by
  unfold digL hexd
  split <;> split <;> (try split) <;> omega
/-- The bytes that hexadecimal digits say; none if a digit is none, or one is left. -/
def unhexL : List Int → Option (List Int)
  | [] => some []
  | [_] => none
  | x :: y :: r => if digL x < 0 ∨ digL y < 0 then none else (unhexL r).map (fun B => (16 * digL x + digL y) :: B)
theorem unhexL_hex (L : List Int) (h : ∀ x, x ∈ L → 0 ≤ x ∧ x ≤ 255) : unhexL (hexL L) = some L := by
  induction L with
  | nil => rfl
  | cons x L ih =>
    have e : hexL (x :: L) = hexd (x / 16) :: hexd (x % 16) :: hexL L := rfl
    have hx := h x (by simp)
    have d1 := digL_hexd (x / 16) (by omega) (by omega)
    have d2 := digL_hexd (x % 16) (by omega) (by omega)
    rw [e, unhexL, d1, d2, if_neg (by omega), ih (fun y hy => h y (by simp [hy]))]
    simp
    omega
theorem unhexL_at (L : List Int) (i : Nat) (h : 2 * i + 1 < L.length) : unhexL (L.drop (2 * i)) = if digL (L.getD (2 * i) 0) < 0 ∨ digL (L.getD (2 * i + 1) 0) < 0 then none else (unhexL (L.drop (2 * (i + 1)))).map (fun B => (16 * digL (L.getD (2 * i) 0) + digL (L.getD (2 * i + 1) 0)) :: B) := by
  have g1 : L.getD (2 * i) 0 = L[2 * i] := by simp [List.getD, List.getElem?_eq_getElem (show 2 * i < L.length by omega)]
  have g2 : L.getD (2 * i + 1) 0 = L[2 * i + 1] := by simp [List.getD, List.getElem?_eq_getElem h]
  rw [List.drop_eq_getElem_cons (show 2 * i < L.length by omega), List.drop_eq_getElem_cons h, g1, g2]
  rfl
theorem unhexL_odd (L : List Int) (i : Nat) (h : L.length = 2 * i + 1) : unhexL (L.drop (2 * i)) = none := by
  have e : L.drop (2 * i) = [L[2 * i]'(by omega)] := by
    rw [List.drop_eq_getElem_cons (show 2 * i < L.length by omega), List.drop_eq_nil_of_le (by omega)]
  rw [e]
  rfl
theorem unhexL_end (L : List Int) (i : Nat) (h : L.length = 2 * i) : unhexL (L.drop (2 * i)) = some [] := by
  rw [List.drop_eq_nil_of_le (by omega)]
  rfl
theorem unhexL_len (L : List Int) : ∀ B, unhexL L = some B → L.length = 2 * B.length := by
  induction L using unhexL.induct with
  | case1 => intro B h; obtain rfl := Option.some.inj h; rfl
  | case2 x => intro B h; simp [unhexL] at h
  | case3 x y r h => intro B hB; rw [unhexL, if_pos h] at hB; cases hB
  | case4 x y r h ih =>
    intro B hB
    rw [unhexL, if_neg h] at hB
    obtain ⟨C, hC, rfl⟩ := Option.map_eq_some_iff.1 hB
    have := ih C hC
    simp
    omega
theorem unhexL_byte (L : List Int) : ∀ B, unhexL L = some B → ∀ x, x ∈ B → 0 ≤ x ∧ x ≤ 255 := by
  induction L using unhexL.induct with
  | case1 => intro B h; obtain rfl := Option.some.inj h; intro x hx; cases hx
  | case2 x => intro B h; simp [unhexL] at h
  | case3 x y r h => intro B hB; rw [unhexL, if_pos h] at hB; cases hB
  | case4 x y r h ih =>
    intro B hB
    rw [unhexL, if_neg h] at hB
    obtain ⟨C, hC, rfl⟩ := Option.map_eq_some_iff.1 hB
    intro z hz
    rcases List.mem_cons.1 hz with rfl | hz
    · have := digL_range x
      have := digL_range y
      omega
    · exact ih C hC z hz
/-- The key with a text, and the error. -/
def parK (L : List Int) : List Int := if L.length = 64 then (unhexL L).getD (List.replicate 32 0) else List.replicate 32 0
def parE (L : List Int) : Int := if L.length = 64 then (match unhexL L with | some _ => 0 | none => 2) else 2
theorem parK_len (L : List Int) : (parK L).length = 32 := by
  unfold parK
  split
  · rename_i h
    cases hu : unhexL L with
    | none => simp
    | some B =>
      have := unhexL_len L B hu
      simp
      omega
  · simp
theorem par_some (L B : List Int) (h : unhexL L = some B) (hl : L.length = 64) : parK L = B ∧ parE L = 0 := by
  unfold parK parE
  rw [if_pos hl, if_pos hl, h]
  exact ⟨rfl, rfl⟩
theorem par_none (L : List Int) (h : unhexL L = none) : parK L = List.replicate 32 0 ∧ parE L = 2 := by
  unfold parK parE
  rw [h]
  constructor <;> split <;> rfl
theorem par_len (L : List Int) (h : ¬ L.length = 64) : parK L = List.replicate 32 0 ∧ parE L = 2 := by
  unfold parK parE
  rw [if_neg h, if_neg h]
  exact ⟨rfl, rfl⟩
theorem par_hex (L : List Int) (h : ∀ x, x ∈ L → 0 ≤ x ∧ x ≤ 255) (hl : L.length = 32) : parK (hexL L) = L ∧ parE (hexL L) = 0 :=
  par_some _ _ (unhexL_hex L h) (by rw [hexL_len]; omega)
/-- What is read so far. -/
theorem unhexL_next (L B : List Int) (i : Nat) (h : 2 * i + 1 < L.length) (hB : unhexL L = (unhexL (L.drop (2 * i))).map (B ++ ·)) (h1 : 0 ≤ digL (L.getD (2 * i) 0)) (h2 : 0 ≤ digL (L.getD (2 * i + 1) 0)) :
    unhexL L = (unhexL (L.drop (2 * (i + 1)))).map ((B ++ [16 * digL (L.getD (2 * i) 0) + digL (L.getD (2 * i + 1) 0)]) ++ ·) := by
  rw [hB, unhexL_at L i h, if_neg (by omega), Option.map_map]
  congr 1
  funext C
  simp
theorem unhexL_bad (L B : List Int) (i : Nat) (h : 2 * i + 1 < L.length) (hB : unhexL L = (unhexL (L.drop (2 * i))).map (B ++ ·)) (h1 : digL (L.getD (2 * i) 0) < 0 ∨ digL (L.getD (2 * i + 1) 0) < 0) : unhexL L = none := by
  rw [hB, unhexL_at L i h, if_pos h1]
  rfl
end Go.Proofs.YtapojahoaglgaaaDoor
