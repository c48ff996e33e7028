/-
 UTF-8: the model's decode is the reference's Rune.
-/
import Derived.Test.YtplfineaomneiaaGreatDoorNU
import GoSem.Core.Utf8
namespace Go.Proofs.YtplfineaomneiaaGreatDoor
set_option linter.unusedSimpArgs false
set_option linter.unusedVariables false

/-- The reference's Rune, out of the bytes and of whether they follow. -/
def runN (c0 c1 : Int) (f1 f2 f3 : Bool) : Nat :=
 if c0 < 128 then 1
 else if (194 ≤ c0 ∧ c0 < 224) ∧ f1 = true then 2
 else if ((224 ≤ c0 ∧ c0 < 240) ∧ f1 = true) ∧ f2 = true then (if (c0 = 224 ∧ c1 < 160) ∨ (c0 = 237 ∧ 160 ≤ c1) then 0 else 3)
 else if (((240 ≤ c0 ∧ c0 < 245) ∧ f1 = true) ∧ f2 = true) ∧ f3 = true then (if (c0 = 240 ∧ c1 < 144) ∨ (c0 = 244 ∧ 144 ≤ c1) then 0 else 4)
 else 0
def valN (k : Nat) (c0 c1 c2 c3 : Int) : Int :=
 if k = 1 then c0
 else if k = 2 then (c0 - 192) * 64 + (c1 - 128)
 else if k = 3 then (c0 - 224) * 4096 + (c1 - 128) * 64 + (c2 - 128)
 else if k = 4 then (c0 - 240) * 262144 + (c1 - 128) * 4096 + (c2 - 128) * 64 + (c3 - 128)
 else 65533
def cnt (s : ByteArray) (i k : Nat) : Bool := i + k < s.size && (s.get! (i + k)).toNat / 64 == 2
theorem valid_nat (n : Nat) : Utf8.valid (n : Int) = decide (n < 55296 ∨ (57344 ≤ n ∧ n ≤ 1114111)) := by
 unfold Utf8.valid
 rw [Bool.eq_iff_iff]
 simp only [Bool.or_eq_true, Bool.and_eq_true, decide_eq_true_eq]
 omega
set_option maxRecDepth 100000 in
theorem dec_pure (s : ByteArray) (i b0 b1 b2 b3 : Nat) (f1 f2 f3 : Bool) (e0 : (s.get! (i + 0)).toNat = b0) (e1 : (s.get! (i + 1)).toNat = b1) (e2 : (s.get! (i + 2)).toNat = b2) (e3 : (s.get! (i + 3)).toNat = b3) (c1 : (decide (i + 1 < s.size) && b1 / 64 == 2) = f1) (c2 : (decide (i + 2 < s.size) && b2 / 64 == 2) = f2) (c3 : (decide (i + 3 < s.size) && b3 / 64 == 2) = f3) (q0 : b0 < 256) (h1 : f1 = true → 128 ≤ b1 ∧ b1 < 192) (h2 : f2 = true → 128 ≤ b2 ∧ b2 < 192) (h3 : f3 = true → 128 ≤ b3 ∧ b3 < 192) :
  (Utf8.decode s i).2 = (if runN b0 b1 f1 f2 f3 = 0 then 1 else runN b0 b1 f1 f2 f3) ∧ ((Utf8.decode s i).1 : Int) = (if runN b0 b1 f1 f2 f3 = 0 then 65533 else valN (runN b0 b1 f1 f2 f3) b0 b1 b2 b3) := by
 have fin : ∀ (k c : Nat), runN b0 b1 f1 f2 f3 = k → Utf8.decode s i = (c, if k = 0 then 1 else k) → (c : Int) = (if k = 0 then 65533 else valN k b0 b1 b2 b3) →
   (Utf8.decode s i).2 = (if runN b0 b1 f1 f2 f3 = 0 then 1 else runN b0 b1 f1 f2 f3) ∧ ((Utf8.decode s i).1 : Int) = (if runN b0 b1 f1 f2 f3 = 0 then 65533 else valN (runN b0 b1 f1 f2 f3) b0 b1 b2 b3) := fun k c hr hd hc => by
  rw [hr, hd]
  exact ⟨rfl, hc⟩
 by_cases k1 : b0 < 128
 ·refine fin 1 b0 ?_ ?_ ?_
  ·unfold runN; rw [if_pos (by omega)]
  ·unfold Utf8.decode; simp only [e0, e1, e2, e3, c1, c2, c3]; rw [if_pos k1]; rfl
  ·simp [valN]
 have k1' : ¬ (b0 : Int) < 128 := by omega
 by_cases k2 : b0 / 32 = 6
 ·have z3 : ¬ (((224 ≤ (b0 : Int) ∧ (b0 : Int) < 240) ∧ f1 = true) ∧ f2 = true) := by rintro ⟨⟨⟨_, _⟩, _⟩, _⟩; omega
  have z4 : ¬ ((((240 ≤ (b0 : Int) ∧ (b0 : Int) < 245) ∧ f1 = true) ∧ f2 = true) ∧ f3 = true) := by rintro ⟨⟨⟨⟨_, _⟩, _⟩, _⟩, _⟩; omega
  by_cases y1 : f1 = true
  ·have hb1 := h1 y1
   by_cases k3 : 194 ≤ b0
   ·refine fin 2 (b0 % 32 * 64 + b1 % 64) ?_ ?_ ?_
    ·unfold runN; rw [if_neg k1', if_pos ⟨⟨by omega, by omega⟩, y1⟩]
    ·unfold Utf8.decode; simp only [e0, e1, e2, e3, c1, c2, c3]; rw [if_neg k1, if_pos (by simp [k2, y1]), if_pos (by omega)]; rfl
    ·simp [valN]; omega
   ·refine fin 0 65533 ?_ ?_ rfl
    ·unfold runN; rw [if_neg k1', if_neg (by rintro ⟨⟨_, _⟩, _⟩; omega), if_neg z3, if_neg z4]
    ·unfold Utf8.decode; simp only [e0, e1, e2, e3, c1, c2, c3]; rw [if_neg k1, if_pos (by simp [k2, y1]), if_neg (by omega)]; rfl
  ·refine fin 0 65533 ?_ ?_ rfl
   ·unfold runN; rw [if_neg k1', if_neg (fun h => y1 h.2), if_neg z3, if_neg z4]
   ·unfold Utf8.decode; simp only [e0, e1, e2, e3, c1, c2, c3]; rw [if_neg k1, if_neg (by simp [y1]), if_neg (by simp [y1]), if_neg (by simp [y1])]; rfl
 have z2 : ¬ ((194 ≤ (b0 : Int) ∧ (b0 : Int) < 224) ∧ f1 = true) := by rintro ⟨⟨_, _⟩, _⟩; omega
 have d2 : ¬ ((b0 / 32 == 6 && f1) = true) := by simp [k2]
 by_cases k3 : b0 / 16 = 14
 ·have z4 : ¬ ((((240 ≤ (b0 : Int) ∧ (b0 : Int) < 245) ∧ f1 = true) ∧ f2 = true) ∧ f3 = true) := by rintro ⟨⟨⟨⟨_, _⟩, _⟩, _⟩, _⟩; omega
  have d4 : ¬ ((b0 / 8 == 30 && f1 && f2 && f3) = true) := by
   have : b0 / 8 ≠ 30 := by omega
   simp [this]
  by_cases y1 : f1 = true ∧ f2 = true
  ·have hb1 := h1 y1.1
   have hb2 := h2 y1.2
   have d3 : (b0 / 16 == 14 && f1 && f2) = true := by simp [k3, y1.1, y1.2]
   have z3 : ((224 ≤ (b0 : Int) ∧ (b0 : Int) < 240) ∧ f1 = true) ∧ f2 = true := ⟨⟨⟨by omega, by omega⟩, y1.1⟩, y1.2⟩
   by_cases k4 : (b0 = 224 ∧ b1 < 160) ∨ (b0 = 237 ∧ 160 ≤ b1)
   ·refine fin 0 65533 ?_ ?_ rfl
    ·unfold runN; rw [if_neg k1', if_neg z2, if_pos z3, if_pos (by omega)]
    ·unfold Utf8.decode; simp only [e0, e1, e2, e3, c1, c2, c3]; rw [if_neg k1, if_neg d2, if_pos d3, valid_nat, if_neg (by simp only [Bool.and_eq_true, decide_eq_true_eq]; omega)]; rfl
   ·refine fin 3 (b0 % 16 * 4096 + b1 % 64 * 64 + b2 % 64) ?_ ?_ ?_
    ·unfold runN; rw [if_neg k1', if_neg z2, if_pos z3, if_neg (by omega)]
    ·unfold Utf8.decode; simp only [e0, e1, e2, e3, c1, c2, c3]; rw [if_neg k1, if_neg d2, if_pos d3, valid_nat, if_pos (by simp only [Bool.and_eq_true, decide_eq_true_eq]; omega)]; rfl
    ·simp [valN]; omega
  ·have z3 : ¬ (((224 ≤ (b0 : Int) ∧ (b0 : Int) < 240) ∧ f1 = true) ∧ f2 = true) := fun h => y1 ⟨h.1.2, h.2⟩
   have d3 : ¬ ((b0 / 16 == 14 && f1 && f2) = true) := by
    simp only [Bool.and_eq_true]
    exact fun h => y1 ⟨h.1.2, h.2⟩
   refine fin 0 65533 ?_ ?_ rfl
   ·unfold runN; rw [if_neg k1', if_neg z2, if_neg z3, if_neg z4]
   ·unfold Utf8.decode; simp only [e0, e1, e2, e3, c1, c2, c3]; rw [if_neg k1, if_neg d2, if_neg d3, if_neg d4]; rfl
 have z3 : ¬ (((224 ≤ (b0 : Int) ∧ (b0 : Int) < 240) ∧ f1 = true) ∧ f2 = true) := by rintro ⟨⟨⟨_, _⟩, _⟩, _⟩; omega
 have d3 : ¬ ((b0 / 16 == 14 && f1 && f2) = true) := by simp [k3]
 by_cases k5 : b0 / 8 = 30
 ·by_cases y1 : (f1 = true ∧ f2 = true) ∧ f3 = true
  ·have hb1 := h1 y1.1.1
   have hb2 := h2 y1.1.2
   have hb3 := h3 y1.2
   have d4 : (b0 / 8 == 30 && f1 && f2 && f3) = true := by simp [k5, y1.1.1, y1.1.2, y1.2]
   by_cases k6 : b0 < 245
   ·have z4 : (((240 ≤ (b0 : Int) ∧ (b0 : Int) < 245) ∧ f1 = true) ∧ f2 = true) ∧ f3 = true := ⟨⟨⟨⟨by omega, by omega⟩, y1.1.1⟩, y1.1.2⟩, y1.2⟩
    by_cases k4 : (b0 = 240 ∧ b1 < 144) ∨ (b0 = 244 ∧ 144 ≤ b1)
    ·refine fin 0 65533 ?_ ?_ rfl
     ·unfold runN; rw [if_neg k1', if_neg z2, if_neg z3, if_pos z4, if_pos (by omega)]
     ·unfold Utf8.decode; simp only [e0, e1, e2, e3, c1, c2, c3]; rw [if_neg k1, if_neg d2, if_neg d3, if_pos d4, valid_nat, if_neg (by simp only [Bool.and_eq_true, decide_eq_true_eq]; omega)]; rfl
    ·refine fin 4 (b0 % 8 * 262144 + b1 % 64 * 4096 + b2 % 64 * 64 + b3 % 64) ?_ ?_ ?_
     ·unfold runN; rw [if_neg k1', if_neg z2, if_neg z3, if_pos z4, if_neg (by omega)]
     ·unfold Utf8.decode; simp only [e0, e1, e2, e3, c1, c2, c3]; rw [if_neg k1, if_neg d2, if_neg d3, if_pos d4, valid_nat, if_pos (by simp only [Bool.and_eq_true, decide_eq_true_eq]; omega)]; rfl
     ·simp [valN]; omega
   ·have z4 : ¬ ((((240 ≤ (b0 : Int) ∧ (b0 : Int) < 245) ∧ f1 = true) ∧ f2 = true) ∧ f3 = true) := by rintro ⟨⟨⟨⟨_, _⟩, _⟩, _⟩, _⟩; omega
    refine fin 0 65533 ?_ ?_ rfl
    ·unfold runN; rw [if_neg k1', if_neg z2, if_neg z3, if_neg z4]
    ·unfold Utf8.decode; simp only [e0, e1, e2, e3, c1, c2, c3]; rw [if_neg k1, if_neg d2, if_neg d3, if_pos d4, valid_nat, if_neg (by simp only [Bool.and_eq_true, decide_eq_true_eq]; omega)]; rfl
  ·have z4 : ¬ ((((240 ≤ (b0 : Int) ∧ (b0 : Int) < 245) ∧ f1 = true) ∧ f2 = true) ∧ f3 = true) := fun h => y1 ⟨⟨h.1.1.2, h.1.2⟩, h.2⟩
   have d4 : ¬ ((b0 / 8 == 30 && f1 && f2 && f3) = true) := by
    simp only [Bool.and_eq_true]
    exact fun h => y1 ⟨⟨h.1.1.2, h.1.2⟩, h.2⟩
   refine fin 0 65533 ?_ ?_ rfl
   ·unfold runN; rw [if_neg k1', if_neg z2, if_neg z3, if_neg z4]
   ·unfold Utf8.decode; simp only [e0, e1, e2, e3, c1, c2, c3]; rw [if_neg k1, if_neg d2, if_neg d3, if_neg d4]; rfl
 have z4 : ¬ ((((240 ≤ (b0 : Int) ∧ (b0 : Int) < 245) ∧ f1 = true) ∧ f2 = true) ∧ f3 = true) := by rintro ⟨⟨⟨⟨_, _⟩, _⟩, _⟩, _⟩; omega
 have d4 : ¬ ((b0 / 8 == 30 && f1 && f2 && f3) = true) := by simp [k5]
 refine fin 0 65533 ?_ ?_ rfl
 ·unfold runN; rw [if_neg k1', if_neg z2, if_neg z3, if_neg z4]
 ·unfold Utf8.decode; simp only [e0, e1, e2, e3, c1, c2, c3]; rw [if_neg k1, if_neg d2, if_neg d3, if_neg d4]; rfl
/-- A byte that follows. -/
def fol (L : List Int) (i : Nat) : Bool := decide (i < L.length) && (decide (128 ≤ L.getD i 0) && decide (L.getD i 0 < 192))
/-- The reference's Rune. -/
def runK (L : List Int) (i : Nat) : Nat := runN (L.getD i 0) (L.getD (i + 1) 0) (fol L (i + 1)) (fol L (i + 2)) (fol L (i + 3))
/-- The rune itself. -/
def runV (L : List Int) (i : Nat) : Int := valN (runK L i) (L.getD i 0) (L.getD (i + 1) 0) (L.getD (i + 2) 0) (L.getD (i + 3) 0)
theorem get_nums (s : ByteArray) (j : Nat) : (nums s).getD j 0 = ((s.get! j).toNat : Int) := by
 by_cases h : j < s.size
 ·rw [nums_at s j h]
  congr 1
  show _ = (s.data[j]!).toNat
  rw [getElem!_pos s.data j h]
  rfl
 ·have hl : (nums s).length ≤ j := by rw [nums_len]; omega
  rw [List.getD_eq_getElem?_getD, List.getElem?_eq_none hl]
  show 0 = ((s.data[j]!).toNat : Int)
  rw [getElem!_neg s.data j h]
  rfl
theorem fol_cnt (s : ByteArray) (i k : Nat) : fol (nums s) (i + k) = cnt s i k := by
 unfold fol cnt
 rw [get_nums, nums_len]
 generalize (s.get! (i + k)).toNat = b
 rw [Bool.eq_iff_iff]
 simp only [Bool.and_eq_true, decide_eq_true_eq, beq_iff_eq]
 omega
theorem fol_rng {L : List Int} {i : Nat} (h : fol L i = true) : i < L.length ∧ 128 ≤ L.getD i 0 ∧ L.getD i 0 < 192 := by
 unfold fol at h
 simp only [Bool.and_eq_true, decide_eq_true_eq] at h
 exact h
theorem run_len {L : List Int} {i : Nat} (h : i < L.length) : i + runK L i ≤ L.length := by
 unfold runK runN
 have h1 := @fol_rng L (i + 1)
 have h2 := @fol_rng L (i + 2)
 have h3 := @fol_rng L (i + 3)
 repeat' split
 ·omega
 ·rename_i h4; have := h1 h4.2; omega
 ·omega
 ·rename_i h4 _; have := h2 h4.2; omega
 ·omega
 ·rename_i h4 _; have := h3 h4.2; omega
 ·omega
theorem run_le (L : List Int) (i : Nat) : runK L i ≤ 4 := by
 unfold runK runN
 repeat' split
 all_goals omega
/-- The model's decode at a place of a string. -/
theorem dec_run (s : ByteArray) (i : Nat) : (Utf8.decode s i).2 = (if runK (nums s) i = 0 then 1 else runK (nums s) i) ∧ ((Utf8.decode s i).1 : Int) = (if runK (nums s) i = 0 then 65533 else runV (nums s) i) := by
 have h1 := @fol_rng (nums s) (i + 1)
 have h2 := @fol_rng (nums s) (i + 2)
 have h3 := @fol_rng (nums s) (i + 3)
 unfold runV runK
 rw [fol_cnt] at h1 h2 h3
 rw [fol_cnt, fol_cnt, fol_cnt]
 rw [get_nums] at h1 h2 h3
 rw [get_nums, get_nums, get_nums, get_nums]
 have q0 : (s.get! (i + 0)).toNat < 256 := (s.get! (i + 0)).toNat_lt
 exact dec_pure s i _ _ _ _ _ _ _ rfl rfl rfl rfl rfl rfl rfl q0 (fun h => by have := h1 h; omega) (fun h => by have := h2 h; omega) (fun h => by have := h3 h; omega)
end Go.Proofs.YtplfineaomneiaaGreatDoor
