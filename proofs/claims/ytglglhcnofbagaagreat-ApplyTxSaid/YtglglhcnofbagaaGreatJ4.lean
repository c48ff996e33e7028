/-
  UTF-8: the model's decode is the reference's Rune. Rows of cells in memory, of any type: read, cut, appended to. No function of the program. Ints in rows, stores into a block, the numbers that the statements draw from, how long an input is. (Out of stage 7's texts.) Names and memos as lists of numbers; comparisons of bytes, a byte of a string.
-/
import Derived.Test.YtglglhcnofbagaaGreatJ3
import GoSem.Core.Utf8
import Derived.Deep.Onto
import Derived.Test.YtglglhcnofbagaaGreatJ2
import Derived.Laws.Tables
import Derived.Lib.SmallJoins
namespace Go.Proofs.YtglglhcnofbagaaGreat
set_option linter.unusedSimpArgs false
set_option linter.unusedVariables false

/-- The reference's Rune, out of the bytes and of whether they follow. -/
def runN (c0 c1 : Int) (f1 f2 f3 : Bool) : Nat :=
 if c0 < 128 then 1
 else if (194 ≤ c0 ∧ c0 < 224) ∧ f1 = true then 2
 else if ((224 ≤ c0 ∧ c0 < 240) ∧ f1 = true) ∧ f2 = true then (if (c0 = 224 ∧ c1 < 160) ∨ (c0 = 237 ∧ 160 ≤ c1) then 0 else 3)
 else if (((240 ≤ c0 ∧ c0 < 245) ∧ f1 = true) ∧ f2 = true) ∧ f3 = true then (if (c0 = 240 ∧ c1 < 144) ∨ (c0 = 244 ∧ 144 ≤ c1) then 0 else 4)
 else 0
def valN (k : Nat) (c0 c1 c2 c3 : Int) : Int :=
 if k = 1 then c0
 else if k = 2 then (c0 - 192) * 64 + (c1 - 128)
 else if k = 3 then (c0 - 224) * 4096 + (c1 - 128) * 64 + (c2 - 128)
 else if k = 4 then (c0 - 240) * 262144 + (c1 - 128) * 4096 + (c2 - 128) * 64 + (c3 - 128)
 else 65533
def cnt (s : ByteArray) (i k : Nat) : Bool := i + k < s.size && (s.get! (i + k)).toNat / 64 == 2
theorem valid_nat (n : Nat) : Utf8.valid (n : Int) = decide (n < 55296 ∨ (57344 ≤ n ∧ n ≤ 1114111)) := by
 unfold Utf8.valid
 rw [Bool.eq_iff_iff]
 simp only [Bool.or_eq_true, Bool.and_eq_true, decide_eq_true_eq]
 omega
set_option maxRecDepth 100000 in
theorem dec_pure (s : ByteArray) (i b0 b1 b2 b3 : Nat) (f1 f2 f3 : Bool) (e0 : (s.get! (i + 0)).toNat = b0) (e1 : (s.get! (i + 1)).toNat = b1) (e2 : (s.get! (i + 2)).toNat = b2) (e3 : (s.get! (i + 3)).toNat = b3) (c1 : (decide (i + 1 < s.size) && b1 / 64 == 2) = f1) (c2 : (decide (i + 2 < s.size) && b2 / 64 == 2) = f2) (c3 : (decide (i + 3 < s.size) && b3 / 64 == 2) = f3) (q0 : b0 < 256) (h1 : f1 = true → 128 ≤ b1 ∧ b1 < 192) (h2 : f2 = true → 128 ≤ b2 ∧ b2 < 192) (h3 : f3 = true → 128 ≤ b3 ∧ b3 < 192) :
  (Utf8.decode s i).2 = (if runN b0 b1 f1 f2 f3 = 0 then 1 else runN b0 b1 f1 f2 f3) ∧ ((Utf8.decode s i).1 : Int) = (if runN b0 b1 f1 f2 f3 = 0 then 65533 else valN (runN b0 b1 f1 f2 f3) b0 b1 b2 b3) := by
 have fin : ∀ (k c : Nat), runN b0 b1 f1 f2 f3 = k → Utf8.decode s i = (c, if k = 0 then 1 else k) → (c : Int) = (if k = 0 then 65533 else valN k b0 b1 b2 b3) →
   (Utf8.decode s i).2 = (if runN b0 b1 f1 f2 f3 = 0 then 1 else runN b0 b1 f1 f2 f3) ∧ ((Utf8.decode s i).1 : Int) = (if runN b0 b1 f1 f2 f3 = 0 then 65533 else valN (runN b0 b1 f1 f2 f3) b0 b1 b2 b3) := fun k c hr hd hc => by
  rw [hr, hd]
  exact ⟨rfl, hc⟩
 by_cases k1 : b0 < 128
 ·refine fin 1 b0 ?_ ?_ ?_
  ·unfold runN; rw [if_pos (by omega)]
  ·unfold Utf8.decode; simp only [e0, e1, e2, e3, c1, c2, c3]; rw [if_pos k1]; rfl
  ·simp [valN]
 have k1' : ¬ (b0 : Int) < 128 := by omega
 by_cases k2 : b0 / 32 = 6
 ·have z3 : ¬ (((224 ≤ (b0 : Int) ∧ (b0 : Int) < 240) ∧ f1 = true) ∧ f2 = true) := by rintro ⟨⟨⟨_, _⟩, _⟩, _⟩; omega
  have z4 : ¬ ((((240 ≤ (b0 : Int) ∧ (b0 : Int) < 245) ∧ f1 = true) ∧ f2 = true) ∧ f3 = true) := by rintro ⟨⟨⟨⟨_, _⟩, _⟩, _⟩, _⟩; omega
  by_cases y1 : f1 = true
  ·have hb1 := h1 y1
   by_cases k3 : 194 ≤ b0
   ·refine fin 2 (b0 % 32 * 64 + b1 % 64) ?_ ?_ ?_
    ·unfold runN; rw [if_neg k1', if_pos ⟨⟨by omega, by omega⟩, y1⟩]
    ·unfold Utf8.decode; simp only [e0, e1, e2, e3, c1, c2, c3]; rw [if_neg k1, if_pos (by simp [k2, y1]), if_pos (by omega)]; rfl
    ·simp [valN]; omega
   ·refine fin 0 65533 ?_ ?_ rfl
    ·unfold runN; rw [if_neg k1', if_neg (by rintro ⟨⟨_, _⟩, _⟩; omega), if_neg z3, if_neg z4]
    ·unfold Utf8.decode; simp only [e0, e1, e2, e3, c1, c2, c3]; rw [if_neg k1, if_pos (by simp [k2, y1]), if_neg (by omega)]; rfl
  ·refine fin 0 65533 ?_ ?_ rfl
   ·unfold runN; rw [if_neg k1', if_neg (fun h => y1 h.2), if_neg z3, if_neg z4]
   ·unfold Utf8.decode; simp only [e0, e1, e2, e3, c1, c2, c3]; rw [if_neg k1, if_neg (by simp [y1]), if_neg (by simp [y1]), if_neg (by simp [y1])]; rfl
 have z2 : ¬ ((194 ≤ (b0 : Int) ∧ (b0 : Int) < 224) ∧ f1 = true) := by rintro ⟨⟨_, _⟩, _⟩; omega
 have d2 : ¬ ((b0 / 32 == 6 && f1) = true) := by simp [k2]
 by_cases k3 : b0 / 16 = 14
 ·have z4 : ¬ ((((240 ≤ (b0 : Int) ∧ (b0 : Int) < 245) ∧ f1 = true) ∧ f2 = true) ∧ f3 = true) := by rintro ⟨⟨⟨⟨_, _⟩, _⟩, _⟩, _⟩; omega
  have d4 : ¬ ((b0 / 8 == 30 && f1 && f2 && f3) = true) := by
   have : b0 / 8 ≠ 30 := by omega
   simp [this]
  by_cases y1 : f1 = true ∧ f2 = true
  ·have hb1 := h1 y1.1
   have hb2 := h2 y1.2
   have d3 : (b0 / 16 == 14 && f1 && f2) = true := by simp [k3, y1.1, y1.2]
   have z3 : ((224 ≤ (b0 : Int) ∧ (b0 : Int) < 240) ∧ f1 = true) ∧ f2 = true := ⟨⟨⟨by omega, by omega⟩, y1.1⟩, y1.2⟩
   by_cases k4 : (b0 = 224 ∧ b1 < 160) ∨ (b0 = 237 ∧ 160 ≤ b1)
   ·refine fin 0 65533 ?_ ?_ rfl
    ·unfold runN; rw [if_neg k1', if_neg z2, if_pos z3, if_pos (by omega)]
    ·unfold Utf8.decode; simp only [e0, e1, e2, e3, c1, c2, c3]; rw [if_neg k1, if_neg d2, if_pos d3, valid_nat, if_neg (by simp only [Bool.and_eq_true, decide_eq_true_eq]; omega)]; rfl
   ·refine fin 3 (b0 % 16 * 4096 + b1 % 64 * 64 + b2 % 64) ?_ ?_ ?_
    ·unfold runN; rw [if_neg k1', if_neg z2, if_pos z3, if_neg (by omega)]
    ·unfold Utf8.decode; simp only [e0, e1, e2, e3, c1, c2, c3]; rw [if_neg k1, if_neg d2, if_pos d3, valid_nat, if_pos (by simp only [Bool.and_eq_true, decide_eq_true_eq]; omega)]; rfl
    ·simp [valN]; omega
  ·have z3 : ¬ (((224 ≤ (b0 : Int) ∧ (b0 : Int) < 240) ∧ f1 = true) ∧ f2 = true) := fun h => y1 ⟨h.1.2, h.2⟩
   have d3 : ¬ ((b0 / 16 == 14 && f1 && f2) = true) := by
    simp only [Bool.and_eq_true]
    exact fun h => y1 ⟨h.1.2, h.2⟩
   refine fin 0 65533 ?_ ?_ rfl
   ·unfold runN; rw [if_neg k1', if_neg z2, if_neg z3, if_neg z4]
   ·unfold Utf8.decode; simp only [e0, e1, e2, e3, c1, c2, c3]; rw [if_neg k1, if_neg d2, if_neg d3, if_neg d4]; rfl
 have z3 : ¬ (((224 ≤ (b0 : Int) ∧ (b0 : Int) < 240) ∧ f1 = true) ∧ f2 = true) := by rintro ⟨⟨⟨_, _⟩, _⟩, _⟩; omega
 have d3 : ¬ ((b0 / 16 == 14 && f1 && f2) = true) := by simp [k3]
 by_cases k5 : b0 / 8 = 30
 ·by_cases y1 : (f1 = true ∧ f2 = true) ∧ f3 = true
  ·have hb1 := h1 y1.1.1
   have hb2 := h2 y1.1.2
   have hb3 := h3 y1.2
   have d4 : (b0 / 8 == 30 && f1 && f2 && f3) = true := by simp [k5, y1.1.1, y1.1.2, y1.2]
   by_cases k6 : b0 < 245
   ·have z4 : (((240 ≤ (b0 : Int) ∧ (b0 : Int) < 245) ∧ f1 = true) ∧ f2 = true) ∧ f3 = true := ⟨⟨⟨⟨by omega, by omega⟩, y1.1.1⟩, y1.1.2⟩, y1.2⟩
    by_cases k4 : (b0 = 240 ∧ b1 < 144) ∨ (b0 = 244 ∧ 144 ≤ b1)
    ·refine fin 0 65533 ?_ ?_ rfl
     ·unfold runN; rw [if_neg k1', if_neg z2, if_neg z3, if_pos z4, if_pos (by omega)]
     ·unfold Utf8.decode; simp only [e0, e1, e2, e3, c1, c2, c3]; rw [if_neg k1, if_neg d2, if_neg d3, if_pos d4, valid_nat, if_neg (by simp only [Bool.and_eq_true, decide_eq_true_eq]; omega)]; rfl
    ·refine fin 4 (b0 % 8 * 262144 + b1 % 64 * 4096 + b2 % 64 * 64 + b3 % 64) ?_ ?_ ?_
     ·unfold runN; rw [if_neg k1', if_neg z2, if_neg z3, if_pos z4, if_neg (by omega)]
     ·unfold Utf8.decode; simp only [e0, e1, e2, e3, c1, c2, c3]; rw [if_neg k1, if_neg d2, if_neg d3, if_pos d4, valid_nat, if_pos (by simp only [Bool.and_eq_true, decide_eq_true_eq]; omega)]; rfl
     ·simp [valN]; omega
   ·have z4 : ¬ ((((240 ≤ (b0 : Int) ∧ (b0 : Int) < 245) ∧ f1 = true) ∧ f2 = true) ∧ f3 = true) := by rintro ⟨⟨⟨⟨_, _⟩, _⟩, _⟩, _⟩; omega
    refine fin 0 65533 ?_ ?_ rfl
    ·unfold runN; rw [if_neg k1', if_neg z2, if_neg z3, if_neg z4]
    ·unfold Utf8.decode; simp only [e0, e1, e2, e3, c1, c2, c3]; rw [if_neg k1, if_neg d2, if_neg d3, if_pos d4, valid_nat, if_neg (by simp only [Bool.and_eq_true, decide_eq_true_eq]; omega)]; rfl
  ·have z4 : ¬ ((((240 ≤ (b0 : Int) ∧ (b0 : Int) < 245) ∧ f1 = true) ∧ f2 = true) ∧ f3 = true) := fun h => y1 ⟨⟨h.1.1.2, h.1.2⟩, h.2⟩
   have d4 : ¬ ((b0 / 8 == 30 && f1 && f2 && f3) = true) := by
    simp only [Bool.and_eq_true]
    exact fun h => y1 ⟨⟨h.1.1.2, h.1.2⟩, h.2⟩
   refine fin 0 65533 ?_ ?_ rfl
   ·unfold runN; rw [if_neg k1', if_neg z2, if_neg z3, if_neg z4]
   ·unfold Utf8.decode; simp only [e0, e1, e2, e3, c1, c2, c3]; rw [if_neg k1, if_neg d2, if_neg d3, if_neg d4]; rfl
 have z4 : ¬ ((((240 ≤ (b0 : Int) ∧ (b0 : Int) < 245) ∧ f1 = true) ∧ f2 = true) ∧ f3 = true) := by rintro ⟨⟨⟨⟨_, _⟩, _⟩, _⟩, _⟩; omega
 have d4 : ¬ ((b0 / 8 == 30 && f1 && f2 && f3) = true) := by simp [k5]
 refine fin 0 65533 ?_ ?_ rfl
 ·unfold runN; rw [if_neg k1', if_neg z2, if_neg z3, if_neg z4]
 ·unfold Utf8.decode; simp only [e0, e1, e2, e3, c1, c2, c3]; rw [if_neg k1, if_neg d2, if_neg d3, if_neg d4]; rfl
/-- A byte that follows. -/
def fol (L : List Int) (i : Nat) : Bool := decide (i < L.length) && (decide (128 ≤ L.getD i 0) && decide (L.getD i 0 < 192))
/-- The reference's Rune. -/
def runK (L : List Int) (i : Nat) : Nat := runN (L.getD i 0) (L.getD (i + 1) 0) (fol L (i + 1)) (fol L (i + 2)) (fol L (i + 3))
/-- The rune itself. -/
def runV (L : List Int) (i : Nat) : Int := valN (runK L i) (L.getD i 0) (L.getD (i + 1) 0) (L.getD (i + 2) 0) (L.getD (i + 3) 0)
theorem get_nums (s : ByteArray) (j : Nat) : (nums s).getD j 0 = ((s.get! j).toNat : Int) := by
 by_cases h : j < s.size
 ·rw [nums_at s j h]
  congr 1
  show _ = (s.data[j]!).toNat
  rw [getElem!_pos s.data j h]
  rfl
 ·have hl : (nums s).length ≤ j := by rw [nums_len]; omega
  rw [List.getD_eq_getElem?_getD, List.getElem?_eq_none hl]
  show 0 = ((s.data[j]!).toNat : Int)
  rw [getElem!_neg s.data j h]
  rfl
theorem fol_cnt (s : ByteArray) (i k : Nat) : fol (nums s) (i + k) = cnt s i k := by
 unfold fol cnt
 rw [get_nums, nums_len]
 generalize (s.get! (i + k)).toNat = b
 rw [Bool.eq_iff_iff]
 simp only [Bool.and_eq_true, decide_eq_true_eq, beq_iff_eq]
 omega
theorem fol_rng {L : List Int} {i : Nat} (h : fol L i = true) : i < L.length ∧ 128 ≤ L.getD i 0 ∧ L.getD i 0 < 192 := by
 unfold fol at h
 simp only [Bool.and_eq_true, decide_eq_true_eq] at h
 exact h
theorem run_len {L : List Int} {i : Nat} (h : i < L.length) : i + runK L i ≤ L.length := by
 unfold runK runN
 have h1 := @fol_rng L (i + 1)
 have h2 := @fol_rng L (i + 2)
 have h3 := @fol_rng L (i + 3)
 repeat' split
 ·omega
 ·rename_i h4; have := h1 h4.2; omega
 ·omega
 ·rename_i h4 _; have := h2 h4.2; omega
 ·omega
 ·rename_i h4 _; have := h3 h4.2; omega
 ·omega
theorem run_le (L : List Int) (i : Nat) : runK L i ≤ 4 := by
 unfold runK runN
 repeat' split
 all_goals omega
/-- The model's decode at a place of a string. -/
theorem dec_run (s : ByteArray) (i : Nat) : (Utf8.decode s i).2 = (if runK (nums s) i = 0 then 1 else runK (nums s) i) ∧ ((Utf8.decode s i).1 : Int) = (if runK (nums s) i = 0 then 65533 else runV (nums s) i) := by
 have h1 := @fol_rng (nums s) (i + 1)
 have h2 := @fol_rng (nums s) (i + 2)
 have h3 := @fol_rng (nums s) (i + 3)
 unfold runV runK
 rw [fol_cnt] at h1 h2 h3
 rw [fol_cnt, fol_cnt, fol_cnt]
 rw [get_nums] at h1 h2 h3
 rw [get_nums, get_nums, get_nums, get_nums]
 have q0 : (s.get! (i + 0)).toNat < 256 := (s.get! (i + 0)).toNat_lt
 exact dec_pure s i _ _ _ _ _ _ _ rfl rfl rfl rfl rfl rfl rfl q0 (fun h => by have := h1 h; omega) (fun h => by have := h2 h; omega) (fun h => by have := h3 h; omega)
end Go.Proofs.YtglglhcnofbagaaGreat
namespace Go.Proofs.YtglglhcnofbagaaGreat
open Go.RowKit

/-- Cells lie in a row. -/
def Cs (w : World) (a : Option Addr) (cs : List Value) : Prop := ∀ j v, cs[j]? = some v → ∃ b off, a = some ⟨b, off, none⟩ ∧ b < w.heap.size ∧ w.cell? ⟨b, off + j, none⟩ = some v
theorem Cs.nil (w : World) (a : Option Addr) : Cs w a [] := fun j v h => by simp at h
theorem Cs.below {w w' : World} {a : Option Addr} {cs : List Value} (h : Cs w a cs) (hb : Below w.heap.size w w') : Cs w' a cs := fun j v hj => by
  obtain ⟨b, off, e, hlt, hc⟩ := h j v hj
  exact ⟨b, off, e, Nat.lt_of_lt_of_le hlt hb.size, (hb.cell (p := ⟨b, off + j, none⟩) hlt).trans hc⟩
theorem Cs.take {w : World} {a : Option Addr} {cs : List Value} (h : Cs w a cs) (k : Nat) : Cs w a (cs.take k) := fun j v hj => by
  rw [List.getElem?_take] at hj
  split at hj
  · exact h j v hj
  · cases hj
/-- The head of a part of a slice. -/
def fromS (s : Nat) (a : Option Addr) (c k : Nat) : Option Addr := if c = k then a else a.map (·.add (k * s))
theorem Cs.from {w : World} {a : Option Addr} {cs : List Value} (h : Cs w a cs) (s c k : Nat) (hc : cs.length ≤ c * s) : Cs w (fromS s a c k) (cs.drop (k * s)) := fun j v hj => by
  rw [List.getElem?_drop] at hj
  have hlt : k * s + j < cs.length := (List.getElem?_eq_some_iff.1 hj).1
  obtain ⟨b, off, rfl, hb, hcell⟩ := h _ v hj
  refine ⟨b, off + k * s, ?_, hb, by rw [Nat.add_assoc]; exact hcell⟩
  unfold fromS
  rw [if_neg (by rintro rfl; omega)]
  simp only [Option.map_some]
  rw [Addr.add_mid]
/-- A block that is a row. -/
theorem Cs.block {w : World} {g t : Nat} {cs : List Value} {fr : Nat × Nat} (h : w.heap[g]? = some (.cells cs.toArray t fr)) : Cs w (some ⟨g, 0, none⟩) cs := fun j v hj => by
  refine ⟨g, 0, rfl, (Array.getElem?_eq_some_iff.1 h).1, ?_⟩
  rw [Nat.zero_add, cell_of_row w g j _ t fr h]
  simpa using hj
theorem own_cs {w : World} {B e s n : Nat} {v : Value} {cs : List Value} (h : w.ownsRow B e s v n cs) : ∃ a c, v = .slice a n c ∧ Cs w a cs ∧ n ≤ c := by
  have hlen := h.1
  rcases h.2 with ⟨rfl, h0⟩ | ⟨g, cap, cur, rfl, hb, hg, hcap, hm, hcs, htk⟩
  · refine ⟨none, 0, by rw [h0], ?_, by omega⟩
    have : cs = [] := List.eq_nil_of_length_eq_zero (by rw [hlen, h0]; simp)
    rw [this]
    exact Cs.nil _ _
  · refine ⟨some ⟨g, 0, none⟩, cap, rfl, fun j v hj => ⟨g, 0, rfl, (Array.getElem?_eq_some_iff.1 hg).1, ?_⟩, hcap⟩
    have := h.cells (g := g) rfl j v hj
    rw [← this, Go.WideShapes.add_plain]

section
variable {P : Program} {t e s bytes : Nat} {z : Value}
/-- 'append' of any part to a row of the call's own. -/
theorem append_cs (hu : P.underlying t = some (.slice e)) (hinfo : (P.info? e).map (fun i => (i.zero, i.size, i.bytes)) = some (some z, s, bytes)) (hzs : z.cells.size = s) (hs : 0 < s) (hby : bytes ≤ 1000)
    {w : World} {B n m : Nat} {v : Value} {xs : List Value} (hO : w.ownsRow B e s v n xs) (pa : Option Addr) (cp : Nat) (ys : List Value) (hP : Cs w pa ys) (hl : ys.length = m * s) (h1 : ∀ u ∈ ys, u.oneCell' = true) (hB : B ≤ w.heap.size) (hn : n ≤ 100000) (hm : m ≤ 100000) :
    ∃ v' w', (Builtin.append_ #[t, t] t #[v, .slice pa m cp]).run P w = .ok v' w' ∧ w'.ownsRow B e s v' (n + m) (xs ++ ys) ∧ Below B w w' ∧ w.grownBy w' v.ownBlock := by
  obtain ⟨i0, hi, hz0, hz1, hz2⟩ := info_parts hinfo
  by_cases hy : ys = []
  · subst hy
    obtain rfl : m = 0 := by
      rcases Nat.eq_zero_or_pos m with h | h
      · exact h
      · have := Nat.mul_pos h hs
        rw [← hl] at this
        simp at this
    cases pa with
    | none =>
      refine ⟨v, w, ?_, by simpa using hO, Below.refl _ _, World.grownBy.refl w _⟩
      rcases hO.2 with ⟨rfl, h0⟩ | ⟨g, cap, cur, rfl, _, _, hnc, _⟩
      · simp [Builtin.append_, run_underlying hu, sizeOf, typeInfo, hi, Builtin.lenOf, Builtin.firstCells]
      · simp [Builtin.append_, run_underlying hu, sizeOf, typeInfo, hi, Builtin.lenOf, Builtin.firstCells, hnc, storeCells]
    | some x =>
      obtain ⟨v', w', hr, h2, h3, -, -⟩ := run_append_own_at (P := P) w B t t e i0 z s bytes hu hi hz0 hz1 hz2 hzs hs v n xs hO x 0 cp [] (by simp) (fun j u h => by simp at h) (by simp) (by unfold maxLen; omega) (by have := Nat.mul_le_mul (show n + 0 ≤ 100000 by omega) hby; omega) hB
      exact ⟨v', w', hr, h2, (Below.refl _ w).grown h3 hB (fun j hj => (hO.lt j hj).1), h3⟩
  · obtain ⟨y, hy0⟩ : ∃ y, ys[0]? = some y := by
      cases ys with
      | nil => exact absurd rfl hy
      | cons y r => exact ⟨y, rfl⟩
    obtain ⟨b, off, rfl, -⟩ := hP 0 y hy0
    have hcells : ∀ j u, ys[j]? = some u → w.cell? ((⟨b, off, none⟩ : Addr).add j) = some u := fun j u hu => by
      obtain ⟨b2, off2, e2, -, hc⟩ := hP j u hu
      simp only [Option.some.injEq, Addr.mk.injEq, and_true] at e2
      obtain ⟨rfl, rfl⟩ := e2
      rw [Addr.add_mid]
      exact hc
    obtain ⟨v', w', hr, h2, h3, -, -⟩ := run_append_own_at (P := P) w B t t e i0 z s bytes hu hi hz0 hz1 hz2 hzs hs v n xs hO ⟨b, off, none⟩ m cp ys hl hcells h1 (by unfold maxLen; omega) (by have := Nat.mul_le_mul (show n + m ≤ 200000 by omega) hby; omega) hB
    exact ⟨v', w', hr, h2, (Below.refl _ w).grown h3 hB (fun j hj => (hO.lt j hj).1), h3⟩
theorem build_nil (hu : P.underlying t = some (.slice e)) (hinfo : (P.info? e).map (fun i => (i.zero, i.size, i.bytes)) = some (some z, s, bytes)) (w : World) : (Instr.buildSlice t 0 #[]).run P w = .ok (.slice (some ⟨w.heap.size, 0, none⟩) 0 0) (w.alloc (.cells #[] e)) := by
  obtain ⟨i0, hi, hz0, hz1, hz2⟩ := info_parts hinfo
  simp [Instr.buildSlice, run_underlying hu, sizeOf, typeInfo, hi, newRow, go_sem]
theorem own_nil (w : World) (e s : Nat) : (w.alloc (.cells #[] e)).ownsRow w.heap.size e s (.slice (some ⟨w.heap.size, 0, none⟩) 0 0) 0 [] :=
  ⟨by simp, .inr ⟨w.heap.size, 0, #[], rfl, Nat.le_refl _, heap_alloc_last w _, Nat.le_refl _, by simp [maxLen], by simp, by simp⟩⟩
/-- A slice up to k, from k on. -/
theorem cut_to (hu : P.underlying t = some (.slice (P.elem t))) (hs : ∀ w, (sizeOf (P.elem t)).run P w = .ok s w) (a : Option Addr) (n c k : Nat) (w : World) (h : k ≤ c) : (Instr.slice t (.slice a n c) none (some (.int .i64 (k : Int))) none).run P w = .ok (.slice a k c) w := by
  have q := run_slice_h (P := P) w t a n c hu .i64 (k : Int) (by omega) (by omega)
  rw [q, hs]
  cases a <;> simp [sliced, Result.andThen, Addr.add]
theorem cut_from (hu : P.underlying t = some (.slice (P.elem t))) (hs : ∀ w, (sizeOf (P.elem t)).run P w = .ok s w) (a : Option Addr) (n c k : Nat) (w : World) (h : k ≤ n) : (Instr.slice t (.slice a n c) (some (.int .i64 (k : Int))) none none).run P w = .ok (.slice (fromS s a c k) (n - k) (c - k)) w := by
  have q := run_slice_l (P := P) w t a n c hu .i64 (k : Int) (by omega) (by omega)
  rw [q, hs]
  by_cases hk : c = k <;> cases a <;> simp [sliced, Result.andThen, fromS, hk]
end
end Go.Proofs.YtglglhcnofbagaaGreat
namespace Go.Proofs.YtglglhcnofbagaaGreat
open Go.RowKit
set_option linter.unusedSimpArgs false
set_option linter.unusedVariables false

/-- The cells of numbers, of elements. -/
def icells (L : List Int) : List Value := L.map (Value.int .i64)
theorem icells_len (L : List Int) : (icells L).length = L.length := by simp [icells]
theorem icells_app (A B : List Int) : icells (A ++ B) = icells A ++ icells B := by simp [icells]
theorem icells_at (L : List Int) (k : Nat) (h : k < L.length) : (icells L)[k]? = some (.int .i64 (L.getD k 0)) := by
  simp [icells, List.getD, List.getElem?_eq_getElem h]
theorem icells_one (L : List Int) : ∀ u ∈ icells L, u.oneCell' = true := fun u hu => by
  obtain ⟨x, -, rfl⟩ := List.mem_map.1 hu
  rfl
theorem icells_take (L : List Int) (k : Nat) : (icells L).take (k * 1) = icells (L.take k) := by simp [icells, List.map_take]
theorem icells_drop (L : List Int) (k : Nat) : (icells L).drop (k * 1) = icells (L.drop k) := by simp [icells, List.map_drop]
theorem load_cell {w : World} {t : TypeId} {a : Addr} {v : Value} (h : w.cell? a = some v) (hag : (isAgg t).run Tryz.prog w = .ok false w) : (Instr.loadAt t (.pointer (some a))).run Tryz.prog w = .ok v w := by
  simp [Instr.loadAt, Instr.sureAddr, loadVar, hag, run_load, h, Result.andThen]
/-- The list lies in a block. -/
def Bx (w : World) (g : Nat) (cs : Array Value) (t : Nat) : Prop := w.heap[g]? = some (.cells cs t (0, 0))
theorem Bx.lt {w : World} {g t : Nat} {cs : Array Value} (h : Bx w g cs t) : g < w.heap.size := (Array.getElem?_eq_some_iff.1 h).1
theorem Bx.below {w w' : World} {g t B : Nat} {cs : Array Value} (h : Bx w g cs t) (hg : g < B) (hb : Below B w w') : Bx w' g cs t := (hb.block g hg).trans h
theorem Bx.load {w : World} {g t i : Nat} {cs : Array Value} {v : Value} {ty : TypeId} (h : Bx w g cs t) (hv : cs[i]? = some v) (hag : (isAgg ty).run Tryz.prog w = .ok false w) : (Instr.loadAt ty (.pointer (some ⟨g, i, none⟩))).run Tryz.prog w = .ok v w :=
  load_cell ((cell_of_row w g i _ t (0, 0) h).trans hv) hag
theorem idx_int (b off n c k : Nat) (hk : k < n) (V : World) (ρ : Operand → Value) (o : Oper) {x y : Operand} (ho : o.op = .indexAddr 27 x y) (hx : ρ x = .slice (some ⟨b, off, none⟩) n c) (hy : ρ y = .int .i64 k) : (execOp ρ o).run Tryz.prog V = .ok (.value (.pointer (some ⟨b, off + k, none⟩))) V := by
  have hs : (sizeOf (Tryz.prog.elem 27)).run Tryz.prog V = .ok 1 V := by kernel_rfl
  have hlm : (k : Int) < (n : Int) := by omega
  unfold execOp
  simp only [ho, hx, hy]
  go_simp
theorem int_at {w : World} {a : Option Addr} {L : List Int} (h : Cs w a (icells L)) {k : Nat} (hk : k < L.length) : ∃ b off, a = some ⟨b, off, none⟩ ∧ b < w.heap.size ∧ w.cell? ⟨b, off + k, none⟩ = some (.int .i64 (L.getD k 0)) := h _ _ (icells_at L k hk)
theorem belowRow {w w0 : World} {g B : Nat} (h : Below B w0 w) (hn : B ≤ g) (cs : Array Value) : Below B w0 (w.setRow g cs) :=
  ⟨h.os, h.tape, h.output, by rw [size_setRow]; exact h.size, fun k hk => (setRow_other w g k cs (by omega)).trans (h.block k hk)⟩
/-- The world has new blocks, and block g is written. -/
def But (g : Nat) (w w' : World) : Prop := Below g w w' ∧ ∀ k, k < w.heap.size → k ≠ g → w'.heap[k]? = w.heap[k]?
theorem But.refl (g : Nat) (w : World) : But g w w := ⟨Below.refl _ _, fun _ _ _ => rfl⟩
theorem But.trans {g : Nat} {a b c : World} (h : But g a b) (k : But g b c) : But g a c :=
  ⟨h.1.trans k.1, fun i hi hn => (k.2 i (by have := h.1.size; omega) hn).trans (h.2 i hi hn)⟩
theorem But.of_below {g : Nat} {w w' : World} (h : Below w.heap.size w w') (hg : g ≤ w.heap.size) : But g w w' := ⟨h.mono hg, fun k hk _ => h.block k hk⟩
theorem But.setRow {g : Nat} (w : World) (cs : Array Value) : But g w (w.setRow g cs) :=
  ⟨belowRow (Below.refl _ _) (Nat.le_refl _) cs, fun k _ hn => setRow_other w g k cs hn⟩
theorem But.below {g B : Nat} {w w' : World} (h : But g w w') (hB : B ≤ g) : Below B w w' := h.1.mono hB
theorem Bx.but {w w' : World} {g k t : Nat} {cs : Array Value} (h : Bx w k cs t) (hb : But g w w') (hn : k ≠ g) : Bx w' k cs t := (hb.2 k h.lt hn).trans h
theorem Bx.set {w : World} {g t : Nat} {cs cs' : Array Value} (h : Bx w g cs t) : Bx (w.setRow g cs') g cs' t := setRow_heap _ _ _ _ _ _ h
/-- A row whose block is not g. -/
theorem Cs.but {w w' : World} {g : Nat} {a : Option Addr} {cs : List Value} (h : Cs w a cs) (hb : But g w w') (hn : ∀ x, a = some x → x.block ≠ g) : Cs w' a cs := fun j v hj => by
  obtain ⟨b, off, e, hlt, hc⟩ := h j v hj
  refine ⟨b, off, e, Nat.lt_of_lt_of_le hlt hb.1.size, ?_⟩
  rw [← hc]
  unfold World.cell?
  rw [hb.2 b hlt (hn _ e)]
theorem own_but {w w' : World} {g B e size n : Nat} {v : Value} {xs : List Value} (h : w.ownsRow B e size v n xs) (hb : But g w w') (hn : g < B) : w'.ownsRow B e size v n xs := by
  refine ⟨h.1, ?_⟩
  rcases h.2 with h0 | ⟨k, cap, cur, ev, hB, hg, r⟩
  · exact .inl h0
  · exact .inr ⟨k, cap, cur, ev, hB, (hb.2 k (Array.getElem?_eq_some_iff.1 hg).1 (by omega)).trans hg, r⟩
theorem run_store_cell {w : World} {g t i : Nat} {cs : Array Value} {v : Value} {ty : TypeId} (h : Bx w g cs t) (hi : i < cs.size) (h1 : v.oneCell' = true) (hs : (Tryz.prog.info? ty).map (·.size) = some 1) :
    (Instr.storeAt ty (.pointer (some ⟨g, i, none⟩)) v).run Tryz.prog w = .ok () (w.setCell ⟨g, i, none⟩ v) := by
  have hc : v.cells = #[v] := by cases v <;> first | rfl | cases h1
  have hcell : w.cell? ⟨g, i, none⟩ = some cs[i] := by rw [cell_of_row w g i _ t (0, 0) h]; simp [hi]
  have hfz : w.frozen? ⟨g, i, none⟩ = false := frozen_of_row w g i _ t h
  have ha : (⟨g, i, none⟩ : Addr).add 0 = ⟨g, i, none⟩ := by simp [Addr.add]
  cases hq : Tryz.prog.info? ty with
  | none => simp [hq] at hs
  | some j =>
    have hs : j.size = 1 := by simpa [hq] using hs
    simp [Instr.storeAt, Instr.sureAddr, storeVar, sizeOf, typeInfo, hq, hc, hs, storeCells, run_store _ _ _ _ _ h1, ha, hcell, hfz]
theorem But.setCell {g : Nat} (w : World) (o : Nat) (v : Value) : But g w (w.setCell ⟨g, o, none⟩ v) :=
  ⟨(Below.refl g w).setCell (Nat.le_refl _) v, fun k _ hn => heap_setCell_other w _ k v hn⟩
theorem Bx.setC {w : World} {g t i : Nat} {cs : Array Value} (h : Bx w g cs t) (v : Value) : Bx (w.setCell ⟨g, i, none⟩ v) g (cs.setIfInBounds i v) t := Joins.block_setCell h v
theorem run_store_all {w : World} {g t : Nat} {cs cs' : Array Value} {ty : TypeId} (h : Bx w g cs t) (hz : cs.size = cs'.size) (h1 : cs'.all (·.oneCell') = true) (hs : (Tryz.prog.info? ty).map (·.size) = some cs'.size) :
    (Instr.storeAt ty (.pointer (some ⟨g, 0, none⟩)) (.agg cs')).run Tryz.prog w = .ok () (w.setRow g cs') := by
  simp only [Instr.storeAt, Instr.sureAddr, Sem.run_bind, Sem.run_pure, Result.andThen_ok]
  exact run_storeVar_row w g t ty cs cs' h hs hz h1
section
variable {P : Program} {ops : Array Oper} {rest : List Oper} {o : Oper} {a : Act} {w : World} {Q : Exit → Act → World → Prop} {i : Nat} {K : Act → World → Prop}
theorem gw_store (hw : Region.wanted o (yielded ops a.tmps) = true) (hd : o.dst = none) (ty : TypeId) (x y : Operand) (ho : o.op = .store ty x y) (vx vy : Value) (hx : a.eval x = vx) (hy : a.eval y = vy) (w2 : World)
    (hr : (Instr.storeAt ty vx vy).run P w = .ok () w2) (k : wpList P ops Q rest a w2) : wpList P ops Q (o :: rest) a w := by
  apply wpList_step
  intro K hK
  rw [if_pos hw]
  unfold Oper.wp execOp
  simp only [ho, hx, hy, Sem.run_bind, hr, Result.andThen_ok]
  show K (a.put o.dst undef) _
  rw [hd]
  exact hK _ _ k
theorem gzs {ty : TypeId} {x y : Operand} (ho : o.op = .store ty x y) {vx vy : Value} {w2 : World} (hr : (Instr.storeAt ty vx vy).run P w = .ok () w2) (k : wpList P ops Q rest a w2) (hw : Region.wanted o (yielded ops a.tmps) = true := by kernel_rfl) (hd : o.dst = none := by kernel_rfl) (hx : a.eval x = vx := by kernel_rfl) (hy : a.eval y = vy := by kernel_rfl) : wpList P ops Q (o :: rest) a w := gw_store hw hd ty x y ho vx vy hx hy w2 hr k
theorem st_storeA (hi : ops[i]? = some o) (hw : Region.wanted o (yielded ops a.tmps) = true) (hd : o.dst = none) (ty : TypeId) (x y : Operand) (ho : o.op = .store ty x y) (vx vy : Value) (hx : a.eval x = vx) (hy : a.eval y = vy) (w2 : World)
    (hr : (Instr.storeAt ty vx vy).run P w = .ok () w2) (h : K a w2) : wpOp P ops Q i K a w := by
  refine st_of hi hw ?_
  unfold Oper.wp execOp
  simp only [ho, hx, hy, Sem.run_bind, hr, Result.andThen_ok]
  show K (a.put o.dst undef) _
  rw [hd]
  exact h
end
theorem infoI : (Tryz.prog.info? 3).map (fun i => (i.zero, i.size, i.bytes)) = some (some (.int .i64 0), 1, 8) := by kernel_rfl
theorem append_int {w : World} {B n m : Nat} {v : Value} {xs : List Value} (hO : w.ownsRow B 3 1 v n xs) (pa : Option Addr) (cp : Nat) (L : List Int) (hP : Cs w pa (icells L)) (hl : L.length = m) (hB : B ≤ w.heap.size) (hn : n ≤ 100000) (hm : m ≤ 100000) :
    ∃ v' w', (Builtin.append_ #[27, 27] 27 #[v, .slice pa m cp]).run Tryz.prog w = .ok v' w' ∧ w'.ownsRow B 3 1 v' (n + m) (xs ++ icells L) ∧ Below B w w' ∧ w.grownBy w' v.ownBlock :=
  append_cs Tryz.underlying27 infoI rfl (by omega) (by omega) hO pa cp _ hP (by rw [icells_len, hl, Nat.mul_one]) (icells_one _) hB hn hm
theorem nil_int (w : World) : (Instr.buildSlice 27 0 #[]).run Tryz.prog w = .ok (.slice (some ⟨w.heap.size, 0, none⟩) 0 0) (w.alloc (.cells #[] 3)) := build_nil Tryz.underlying27 infoI w
theorem one_int (x : Int) (w : World) : (Instr.buildSlice 27 1 #[(0, .int .i64 x)]).run Tryz.prog w = .ok (.slice (some ⟨w.heap.size, 0, none⟩) 1 1) (w.alloc (.cells #[.int .i64 x] 3)) := by
  obtain ⟨i0, hi, hz0, hz1, hz2⟩ := info_parts infoI
  refine run_buildSlice w 27 3 1 _ #[.int .i64 x] i0 _ Tryz.underlying27 hi hz0 (by rw [hz1]; omega) (by rw [hz1]; omega) ?_
  rw [hz1]
  kernel_rfl
theorem cut_int_to (a : Option Addr) (n c k : Nat) (w : World) (h : k ≤ c) : (Instr.slice 27 (.slice a n c) none (some (.int .i64 (k : Int))) none).run Tryz.prog w = .ok (.slice a k c) w := cut_to (s := 1) (by kernel_rfl) (fun w => by kernel_rfl) a n c k w h
def I64 (x : Int) : Prop := -9223372036854775808 ≤ x ∧ x ≤ 9223372036854775807
/-- A number from 0 to below n that depends on any number. -/
def pl (x n : Int) : Int := if x.tmod n < 0 then x.tmod n + n else x.tmod n
theorem tmod_range (x n : Int) (hn : 0 < n) : -n < x.tmod n ∧ x.tmod n < n := by
  rcases Int.le_total 0 x with h | h
  · have h1 := Int.tmod_nonneg n h
    have h2 := Int.tmod_lt_of_pos x hn
    omega
  · have h1 := Int.tmod_nonneg n (show 0 ≤ -x by omega)
    have h2 := Int.tmod_lt_of_pos (-x) hn
    rw [Int.neg_tmod] at h1 h2
    omega
theorem pl_range (x n : Int) (hn : 0 < n) : 0 ≤ pl x n ∧ pl x n < n := by
  have := tmod_range x n hn
  unfold pl
  split <;> omega
theorem rem_i64 {ρ : Operand → Value} {o : Oper} {x y : Operand} (ho : o.op = .binOp .rem 3 x y 3) (a b : Int) (hb : b ≠ 0) (hx : ρ x = .int .i64 a) (hy : ρ y = .int .i64 b) (w : World) :
    (execOp ρ o).run Tryz.prog w = .ok (.value (.int .i64 (a.tmod b))) w := by
  unfold execOp
  simp only [ho, hx, hy]
  simp [hb, go_sem]
set_option maxHeartbeats 1000000 in
theorem mk_place (x n : Int) (w : World) (hn : 0 < n) (hn2 : n ≤ 1000000) :
    Calls Tryz.prog 18 #[.int .i64 x, .int .i64 n] w fun e w' => e = .returned (.int .i64 (pl x n)) ∧ w = w' := by
  have hr := tmod_range x n hn
  have hnz : ¬ n = 0 := by omega
  unfold pl
  obtain ⟨r, hr0⟩ : ∃ r, x.tmod n = r := ⟨_, rfl⟩
  have hw : IntKind.i64.wrap r = r := by rw [IntKind.wrap_i64]; omega
  rw [hr0] at hr ⊢
  have HR := Lib.hid hr0
  clear hr0
  obtain ⟨Q, hQ⟩ : ∃ Q, Q = if r < 0 then r + n else r := ⟨_, rfl⟩
  rw [← hQ]
  have HQ := Lib.hid hQ
  clear hQ
  go_enter Tryz.func18, Tryz.ntmps18
  go_upto_region 1 with fail
  apply wp_region_lit
  refine gw_val (by kernel_rfl) (some 5) rfl (.int .i64 x) (by kernel_rfl) ?_
  simp only [pu1, pu2, pu3, pu4]
  refine gw_val (by kernel_rfl) (some 6) rfl (.int .i64 n) (by kernel_rfl) ?_
  simp only [pu1, pu2, pu3, pu4]
  refine gw_val (by kernel_rfl) (some 7) rfl (.int .i64 (x.tmod n)) (rem_i64 rfl x n hnz (by kernel_rfl) (by kernel_rfl) w) ?_
  rw [HR.out]
  simp only [pu1, pu2, pu3, pu4]
  refine gw_val (by kernel_rfl) (some 0) rfl (.int .i64 r) (by kernel_rfl) ?_
  simp only [pu1, pu2, pu3, pu4]
  apply wpList_nil
  by_cases h0 : r < 0
  · have hd : decide (r < 0) = true := decide_eq_true h0
    have HQ2 : Hid (Q = r + n) := Lib.hid (by rw [HQ.out, if_pos h0])
    have hw3 : IntKind.i64.wrap (r + n) = r + n := by rw [IntKind.wrap_i64]; omega
    clear HQ HR
    go_wp2_with fail
    go_ret
    exact ⟨by rw [HQ2.out]; rfl, rfl⟩
  · have hd : decide (r < 0) = false := decide_eq_false h0
    have HQ2 : Hid (Q = r) := Lib.hid (by rw [HQ.out, if_neg h0])
    clear HQ HR
    go_wp2_with fail
    go_ret
    exact ⟨by rw [HQ2.out]; rfl, rfl⟩
set_option maxHeartbeats 1000000 in
theorem mk_from (a : Option Addr) (n c : Nat) (w : World) : Calls Tryz.prog 25 #[.slice a n c] w fun e w' => e = .returned (.pointer (some ⟨w.heap.size, 0, none⟩)) ∧ w' = w.alloc (.cells #[.slice a n c, .int .i64 0] 94) := by
  go_enter Tryz.func25, Tryz.ntmps25
  go_upto_region 1 with fail
  apply wp_region_lit
  refine gw_val (by kernel_rfl) (some 3) rfl (.slice a n c) (by kernel_rfl) ?_
  simp only [pu1, pu2, pu3, pu4]
  refine gw_val (by kernel_rfl) (some 4) rfl (.agg #[.slice a n c, .int .i64 0]) (by kernel_rfl) ?_
  simp only [pu1, pu2, pu3, pu4]
  refine run_to rfl (some 5) rfl (.pointer (some ⟨w.heap.size, 0, none⟩)) (w.alloc (.cells #[.slice a n c, .int .i64 0] 94)) (by kernel_rfl) ?_
  simp only [pu1, pu2, pu3, pu4]
  refine gw_val (by kernel_rfl) (some 2) rfl (.pointer (some ⟨w.heap.size, 0, none⟩)) (by kernel_rfl) ?_
  simp only [pu1, pu2, pu3, pu4]
  apply wpList_nil
  go_wp2_with fail
  go_ret
  exact ⟨rfl, rfl⟩
theorem add_one {ρ : Operand → Value} {o : Oper} {x : Operand} (ho : o.op = .binOp .add 3 x (.const (.int .i64 1)) 3) (m : Nat) (hm : m ≤ 1000000) (hx : ρ x = .int .i64 m) (w : World) (hρ : ρ (.const (.int .i64 1)) = .int .i64 1 := by rfl) : (execOp ρ o).run Tryz.prog w = .ok (.value (.int .i64 (m + 1 : Nat))) w := by
  unfold execOp
  simp only [ho, hx, hρ]
  simp [go_sem]
  rw [IntKind.wrap_i64]
  omega
theorem lt_nat {ρ : Operand → Value} {o : Oper} {x y : Operand} (ho : o.op = .binOp .lss 3 x y 3) (a b : Nat) (hx : ρ x = .int .i64 a) (hy : ρ y = .int .i64 b) (w : World) : (execOp ρ o).run Tryz.prog w = .ok (.value (.bool (decide (a < b)))) w := by
  unfold execOp
  simp only [ho, hx, hy]
  simp [go_sem]
set_option maxRecDepth 100000 in
set_option maxHeartbeats 2000000 in
theorem mk_next (g : Nat) (L : List Int) (a : Option Addr) (c N : Nat) (n : Int) (w : World) (hX : Bx w g #[.slice a L.length c, .int .i64 N] 94) (hL : Cs w a (icells L)) (hl : L.length ≤ 100000) (hN : N ≤ 100000) (hn : 0 < n) (hn2 : n ≤ 1000000) :
    Calls Tryz.prog 23 #[.pointer (some ⟨g, 0, none⟩), .int .i64 n] w fun e w' => e = .returned (.int .i64 (pl (L.getD N 0) n)) ∧ But g w w' ∧ Bx w' g #[.slice a L.length c, .int .i64 (N + 1 : Nat)] 94 := by
  have CP := fun x V => mk_place x n V hn hn2
  have tail : ∀ (V : World) (x : Int), x = L.getD N 0 → But g w V → Bx V g #[.slice a L.length c, .int .i64 N] 94 → True := fun _ _ _ _ _ => trivial
  by_cases hlt : N < L.length
  · obtain ⟨b, off, rfl, hb, hc⟩ := int_at hL hlt
    have hd : decide (N < L.length) = true := decide_eq_true hlt
    obtain ⟨x, hx⟩ : ∃ x, L.getD N 0 = x := ⟨_, rfl⟩
    rw [hx] at hc ⊢
    generalize L.length = k at *
    clear hx hL tail
    go_enter Tryz.func23, Tryz.ntmps23
    go_upto_region 2 with fail
    refine wp_region_class (C := fun w' => Below w.heap.size w w') (by kernel_rfl) (by kernel_rfl) (Below.refl _ w).drew ?_
    refine gyv (.pointer (some ⟨g, 0, none⟩)) (fun w' _ => by kernel_rfl) <| gyv (.pointer (some ⟨g, 0, none⟩)) (fun w' _ => by kernel_rfl) <| gyv (.pointer (some ⟨g, 1, none⟩)) (fun w' _ => by kernel_rfl) <|
      gyl rfl ⟨g, 1, none⟩ (.int .i64 N) (fun w' hC => (hX.below hX.lt hC).load rfl (by kernel_rfl)) <| gyv (.pointer (some ⟨g, 0, none⟩)) (fun w' _ => by kernel_rfl) <| gyv (.pointer (some ⟨g, 0, none⟩)) (fun w' _ => by kernel_rfl) <| gyv (.pointer (some ⟨g, 0, none⟩)) (fun w' _ => by kernel_rfl) <|
      gyl rfl ⟨g, 0, none⟩ (.slice (some ⟨b, off, none⟩) k c) (fun w' hC => (hX.below hX.lt hC).load rfl (by kernel_rfl)) <| gyv (.int .i64 k) (fun w' _ => by kernel_rfl) <| gyv (.bool (decide (N < k))) (fun w' _ => lt_nat rfl N k (by kernel_rfl) (by kernel_rfl) w') ?_
    rw [hd]
    simp only [pu1, pu2, pu3, pu4]
    refine wpQuiet_nil ?_
    intro V hV
    have hXV := hX.below hX.lt hV
    have hcV := (hV.cell (p := ⟨b, off + N, none⟩) hb).trans hc
    have hbV := Nat.lt_of_lt_of_le hb hV.size
    go_upto_region 3 with fail
    refine wp_region_class (C := fun w' => Below V.heap.size V w') (by kernel_rfl) (by kernel_rfl) (Below.refl _ V).drew ?_
    refine gyv (.pointer (some ⟨g, 0, none⟩)) (fun w' _ => by kernel_rfl) <| gyv (.pointer (some ⟨g, 0, none⟩)) (fun w' _ => by kernel_rfl) <| gyv (.pointer (some ⟨g, 0, none⟩)) (fun w' _ => by kernel_rfl) <|
      gyl rfl ⟨g, 0, none⟩ (.slice (some ⟨b, off, none⟩) k c) (fun w' hC => (hXV.below hXV.lt hC).load rfl (by kernel_rfl)) <| gyv (.pointer (some ⟨g, 0, none⟩)) (fun w' _ => by kernel_rfl) <| gyv (.pointer (some ⟨g, 0, none⟩)) (fun w' _ => by kernel_rfl) <|
      gyv (.pointer (some ⟨g, 1, none⟩)) (fun w' _ => by kernel_rfl) <| gyl rfl ⟨g, 1, none⟩ (.int .i64 N) (fun w' hC => (hXV.below hXV.lt hC).load rfl (by kernel_rfl)) <| gyv (.pointer (some ⟨b, off + N, none⟩)) (fun w' _ => idx_int b off k c N hlt w' _ _ rfl (by kernel_rfl) (by kernel_rfl)) <|
      gyl rfl ⟨b, off + N, none⟩ (.int .i64 x) (fun w' hC => load_cell ((hC.cell (p := ⟨b, off + N, none⟩) hbV).trans hcV) (by kernel_rfl)) <| gyv (.int .i64 x) (fun w' _ => by kernel_rfl) ?_
    simp only [pu]
    refine wpQuiet_nil ?_
    intro V2 hV2
    have hX2 := hXV.below hXV.lt hV2
    have hB2 := hV.trans (hV2.mono hV.size)
    clear hXV hcV hbV hV hV2 hc hb
    go_upto_region 4 with fail
    apply wp_region_lit
    refine gw_val (by kernel_rfl) (some 26) rfl (.pointer (some ⟨g, 0, none⟩)) (by kernel_rfl) ?_
    simp only [pu1, pu2, pu3, pu4]
    refine gw_val (by kernel_rfl) (some 27) rfl (.pointer (some ⟨g, 0, none⟩)) (by kernel_rfl) ?_
    simp only [pu1, pu2, pu3, pu4]
    refine gw_val (by kernel_rfl) (some 28) rfl (.pointer (some ⟨g, 1, none⟩)) (by kernel_rfl) ?_
    simp only [pu1, pu2, pu3, pu4]
    refine gw_load (by kernel_rfl) (some 29) rfl 3 (.tmp 28) rfl ⟨g, 1, none⟩ (.int .i64 N) (by kernel_rfl) (hX2.load rfl (by kernel_rfl)) ?_
    simp only [pu1, pu2, pu3, pu4]
    refine gw_val (by kernel_rfl) (some 30) rfl (.int .i64 (N + 1 : Nat)) (add_one rfl N (by omega) (by kernel_rfl) V2) ?_
    simp only [pu1, pu2, pu3, pu4]
    refine gw_val (by kernel_rfl) (some 31) rfl (.pointer (some ⟨g, 0, none⟩)) (by kernel_rfl) ?_
    simp only [pu1, pu2, pu3, pu4]
    refine gw_val (by kernel_rfl) (some 32) rfl (.pointer (some ⟨g, 1, none⟩)) (by kernel_rfl) ?_
    simp only [pu1, pu2, pu3, pu4]
    refine gw_store (by kernel_rfl) rfl 3 (.tmp 32) (.tmp 30) rfl (.pointer (some ⟨g, 1, none⟩)) (.int .i64 (N + 1 : Nat)) (by kernel_rfl) (by kernel_rfl) _ (run_store_cell hX2 (by simp) rfl (by kernel_rfl)) ?_
    apply wpList_nil
    have hX3 : Bx (V2.setCell ⟨g, 1, none⟩ (.int .i64 (N + 1 : Nat))) g #[.slice (some ⟨b, off, none⟩) k c, .int .i64 (N + 1 : Nat)] 94 := hX2.setC _
    have hB3 := (But.of_below hB2 (Nat.le_of_lt hX.lt)).trans (But.setCell (g := g) V2 1 (.int .i64 (N + 1 : Nat)))
    generalize V2.setCell ⟨g, 1, none⟩ (.int .i64 (N + 1 : Nat)) = V3 at *
    have HX3 := Lib.hid hX3
    have HB3 := Lib.hid hB3
    clear hX2 hB2 hX3 hB3 hX
    go_wp2_with (go_at_call 18; refine (CP _ _).mono ?_; rintro e w9 ⟨rfl, rfl⟩)
    go_ret
    exact ⟨rfl, HB3.out, HX3.out⟩
  · have hd : decide (N < L.length) = false := decide_eq_false hlt
    have hx : L.getD N 0 = 0 := by simp [List.getD, List.getElem?_eq_none (show L.length ≤ N by omega)]
    rw [hx]
    generalize L.length = k at *
    obtain ⟨x, hx0⟩ : ∃ x : Int, x = 0 := ⟨_, rfl⟩
    clear hx hL tail
    go_enter Tryz.func23, Tryz.ntmps23
    go_upto_region 2 with fail
    refine wp_region_class (C := fun w' => Below w.heap.size w w') (by kernel_rfl) (by kernel_rfl) (Below.refl _ w).drew ?_
    refine gyv (.pointer (some ⟨g, 0, none⟩)) (fun w' _ => by kernel_rfl) <| gyv (.pointer (some ⟨g, 0, none⟩)) (fun w' _ => by kernel_rfl) <| gyv (.pointer (some ⟨g, 1, none⟩)) (fun w' _ => by kernel_rfl) <|
      gyl rfl ⟨g, 1, none⟩ (.int .i64 N) (fun w' hC => (hX.below hX.lt hC).load rfl (by kernel_rfl)) <| gyv (.pointer (some ⟨g, 0, none⟩)) (fun w' _ => by kernel_rfl) <| gyv (.pointer (some ⟨g, 0, none⟩)) (fun w' _ => by kernel_rfl) <| gyv (.pointer (some ⟨g, 0, none⟩)) (fun w' _ => by kernel_rfl) <|
      gyl rfl ⟨g, 0, none⟩ (.slice a k c) (fun w' hC => (hX.below hX.lt hC).load rfl (by kernel_rfl)) <| gyv (.int .i64 k) (fun w' _ => by kernel_rfl) <| gyv (.bool (decide (N < k))) (fun w' _ => lt_nat rfl N k (by kernel_rfl) (by kernel_rfl) w') ?_
    rw [hd]
    simp only [pu1, pu2, pu3, pu4]
    refine wpQuiet_nil ?_
    intro V2 hB2
    have hX2 := hX.below hX.lt hB2
    rw [← hx0]
    go_upto_region 4 with fail
    apply wp_region_lit
    refine gw_val (by kernel_rfl) (some 26) rfl (.pointer (some ⟨g, 0, none⟩)) (by kernel_rfl) ?_
    simp only [pu1, pu2, pu3, pu4]
    refine gw_val (by kernel_rfl) (some 27) rfl (.pointer (some ⟨g, 0, none⟩)) (by kernel_rfl) ?_
    simp only [pu1, pu2, pu3, pu4]
    refine gw_val (by kernel_rfl) (some 28) rfl (.pointer (some ⟨g, 1, none⟩)) (by kernel_rfl) ?_
    simp only [pu1, pu2, pu3, pu4]
    refine gw_load (by kernel_rfl) (some 29) rfl 3 (.tmp 28) rfl ⟨g, 1, none⟩ (.int .i64 N) (by kernel_rfl) (hX2.load rfl (by kernel_rfl)) ?_
    simp only [pu1, pu2, pu3, pu4]
    refine gw_val (by kernel_rfl) (some 30) rfl (.int .i64 (N + 1 : Nat)) (add_one rfl N (by omega) (by kernel_rfl) V2) ?_
    simp only [pu1, pu2, pu3, pu4]
    refine gw_val (by kernel_rfl) (some 31) rfl (.pointer (some ⟨g, 0, none⟩)) (by kernel_rfl) ?_
    simp only [pu1, pu2, pu3, pu4]
    refine gw_val (by kernel_rfl) (some 32) rfl (.pointer (some ⟨g, 1, none⟩)) (by kernel_rfl) ?_
    simp only [pu1, pu2, pu3, pu4]
    refine gw_store (by kernel_rfl) rfl 3 (.tmp 32) (.tmp 30) rfl (.pointer (some ⟨g, 1, none⟩)) (.int .i64 (N + 1 : Nat)) (by kernel_rfl) (by kernel_rfl) _ (run_store_cell hX2 (by simp) rfl (by kernel_rfl)) ?_
    apply wpList_nil
    have hX3 : Bx (V2.setCell ⟨g, 1, none⟩ (.int .i64 (N + 1 : Nat))) g #[.slice a k c, .int .i64 (N + 1 : Nat)] 94 := hX2.setC _
    have hB3 := (But.of_below hB2 (Nat.le_of_lt hX.lt)).trans (But.setCell (g := g) V2 1 (.int .i64 (N + 1 : Nat)))
    generalize V2.setCell ⟨g, 1, none⟩ (.int .i64 (N + 1 : Nat)) = V3 at *
    have HX3 := Lib.hid hX3
    have HB3 := Lib.hid hB3
    clear hX2 hB2 hX3 hB3 hX
    go_wp2_with (go_at_call 18; refine (CP _ _).mono ?_; rintro e w9 ⟨rfl, rfl⟩)
    go_ret
    exact ⟨rfl, HB3.out, HX3.out⟩
theorem idx_row (b off n c k : Nat) (hk : k < n) (V : World) (ρ : Operand → Value) (o : Oper) {x y : Operand} (ho : o.op = .indexAddr 67 x y) (hx : ρ x = .slice (some ⟨b, off, none⟩) n c) (hy : ρ y = .int .i64 k) : (execOp ρ o).run Tryz.prog V = .ok (.value (.pointer (some ⟨b, off + k, none⟩))) V := by
  have hs : (sizeOf (Tryz.prog.elem 67)).run Tryz.prog V = .ok 1 V := by kernel_rfl
  have hlm : (k : Int) < (n : Int) := by omega
  unfold execOp
  simp only [ho, hx, hy]
  go_simp
theorem infoS : (Tryz.prog.info? 27).map (fun i => (i.zero, i.size, i.bytes)) = some (some (.slice none 0 0), 1, 24) := by kernel_rfl
theorem one_row (a : Option Addr) (n c : Nat) (w : World) : (Instr.buildSlice 67 1 #[(0, .slice a n c)]).run Tryz.prog w = .ok (.slice (some ⟨w.heap.size, 0, none⟩) 1 1) (w.alloc (.cells #[.slice a n c] 27)) := by
  obtain ⟨i0, hi, hz0, hz1, hz2⟩ := info_parts infoS
  refine run_buildSlice w 67 27 1 _ #[.slice a n c] i0 _ Tryz.underlying67 hi hz0 (by rw [hz1]; omega) (by rw [hz1]; omega) ?_
  rw [hz1]
  kernel_rfl
theorem add_nat {ρ : Operand → Value} {o : Oper} {x y : Operand} (ho : o.op = .binOp .add 3 x y 3) (a b : Nat) (h : a + b ≤ 9223372036854775807) (hx : ρ x = .int .i64 a) (hy : ρ y = .int .i64 b) (w : World) : (execOp ρ o).run Tryz.prog w = .ok (.value (.int .i64 (a + b : Nat))) w := by
  unfold execOp
  simp only [ho, hx, hy]
  simp [go_sem]
  rw [IntKind.wrap_i64]
  omega
set_option maxRecDepth 100000 in
set_option maxHeartbeats 2000000 in
theorem long_one (g : Nat) (a : Option Addr) (n c : Nat) (w : World) (hX : Bx w g #[.slice a n c] 27) (hn : n ≤ 9223372036854775807) : Calls Tryz.prog 7 #[.slice (some ⟨g, 0, none⟩) 1 1] w fun e w' => e = .returned (.bool (decide ((160 : Int) < (n : Int)))) ∧ w = w' := by
  have hl : (Instr.loadAt 27 (.pointer (some ⟨g, 0, none⟩))).run Tryz.prog w = .ok (.slice a n c) w := hX.load rfl (by kernel_rfl)
  clear hX
  go_enter Tryz.func7, Tryz.ntmps7
  go_wp2_with fail
  go_loopg [3, 8] 1 (fun gg s3 s8 wx => ((s3 = .int .i64 (0 : Nat) ∧ s8 = .int .i64 (0 : Nat) ∧ gg = 1) ∨ (s3 = .int .i64 (n : Nat) ∧ s8 = .int .i64 (1 : Nat) ∧ gg = 0)) ∧ w = wx)
  case atStart => exact ⟨.inl ⟨rfl, rfl, rfl⟩, rfl⟩
  case round =>
    obtain ⟨⟨rfl, rfl, rfl⟩ | ⟨rfl, rfl, rfl⟩, rfl⟩ := hrel
    · go_upto_region 4 with fail
      apply wp_region_lit
      refine gw_val (by kernel_rfl) (some 10) rfl (.pointer (some ⟨g, 0, none⟩)) (idx_row g 0 1 1 0 (by omega) w _ _ rfl (by kernel_rfl) (by kernel_rfl)) ?_
      simp only [pu1, pu2, pu3, pu4]
      refine gw_load (by kernel_rfl) (some 11) rfl 27 (.tmp 10) rfl ⟨g, 0, none⟩ (.slice a n c) (by kernel_rfl) (hl) ?_
      simp only [pu1, pu2, pu3, pu4]
      refine gw_val (by kernel_rfl) (some 5) rfl (.slice a n c) (by kernel_rfl) ?_
      simp only [pu1, pu2, pu3, pu4]
      apply wpList_nil
      go_upto_region 5 with fail
      apply wp_region_lit
      refine gw_val (by kernel_rfl) (some 12) rfl (.int .i64 (0 : Nat)) (by kernel_rfl) ?_
      simp only [pu1, pu2, pu3, pu4]
      refine gw_val (by kernel_rfl) (some 13) rfl (.slice a n c) (by kernel_rfl) ?_
      simp only [pu1, pu2, pu3, pu4]
      refine gw_val (by kernel_rfl) (some 14) rfl (.int .i64 n) (by kernel_rfl) ?_
      simp only [pu1, pu2, pu3, pu4]
      refine gw_val (by kernel_rfl) (some 15) rfl (.int .i64 (0 + n : Nat)) (add_nat rfl 0 n (by omega) (by kernel_rfl) (by kernel_rfl) w) ?_
      rw [Nat.zero_add]
      simp only [pu1, pu2, pu3, pu4]
      refine gw_val (by kernel_rfl) (some 3) rfl (.int .i64 n) (by kernel_rfl) ?_
      simp only [pu1, pu2, pu3, pu4]
      apply wpList_nil
      clear hl
      go_wp2_with fail
      go_roundg 0
      case measure => omega
      case rel => exact ⟨.inr ⟨rfl, rfl, rfl⟩, rfl⟩
    · clear hl
      go_wp2_with fail
      go_ret
      exact ⟨rfl, rfl⟩
theorem cut_int_from (a : Option Addr) (n c k : Nat) (w : World) (h : k ≤ n) : (Instr.slice 27 (.slice a n c) (some (.int .i64 (k : Int))) none none).run Tryz.prog w = .ok (.slice (fromS 1 a c k) (n - k) (c - k)) w := cut_from (s := 1) (by kernel_rfl) (fun w => by kernel_rfl) a n c k w h
theorem max_nat {ρ : Operand → Value} {o : Oper} {x y : Operand} (ho : o.op = .call { callee := .builtin .max, args := #[x, y], argTypes := #[3, 3] }) (a b : Nat) (hx : ρ x = .int .i64 a) (hy : ρ y = .int .i64 b) (w : World) : (execOp ρ o).run Tryz.prog w = .ok (.value (.int .i64 (max a b : Nat))) w := by
  unfold execOp
  simp only [ho, hx, hy, resolve, invoke, builtin, Sem.run_bind, Sem.run_pure, Result.andThen_ok, List.map_toArray, List.map_cons, List.map_nil]
  simp [go_sem]
  by_cases hab : a < b
  · rw [if_pos hab, Nat.max_eq_right (by omega)]
  · rw [if_neg hab, Nat.max_eq_left (by omega)]
end Go.Proofs.YtglglhcnofbagaaGreat
namespace Go.Proofs.YtglglhcnofbagaaGreat
open Go.RowKit
set_option linter.unusedSimpArgs false
set_option linter.unusedVariables false

theorem run_four {c0 c1 : Int} {f1 f2 f3 : Bool} (h : runN c0 c1 f1 f2 f3 = 4) : ((((240 ≤ c0 ∧ c0 < 245) ∧ f1 = true) ∧ f2 = true) ∧ f3 = true) ∧ ¬ ((c0 = 240 ∧ c1 < 144) ∨ (c0 = 244 ∧ 144 ≤ c1)) := by
 unfold runN at h
 split at h
 ·omega
 split at h
 ·omega
 split at h
 ·split at h <;> omega
 split at h
 ·rename_i h4
  split at h
  ·omega
  ·rename_i h5
   exact ⟨h4, h5⟩
 ·omega
theorem run_fffd {L : List Int} {i : Nat} (hb : ∀ j, 0 ≤ L.getD j 0 ∧ L.getD j 0 < 256) (h : runK L i ≠ 0) (e : runV L i = 65533) : runK L i = 3 := by
 have h4 := run_le L i
 have g0 := hb i
 have g1 := hb (i + 1)
 rcases (show runK L i = 1 ∨ runK L i = 2 ∨ runK L i = 3 ∨ runK L i = 4 by omega) with k | k | k | k
 ·unfold runV at e
  rw [k] at e
  simp only [valN, if_true] at e
  omega
 ·unfold runV at e
  rw [k] at e
  have e2 : (L.getD i 0 - 192) * 64 + (L.getD (i + 1) 0 - 128) = 65533 := e
  omega
 ·exact k
 ·have q := run_four k
  have h1 := fol_rng q.1.1.1.2
  have h2 := fol_rng q.1.1.2
  have h3 := fol_rng q.1.2
  unfold runV at e
  rw [k] at e
  have e2 : (L.getD i 0 - 240) * 262144 + (L.getD (i + 1) 0 - 128) * 4096 + (L.getD (i + 2) 0 - 128) * 64 + (L.getD (i + 3) 0 - 128) = 65533 := e
  omega
/-- How many runes from a place on; none if it is not UTF-8. -/
def runs (L : List Int) (i : Nat) : Option Nat :=
 if h : i < L.length then (if runK L i = 0 then none else (runs L (i + runK L i)).map (· + 1)) else some 0
termination_by L.length - i
decreasing_by omega
def nmB (c : Int) : Bool := (decide (97 ≤ c) && decide (c ≤ 122)) || (decide (48 ≤ c) && decide (c ≤ 57)) || decide (c = 45)
def isName (L : List Int) : Bool := L.all nmB && (decide (1 ≤ L.length) && decide (L.length ≤ 20))
def isMemo (L : List Int) : Bool := match runs L 0 with
 | none => false
 | some n => decide (n ≤ 64)
theorem all_no {L : List Int} {i : Nat} (h : i < L.length) (hb : nmB (L.getD i 0) = false) : isName L = false := by
 unfold isName
 have : L.all nmB = false := by
  rw [List.all_eq_false]
  exact ⟨L.getD i 0, by rw [List.getD_eq_getElem?_getD, List.getElem?_eq_getElem h]; exact List.getElem_mem h, by rw [hb]; simp⟩
 rw [this]
 rfl
theorem all_yes {L : List Int} (h : ∀ j, j < L.length → nmB (L.getD j 0) = true) : L.all nmB = true := by
 rw [List.all_eq_true]
 intro x hx
 obtain ⟨j, hj, rfl⟩ := List.mem_iff_getElem.1 hx
 have := h j hj
 rwa [List.getD_eq_getElem?_getD, List.getElem?_eq_getElem hj] at this
section
variable {ρ : Operand → Value} {o : Oper} {x y : Operand}
theorem ex_index (s : ByteArray) (i : Nat) (h : i < s.size) (ho : o.op = .index 9 x y) (hx : ρ x = .string s) (hy : ρ y = .int .i64 i) (w : World) : (execOp ρ o).run Tryz.prog w = .ok (.value (.int .u8 ((nums s).getD i 0))) w := by
 unfold execOp
 simp only [ho, hx, hy, Sem.run_bind, str_index s i h w]
 rfl
theorem geq_u (ho : o.op = .binOp .geq 5 x y 5) (a b : Int) {t : Bool} (ht : decide (b ≤ a) = t) (hx : ρ x = .int .u8 a) (hy : ρ y = .int .u8 b) (w : World) : (execOp ρ o).run Tryz.prog w = .ok (.value (.bool t)) w := by
 rw [← ht]
 unfold execOp
 simp only [ho, hx, hy]
 go_simp
theorem leq_u (ho : o.op = .binOp .leq 5 x y 5) (a b : Int) {t : Bool} (ht : decide (a ≤ b) = t) (hx : ρ x = .int .u8 a) (hy : ρ y = .int .u8 b) (w : World) : (execOp ρ o).run Tryz.prog w = .ok (.value (.bool t)) w := by
 rw [← ht]
 unfold execOp
 simp only [ho, hx, hy]
 go_simp
theorem lss_u (ho : o.op = .binOp .lss 5 x y 5) (a b : Int) {t : Bool} (ht : decide (a < b) = t) (hx : ρ x = .int .u8 a) (hy : ρ y = .int .u8 b) (w : World) : (execOp ρ o).run Tryz.prog w = .ok (.value (.bool t)) w := by
 rw [← ht]
 unfold execOp
 simp only [ho, hx, hy]
 go_simp
theorem eql_u (ho : o.op = .binOp .eql 5 x y 5) (a b : Int) {t : Bool} (ht : decide (a = b) = t) (hx : ρ x = .int .u8 a) (hy : ρ y = .int .u8 b) (w : World) : (execOp ρ o).run Tryz.prog w = .ok (.value (.bool t)) w := by
 have e : (a == b) = t := ht
 unfold execOp
 simp only [ho, hx, hy]
 go_simp
theorem geq_n (ho : o.op = .binOp .geq 3 x y 3) (a b : Int) {t : Bool} (ht : decide (b ≤ a) = t) (hx : ρ x = .int .i64 a) (hy : ρ y = .int .i64 b) (w : World) : (execOp ρ o).run Tryz.prog w = .ok (.value (.bool t)) w := by
 rw [← ht]
 unfold execOp
 simp only [ho, hx, hy]
 go_simp
theorem leq_n (ho : o.op = .binOp .leq 3 x y 3) (a b : Int) {t : Bool} (ht : decide (a ≤ b) = t) (hx : ρ x = .int .i64 a) (hy : ρ y = .int .i64 b) (w : World) : (execOp ρ o).run Tryz.prog w = .ok (.value (.bool t)) w := by
 rw [← ht]
 unfold execOp
 simp only [ho, hx, hy]
 go_simp
theorem lss_n (ho : o.op = .binOp .lss 3 x y 3) (a b : Int) {t : Bool} (ht : decide (a < b) = t) (hx : ρ x = .int .i64 a) (hy : ρ y = .int .i64 b) (w : World) : (execOp ρ o).run Tryz.prog w = .ok (.value (.bool t)) w := by
 rw [← ht]
 unfold execOp
 simp only [ho, hx, hy]
 go_simp
end
/-- A byte of a string at the operation. -/
def StrAt (s : ByteArray) (i : Nat) (c : Int) : Prop := ∀ (ρ : Operand → Value) (o : Oper) (x y : Operand), o.op = .index 9 x y → ρ x = .string s → ρ y = .int .i64 i → ∀ w, (execOp ρ o).run Tryz.prog w = .ok (.value (.int .u8 c)) w
theorem str_at (s : ByteArray) (i : Nat) (h : i < s.size) : StrAt s i ((nums s).getD i 0) := fun ρ o x y ho hx hy w => ex_index s i h ho hx hy w
end Go.Proofs.YtglglhcnofbagaaGreat
