/-
  Texts U1 RW CB UM UG joined.
-/
import Derived.Test.YtnhlpahoomcgnaaJ2
import GoSem.Core.Utf8
import Derived.Test.YtnhlpahoomcgnaaJ1
import Derived.Deep.Onto
import Derived.Laws.Tables
import Derived.Lib.SmallJoins
set_option maxRecDepth 100000
set_option maxHeartbeats 8000000
set_option linter.unusedSimpArgs false
set_option linter.unusedVariables false
namespace Go.Proofs.Ytnhlpahoomcgnaa
def runN (c0 c1 : Int) (f1 f2 f3 : Bool) : Nat :=
 if c0 < 128 then 1
 else if (194 ≤ c0 ∧ c0 < 224) ∧ f1 = true then 2
 else if ((224 ≤ c0 ∧ c0 < 240) ∧ f1 = true) ∧ f2 = true then (if (c0 = 224 ∧ c1 < 160) ∨ (c0 = 237 ∧ 160 ≤ c1) then 0 else 3)
 else if (((240 ≤ c0 ∧ c0 < 245) ∧ f1 = true) ∧ f2 = true) ∧ f3 = true then (if (c0 = 240 ∧ c1 < 144) ∨ (c0 = 244 ∧ 144 ≤ c1) then 0 else 4)
 else 0
def Nq (k : Nat) (c0 c1 c2 c3 : Int) : Int :=
 if k = 1 then c0
 else if k = 2 then (c0 - 192) * 64 + (c1 - 128)
 else if k = 3 then (c0 - 224) * 4096 + (c1 - 128) * 64 + (c2 - 128)
 else if k = 4 then (c0 - 240) * 262144 + (c1 - 128) * 4096 + (c2 - 128) * 64 + (c3 - 128)
 else 65533
def cnt (s : ByteArray) (i k : Nat) : Bool := i + k < s.size && (s.get! (i + k)).toNat / 64 == 2
theorem VX (n : Nat) : Utf8.valid (n : Int) = decide (n < 55296 ∨ (57344 ≤ n ∧ n ≤ 1114111)) := by
 unfold Utf8.valid
 rw [Bool.eq_iff_iff]
 simp only [Bool.or_eq_true, Bool.and_eq_true, decide_eq_true_eq]
 omega
theorem BA (s : ByteArray) (i b0 b1 b2 b3 : Nat) (f1 f2 f3 : Bool) (e0 : (s.get! (i + 0)).toNat = b0) (e1 : (s.get! (i + 1)).toNat = b1) (e2 : (s.get! (i + 2)).toNat = b2) (e3 : (s.get! (i + 3)).toNat = b3) (c1 : (decide (i + 1 < s.size) && b1 / 64 == 2) = f1) (c2 : (decide (i + 2 < s.size) && b2 / 64 == 2) = f2) (c3 : (decide (i + 3 < s.size) && b3 / 64 == 2) = f3) (q0 : b0 < 256) (h1 : f1 = true → 128 ≤ b1 ∧ b1 < 192) (h2 : f2 = true → 128 ≤ b2 ∧ b2 < 192) (h3 : f3 = true → 128 ≤ b3 ∧ b3 < 192) :
  (Utf8.decode s i).2 = (if runN b0 b1 f1 f2 f3 = 0 then 1 else runN b0 b1 f1 f2 f3) ∧ ((Utf8.decode s i).1 : Int) = (if runN b0 b1 f1 f2 f3 = 0 then 65533 else Nq (runN b0 b1 f1 f2 f3) b0 b1 b2 b3) := by
 have fin : ∀ (k c : Nat), runN b0 b1 f1 f2 f3 = k → Utf8.decode s i = (c, if k = 0 then 1 else k) → (c : Int) = (if k = 0 then 65533 else Nq k b0 b1 b2 b3) →
   (Utf8.decode s i).2 = (if runN b0 b1 f1 f2 f3 = 0 then 1 else runN b0 b1 f1 f2 f3) ∧ ((Utf8.decode s i).1 : Int) = (if runN b0 b1 f1 f2 f3 = 0 then 65533 else Nq (runN b0 b1 f1 f2 f3) b0 b1 b2 b3) := fun k c hr hd hc => by
  rw [hr, hd]
  exact ⟨rfl, hc⟩
 by_cases k1 : b0 < 128
 ·refine fin 1 b0 ?_ ?_ ?_
  ·unfold runN; rw [if_pos (by omega)]
  ·unfold Utf8.decode; simp only [e0, e1, e2, e3, c1, c2, c3]; rw [if_pos k1]; rfl
  ·simp [Nq]
 have k1' : ¬ (b0 : Int) < 128 := by omega
 by_cases k2 : b0 / 32 = 6
 ·have z3 : ¬ (((224 ≤ (b0 : Int) ∧ (b0 : Int) < 240) ∧ f1 = true) ∧ f2 = true) := by rintro ⟨⟨⟨_, _⟩, _⟩, _⟩; omega
  have z4 : ¬ ((((240 ≤ (b0 : Int) ∧ (b0 : Int) < 245) ∧ f1 = true) ∧ f2 = true) ∧ f3 = true) := by rintro ⟨⟨⟨⟨_, _⟩, _⟩, _⟩, _⟩; omega
  by_cases y1 : f1 = true
  ·have hb1 := h1 y1
   by_cases k3 : 194 ≤ b0
   ·refine fin 2 (b0 % 32 * 64 + b1 % 64) ?_ ?_ ?_
    ·unfold runN; rw [if_neg k1', if_pos ⟨⟨by omega, by omega⟩, y1⟩]
    ·unfold Utf8.decode; simp only [e0, e1, e2, e3, c1, c2, c3]; rw [if_neg k1, if_pos (by simp [k2, y1]), if_pos (by omega)]; rfl
    ·simp [Nq]; omega
   ·refine fin 0 65533 ?_ ?_ rfl
    ·unfold runN; rw [if_neg k1', if_neg (by rintro ⟨⟨_, _⟩, _⟩; omega), if_neg z3, if_neg z4]
    ·unfold Utf8.decode; simp only [e0, e1, e2, e3, c1, c2, c3]; rw [if_neg k1, if_pos (by simp [k2, y1]), if_neg (by omega)]; rfl
  ·refine fin 0 65533 ?_ ?_ rfl
   ·unfold runN; rw [if_neg k1', if_neg (fun h => y1 h.2), if_neg z3, if_neg z4]
   ·unfold Utf8.decode; simp only [e0, e1, e2, e3, c1, c2, c3]; rw [if_neg k1, if_neg (by simp [y1]), if_neg (by simp [y1]), if_neg (by simp [y1])]; rfl
 have z2 : ¬ ((194 ≤ (b0 : Int) ∧ (b0 : Int) < 224) ∧ f1 = true) := by rintro ⟨⟨_, _⟩, _⟩; omega
 have d2 : ¬ ((b0 / 32 == 6 && f1) = true) := by simp [k2]
 by_cases k3 : b0 / 16 = 14
 ·have z4 : ¬ ((((240 ≤ (b0 : Int) ∧ (b0 : Int) < 245) ∧ f1 = true) ∧ f2 = true) ∧ f3 = true) := by rintro ⟨⟨⟨⟨_, _⟩, _⟩, _⟩, _⟩; omega
  have d4 : ¬ ((b0 / 8 == 30 && f1 && f2 && f3) = true) := by
   have : b0 / 8 ≠ 30 := by omega
   simp [this]
  by_cases y1 : f1 = true ∧ f2 = true
  ·have hb1 := h1 y1.1
   have hb2 := h2 y1.2
   have d3 : (b0 / 16 == 14 && f1 && f2) = true := by simp [k3, y1.1, y1.2]
   have z3 : ((224 ≤ (b0 : Int) ∧ (b0 : Int) < 240) ∧ f1 = true) ∧ f2 = true := ⟨⟨⟨by omega, by omega⟩, y1.1⟩, y1.2⟩
   by_cases k4 : (b0 = 224 ∧ b1 < 160) ∨ (b0 = 237 ∧ 160 ≤ b1)
   ·refine fin 0 65533 ?_ ?_ rfl
    ·unfold runN; rw [if_neg k1', if_neg z2, if_pos z3, if_pos (by omega)]
    ·unfold Utf8.decode; simp only [e0, e1, e2, e3, c1, c2, c3]; rw [if_neg k1, if_neg d2, if_pos d3, VX, if_neg (by simp only [Bool.and_eq_true, decide_eq_true_eq]; omega)]; rfl
   ·refine fin 3 (b0 % 16 * 4096 + b1 % 64 * 64 + b2 % 64) ?_ ?_ ?_
    ·unfold runN; rw [if_neg k1', if_neg z2, if_pos z3, if_neg (by omega)]
    ·unfold Utf8.decode; simp only [e0, e1, e2, e3, c1, c2, c3]; rw [if_neg k1, if_neg d2, if_pos d3, VX, if_pos (by simp only [Bool.and_eq_true, decide_eq_true_eq]; omega)]; rfl
    ·simp [Nq]; omega
  ·have z3 : ¬ (((224 ≤ (b0 : Int) ∧ (b0 : Int) < 240) ∧ f1 = true) ∧ f2 = true) := fun h => y1 ⟨h.1.2, h.2⟩
   have d3 : ¬ ((b0 / 16 == 14 && f1 && f2) = true) := by
    simp only [Bool.and_eq_true]
    exact fun h => y1 ⟨h.1.2, h.2⟩
   refine fin 0 65533 ?_ ?_ rfl
   ·unfold runN; rw [if_neg k1', if_neg z2, if_neg z3, if_neg z4]
   ·unfold Utf8.decode; simp only [e0, e1, e2, e3, c1, c2, c3]; rw [if_neg k1, if_neg d2, if_neg d3, if_neg d4]; rfl
 have z3 : ¬ (((224 ≤ (b0 : Int) ∧ (b0 : Int) < 240) ∧ f1 = true) ∧ f2 = true) := by rintro ⟨⟨⟨_, _⟩, _⟩, _⟩; omega
 have d3 : ¬ ((b0 / 16 == 14 && f1 && f2) = true) := by simp [k3]
 by_cases k5 : b0 / 8 = 30
 ·by_cases y1 : (f1 = true ∧ f2 = true) ∧ f3 = true
  ·have hb1 := h1 y1.1.1
   have hb2 := h2 y1.1.2
   have hb3 := h3 y1.2
   have d4 : (b0 / 8 == 30 && f1 && f2 && f3) = true := by simp [k5, y1.1.1, y1.1.2, y1.2]
   by_cases k6 : b0 < 245
   ·have z4 : (((240 ≤ (b0 : Int) ∧ (b0 : Int) < 245) ∧ f1 = true) ∧ f2 = true) ∧ f3 = true := ⟨⟨⟨⟨by omega, by omega⟩, y1.1.1⟩, y1.1.2⟩, y1.2⟩
    by_cases k4 : (b0 = 240 ∧ b1 < 144) ∨ (b0 = 244 ∧ 144 ≤ b1)
    ·refine fin 0 65533 ?_ ?_ rfl
     ·unfold runN; rw [if_neg k1', if_neg z2, if_neg z3, if_pos z4, if_pos (by omega)]
     ·unfold Utf8.decode; simp only [e0, e1, e2, e3, c1, c2, c3]; rw [if_neg k1, if_neg d2, if_neg d3, if_pos d4, VX, if_neg (by simp only [Bool.and_eq_true, decide_eq_true_eq]; omega)]; rfl
    ·refine fin 4 (b0 % 8 * 262144 + b1 % 64 * 4096 + b2 % 64 * 64 + b3 % 64) ?_ ?_ ?_
     ·unfold runN; rw [if_neg k1', if_neg z2, if_neg z3, if_pos z4, if_neg (by omega)]
     ·unfold Utf8.decode; simp only [e0, e1, e2, e3, c1, c2, c3]; rw [if_neg k1, if_neg d2, if_neg d3, if_pos d4, VX, if_pos (by simp only [Bool.and_eq_true, decide_eq_true_eq]; omega)]; rfl
     ·simp [Nq]; omega
   ·have z4 : ¬ ((((240 ≤ (b0 : Int) ∧ (b0 : Int) < 245) ∧ f1 = true) ∧ f2 = true) ∧ f3 = true) := by rintro ⟨⟨⟨⟨_, _⟩, _⟩, _⟩, _⟩; omega
    refine fin 0 65533 ?_ ?_ rfl
    ·unfold runN; rw [if_neg k1', if_neg z2, if_neg z3, if_neg z4]
    ·unfold Utf8.decode; simp only [e0, e1, e2, e3, c1, c2, c3]; rw [if_neg k1, if_neg d2, if_neg d3, if_pos d4, VX, if_neg (by simp only [Bool.and_eq_true, decide_eq_true_eq]; omega)]; rfl
  ·have z4 : ¬ ((((240 ≤ (b0 : Int) ∧ (b0 : Int) < 245) ∧ f1 = true) ∧ f2 = true) ∧ f3 = true) := fun h => y1 ⟨⟨h.1.1.2, h.1.2⟩, h.2⟩
   have d4 : ¬ ((b0 / 8 == 30 && f1 && f2 && f3) = true) := by
    simp only [Bool.and_eq_true]
    exact fun h => y1 ⟨⟨h.1.1.2, h.1.2⟩, h.2⟩
   refine fin 0 65533 ?_ ?_ rfl
   ·unfold runN; rw [if_neg k1', if_neg z2, if_neg z3, if_neg z4]
   ·unfold Utf8.decode; simp only [e0, e1, e2, e3, c1, c2, c3]; rw [if_neg k1, if_neg d2, if_neg d3, if_neg d4]; rfl
 have z4 : ¬ ((((240 ≤ (b0 : Int) ∧ (b0 : Int) < 245) ∧ f1 = true) ∧ f2 = true) ∧ f3 = true) := by rintro ⟨⟨⟨⟨_, _⟩, _⟩, _⟩, _⟩; omega
 have d4 : ¬ ((b0 / 8 == 30 && f1 && f2 && f3) = true) := by simp [k5]
 refine fin 0 65533 ?_ ?_ rfl
 ·unfold runN; rw [if_neg k1', if_neg z2, if_neg z3, if_neg z4]
 ·unfold Utf8.decode; simp only [e0, e1, e2, e3, c1, c2, c3]; rw [if_neg k1, if_neg d2, if_neg d3, if_neg d4]; rfl
def QO (L : List Int) (i : Nat) : Bool := decide (i < L.length) && (decide (128 ≤ L.getD i 0) && decide (L.getD i 0 < 192))
def runK (L : List Int) (i : Nat) : Nat := runN (L.getD i 0) (L.getD (i + 1) 0) (QO L (i + 1)) (QO L (i + 2)) (QO L (i + 3))
def NM (L : List Int) (i : Nat) : Int := Nq (runK L i) (L.getD i 0) (L.getD (i + 1) 0) (L.getD (i + 2) 0) (L.getD (i + 3) 0)
theorem WQ (s : ByteArray) (j : Nat) : (nums s).getD j 0 = ((s.get! j).toNat : Int) := by
 by_cases h : j < s.size
 ·rw [GZ s j h]
  congr 1
  show _ = (s.data[j]!).toNat
  rw [getElem!_pos s.data j h]
  rfl
 ·have hl : (nums s).length ≤ j := by rw [Zx]; omega
  rw [List.getD_eq_getElem?_getD, List.getElem?_eq_none hl]
  show 0 = ((s.data[j]!).toNat : Int)
  rw [getElem!_neg s.data j h]
  rfl
theorem QL (s : ByteArray) (i k : Nat) : QO (nums s) (i + k) = cnt s i k := by
 unfold QO cnt
 rw [WQ, Zx]
 generalize (s.get! (i + k)).toNat = b
 rw [Bool.eq_iff_iff]
 simp only [Bool.and_eq_true, decide_eq_true_eq, beq_iff_eq]
 omega
theorem Yc {L : List Int} {i : Nat} (h : QO L i = true) : i < L.length ∧ 128 ≤ L.getD i 0 ∧ L.getD i 0 < 192 := by
 unfold QO at h
 simp only [Bool.and_eq_true, decide_eq_true_eq] at h
 exact h
theorem NK {L : List Int} {i : Nat} (h : i < L.length) : i + runK L i ≤ L.length := by
 unfold runK runN
 have h1 := @Yc L (i + 1)
 have h2 := @Yc L (i + 2)
 have h3 := @Yc L (i + 3)
 repeat' split
 ·omega
 ·rename_i h4; have := h1 h4.2; omega
 ·omega
 ·rename_i h4 _; have := h2 h4.2; omega
 ·omega
 ·rename_i h4 _; have := h3 h4.2; omega
 ·omega
theorem NH (L : List Int) (i : Nat) : runK L i ≤ 4 := by
 unfold runK runN
 repeat' split
 all_goals omega
theorem xK (s : ByteArray) (i : Nat) : (Utf8.decode s i).2 = (if runK (nums s) i = 0 then 1 else runK (nums s) i) ∧ ((Utf8.decode s i).1 : Int) = (if runK (nums s) i = 0 then 65533 else NM (nums s) i) := by
 have h1 := @Yc (nums s) (i + 1)
 have h2 := @Yc (nums s) (i + 2)
 have h3 := @Yc (nums s) (i + 3)
 unfold NM runK
 rw [QL] at h1 h2 h3
 rw [QL, QL, QL]
 rw [WQ] at h1 h2 h3
 rw [WQ, WQ, WQ, WQ]
 have q0 : (s.get! (i + 0)).toNat < 256 := (s.get! (i + 0)).toNat_lt
 exact BA s i _ _ _ _ _ _ _ rfl rfl rfl rfl rfl rfl rfl q0 (fun h => by have := h1 h; omega) (fun h => by have := h2 h; omega) (fun h => by have := h3 h; omega)
end Go.Proofs.Ytnhlpahoomcgnaa
namespace Go.Proofs.Ytnhlpahoomcgnaa
open Go.RowKit
def Cs (w : World) (a : Option Addr) (cs : List Value) : Prop := ∀ j v, cs[j]? = some v → ∃ b off, a = some ⟨b, off, none⟩ ∧ b < w.heap.size ∧ w.cell? ⟨b, off + j, none⟩ = some v
theorem Cs.nil (w : World) (a : Option Addr) : Cs w a [] := fun j v h => by simp at h
theorem Cs.below {w w' : World} {a : Option Addr} {cs : List Value} (h : Cs w a cs) (hb : Below w.heap.size w w') : Cs w' a cs := fun j v hj => by
  obtain ⟨b, off, e, hlt, hc⟩ := h j v hj
  exact ⟨b, off, e, Nat.lt_of_lt_of_le hlt hb.size, (hb.cell (p := ⟨b, off + j, none⟩) hlt).trans hc⟩
theorem Cs.take {w : World} {a : Option Addr} {cs : List Value} (h : Cs w a cs) (k : Nat) : Cs w a (cs.take k) := fun j v hj => by
  rw [List.getElem?_take] at hj
  split at hj
  · exact h j v hj
  · cases hj
def Zc (s : Nat) (a : Option Addr) (c k : Nat) : Option Addr := if c = k then a else a.map (·.add (k * s))
theorem Cs.from {w : World} {a : Option Addr} {cs : List Value} (h : Cs w a cs) (s c k : Nat) (hc : cs.length ≤ c * s) : Cs w (Zc s a c k) (cs.drop (k * s)) := fun j v hj => by
  rw [List.getElem?_drop] at hj
  have hlt : k * s + j < cs.length := (List.getElem?_eq_some_iff.1 hj).1
  obtain ⟨b, off, rfl, hb, hcell⟩ := h _ v hj
  refine ⟨b, off + k * s, ?_, hb, by rw [Nat.add_assoc]; exact hcell⟩
  unfold Zc
  rw [if_neg (by rintro rfl; omega)]
  simp only [Option.map_some]
  rw [Addr.add_mid]
theorem Cs.block {w : World} {g t : Nat} {cs : List Value} {fr : Nat × Nat} (h : w.heap[g]? = some (.cells cs.toArray t fr)) : Cs w (some ⟨g, 0, none⟩) cs := fun j v hj => by
  refine ⟨g, 0, rfl, (Array.getElem?_eq_some_iff.1 h).1, ?_⟩
  rw [Nat.zero_add, cell_of_row w g j _ t fr h]
  simpa using hj
theorem Yj {w : World} {B e s n : Nat} {v : Value} {cs : List Value} (h : w.ownsRow B e s v n cs) : ∃ a c, v = .slice a n c ∧ Cs w a cs ∧ n ≤ c := by
  have hlen := h.1
  rcases h.2 with ⟨rfl, h0⟩ | ⟨g, cap, cur, rfl, hb, hg, hcap, hm, hcs, htk⟩
  · refine ⟨none, 0, by rw [h0], ?_, by omega⟩
    have : cs = [] := List.eq_nil_of_length_eq_zero (by rw [hlen, h0]; simp)
    rw [this]
    exact Cs.nil _ _
  · refine ⟨some ⟨g, 0, none⟩, cap, rfl, fun j v hj => ⟨g, 0, rfl, (Array.getElem?_eq_some_iff.1 hg).1, ?_⟩, hcap⟩
    have := h.cells (g := g) rfl j v hj
    rw [← this, Go.WideShapes.add_plain]
section
variable {P : Program} {t e s bytes : Nat} {z : Value}
theorem Si (hu : P.underlying t = some (.slice e)) (hinfo : (P.info? e).map (fun i => (i.zero, i.size, i.bytes)) = some (some z, s, bytes)) (hzs : z.cells.size = s) (hs : 0 < s) (hby : bytes ≤ 1000)
    {w : World} {B n m : Nat} {v : Value} {xs : List Value} (hO : w.ownsRow B e s v n xs) (pa : Option Addr) (cp : Nat) (ys : List Value) (hP : Cs w pa ys) (hl : ys.length = m * s) (h1 : ∀ u ∈ ys, u.oneCell' = true) (hB : B ≤ w.heap.size) (hn : n ≤ 100000) (hm : m ≤ 100000) :
    ∃ v' w', (Builtin.append_ #[t, t] t #[v, .slice pa m cp]).run P w = .ok v' w' ∧ w'.ownsRow B e s v' (n + m) (xs ++ ys) ∧ Below B w w' ∧ w.grownBy w' v.ownBlock := by
  obtain ⟨i0, hi, hz0, hz1, hz2⟩ := info_parts hinfo
  by_cases hy : ys = []
  · subst hy
    obtain rfl : m = 0 := by
      rcases Nat.eq_zero_or_pos m with h | h
      · exact h
      · have := Nat.mul_pos h hs
        rw [← hl] at this
        simp at this
    cases pa with
    | none =>
      refine ⟨v, w, ?_, by simpa using hO, Below.refl _ _, World.grownBy.refl w _⟩
      rcases hO.2 with ⟨rfl, h0⟩ | ⟨g, cap, cur, rfl, _, _, hnc, _⟩
      · simp [Builtin.append_, run_underlying hu, sizeOf, typeInfo, hi, Builtin.lenOf, Builtin.firstCells]
      · simp [Builtin.append_, run_underlying hu, sizeOf, typeInfo, hi, Builtin.lenOf, Builtin.firstCells, hnc, storeCells]
    | some x =>
      obtain ⟨v', w', hr, h2, h3, -, -⟩ := run_append_own_at (P := P) w B t t e i0 z s bytes hu hi hz0 hz1 hz2 hzs hs v n xs hO x 0 cp [] (by simp) (fun j u h => by simp at h) (by simp) (by unfold maxLen; omega) (by have := Nat.mul_le_mul (show n + 0 ≤ 100000 by omega) hby; omega) hB
      exact ⟨v', w', hr, h2, (Below.refl _ w).grown h3 hB (fun j hj => (hO.lt j hj).1), h3⟩
  · obtain ⟨y, hy0⟩ : ∃ y, ys[0]? = some y := by
      cases ys with
      | nil => exact absurd rfl hy
      | cons y r => exact ⟨y, rfl⟩
    obtain ⟨b, off, rfl, -⟩ := hP 0 y hy0
    have hcells : ∀ j u, ys[j]? = some u → w.cell? ((⟨b, off, none⟩ : Addr).add j) = some u := fun j u hu => by
      obtain ⟨b2, off2, e2, -, hc⟩ := hP j u hu
      simp only [Option.some.injEq, Addr.mk.injEq, and_true] at e2
      obtain ⟨rfl, rfl⟩ := e2
      rw [Addr.add_mid]
      exact hc
    obtain ⟨v', w', hr, h2, h3, -, -⟩ := run_append_own_at (P := P) w B t t e i0 z s bytes hu hi hz0 hz1 hz2 hzs hs v n xs hO ⟨b, off, none⟩ m cp ys hl hcells h1 (by unfold maxLen; omega) (by have := Nat.mul_le_mul (show n + m ≤ 200000 by omega) hby; omega) hB
    exact ⟨v', w', hr, h2, (Below.refl _ w).grown h3 hB (fun j hj => (hO.lt j hj).1), h3⟩
theorem Gn (hu : P.underlying t = some (.slice e)) (hinfo : (P.info? e).map (fun i => (i.zero, i.size, i.bytes)) = some (some z, s, bytes)) (w : World) : (Instr.buildSlice t 0 #[]).run P w = .ok (.slice (some ⟨w.heap.size, 0, none⟩) 0 0) (w.alloc (.cells #[] e)) := by
  obtain ⟨i0, hi, hz0, hz1, hz2⟩ := info_parts hinfo
  simp [Instr.buildSlice, run_underlying hu, sizeOf, typeInfo, hi, newRow, go_sem]
theorem Ob (w : World) (e s : Nat) : (w.alloc (.cells #[] e)).ownsRow w.heap.size e s (.slice (some ⟨w.heap.size, 0, none⟩) 0 0) 0 [] :=
  ⟨by simp, .inr ⟨w.heap.size, 0, #[], rfl, Nat.le_refl _, heap_alloc_last w _, Nat.le_refl _, by simp [maxLen], by simp, by simp⟩⟩
theorem qP (hu : P.underlying t = some (.slice (P.elem t))) (hs : ∀ w, (sizeOf (P.elem t)).run P w = .ok s w) (a : Option Addr) (n c k : Nat) (w : World) (h : k ≤ c) : (Instr.slice t (.slice a n c) none (some (Z8 (k : Int))) none).run P w = .ok (.slice a k c) w := by
  have q := run_slice_h (P := P) w t a n c hu .i64 (k : Int) (by omega) (by omega)
  rw [q, hs]
  cases a <;> simp [sliced, Result.andThen, Addr.add]
theorem LP (hu : P.underlying t = some (.slice (P.elem t))) (hs : ∀ w, (sizeOf (P.elem t)).run P w = .ok s w) (a : Option Addr) (n c k : Nat) (w : World) (h : k ≤ n) : (Instr.slice t (.slice a n c) (some (Z8 (k : Int))) none none).run P w = .ok (.slice (Zc s a c k) (n - k) (c - k)) w := by
  have q := run_slice_l (P := P) w t a n c hu .i64 (k : Int) (by omega) (by omega)
  rw [q, hs]
  by_cases hk : c = k <;> cases a <;> simp [sliced, Result.andThen, Zc, hk]
end
def XO (L : List Int) : List Value := L.map (Value.int .i64)
theorem OQ (L : List Int) (k : Nat) (h : k < L.length) : (XO L)[k]? = some (Z8 (L.getD k 0)) := by
  simp [XO, List.getD, List.getElem?_eq_getElem h]
theorem YV {w : World} {t : TypeId} {a : Addr} {v : Value} (h : w.cell? a = some v) (hag : (isAgg t).run Try.prog w = .ok false w) : (Instr.loadAt t (.pointer (some a))).run Try.prog w = .ok v w := by
  simp [Instr.loadAt, Instr.sureAddr, loadVar, hag, run_load, h, Result.andThen]
def Bx (w : World) (g : Nat) (cs : Array Value) (t : Nat) : Prop := w.heap[g]? = some (.cells cs t (0, 0))
theorem Bx.lt {w : World} {g t : Nat} {cs : Array Value} (h : Bx w g cs t) : g < w.heap.size := (Array.getElem?_eq_some_iff.1 h).1
theorem Bx.below {w w' : World} {g t B : Nat} {cs : Array Value} (h : Bx w g cs t) (hg : g < B) (hb : Below B w w') : Bx w' g cs t := (hb.block g hg).trans h
theorem Bx.load {w : World} {g t i : Nat} {cs : Array Value} {v : Value} {ty : TypeId} (h : Bx w g cs t) (hv : cs[i]? = some v) (hag : (isAgg ty).run Try.prog w = .ok false w) : (Instr.loadAt ty (Z5 g i)).run Try.prog w = .ok v w :=
  YV ((cell_of_row w g i _ t (0, 0) h).trans hv) hag
theorem Bx.ZN {w : World} {g t : Nat} {cs : Array Value} (h : Bx w g cs t) (i : Nat) {v : Value} {ty : TypeId} (hv : cs[i]? = some v := by rfl) (hag : (isAgg ty).run Try.prog w = .ok false w := by kernel_rfl) : (Instr.loadAt ty (.pointer (some ⟨g, i, none⟩))).run Try.prog w = .ok v w := h.load hv hag
theorem wV (b off n c k : Nat) (hk : k < n) (V : World) (ρ : Operand → Value) (o : Oper) {x y : Operand} (ho : o.op = .indexAddr 24 x y) (hx : ρ x = .slice (some ⟨b, off, none⟩) n c) (hy : ρ y = Z8 k) : (execOp ρ o).run Try.prog V = .ok (.value (Z5 b (off + k))) V := by
  have hs : (sizeOf (Try.prog.elem 24)).run Try.prog V = .ok 1 V := by kernel_rfl
  have hlm : (k : Int) < (n : Int) := by omega
  unfold execOp
  simp only [ho, hx, hy]
  go_simp
theorem DT {w : World} {a : Option Addr} {L : List Int} (h : Cs w a (XO L)) {k : Nat} (hk : k < L.length) : ∃ b off, a = some ⟨b, off, none⟩ ∧ b < w.heap.size ∧ w.cell? ⟨b, off + k, none⟩ = some (Z8 (L.getD k 0)) := h _ _ (OQ L k hk)
theorem ZT {w w0 : World} {g B : Nat} (h : Below B w0 w) (hn : B ≤ g) (cs : Array Value) : Below B w0 (w.setRow g cs) :=
  ⟨h.os, h.tape, h.output, by rw [size_setRow]; exact h.size, fun k hk => (setRow_other w g k cs (by omega)).trans (h.block k hk)⟩
def But (g : Nat) (w w' : World) : Prop := Below g w w' ∧ ∀ k, k < w.heap.size → k ≠ g → w'.heap[k]? = w.heap[k]?
theorem But.refl (g : Nat) (w : World) : But g w w := ⟨Below.refl _ _, fun _ _ _ => rfl⟩
theorem But.trans {g : Nat} {a b c : World} (h : But g a b) (k : But g b c) : But g a c :=
  ⟨h.1.trans k.1, fun i hi hn => (k.2 i (by have := h.1.size; omega) hn).trans (h.2 i hi hn)⟩
theorem But.of_below {g : Nat} {w w' : World} (h : Below w.heap.size w w') (hg : g ≤ w.heap.size) : But g w w' := ⟨h.mono hg, fun k hk _ => h.block k hk⟩
theorem But.setRow {g : Nat} (w : World) (cs : Array Value) : But g w (w.setRow g cs) :=
  ⟨ZT (Below.refl _ _) (Nat.le_refl _) cs, fun k _ hn => setRow_other w g k cs hn⟩
theorem Bx.but {w w' : World} {g k t : Nat} {cs : Array Value} (h : Bx w k cs t) (hb : But g w w') (hn : k ≠ g) : Bx w' k cs t := (hb.2 k h.lt hn).trans h
theorem Bx.set {w : World} {g t : Nat} {cs cs' : Array Value} (h : Bx w g cs t) : Bx (w.setRow g cs') g cs' t := setRow_heap _ _ _ _ _ _ h
theorem Cs.but {w w' : World} {g : Nat} {a : Option Addr} {cs : List Value} (h : Cs w a cs) (hb : But g w w') (hn : ∀ x, a = some x → x.block ≠ g) : Cs w' a cs := fun j v hj => by
  obtain ⟨b, off, e, hlt, hc⟩ := h j v hj
  refine ⟨b, off, e, Nat.lt_of_lt_of_le hlt hb.1.size, ?_⟩
  rw [← hc]
  unfold World.cell?
  rw [hb.2 b hlt (hn _ e)]
theorem Zv {w w' : World} {g B e size n : Nat} {v : Value} {xs : List Value} (h : w.ownsRow B e size v n xs) (hb : But g w w') (hn : g < B) : w'.ownsRow B e size v n xs := by
  refine ⟨h.1, ?_⟩
  rcases h.2 with h0 | ⟨k, cap, cur, ev, hB, hg, r⟩
  · exact .inl h0
  · exact .inr ⟨k, cap, cur, ev, hB, (hb.2 k (Array.getElem?_eq_some_iff.1 hg).1 (by omega)).trans hg, r⟩
theorem WS {w : World} {g t i : Nat} {cs : Array Value} {v : Value} {ty : TypeId} (h : Bx w g cs t) (hi : i < cs.size) (h1 : v.oneCell' = true) (hs : (Try.prog.info? ty).map (·.size) = some 1) :
    (Instr.storeAt ty (Z5 g i) v).run Try.prog w = .ok () (w.setCell ⟨g, i, none⟩ v) := by
  have hc : v.cells = #[v] := by cases v <;> first | rfl | cases h1
  have hcell : w.cell? ⟨g, i, none⟩ = some cs[i] := by rw [cell_of_row w g i _ t (0, 0) h]; simp [hi]
  have hfz : w.frozen? ⟨g, i, none⟩ = false := frozen_of_row w g i _ t h
  have ha : (⟨g, i, none⟩ : Addr).add 0 = ⟨g, i, none⟩ := by simp [Addr.add]
  cases hq : Try.prog.info? ty with
  | none => simp [hq] at hs
  | some j =>
    have hs : j.size = 1 := by simpa [hq] using hs
    simp [Instr.storeAt, Instr.sureAddr, storeVar, sizeOf, typeInfo, hq, hc, hs, storeCells, run_store _ _ _ _ _ h1, ha, hcell, hfz]
theorem But.setCell {g : Nat} (w : World) (o : Nat) (v : Value) : But g w (w.setCell ⟨g, o, none⟩ v) :=
  ⟨(Below.refl g w).setCell (Nat.le_refl _) v, fun k _ hn => heap_setCell_other w _ k v hn⟩
theorem Bx.Dy {w : World} {g t i : Nat} {cs : Array Value} (h : Bx w g cs t) (v : Value) : Bx (w.setCell ⟨g, i, none⟩ v) g (cs.setIfInBounds i v) t := Joins.block_setCell h v
theorem YW {w : World} {g t : Nat} {cs cs' : Array Value} {ty : TypeId} (h : Bx w g cs t) (hz : cs.size = cs'.size) (h1 : cs'.all (·.oneCell') = true) (hs : (Try.prog.info? ty).map (·.size) = some cs'.size) :
    (Instr.storeAt ty (Z5 g 0) (.agg cs')).run Try.prog w = .ok () (w.setRow g cs') := by
  simp only [Instr.storeAt, Instr.sureAddr, Sem.run_bind, Sem.run_pure, Result.andThen_ok]
  exact run_storeVar_row w g t ty cs cs' h hs hz h1
section
variable {P : Program} {ops : Array Oper} {rest : List Oper} {o : Oper} {a : Act} {w : World} {Q : Exit → Act → World → Prop} {i : Nat} {K : Act → World → Prop}
theorem Qc (hw : Region.wanted o (yielded ops a.tmps) = true) (hd : o.dst = none) (ty : TypeId) (x y : Operand) (ho : o.op = .store ty x y) (vx vy : Value) (hx : a.eval x = vx) (hy : a.eval y = vy) (w2 : World)
    (hr : (Instr.storeAt ty vx vy).run P w = .ok () w2) (k : wpList P ops Q rest a w2) : wpList P ops Q (o :: rest) a w := by
  apply wpList_step
  intro K hK
  rw [if_pos hw]
  unfold Oper.wp execOp
  simp only [ho, hx, hy, Sem.run_bind, hr, Result.andThen_ok]
  show K (a.put o.dst undef) _
  rw [hd]
  exact hK _ _ k
theorem Zt {ty : TypeId} {x y : Operand} (ho : o.op = .store ty x y) {vx vy : Value} {w2 : World} (hr : (Instr.storeAt ty vx vy).run P w = .ok () w2) (k : wpList P ops Q rest a w2) (hw : Region.wanted o (yielded ops a.tmps) = true := by kernel_rfl) (hd : o.dst = none := by kernel_rfl) (hx : a.eval x = vx := by kernel_rfl) (hy : a.eval y = vy := by kernel_rfl) : wpList P ops Q (o :: rest) a w := Qc hw hd ty x y ho vx vy hx hy w2 hr k
theorem XI (hi : ops[i]? = some o) (hw : Region.wanted o (yielded ops a.tmps) = true) (hd : o.dst = none) (ty : TypeId) (x y : Operand) (ho : o.op = .store ty x y) (vx vy : Value) (hx : a.eval x = vx) (hy : a.eval y = vy) (w2 : World)
    (hr : (Instr.storeAt ty vx vy).run P w = .ok () w2) (h : K a w2) : wpOp P ops Q i K a w := by
  refine LM hi hw ?_
  unfold Oper.wp execOp
  simp only [ho, hx, hy, Sem.run_bind, hr, Result.andThen_ok]
  show K (a.put o.dst undef) _
  rw [hd]
  exact h
end
def pl (x n : Int) : Int := if x.tmod n < 0 then x.tmod n + n else x.tmod n
theorem Qb (x n : Int) (hn : 0 < n) : -n < x.tmod n ∧ x.tmod n < n := by
  rcases Int.le_total 0 x with h | h
  · have h1 := Int.tmod_nonneg n h
    have h2 := Int.tmod_lt_of_pos x hn
    omega
  · have h1 := Int.tmod_nonneg n (show 0 ≤ -x by omega)
    have h2 := Int.tmod_lt_of_pos (-x) hn
    rw [Int.neg_tmod] at h1 h2
    omega
theorem Tq (x n : Int) (hn : 0 < n) : 0 ≤ pl x n ∧ pl x n < n := by
  have := Qb x n hn
  unfold pl
  split <;> omega
theorem wU {ρ : Operand → Value} {o : Oper} {x y : Operand} (ho : o.op = .binOp .rem 3 x y 3) (a b : Int) (hb : b ≠ 0) (hx : ρ x = Z8 a) (hy : ρ y = Z8 b) (w : World) :
    (execOp ρ o).run Try.prog w = .ok (.value (Z8 (a.tmod b))) w := by
  unfold execOp
  simp only [ho, hx, hy]
  simp [hb, go_sem]
theorem KU (x n : Int) (w : World) (hn : 0 < n) (hn2 : n ≤ 1000000) :
    Calls Try.prog 13 #[Z8 x, Z8 n] w fun e w' => e = .returned (Z8 (pl x n)) ∧ w = w' := by
  have hr := Qb x n hn
  have hnz : ¬ n = 0 := by omega
  unfold pl
  obtain ⟨r, hr0⟩ := ZR (x.tmod n)
  have hw : IntKind.i64.wrap r = r := by rw [IntKind.wrap_i64]; omega
  rw [hr0] at hr ⊢
  have HR := Z9 hr0
  clear hr0
  obtain ⟨Q, hQ⟩ : ∃ Q, Q = if r < 0 then r + n else r := ⟨_, rfl⟩
  rw [← hQ]
  have HQ := Z9 hQ
  clear hQ
  go_enter Try.func13, Try.ntmps13
  go_upto_region 1 with fail
  apply wp_region_lit
  refine Zg (by kernel_rfl) (some 5) rfl (Z8 x) (by kernel_rfl) ?_
  simp only [pu1, pu2, Ug, Uf]
  refine Zg (by kernel_rfl) (some 6) rfl (Z8 n) (by kernel_rfl) ?_
  simp only [pu1, pu2, Ug, Uf]
  refine Zg (by kernel_rfl) (some 7) rfl (Z8 (x.tmod n)) (wU rfl x n hnz (by kernel_rfl) (by kernel_rfl) w) ?_
  rw [HR.out]
  simp only [pu1, pu2, Ug, Uf]
  refine Zg (by kernel_rfl) (some 0) rfl (Z8 r) (by kernel_rfl) ?_
  simp only [pu1, pu2, Ug, Uf]
  apply wpList_nil
  by_cases h0 : r < 0
  · have hd : decide (r < 0) = true := decide_eq_true h0
    have Wq : Hid (Q = r + n) := Z9 (by rw [HQ.out, if_pos h0])
    have hw3 : IntKind.i64.wrap (r + n) = r + n := by rw [IntKind.wrap_i64]; omega
    clear HQ HR
    go_wp2_with fail
    go_ret
    exact ⟨by rw [Wq.out]; rfl, rfl⟩
  · have hd : decide (r < 0) = false := decide_eq_false h0
    have Wq : Hid (Q = r) := Z9 (by rw [HQ.out, if_neg h0])
    clear HQ HR
    go_wp2_with fail
    go_ret
    exact ⟨by rw [Wq.out]; rfl, rfl⟩
theorem zC (a : Option Addr) (n c : Nat) (w : World) : Calls Try.prog 9 #[.slice a n c] w fun e w' => e = .returned (Z5 w.heap.size 0) ∧ w' = w.alloc (.cells #[.slice a n c, Z8 0] 69) := by
  go_enter Try.func9, Try.ntmps9
  go_upto_region 1 with fail
  apply wp_region_lit
  refine Zg (by kernel_rfl) (some 3) rfl (.slice a n c) (by kernel_rfl) ?_
  simp only [pu1, pu2, Ug, Uf]
  refine Zg (by kernel_rfl) (some 4) rfl (.agg #[.slice a n c, Z8 0]) (by kernel_rfl) ?_
  simp only [pu1, pu2, Ug, Uf]
  refine Zz rfl (some 5) rfl (Z5 w.heap.size 0) (w.alloc (.cells #[.slice a n c, Z8 0] 69)) (by kernel_rfl) ?_
  simp only [pu1, pu2, Ug, Uf]
  refine Zg (by kernel_rfl) (some 2) rfl (Z5 w.heap.size 0) (by kernel_rfl) ?_
  simp only [pu1, pu2, Ug, Uf]
  apply wpList_nil
  go_wp2_with fail
  go_ret
  exact ⟨rfl, rfl⟩
theorem add_one {ρ : Operand → Value} {o : Oper} {x : Operand} (ho : o.op = .binOp .add 3 x (.const (Z8 1)) 3) (m : Nat) (hm : m ≤ 1000000) (hx : ρ x = Z8 m) (w : World) (hρ : ρ (.const (Z8 1)) = Z8 1 := by rfl) : (execOp ρ o).run Try.prog w = .ok (.value (Z8 (m + 1 : Nat))) w := by
  unfold execOp
  simp only [ho, hx, hρ]
  simp [go_sem]
  rw [IntKind.wrap_i64]
  omega
theorem Bq {ρ : Operand → Value} {o : Oper} {x y : Operand} (ho : o.op = .binOp .lss 3 x y 3) (a b : Nat) (hx : ρ x = Z8 a) (hy : ρ y = Z8 b) (w : World) : (execOp ρ o).run Try.prog w = .ok (.value (.bool (decide (a < b)))) w := by
  unfold execOp
  simp only [ho, hx, hy]
  simp [go_sem]
theorem Ig (g : Nat) (L : List Int) (a : Option Addr) (c N : Nat) (n : Int) (w : World) (hX : Bx w g #[.slice a L.length c, Z8 N] 69) (hL : Cs w a (XO L)) (hl : L.length ≤ 100000) (hN : N ≤ 100000) (hn : 0 < n) (hn2 : n ≤ 1000000) :
    Calls Try.prog 21 #[Z5 g 0, Z8 n] w fun e w' => e = .returned (Z8 (pl (L.getD N 0) n)) ∧ But g w w' ∧ Bx w' g #[.slice a L.length c, Z8 (N + 1 : Nat)] 69 := by
  have CP := fun x V => KU x n V hn hn2
  have tail : ∀ (V : World) (x : Int), x = L.getD N 0 → But g w V → Bx V g #[.slice a L.length c, Z8 N] 69 → True := fun _ _ _ _ _ => trivial
  by_cases hlt : N < L.length
  · obtain ⟨b, off, rfl, hb, hc⟩ := DT hL hlt
    have hd : decide (N < L.length) = true := decide_eq_true hlt
    obtain ⟨x, hx⟩ := ZR (L.getD N 0)
    rw [hx] at hc ⊢
    generalize L.length = k at *
    clear hx hL tail
    go_enter Try.func21, Try.ntmps21
    go_upto_region 2 with fail
    refine ZF (C := fun w' => Below w.heap.size w w') (by kernel_rfl) (by kernel_rfl) (Below.refl _ w).drew ?_
    refine X3 (Z5 g 0) (fun w' _ => by kernel_rfl) <| X3 (Z5 g 0) (fun w' _ => by kernel_rfl) <| X3 (Z5 g 1) (fun w' _ => by kernel_rfl) <|
      UN rfl ⟨g, 1, none⟩ (Z8 N) (fun w' hC => (hX.below hX.lt hC).load rfl (by kernel_rfl)) <| X3 (Z5 g 0) (fun w' _ => by kernel_rfl) <| X3 (Z5 g 0) (fun w' _ => by kernel_rfl) <| X3 (Z5 g 0) (fun w' _ => by kernel_rfl) <|
      UN rfl ⟨g, 0, none⟩ (.slice (some ⟨b, off, none⟩) k c) (fun w' hC => (hX.below hX.lt hC).load rfl (by kernel_rfl)) <| X3 (Z8 k) (fun w' _ => by kernel_rfl) <| X3 (.bool (decide (N < k))) (fun w' _ => Bq rfl N k (by kernel_rfl) (by kernel_rfl) w') ?_
    rw [hd]
    simp only [pu1, pu2, Ug, Uf]
    refine wpQuiet_nil ?_
    intro V hV
    have ET := hX.below hX.lt hV
    have hcV := (hV.cell (p := ⟨b, off + N, none⟩) hb).trans hc
    have hbV := Nat.lt_of_lt_of_le hb hV.size
    go_upto_region 3 with fail
    refine ZF (C := fun w' => Below V.heap.size V w') (by kernel_rfl) (by kernel_rfl) (Below.refl _ V).drew ?_
    refine X3 (Z5 g 0) (fun w' _ => by kernel_rfl) <| X3 (Z5 g 0) (fun w' _ => by kernel_rfl) <| X3 (Z5 g 0) (fun w' _ => by kernel_rfl) <|
      UN rfl ⟨g, 0, none⟩ (.slice (some ⟨b, off, none⟩) k c) (fun w' hC => (ET.below ET.lt hC).load rfl (by kernel_rfl)) <| X3 (Z5 g 0) (fun w' _ => by kernel_rfl) <| X3 (Z5 g 0) (fun w' _ => by kernel_rfl) <|
      X3 (Z5 g 1) (fun w' _ => by kernel_rfl) <| UN rfl ⟨g, 1, none⟩ (Z8 N) (fun w' hC => (ET.below ET.lt hC).load rfl (by kernel_rfl)) <| X3 (Z5 b (off + N)) (fun w' _ => wV b off k c N hlt w' _ _ rfl (by kernel_rfl) (by kernel_rfl)) <|
      UN rfl ⟨b, off + N, none⟩ (Z8 x) (fun w' hC => YV ((hC.cell (p := ⟨b, off + N, none⟩) hbV).trans hcV) (by kernel_rfl)) <| X3 (Z8 x) (fun w' _ => by kernel_rfl) ?_
    simp only [pu]
    refine wpQuiet_nil ?_
    intro V2 hV2
    have hX2 := ET.below ET.lt hV2
    have hB2 := hV.trans (hV2.mono hV.size)
    clear ET hcV hbV hV hV2 hc hb
    go_upto_region 4 with fail
    apply wp_region_lit
    refine Zg (by kernel_rfl) (some 26) rfl (Z5 g 0) (by kernel_rfl) ?_
    simp only [pu1, pu2, Ug, Uf]
    refine Zg (by kernel_rfl) (some 27) rfl (Z5 g 0) (by kernel_rfl) ?_
    simp only [pu1, pu2, Ug, Uf]
    refine Zg (by kernel_rfl) (some 28) rfl (Z5 g 1) (by kernel_rfl) ?_
    simp only [pu1, pu2, Ug, Uf]
    refine QK (by kernel_rfl) (some 29) rfl 3 (.tmp 28) rfl ⟨g, 1, none⟩ (Z8 N) (by kernel_rfl) (hX2.load rfl (by kernel_rfl)) ?_
    simp only [pu1, pu2, Ug, Uf]
    refine Zg (by kernel_rfl) (some 30) rfl (Z8 (N + 1 : Nat)) (add_one rfl N (by omega) (by kernel_rfl) V2) ?_
    simp only [pu1, pu2, Ug, Uf]
    refine Zg (by kernel_rfl) (some 31) rfl (Z5 g 0) (by kernel_rfl) ?_
    simp only [pu1, pu2, Ug, Uf]
    refine Zg (by kernel_rfl) (some 32) rfl (Z5 g 1) (by kernel_rfl) ?_
    simp only [pu1, pu2, Ug, Uf]
    refine Qc (by kernel_rfl) rfl 3 (.tmp 32) (.tmp 30) rfl (Z5 g 1) (Z8 (N + 1 : Nat)) (by kernel_rfl) (by kernel_rfl) _ (WS hX2 (by simp) rfl (by kernel_rfl)) ?_
    apply wpList_nil
    have Vt : Bx (V2.setCell ⟨g, 1, none⟩ (Z8 (N + 1 : Nat))) g #[.slice (some ⟨b, off, none⟩) k c, Z8 (N + 1 : Nat)] 69 := hX2.Dy _
    have hB3 := (But.of_below hB2 (Nat.le_of_lt hX.lt)).trans (But.setCell (g := g) V2 1 (Z8 (N + 1 : Nat)))
    generalize V2.setCell ⟨g, 1, none⟩ (Z8 (N + 1 : Nat)) = V3 at *
    have Wu := Z9 Vt
    have HB3 := Z9 hB3
    clear hX2 hB2 Vt hB3 hX
    go_wp2_with (go_at_call 13; refine (CP _ _).mono ?_; rintro e w9 ⟨rfl, rfl⟩)
    go_ret
    exact ⟨rfl, HB3.out, Wu.out⟩
  · have hd : decide (N < L.length) = false := decide_eq_false hlt
    have hx : L.getD N 0 = 0 := by simp [List.getD, List.getElem?_eq_none (show L.length ≤ N by omega)]
    rw [hx]
    generalize L.length = k at *
    obtain ⟨x, hx0⟩ : ∃ x : Int, x = 0 := ⟨_, rfl⟩
    clear hx hL tail
    go_enter Try.func21, Try.ntmps21
    go_upto_region 2 with fail
    refine ZF (C := fun w' => Below w.heap.size w w') (by kernel_rfl) (by kernel_rfl) (Below.refl _ w).drew ?_
    refine X3 (Z5 g 0) (fun w' _ => by kernel_rfl) <| X3 (Z5 g 0) (fun w' _ => by kernel_rfl) <| X3 (Z5 g 1) (fun w' _ => by kernel_rfl) <|
      UN rfl ⟨g, 1, none⟩ (Z8 N) (fun w' hC => (hX.below hX.lt hC).load rfl (by kernel_rfl)) <| X3 (Z5 g 0) (fun w' _ => by kernel_rfl) <| X3 (Z5 g 0) (fun w' _ => by kernel_rfl) <| X3 (Z5 g 0) (fun w' _ => by kernel_rfl) <|
      UN rfl ⟨g, 0, none⟩ (.slice a k c) (fun w' hC => (hX.below hX.lt hC).load rfl (by kernel_rfl)) <| X3 (Z8 k) (fun w' _ => by kernel_rfl) <| X3 (.bool (decide (N < k))) (fun w' _ => Bq rfl N k (by kernel_rfl) (by kernel_rfl) w') ?_
    rw [hd]
    simp only [pu1, pu2, Ug, Uf]
    refine wpQuiet_nil ?_
    intro V2 hB2
    have hX2 := hX.below hX.lt hB2
    rw [← hx0]
    go_upto_region 4 with fail
    apply wp_region_lit
    refine Zg (by kernel_rfl) (some 26) rfl (Z5 g 0) (by kernel_rfl) ?_
    simp only [pu1, pu2, Ug, Uf]
    refine Zg (by kernel_rfl) (some 27) rfl (Z5 g 0) (by kernel_rfl) ?_
    simp only [pu1, pu2, Ug, Uf]
    refine Zg (by kernel_rfl) (some 28) rfl (Z5 g 1) (by kernel_rfl) ?_
    simp only [pu1, pu2, Ug, Uf]
    refine QK (by kernel_rfl) (some 29) rfl 3 (.tmp 28) rfl ⟨g, 1, none⟩ (Z8 N) (by kernel_rfl) (hX2.load rfl (by kernel_rfl)) ?_
    simp only [pu1, pu2, Ug, Uf]
    refine Zg (by kernel_rfl) (some 30) rfl (Z8 (N + 1 : Nat)) (add_one rfl N (by omega) (by kernel_rfl) V2) ?_
    simp only [pu1, pu2, Ug, Uf]
    refine Zg (by kernel_rfl) (some 31) rfl (Z5 g 0) (by kernel_rfl) ?_
    simp only [pu1, pu2, Ug, Uf]
    refine Zg (by kernel_rfl) (some 32) rfl (Z5 g 1) (by kernel_rfl) ?_
    simp only [pu1, pu2, Ug, Uf]
    refine Qc (by kernel_rfl) rfl 3 (.tmp 32) (.tmp 30) rfl (Z5 g 1) (Z8 (N + 1 : Nat)) (by kernel_rfl) (by kernel_rfl) _ (WS hX2 (by simp) rfl (by kernel_rfl)) ?_
    apply wpList_nil
    have Vt : Bx (V2.setCell ⟨g, 1, none⟩ (Z8 (N + 1 : Nat))) g #[.slice a k c, Z8 (N + 1 : Nat)] 69 := hX2.Dy _
    have hB3 := (But.of_below hB2 (Nat.le_of_lt hX.lt)).trans (But.setCell (g := g) V2 1 (Z8 (N + 1 : Nat)))
    generalize V2.setCell ⟨g, 1, none⟩ (Z8 (N + 1 : Nat)) = V3 at *
    have Wu := Z9 Vt
    have HB3 := Z9 hB3
    clear hX2 hB2 Vt hB3 hX
    go_wp2_with (go_at_call 13; refine (CP _ _).mono ?_; rintro e w9 ⟨rfl, rfl⟩)
    go_ret
    exact ⟨rfl, HB3.out, Wu.out⟩
theorem wS (b off n c k : Nat) (hk : k < n) (V : World) (ρ : Operand → Value) (o : Oper) {x y : Operand} (ho : o.op = .indexAddr 47 x y) (hx : ρ x = .slice (some ⟨b, off, none⟩) n c) (hy : ρ y = Z8 k) : (execOp ρ o).run Try.prog V = .ok (.value (Z5 b (off + k))) V := by
  have hs : (sizeOf (Try.prog.elem 47)).run Try.prog V = .ok 1 V := by kernel_rfl
  have hlm : (k : Int) < (n : Int) := by omega
  unfold execOp
  simp only [ho, hx, hy]
  go_simp
theorem gU : (Try.prog.info? 24).map (fun i => (i.zero, i.size, i.bytes)) = some (some (.slice none 0 0), 1, 24) := by kernel_rfl
theorem one_row (a : Option Addr) (n c : Nat) (w : World) : (Instr.buildSlice 47 1 #[(0, .slice a n c)]).run Try.prog w = .ok (.slice (some ⟨w.heap.size, 0, none⟩) 1 1) (w.alloc (.cells #[.slice a n c] 24)) := by
  obtain ⟨i0, hi, hz0, hz1, hz2⟩ := info_parts gU
  refine run_buildSlice w 47 24 1 _ #[.slice a n c] i0 _ Try.underlying47 hi hz0 (by rw [hz1]; omega) (by rw [hz1]; omega) ?_
  rw [hz1]
  kernel_rfl
theorem ZK {ρ : Operand → Value} {o : Oper} {x y : Operand} (ho : o.op = .binOp .add 3 x y 3) (a b : Nat) (h : a + b ≤ 9223372036854775807) (hx : ρ x = Z8 a) (hy : ρ y = Z8 b) (w : World) : (execOp ρ o).run Try.prog w = .ok (.value (Z8 (a + b : Nat))) w := by
  unfold execOp
  simp only [ho, hx, hy]
  simp [go_sem]
  rw [IntKind.wrap_i64]
  omega
theorem EM (g : Nat) (a : Option Addr) (n c : Nat) (w : World) (hX : Bx w g #[.slice a n c] 24) (hn : n ≤ 9223372036854775807) : Calls Try.prog 5 #[.slice (some ⟨g, 0, none⟩) 1 1] w fun e w' => e = .returned (.bool (decide ((160 : Int) < (n : Int)))) ∧ w = w' := by
  have hl : (Instr.loadAt 24 (Z5 g 0)).run Try.prog w = .ok (.slice a n c) w := hX.load rfl (by kernel_rfl)
  clear hX
  go_enter Try.func5, Try.ntmps5
  go_wp2_with fail
  go_loopg [3, 8] 1 (fun gg s3 s8 wx => ((s3 = Z8 (0 : Nat) ∧ s8 = Z8 (0 : Nat) ∧ gg = 1) ∨ (s3 = Z8 (n : Nat) ∧ s8 = Z8 (1 : Nat) ∧ gg = 0)) ∧ w = wx)
  case atStart => exact ⟨.inl ⟨rfl, rfl, rfl⟩, rfl⟩
  case round =>
    obtain ⟨⟨rfl, rfl, rfl⟩ | ⟨rfl, rfl, rfl⟩, rfl⟩ := hrel
    · go_upto_region 4 with fail
      apply wp_region_lit
      refine Zg (by kernel_rfl) (some 10) rfl (Z5 g 0) (wS g 0 1 1 0 (by omega) w _ _ rfl (by kernel_rfl) (by kernel_rfl)) ?_
      simp only [pu1, pu2, Ug, Uf]
      refine QK (by kernel_rfl) (some 11) rfl 24 (.tmp 10) rfl ⟨g, 0, none⟩ (.slice a n c) (by kernel_rfl) (hl) ?_
      simp only [pu1, pu2, Ug, Uf]
      refine Zg (by kernel_rfl) (some 5) rfl (.slice a n c) (by kernel_rfl) ?_
      simp only [pu1, pu2, Ug, Uf]
      apply wpList_nil
      go_upto_region 5 with fail
      apply wp_region_lit
      refine Zg (by kernel_rfl) (some 12) rfl (Z8 (0 : Nat)) (by kernel_rfl) ?_
      simp only [pu1, pu2, Ug, Uf]
      refine Zg (by kernel_rfl) (some 13) rfl (.slice a n c) (by kernel_rfl) ?_
      simp only [pu1, pu2, Ug, Uf]
      refine Zg (by kernel_rfl) (some 14) rfl (Z8 n) (by kernel_rfl) ?_
      simp only [pu1, pu2, Ug, Uf]
      refine Zg (by kernel_rfl) (some 15) rfl (Z8 (0 + n : Nat)) (ZK rfl 0 n (by omega) (by kernel_rfl) (by kernel_rfl) w) ?_
      rw [Nat.zero_add]
      simp only [pu1, pu2, Ug, Uf]
      refine Zg (by kernel_rfl) (some 3) rfl (Z8 n) (by kernel_rfl) ?_
      simp only [pu1, pu2, Ug, Uf]
      apply wpList_nil
      clear hl
      go_wp2_with fail
      go_roundg 0
      case measure => omega
      case rel => exact ⟨.inr ⟨rfl, rfl, rfl⟩, rfl⟩
    · clear hl
      go_wp2_with fail
      go_ret
      exact ⟨rfl, rfl⟩
theorem BF {c0 c1 : Int} {f1 f2 f3 : Bool} (h : runN c0 c1 f1 f2 f3 = 4) : ((((240 ≤ c0 ∧ c0 < 245) ∧ f1 = true) ∧ f2 = true) ∧ f3 = true) ∧ ¬ ((c0 = 240 ∧ c1 < 144) ∨ (c0 = 244 ∧ 144 ≤ c1)) := by
 unfold runN at h
 split at h
 ·omega
 split at h
 ·omega
 split at h
 ·split at h <;> omega
 split at h
 ·rename_i h4
  split at h
  ·omega
  ·rename_i h5
   exact ⟨h4, h5⟩
 ·omega
theorem Df {L : List Int} {i : Nat} (hb : ∀ j, 0 ≤ L.getD j 0 ∧ L.getD j 0 < 256) (h : runK L i ≠ 0) (e : NM L i = 65533) : runK L i = 3 := by
 have h4 := NH L i
 have g0 := hb i
 have g1 := hb (i + 1)
 rcases (show runK L i = 1 ∨ runK L i = 2 ∨ runK L i = 3 ∨ runK L i = 4 by omega) with k | k | k | k
 ·unfold NM at e
  rw [k] at e
  simp only [Nq, if_true] at e
  omega
 ·unfold NM at e
  rw [k] at e
  have e2 : (L.getD i 0 - 192) * 64 + (L.getD (i + 1) 0 - 128) = 65533 := e
  omega
 ·exact k
 ·have q := BF k
  have h1 := Yc q.1.1.1.2
  have h2 := Yc q.1.1.2
  have h3 := Yc q.1.2
  unfold NM at e
  rw [k] at e
  have e2 : (L.getD i 0 - 240) * 262144 + (L.getD (i + 1) 0 - 128) * 4096 + (L.getD (i + 2) 0 - 128) * 64 + (L.getD (i + 3) 0 - 128) = 65533 := e
  omega
def runs (L : List Int) (i : Nat) : Option Nat :=
 if h : i < L.length then (if runK L i = 0 then none else (runs L (i + runK L i)).map (· + 1)) else some 0
termination_by L.length - i
decreasing_by omega
def Uh (c : Int) : Bool := (decide (97 ≤ c) && decide (c ≤ 122)) || (decide (48 ≤ c) && decide (c ≤ 57)) || decide (c = 45)
def isName (L : List Int) : Bool := L.all Uh && (decide (1 ≤ L.length) && decide (L.length ≤ 20))
def YE (L : List Int) : Bool := match runs L 0 with
 | none => false
 | some n => decide (n ≤ 64)
theorem Cj {L : List Int} {i : Nat} (h : i < L.length) (hb : Uh (L.getD i 0) = false) : isName L = false := by
 unfold isName
 have : L.all Uh = false := by
  rw [List.all_eq_false]
  exact ⟨L.getD i 0, by rw [List.getD_eq_getElem?_getD, List.getElem?_eq_getElem h]; exact List.getElem_mem h, by rw [hb]; simp⟩
 rw [this]
 rfl
theorem Hr {L : List Int} (h : ∀ j, j < L.length → Uh (L.getD j 0) = true) : L.all Uh = true := by
 rw [List.all_eq_true]
 intro x hx
 obtain ⟨j, hj, rfl⟩ := List.mem_iff_getElem.1 hx
 have := h j hj
 rwa [List.getD_eq_getElem?_getD, List.getElem?_eq_getElem hj] at this
section
variable {ρ : Operand → Value} {o : Oper} {x y : Operand}
theorem BD (s : ByteArray) (i : Nat) (h : i < s.size) (ho : o.op = .index 9 x y) (hx : ρ x = .string s) (hy : ρ y = Z8 i) (w : World) : (execOp ρ o).run Try.prog w = .ok (.value (.int .u8 ((nums s).getD i 0))) w := by
 unfold execOp
 simp only [ho, hx, hy, Sem.run_bind, Fv s i h w]
 rfl
theorem Zo (ho : o.op = .binOp .geq 5 x y 5) (a b : Int) {t : Bool} (ht : decide (b ≤ a) = t) (hx : ρ x = .int .u8 a) (hy : ρ y = .int .u8 b) (w : World) : (execOp ρ o).run Try.prog w = .ok (.value (.bool t)) w := by
 rw [← ht]
 unfold execOp
 simp only [ho, hx, hy]
 go_simp
theorem Yf (ho : o.op = .binOp .leq 5 x y 5) (a b : Int) {t : Bool} (ht : decide (a ≤ b) = t) (hx : ρ x = .int .u8 a) (hy : ρ y = .int .u8 b) (w : World) : (execOp ρ o).run Try.prog w = .ok (.value (.bool t)) w := by
 rw [← ht]
 unfold execOp
 simp only [ho, hx, hy]
 go_simp
theorem Y3 (ho : o.op = .binOp .lss 5 x y 5) (a b : Int) {t : Bool} (ht : decide (a < b) = t) (hx : ρ x = .int .u8 a) (hy : ρ y = .int .u8 b) (w : World) : (execOp ρ o).run Try.prog w = .ok (.value (.bool t)) w := by
 rw [← ht]
 unfold execOp
 simp only [ho, hx, hy]
 go_simp
theorem Yz (ho : o.op = .binOp .eql 5 x y 5) (a b : Int) {t : Bool} (ht : decide (a = b) = t) (hx : ρ x = .int .u8 a) (hy : ρ y = .int .u8 b) (w : World) : (execOp ρ o).run Try.prog w = .ok (.value (.bool t)) w := by
 have e : (a == b) = t := ht
 unfold execOp
 simp only [ho, hx, hy]
 go_simp
theorem Uj (ho : o.op = .binOp .geq 3 x y 3) (a b : Int) {t : Bool} (ht : decide (b ≤ a) = t) (hx : ρ x = Z8 a) (hy : ρ y = Z8 b) (w : World) : (execOp ρ o).run Try.prog w = .ok (.value (.bool t)) w := by
 rw [← ht]
 unfold execOp
 simp only [ho, hx, hy]
 go_simp
theorem tq (ho : o.op = .binOp .leq 3 x y 3) (a b : Int) {t : Bool} (ht : decide (a ≤ b) = t) (hx : ρ x = Z8 a) (hy : ρ y = Z8 b) (w : World) : (execOp ρ o).run Try.prog w = .ok (.value (.bool t)) w := by
 rw [← ht]
 unfold execOp
 simp only [ho, hx, hy]
 go_simp
theorem ZC (ho : o.op = .binOp .lss 3 x y 3) (a b : Int) {t : Bool} (ht : decide (a < b) = t) (hx : ρ x = Z8 a) (hy : ρ y = Z8 b) (w : World) : (execOp ρ o).run Try.prog w = .ok (.value (.bool t)) w := by
 rw [← ht]
 unfold execOp
 simp only [ho, hx, hy]
 go_simp
end
def gV (s : ByteArray) (i : Nat) (c : Int) : Prop := ∀ (ρ : Operand → Value) (o : Oper) (x y : Operand), o.op = .index 9 x y → ρ x = .string s → ρ y = Z8 i → ∀ w, (execOp ρ o).run Try.prog w = .ok (.value (.int .u8 c)) w
theorem Np (s : ByteArray) (i : Nat) (h : i < s.size) : gV s i ((nums s).getD i 0) := fun ρ o x y ho hx hy w => BD s i h ho hx hy w
end Go.Proofs.Ytnhlpahoomcgnaa
namespace Go.Proofs.Ytnhlpahoomcgnaa
attribute [local irreducible] wpList wpQuiet
open Go.RowKit
def msg (P : List Zp) : List Int := P.flatMap YP
theorem WC (P Q : List Zp) : msg (P ++ Q) = msg P ++ msg Q := by simp [msg]
theorem BR (P : List Zp) (j : Nat) : (msg (P.take j)).length ≤ (msg P).length := by
 conv => rhs; rw [← List.take_append_drop j P, WC, List.length_append]
 omega
theorem UY (num kind val : Int) (X : List Int) : X.length ≤ (encI num kind val X).length := by
 unfold encI
 rw [List.length_append, List.length_append]
 omega
abbrev Yh (x : Zp) (b : Option Addr) (d : Nat) : Array Value := #[Z8 x.num, Z8 x.kind, Z7 x.val, .slice b x.bytes.length d]
theorem SY {w : World} {g o : Nat} {x : Zp} {b : Option Addr} {d : Nat} (h : Box w g o x.num x.kind x.val b x.bytes.length d) : w.rangeAt g o (Yh x b d).toList := fun j v hj => by
 obtain ⟨h0, h1, h2, h3⟩ := h
 have hj4 : j < 4 := by
  have := (List.getElem?_eq_some_iff.1 hj).1
  simpa using this
 rcases (show j = 0 ∨ j = 1 ∨ j = 2 ∨ j = 3 by omega) with rfl | rfl | rfl | rfl
 ·simp at hj; rw [← hj]; exact h0
 ·simp at hj; rw [← hj]; exact h1
 ·simp at hj; rw [← hj]; exact h2
 ·simp at hj; rw [← hj]; exact h3
theorem S9 {w : World} {g o : Nat} {x : Zp} {b : Option Addr} {d : Nat} (h : w.rangeAt g o (Yh x b d).toList) : (Instr.loadAt 99 (Z5 g o)).run Try.prog w = .ok (.agg (Yh x b d)) w :=
 run_loadAt_mid w g o 99 _ _ h Try.underlying99 rfl (by kernel_rfl)
theorem Yi (b off n c k : Nat) (hk : k < n) (V : World) (ρ : Operand → Value) (o : Oper) {x y : Operand} (ho : o.op = .indexAddr 94 x y) (hx : ρ x = .slice (some ⟨b, off, none⟩) n c) (hy : ρ y = Z8 k) : (execOp ρ o).run Try.prog V = .ok (.value (Z5 b (off + k * 4))) V := by
 have hs : (sizeOf (Try.prog.elem 94)).run Try.prog V = .ok 4 V := by kernel_rfl
 have hlm : (k : Int) < (n : Int) := by omega
 unfold execOp
 simp only [ho, hx, hy]
 go_simp
theorem xA (x : Zp) (b : Option Addr) (d : Nat) : (Yh x b d).all (·.oneCell') = true := by simp [Value.oneCell']
theorem Dz (V : World) (x : Zp) (b : Option Addr) (d : Nat) : ∃ V2, (Instr.storeAt 99 (Z5 V.heap.size 0) (.agg (Yh x b d))).run Try.prog (V.alloc (.cells (Yh Xj none 0) 99)) = .ok () V2 ∧ Below V.heap.size V V2 ∧ Bx V2 V.heap.size (Yh x b d) 99 :=
 have hb : Bx (V.alloc (.cells (Yh Xj none 0) 99)) V.heap.size (Yh Xj none 0) 99 := heap_alloc_last V _
 ⟨_, YW hb rfl (xA x b d) (by kernel_rfl), ZT ((Below.refl _ V).alloc (Nat.le_refl _) _) (Nat.le_refl _) _, hb.set⟩
theorem SV {w : World} {g t : Nat} {x : Zp} {b : Option Addr} {d : Nat} (h : Bx w g (Yh x b d) t) : (Instr.loadAt 99 (Z5 g 0)).run Try.prog w = .ok (.agg (Yh x b d)) w :=
 S9 fun j v hv => by
  rw [cell_of_row w g _ _ _ (0, 0) h]
  simpa using hv
theorem Ru (a : Option Addr) (c : Nat) (P : List (Zp × Value)) (w : World) (hF : Fs w a P) (hv : ∀ p, p ∈ P → ES p.1.num p.1.kind p.1.val p.1.bytes.length ∧ W64 p.1.val) (hl : (msg (P.map Prod.fst)).length ≤ 900000) (hn0 : P.length ≤ 100000) :
  Calls Try.prog 44 #[.slice a P.length c] w fun e w' => ∃ v, e = .returned v ∧ Own w' w.heap.size v (msg (P.map Prod.fst)) ∧ Below w.heap.size w w' := by
 have HF := Z9 hF
 have HV := Z9 hv
 have HL := Z9 hl
 obtain ⟨M, hM⟩ := ZR (P.map Prod.fst)
 have HM := Z9 hM
 have HPM : Hid (M.length = P.length) := Z9 (by rw [← hM, List.length_map])
 rw [hM] at HL ⊢
 obtain ⟨n, hn⟩ := ZR P.length
 have HN := Z9 hn
 rw [hn] at hn0 HPM ⊢
 clear hF hv hl hM hn
 go_enter Try.func44, Try.ntmps44
 go_upto_region 1 with fail
 refine wl <| ZV (.slice none 0 0) <| wn ?_
 simp only [pu]
 go_upto_region 2 with fail
 refine wl <| YT (.slice a n c) (Z8 n) (Z8 0) <| wn ?_
 simp only [pu]
 go_wp2_with fail
 go_loopg [3, 8] n (fun gg s3 s8 wx => ∃ (j : Nat) (b : Option Addr) (k d : Nat), s3 = .slice b k d ∧ s8 = Z8 j ∧ j ≤ n ∧ Hid (Own wx w.heap.size (.slice b k d) (msg (M.take j))) ∧ Hid (Below w.heap.size w wx) ∧ n - j = gg)
 case atStart => exact ⟨0, none, 0, 0, rfl, rfl, by omega, Z9 (Own.nil _ _), Z9 (Below.refl _ _), by omega⟩
 case round =>
  obtain ⟨j, b, k, d, rfl, rfl, hj, HO, HB, hg⟩ := hrel
  by_cases hlt : j < n
  ·have HD : Hid (decide ((j : Int) < (n : Int)) = true) := Z9 dT
   have HG : Hid (n - (j + 1) = gk - 1 ∧ 0 < gk ∧ j + 1 ≤ n) := Z9 ⟨by omega, by omega, by omega⟩
   have bM : j < P.length := by rw [HN.out]; exact hlt
   obtain ⟨b0, off, ba, bc, rfl, hp2, hsl, hbox⟩ := HF.out j P[j] (List.getElem?_eq_getElem bM)
   have hva := HV.out P[j] (List.getElem_mem bM)
   have htk : msg (M.take (j + 1)) = msg (M.take j) ++ YP P[j].1 := by
    rw [← HM.out, List.take_succ_eq_append_getElem (by rw [List.length_map]; exact bM), WC, List.getElem_map]
    simp [msg]
   have hle := BR M (j + 1)
   rw [htk, List.length_append] at hle
   generalize P[j].1 = x at *
   obtain ⟨b2, d2, e2, hs2, hc2⟩ := HO.out.sl
   simp only [Value.slice.injEq] at e2
   obtain ⟨rfl, rfl, rfl⟩ := e2
   have hLD := S9 (SY (hbox.below HB.out))
   obtain ⟨V2, hst, hb2, hbx⟩ := Dz wr x ba bc
   have hB2 := HB.out.trans (hb2.mono HB.out.size)
   have hll := HL.out
   have CF := FN b d (msg (M.take j)) x.num x.kind x.val ba bc x.bytes V2 (by omega) (by have := UY x.num x.kind x.val x.bytes; unfold YP at hle; omega) (ZH hs2 hb2) (ZH hsl hB2) hva.1 hva.2
   have HTK := Z9 htk
   have HB2 := Z9 hB2
   clear hp2 hsl hbox hva hle hs2 hc2 HO hB2 hll htk bM hb2 HB hg
   generalize msg (M.take j) = L at *
   go_upto_region 3 with fail
   refine wl <| YN Z4 (ZC rfl j n HD.out) <| wn ?_
   simp only [pu]
   go_upto_region 4 with fail
   refine wl <| YO (Z5 b0 (off + j * 4)) (Yi b0 off n c j hlt _ _ _ rfl (by kernel_rfl) (by kernel_rfl)) <| ZI rfl ⟨b0, off + j * 4, none⟩ (.agg (Yh x ba bc)) hLD ?_
   simp only [pu]
   refine Zz rfl (some 5) rfl (Z5 wr.heap.size 0) (wr.alloc (.cells (Yh Xj none 0) 99)) (by kernel_rfl) ?_
   simp only [pu]
   refine Zt rfl hst <| wn ?_
   obtain ⟨g5, hg5⟩ := ZR wr.heap.size
   rw [hg5] at hbx ⊢
   clear hst hg5 hLD
   go_upto_region 5 with fail
   refine wl <| ZV (.slice b L.length d) <| ZI rfl ⟨g5, 0, none⟩ (.agg (Yh x ba bc)) (SV hbx) <|
    Yl (fun v w' => ∃ u, v = .tuple #[u, Z8 0] ∧ Own w' V2.heap.size u (L ++ encI x.num x.kind x.val x.bytes) ∧ Below V2.heap.size V2 w') (CF.mono fun e w' q => by obtain ⟨u, he, h⟩ := q; exact ⟨_, he, u, rfl, h⟩) (fun v V3 hq => ?_)
   obtain ⟨u, rfl, hO3, hb3⟩ := hq
   obtain ⟨b3, d3, rfl, -, -⟩ := hO3.sl
   simp only [pu]
   refine Xl (.tuple #[.slice b3 (L ++ encI x.num x.kind x.val x.bytes).length d3, Z8 0]) (.slice b3 (L ++ encI x.num x.kind x.val x.bytes).length d3) (Z8 0) (.slice b3 (L ++ encI x.num x.kind x.val x.bytes).length d3) <| wn ?_
   simp only [pu]
   have HO3 := Z9 (hO3.base (HB2.out.size))
   have HB3 := Z9 (HB2.out.trans (hb3.mono HB2.out.size))
   clear hO3 hb3 hbx CF
   go_upto_region 6 with fail
   refine wl <| YN (Z8 (j + 1 : Nat)) (ZK rfl j 1 (by omega)) <| ZV (Z8 (j + 1 : Nat)) <| wn ?_
   simp only [pu]
   go_wp2_with fail
   go_roundg (gk - 1)
   case measure => have := HG.out; omega
   case rel => exact ⟨j + 1, b3, _, d3, rfl, rfl, HG.out.2.2, Z9 (by rw [HTK.out]; exact HO3.out), HB3, HG.out.1⟩
  ·have HD : Hid (decide ((j : Int) < (n : Int)) = false) := Z9 dF
   have ig := Z9 (by have := HO.out; rwa [List.take_of_length_le (by rw [HPM.out]; omega)] at this : Own wr w.heap.size (.slice b k d) (msg M))
   clear HO hg
   go_upto_region 3 with fail
   refine wl <| YN ZY (ZC rfl j n HD.out) <| wn ?_
   simp only [pu]
   go_upto_region 7 with fail
   refine wl <| ZG (.slice b k d) (.slice b k d) <| wn ?_
   simp only [pu]
   go_wp2_with fail
   go_ret
   exact ⟨_, rfl, ig.out, HB.out⟩
end Go.Proofs.Ytnhlpahoomcgnaa
