/-
  Texts LM LC LT joined.
-/
import Derived.Test.YtnhlpahoomcgnaaJ9
import Derived.Test.YtnhlpahoomcgnaaJ1
set_option maxRecDepth 100000
set_option maxHeartbeats 8000000
set_option linter.unusedSimpArgs false
set_option linter.unusedVariables false
namespace Go.Proofs.Ytnhlpahoomcgnaa.Lg
open Go.RowKit
def Zy (A : List Ac) : List Int := A.map (·.2.1)
def Yp (A : List Ac) (c : Int) : Bool := JL (c :: Zy A)
def Oe (A : List Ac) (c : Int) : Int := JK (c :: Zy A)
def Gl (A : List Ac) (c : Int) : Int := if Yp A c = true then 0 else 6
def Ze (A : List Ac) (s : ByteArray) : Nat := A.findIdx (fun x => decide (x.1 = s))
def Y1 (A : List Ac) (s : ByteArray) : Nat := A.findIdx (fun x => !WG x.1 s)
def Y9 (A : List Ac) (a : Ac) : List Ac := if Ze A a.1 < A.length then A.set (Ze A a.1) a else A.take (Y1 A a.1) ++ a :: A.drop (Y1 A a.1)
def Xb (A : List Ac) (i : Nat) : Int :=
 if isName (nums (aca A i).1) = false then 10
 else if 0 < i ∧ (aca A (i - 1)).1 = (aca A i).1 then 8
 else if 0 < i ∧ WG (aca A i).1 (aca A (i - 1)).1 = true then 1
 else 0
def EY (f : Nat → Int) : Nat → Int
 | 0 => 0
 | n + 1 => if EY f n ≠ 0 then EY f n else f n
theorem N9 {f : Nat → Int} : ∀ {n : Nat}, (∀ j, j < n → f j = 0) → EY f n = 0
 | 0, _ => rfl
 | n + 1, h => by
  unfold EY
  rw [N9 (n := n) (fun j hj => h j (by omega)), if_neg (by simp)]
  exact h n (by omega)
theorem Il {f : Nat → Int} : ∀ {n : Nat}, EY f n = 0 → ∀ j, j < n → f j = 0
 | 0, _, j, hj => by omega
 | n + 1, h, j, hj => by
  unfold EY at h
  by_cases h1 : EY f n = 0
  ·rw [h1, if_neg (by simp)] at h
   rcases Nat.lt_or_ge j n with h2 | h2
   ·exact Il h1 j h2
   ·have : j = n := by omega
    subst this; exact h
  ·rw [if_pos h1] at h
   exact absurd h h1
theorem Ip {f : Nat → Int} {i : Nat} : ∀ {n : Nat}, i < n → (∀ j, j < i → f j = 0) → f i ≠ 0 → EY f n = f i
 | 0, hi, _, _ => by omega
 | n + 1, hi, h, he => by
  unfold EY
  rcases Nat.lt_or_ge i n with h1 | h1
  ·have e := Ip h1 h he
   rw [e, if_pos he]
  ·have : i = n := by omega
   subst this
   rw [N9 h, if_neg (by simp)]
def Y8 (A : List Ac) (c : Int) : Int := if 256 < A.length then 3 else if EY (Xb A) A.length ≠ 0 then EY (Xb A) A.length else Gl A c
def Rl (A : List Ac) : Prop := ∀ i j, i < j → j < A.length → WG (aca A i).1 (aca A j).1 = true
def Pj (A : List Ac) : Prop := ∀ i, i < A.length → isName (nums (aca A i).1) = true
theorem Xc {A : List Ac} {c : Int} (h : Y8 A c = 0) : A.length ≤ 256 ∧ Rl A ∧ Pj A ∧ Yp A c = true := by
 unfold Y8 at h
 by_cases h1 : 256 < A.length
 ·rw [if_pos h1] at h; cases h
 rw [if_neg h1] at h
 by_cases h2 : EY (Xb A) A.length = 0
 ·rw [h2, if_neg (by simp)] at h
  have h3 := Il h2
  have hn : Pj A := fun i hi => by
   have := h3 i hi
   unfold Xb at this
   by_cases h4 : isName (nums (aca A i).1) = true
   ·exact h4
   ·rw [if_pos (by simpa using h4)] at this; cases this
  have hs : ∀ i, i + 1 < A.length → WG (aca A i).1 (aca A (i + 1)).1 = true := fun i hi => by
   have := h3 (i + 1) hi
   unfold Xb at this
   rw [if_neg (by rw [hn (i + 1) hi]; simp), show i + 1 - 1 = i by omega] at this
   by_cases h4 : (aca A i).1 = (aca A (i + 1)).1
   ·rw [if_pos ⟨by omega, h4⟩] at this; cases this
   rw [if_neg (fun q => h4 q.2)] at this
   by_cases h5 : WG (aca A (i + 1)).1 (aca A i).1 = true
   ·rw [if_pos ⟨by omega, h5⟩] at this; cases this
   exact N7 (by simpa using h5) (fun e => h4 e.symm)
  refine ⟨by omega, fun i j hij hj => ?_, hn, ?_⟩
  ·obtain ⟨d, rfl⟩ : ∃ d, j = i + 1 + d := ⟨j - i - 1, by omega⟩
   clear hij
   induction d with
   | zero => exact hs i hj
   | succ d ih => exact RZ (ih (by omega)) (hs (i + 1 + d) hj)
  ·unfold Gl at h
   by_cases h5 : Yp A c = true
   ·exact h5
   ·rw [if_neg h5] at h; cases h
 ·rw [if_pos h2] at h
  exact absurd h h2
theorem NZ {A : List Ac} {c : Int} (h1 : A.length ≤ 256) (h2 : Rl A) (h3 : Pj A) (h4 : Yp A c = true) : Y8 A c = 0 := by
 unfold Y8
 rw [if_neg (by omega), N9, if_neg (by simp)]
 ·unfold Gl; rw [if_pos h4]
 intro j hj
 unfold Xb
 rw [if_neg (by rw [h3 j hj]; simp)]
 by_cases h0 : 0 < j
 ·have := h2 (j - 1) j (by omega) hj
  rw [if_neg (fun q => qI this q.2), if_neg (fun q => by rw [D6 this] at q; cases q.2)]
 ·rw [if_neg (fun q => h0 q.1), if_neg (fun q => h0 q.1)]
theorem YH {A : List Ac} {i : Nat} (h : i < A.length) : aca A i = A[i] := getD_lt A i _ h
theorem Ed {A : List Ac} {s : ByteArray} {i : Nat} (h : i < A.length) (hb : ∀ j, j < i → (aca A j).1 ≠ s) (hi : (aca A i).1 = s) : Ze A s = i := by
 unfold Ze
 rw [List.findIdx_eq h]
 refine ⟨by rw [← YH h]; exact decide_eq_true hi, fun j hj => ?_⟩
 rw [← YH (by omega)]
 exact decide_eq_false (hb j hj)
theorem Ec {A : List Ac} {s : ByteArray} (hb : ∀ j, j < A.length → (aca A j).1 ≠ s) : Ze A s = A.length := by
 unfold Ze
 rw [List.findIdx_eq_length]
 intro x hx
 obtain ⟨j, hj, rfl⟩ := List.mem_iff_getElem.1 hx
 rw [← YH hj]
 exact decide_eq_false (hb j hj)
theorem Sv {A : List Ac} {s : ByteArray} (h : Ze A s < A.length) : (aca A (Ze A s)).1 = s ∧ ∀ j, j < Ze A s → (aca A j).1 ≠ s := by
 refine ⟨?_, fun j hj => ?_⟩
 ·have := List.findIdx_getElem (w := h)
  rw [YH h]
  exact of_decide_eq_true this
 ·have := List.not_of_lt_findIdx hj
  rw [YH (by omega)]
  simpa using this
theorem D5 (A : List Ac) (s : ByteArray) : Ze A s ≤ A.length := List.findIdx_le_length
theorem Ik {A : List Ac} {s : ByteArray} (h : ¬ Ze A s < A.length) : ∀ j, j < A.length → (aca A j).1 ≠ s := fun j hj e => by
 have h1 := D5 A s
 have h2 : Ze A s = A.length := by omega
 unfold Ze at h2
 rw [List.findIdx_eq_length] at h2
 have := h2 (aca A j) (UM hj)
 exact of_decide_eq_false this e
theorem JC {A : List Ac} {s : ByteArray} {i : Nat} (h : i ≤ A.length) (hb : ∀ j, j < i → WG (aca A j).1 s = true) (hi : i < A.length → WG (aca A i).1 s = false) : Y1 A s = i := by
 unfold Y1
 rcases Nat.lt_or_ge i A.length with h1 | h1
 ·rw [List.findIdx_eq h1]
  refine ⟨by rw [← YH h1, hi h1]; rfl, fun j hj => ?_⟩
  rw [← YH (by omega), hb j hj]
  rfl
 ·have : i = A.length := by omega
  subst this
  rw [List.findIdx_eq_length]
  intro x hx
  obtain ⟨j, hj, rfl⟩ := List.mem_iff_getElem.1 hx
  rw [← YH hj, hb j hj]
  rfl
theorem VK (A : List Ac) (s : ByteArray) : Y1 A s ≤ A.length := List.findIdx_le_length
theorem DZ {A : List Ac} {s : ByteArray} {j : Nat} (hj : j < Y1 A s) : WG (aca A j).1 s = true := by
 have h1 := VK A s
 have := List.not_of_lt_findIdx hj
 rw [YH (by omega)]
 simpa using this
theorem qH {A : List Ac} {s : ByteArray} (h : Y1 A s < A.length) : WG (aca A (Y1 A s)).1 s = false := by
 have this : (!WG (A[Y1 A s]'h).1 s) = true := List.findIdx_getElem (w := h)
 rw [YH h]
 revert this
 cases WG (A[Y1 A s]'h).1 s <;> simp
theorem Iz {A : List Ac} {s : ByteArray} (h : Rl A) (hf : Ze A s < A.length) : Y1 A s = Ze A s := by
 obtain ⟨h1, h2⟩ := Sv hf
 refine JC (D5 A s) (fun j hj => ?_) (fun _ => ?_)
 ·have := h j _ hj hf
  rwa [h1] at this
 ·rw [h1, QS]
theorem yF {A : List Ac} {s : ByteArray} (h : Rl A) : (decide (Ze A s < A.length)) = (decide (Y1 A s < A.length ∧ (aca A (Y1 A s)).1 = s)) := by
 rw [decide_eq_decide]
 constructor
 ·intro hf
  rw [Iz h hf]
  exact ⟨hf, (Sv hf).1⟩
 ·rintro ⟨h1, h2⟩
  refine Decidable.byContradiction fun hn => Ik hn _ h1 h2
theorem WY {A : List Ac} {a : Ac} (h : Ze A a.1 < A.length) : Y9 A a = A.set (Ze A a.1) a := if_pos h
theorem VO {A : List Ac} {a : Ac} (h : ¬ Ze A a.1 < A.length) : Y9 A a = A.take (Y1 A a.1) ++ a :: A.drop (Y1 A a.1) := if_neg h
theorem Ye (A : List Ac) (a : Ac) : (Y9 A a).length = if Ze A a.1 < A.length then A.length else A.length + 1 := by
 by_cases h : Ze A a.1 < A.length
 ·rw [WY h, if_pos h, List.length_set]
 ·have := VK A a.1
  rw [VO h, if_neg h, List.length_append, List.length_cons, List.length_take, List.length_drop]
  omega
theorem NY {A : List Ac} {i j : Nat} {a : Ac} (h : i < A.length) : aca (A.set i a) j = if j = i then a else aca A j := by
 unfold aca
 rw [List.getD_eq_getElem?_getD, List.getElem?_set, List.getD_eq_getElem?_getD]
 by_cases e : j = i
 ·subst e; rw [if_pos rfl, if_pos h, if_pos rfl]; rfl
 ·rw [if_neg (fun q => e q.symm), if_neg e]
theorem NW {A : List Ac} {i j : Nat} {a : Ac} (h : i ≤ A.length) : aca (A.take i ++ a :: A.drop i) j = if j < i then aca A j else if j = i then a else aca A (j - 1) := by
 unfold aca
 have ht : (A.take i).length = i := by rw [List.length_take]; omega
 simp only [List.getD_eq_getElem?_getD]
 by_cases h1 : j < i
 ·rw [if_pos h1, List.getElem?_append_left (by omega), List.getElem?_take, if_pos h1]
 rw [if_neg h1, List.getElem?_append_right (by omega), ht]
 by_cases h2 : j = i
 ·subst h2; rw [if_pos rfl, Nat.sub_self]; rfl
 ·rw [if_neg h2]
  obtain ⟨d, rfl⟩ : ∃ d, j = i + 1 + d := ⟨j - i - 1, by omega⟩
  rw [show i + 1 + d - i = d + 1 by omega, List.getElem?_cons_succ, List.getElem?_drop, show i + 1 + d - 1 = i + d by omega]
theorem UL {A : List Ac} {a : Ac} (h : Rl A) : Rl (Y9 A a) := by
 have hl := Ye A a
 by_cases hf : Ze A a.1 < A.length
 ·rw [if_pos hf] at hl
  intro i j hij hj
  rw [WY hf, NY hf, NY hf]
  obtain ⟨h1, -⟩ := Sv hf
  by_cases e1 : i = Ze A a.1
  ·subst e1
   rw [if_pos rfl, if_neg (by omega), ← h1]
   exact h _ _ hij (by omega)
  ·rw [if_neg e1]
   by_cases e2 : j = Ze A a.1
   ·subst e2
    rw [if_pos rfl, ← h1]
    exact h _ _ hij (by omega)
   ·rw [if_neg e2]
    exact h _ _ hij (by omega)
 ·rw [if_neg hf] at hl
  have hle := VK A a.1
  have hge : ∀ k, Y1 A a.1 ≤ k → k < A.length → WG a.1 (aca A k).1 = true := fun k h1 h2 => by
   have hn := Ik hf
   have h3 := qH (A := A) (s := a.1) (by omega)
   have h4 := N7 h3 (hn _ (by omega))
   rcases Nat.lt_or_ge (Y1 A a.1) k with h5 | h5
   ·exact RZ h4 (h _ _ h5 h2)
   ·have : k = Y1 A a.1 := by omega
    rw [this]; exact h4
  intro i j hij hj
  rw [VO hf, NW hle, NW hle]
  by_cases e1 : j < Y1 A a.1
  ·rw [if_pos (by omega), if_pos e1]
   exact h _ _ hij (by omega)
  rw [if_neg e1]
  by_cases e2 : j = Y1 A a.1
  ·rw [if_pos e2, if_pos (by omega)]
   exact DZ (by omega)
  rw [if_neg e2]
  by_cases e3 : i < Y1 A a.1
  ·rw [if_pos e3]
   exact RZ (DZ e3) (hge _ (by omega) (by omega))
  rw [if_neg e3]
  by_cases e4 : i = Y1 A a.1
  ·rw [if_pos e4]
   exact hge _ (by omega) (by omega)
  ·rw [if_neg e4]
   exact h _ _ (by omega) (by omega)
theorem UK {A : List Ac} {a : Ac} (h : Pj A) (ha : isName (nums a.1) = true) : Pj (Y9 A a) := by
 have hl := Ye A a
 intro i hi
 by_cases hf : Ze A a.1 < A.length
 ·rw [if_pos hf] at hl
  rw [WY hf, NY hf]
  by_cases e : i = Ze A a.1
  ·rw [if_pos e]; exact ha
  ·rw [if_neg e]; exact h i (by omega)
 ·rw [if_neg hf] at hl
  rw [VO hf, NW (VK A a.1)]
  by_cases e : i < Y1 A a.1
  ·rw [if_pos e]; exact h i (by have := VK A a.1; omega)
  rw [if_neg e]
  by_cases e2 : i = Y1 A a.1
  ·rw [if_pos e2]; exact ha
  ·rw [if_neg e2]; exact h _ (by omega)
def YI (B : List Ac) : List Ac → List Ac × Int
 | [] => (B, 0)
 | a :: r => if isName (nums a.1) = false then ([], 10) else if Ze B a.1 < B.length then ([], 8) else YI (Y9 B a) r
def X4 (A : List Ac) : List Ac × Int :=
 if 256 < A.length then ([], 3) else if (YI [] A).2 ≠ 0 then ([], (YI [] A).2) else if Yp (YI [] A).1 0 = true then ((YI [] A).1, 0) else ([], 6)
def TB (A : List Ac) (c : Int) (a : Ac) : List Ac × Int × Int :=
 if Y8 A c ≠ 0 then ([], 0, Y8 A c) else if isName (nums a.1) = false then ([], 0, 10) else if 256 < (Y9 A a).length then ([], 0, 3) else if Yp (Y9 A a) c = true then (Y9 A a, c, 0) else ([], 0, 6)
def Zw (A : List Ac) (s : ByteArray) : Ac × Bool := if Ze A s < A.length then (aca A (Ze A s), true) else (Xg, false)
theorem DY : ∀ (A B : List Ac), Rl B → Pj B → (YI B A).2 = 0 → Rl (YI B A).1 ∧ Pj (YI B A).1 ∧ (YI B A).1.length = B.length + A.length
 | [], B, h1, h2, h3 => ⟨h1, h2, rfl⟩
 | a :: r, B, h1, h2, h3 => by
  unfold YI at h3 ⊢
  by_cases e1 : isName (nums a.1) = false
  ·rw [if_pos e1] at h3; cases h3
  rw [if_neg e1] at h3 ⊢
  by_cases e2 : Ze B a.1 < B.length
  ·rw [if_pos e2] at h3; cases h3
  rw [if_neg e2] at h3 ⊢
  obtain ⟨q1, q2, q3⟩ := DY r (Y9 B a) (UL h1) (UK h2 (by simpa using e1)) h3
  refine ⟨q1, q2, ?_⟩
  rw [q3, Ye, if_neg e2, List.length_cons]
  omega
theorem Oi : Rl [] := fun i j h1 h2 => by simp at h2
theorem Oh : Pj [] := fun i h => by simp at h
theorem OA {A : List Ac} (h : (X4 A).2 = 0) : Y8 (X4 A).1 0 = 0 ∧ (X4 A).1.length = A.length := by
 unfold X4 at h ⊢
 by_cases e1 : 256 < A.length
 ·rw [if_pos e1] at h; cases h
 rw [if_neg e1] at h ⊢
 by_cases e2 : (YI [] A).2 = 0
 ·rw [e2, if_neg (by simp)] at h ⊢
  by_cases e3 : Yp (YI [] A).1 0 = true
  ·rw [if_pos e3]
   obtain ⟨q1, q2, q3⟩ := DY A [] Oi Oh e2
   have q4 : (YI [] A).1.length = A.length := by simpa using q3
   exact ⟨NZ (by rw [q4]; omega) q1 q2 e3, q4⟩
  ·rw [if_neg e3] at h; cases h
 ·rw [if_pos e2] at h
  exact absurd h e2
theorem Ij {A : List Ac} {c : Int} {a : Ac} (h : (TB A c a).2.2 = 0) : TB A c a = (Y9 A a, c, 0) ∧ Y8 A c = 0 ∧ isName (nums a.1) = true ∧ Y8 (Y9 A a) c = 0 := by
 unfold TB at h ⊢
 by_cases e1 : Y8 A c = 0
 ·rw [e1, if_neg (by simp)] at h ⊢
  by_cases e2 : isName (nums a.1) = false
  ·rw [if_pos e2] at h; cases h
  rw [if_neg e2] at h ⊢
  by_cases e3 : 256 < (Y9 A a).length
  ·rw [if_pos e3] at h; cases h
  rw [if_neg e3] at h ⊢
  by_cases e4 : Yp (Y9 A a) c = true
  ·rw [if_pos e4]
   obtain ⟨-, q2, q3, -⟩ := Xc e1
   exact ⟨rfl, rfl, by simpa using e2, NZ (by omega) (UL q2) (UK q3 (by simpa using e2)) e4⟩
  ·rw [if_neg e4] at h; cases h
 ·rw [if_pos e1] at h
  exact absurd h e1
theorem En {A : List Ac} {a : Ac} (h : A.length ≤ 256) : (256 < (Y9 A a).length) ↔ (¬ Ze A a.1 < A.length ∧ A.length = 256) := by
 rw [Ye]
 by_cases hf : Ze A a.1 < A.length
 ·rw [if_pos hf]
  exact ⟨fun q => by omega, fun q => absurd hf q.1⟩
 ·rw [if_neg hf]
  exact ⟨fun q => ⟨hf, by omega⟩, fun q => by omega⟩
def Xz (A : List Ac) : Prop := ∀ i, i < A.length → W64 (aca A i).2.1 ∧ W64 (aca A i).2.2
theorem VN {A : List Ac} (h : Xz A) : ∀ x, x ∈ A → W64 x.2.1 ∧ W64 x.2.2 := fun x hx => by
 obtain ⟨j, hj, rfl⟩ := List.mem_iff_getElem.1 hx
 rw [← YH hj]
 exact h j hj
theorem QG {A : List Ac} (h : ∀ x, x ∈ A → W64 x.2.1 ∧ W64 x.2.2) : Xz A := fun i hi => h _ (UM hi)
theorem XB : Xz [] := fun i h => by simp at h
theorem put_mem {A : List Ac} {a x : Ac} (h : x ∈ Y9 A a) : x = a ∨ x ∈ A := by
 unfold Y9 at h
 split at h
 ·rcases List.mem_or_eq_of_mem_set h with h1 | h1
  ·exact .inr h1
  ·exact .inl h1
 ·rcases List.mem_append.1 h with h1 | h1
  ·exact .inr (List.mem_of_mem_take h1)
  ·rcases List.mem_cons.1 h1 with h2 | h2
   ·exact .inl h2
   ·exact .inr (List.mem_of_mem_drop h2)
theorem Pm {A : List Ac} {a : Ac} (h : Xz A) (ha : W64 a.2.1 ∧ W64 a.2.2) : Xz (Y9 A a) := QG fun x hx => (put_mem hx).elim (fun e => e ▸ ha) (VN h x)
theorem Iu : ∀ (A B : List Ac), Xz B → (∀ x, x ∈ A → W64 x.2.1 ∧ W64 x.2.2) → Xz (YI B A).1
 | [], B, h1, h2 => h1
 | a :: r, B, h1, h2 => by
  unfold YI
  split
  ·exact XB
  split
  ·exact XB
  exact Iu r (Y9 B a) (Pm h1 (h2 a (List.mem_cons_self ..))) (fun x hx => h2 x (List.mem_cons_of_mem _ hx))
theorem JX {A : List Ac} (h : Xz A) : Xz (X4 A).1 := by
 unfold X4
 split
 ·exact XB
 split
 ·exact XB
 split
 ·exact Iu A [] XB (VN h)
 ·exact XB
end Go.Proofs.Ytnhlpahoomcgnaa.Lg
namespace Go.Proofs.Ytnhlpahoomcgnaa.Lg
attribute [local irreducible] wpList wpQuiet
open Go.RowKit
theorem WW (V : World) (x : Ac) : ∃ V2, (Instr.storeAt 49 (Z5 V.heap.size 0) (.agg (ZA x))).run Try.prog (V.alloc (.cells (ZA Xg) 49)) = .ok () V2 ∧ Below V.heap.size V V2 ∧ Bx V2 V.heap.size (ZA x) 49 :=
 have hb : Bx (V.alloc (.cells (ZA Xg) 49)) V.heap.size (ZA Xg) 49 := heap_alloc_last V _
 ⟨_, (XV hb).1, ZT ((Below.refl _ V).alloc (Nat.le_refl _) _) (Nat.le_refl _) _, (XV hb).2⟩
abbrev ZU (a : Option Addr) (n k : Nat) (c : Int) : Array Value := #[.slice a n k, Z7 c]
theorem ZJ {w : World} {g : Nat} {a a' : Option Addr} {n n' k k' : Nat} {c c' : Int} (h : Bx w g (ZU a n k c) 33) : (Instr.storeAt 33 (Z5 g 0) (.agg (ZU a' n' k' c'))).run Try.prog w = .ok () (w.setRow g (ZU a' n' k' c')) ∧ Bx (w.setRow g (ZU a' n' k' c')) g (ZU a' n' k' c') 33 :=
 ⟨YW h rfl (by simp [Value.oneCell']) (by kernel_rfl), h.set⟩
theorem VE (V : World) (a : Option Addr) (n k : Nat) (c : Int) : ∃ V2, (Instr.storeAt 33 (Z5 V.heap.size 0) (.agg (ZU a n k c))).run Try.prog (V.alloc (.cells (ZU none 0 0 0) 33)) = .ok () V2 ∧ Below V.heap.size V V2 ∧ Bx V2 V.heap.size (ZU a n k c) 33 :=
 have hb : Bx (V.alloc (.cells (ZU none 0 0 0) 33)) V.heap.size (ZU none 0 0 0) 33 := heap_alloc_last V _
 ⟨_, (ZJ hb).1, ZT ((Below.refl _ V).alloc (Nat.le_refl _) _) (Nat.le_refl _) _, (ZJ hb).2⟩
theorem ZQ {w : World} {g : Nat} {a : Option Addr} {n k : Nat} {c : Int} (h : Bx w g (ZU a n k c) 33) : (Instr.loadAt 33 (Z5 g 0)).run Try.prog w = .ok (.agg (ZU a n k c)) w :=
 run_loadAt_mid w g 0 33 [.slice a n k, Z7 c] _ (fun j v hv => by
  rw [cell_of_row w g _ _ _ (0, 0) h]
  simpa using hv) Try.underlying33 rfl (by kernel_rfl)
theorem D7 : ∀ (x y : List UInt8), (Lib.compareBytes x y < 0 ↔ x < y) ∧ (Lib.compareBytes x y = 0 ↔ x = y)
 | [], [] => by simp [Lib.compareBytes]
 | [], _ :: _ => by simp [Lib.compareBytes]
 | _ :: _, [] => by simp [Lib.compareBytes]
 | a :: x, b :: y => by
  obtain ⟨h1, h2⟩ := D7 x y
  unfold Lib.compareBytes
  by_cases e1 : a < b
  ·rw [if_pos e1]
   have : a ≠ b := fun e => by subst e; exact absurd e1 (UInt8.lt_irrefl _)
   simp [List.cons_lt_cons_iff, e1, this]
  rw [if_neg e1]
  by_cases e2 : b < a
  ·rw [if_pos e2]
   have h3 : a ≠ b := fun e => by subst e; exact absurd e2 (UInt8.lt_irrefl _)
   simp [List.cons_lt_cons_iff, e1, h3]
  ·rw [if_neg e2]
   have h3 : a = b := UInt8.le_antisymm (UInt8.not_lt.1 e2) (UInt8.not_lt.1 e1)
   subst h3
   simp [List.cons_lt_cons_iff, e1, h1, h2]
def N8 (a b : ByteArray) : Int := Lib.compareBytes a.data.toList b.data.toList
theorem yJ (a b : ByteArray) : decide (N8 a b < 0) = WG a b := decide_eq_decide.2 (D7 _ _).1
theorem yI (a b : ByteArray) : decide (N8 a b = 0) = decide (a = b) := decide_eq_decide.2 ((D7 _ _).2.trans ⟨fun h => ByteArray.ext (Array.toList_inj.1 h), fun h => by rw [h]⟩)
theorem qK (a b : ByteArray) (w : World) : Calls Try.prog 64 #[.string a, .string b] w fun e w' => e = .returned (Z8 (N8 a b)) ∧ w = w' := by
 go_enter Try.func64, Try.ntmps64
 go_wp2
 rw [run_callFunc_extern Try.func79 (by kernel_rfl) (by kernel_rfl) (by kernel_rfl) (e := Extern.BytealgCompare.compare) (by kernel_rfl), Lib.run_compareString]
 simp only [Result.andThen]
 rw [Oper.upon_value]
 go_wp2
 go_ret
 exact ⟨rfl, rfl⟩
theorem jI (a b : ByteArray) (w : World) : Calls Try.prog 52 #[.string a, .string b] w fun e w' => e = .returned (Z8 (N8 a b)) ∧ w = w' := by
 have CB := qK a b w
 generalize N8 a b = q at *
 go_enter Try.func52, Try.ntmps52
 go_upto_region 1 with fail
 refine wl <| ZG (.string a) (.string b) <| Y2 (Z8 q) (fun w' => w = w') (CB) (fun V9 XQ => ?_)
 subst XQ
 simp only [pu]
 refine ZV (Z8 q) <| wn ?_
 simp only [pu]
 clear CB
 go_wp2_with fail
 go_ret
 exact ⟨rfl, rfl⟩
theorem LG (x : Ac) (s : ByteArray) (w : World) : Calls Try.prog 51 #[.agg (ZA x), .string s] w fun e w' => e = .returned (Z8 (N8 x.1 s)) ∧ Below w.heap.size w w' := by
 have hb0 : Below w.heap.size w (w.alloc (.cells (ZA x) 49)) := (Below.refl _ w).alloc (Nat.le_refl _) _
 have hX : Bx (w.alloc (.cells (ZA x) 49)) w.heap.size (ZA x) 49 := heap_alloc_last w _
 have CB := jI x.1 s (w.alloc (.cells (ZA x) 49))
 obtain ⟨q, hq⟩ := ZR (N8 x.1 s)
 rw [hq] at CB ⊢
 clear hq
 go_enter Try.func51, Try.ntmps51
 go_upto_region 1 with fail
 change Code.wp _ _ _ _ (w.alloc (.cells (ZA x) 49))
 generalize w.alloc (.cells (ZA x) 49) = W at *
 have HB := Z9 hb0
 clear hb0
 refine wl <| ZV (Z5 w.heap.size 0) <| ZI rfl ⟨w.heap.size, 0, none⟩ (.string x.1) (hX.ZN 0) <| ZV (.string s) <| Y2 (Z8 q) (fun w' => W = w') (CB) (fun V9 XQ => ?_)
 subst XQ
 simp only [pu]
 refine ZV (Z8 q) <| wn ?_
 simp only [pu]
 clear CB hX
 go_wp2_with fail
 go_ret
 exact ⟨rfl, HB.out⟩
theorem QT {ρ : Operand → Value} {o : Oper} {x : Operand} (ho : o.op = .convert 3 119 x) (a : Nat) (h : a ≤ 9223372036854775807) (hx : ρ x = Z8 a) (w : World) : (execOp ρ o).run Try.prog w = .ok (.value (Z7 a)) w := by
 have e : IntKind.u64.wrap (a : Int) = a := by rw [IntKind.wrap_u64]; omega
 unfold execOp
 simp only [ho, hx]
 go_simp
theorem yH {ρ : Operand → Value} {o : Oper} {x : Operand} (ho : o.op = .convert 119 3 x) (a : Nat) (h : a ≤ 9223372036854775807) (hx : ρ x = Z7 a) (w : World) : (execOp ρ o).run Try.prog w = .ok (.value (Z8 a)) w := by
 have e : IntKind.i64.wrap (a : Int) = a := by rw [IntKind.wrap_i64]; omega
 unfold execOp
 simp only [ho, hx]
 go_simp
theorem qJ {ρ : Operand → Value} {o : Oper} {x y : Operand} (ho : o.op = .binOp .shr 119 x y 119) (a : Nat) (h : a ≤ 9223372036854775807) (hx : ρ x = Z7 a) (hy : ρ y = Z7 1) (w : World) : (execOp ρ o).run Try.prog w = .ok (.value (Z7 (a / 2 : Nat))) w := by
 unfold execOp
 simp only [ho, hx, hy]
 go_simp
theorem aa2 (a : Option Addr) (k : Nat) (A : List Ac) (s : ByteArray) (w : World) (hR : Cs w a (acc A)) (hs : Rl A) (hn : A.length ≤ 1000000) :
  Calls Try.prog 50 #[.slice a A.length k, .string s, .func (.func 51) #[] #[]] w fun e w' => e = .returned (.tuple #[Z8 (Y1 A s), .bool (decide (Ze A s < A.length))]) ∧ Below w.heap.size w w' := by
 have HA := Z9 hR
 have HLT := Z9 (fun i => yJ (aca A i).1 s)
 have dA := Z9 (fun i => yI (aca A i).1 s)
 have HS := Z9 hs
 obtain ⟨n, hnn⟩ := ZR A.length
 have HN := Z9 hnn
 have TI : Hid (n ≤ 1000000) := Z9 (by omega)
 obtain ⟨lL, mD⟩ := ZR (Y1 A s)
 obtain ⟨fF, Gh⟩ := ZR (decide (Ze A s < n))
 have yG : Hid (∀ i, i ≤ n → (∀ t, t < i → WG (aca A t).1 s = true) → (∀ t, i ≤ t → t < n → WG (aca A t).1 s = false) → i = lL ∧ fF = decide (i < n ∧ (aca A i).1 = s)) := Z9 fun i h1 h2 h3 => by
  have e := JC (A := A) (s := s) (i := i) (by omega) h2 (fun h => h3 i (Nat.le_refl _) (by omega))
  refine ⟨by rw [← mD, e], ?_⟩
  rw [← Gh, ← hnn, yF hs, e]
 rw [hnn, mD, Gh]
 clear mD Gh hR hs hn hnn
 go_enter Try.func50, Try.ntmps50
 go_upto_region 1 with fail
 refine wl <| YT (.slice a n k) (Z8 n) (Z8 n) <| wn ?_
 simp only [pu]
 go_upto_region 2 with fail
 refine wl <| YT (Z8 n) (Z8 0) (Z8 n) <| wn ?_
 simp only [pu]
 go_wp2_with fail
 go_loopg [9, 10] n (fun gg s9 s10 wx => ∃ i j : Nat, s9 = Z8 i ∧ s10 = Z8 j ∧ i ≤ j ∧ j ≤ n ∧ Hid ((∀ t, t < i → WG (aca A t).1 s = true) ∧ (∀ t, j ≤ t → t < n → WG (aca A t).1 s = false)) ∧ Hid (Below w.heap.size w wx) ∧ j - i = gg)
 case atStart => exact ⟨0, n, rfl, rfl, by omega, by omega, Z9 ⟨fun t h => by omega, fun t h h2 => by omega⟩, Z9 (Below.refl _ _), by omega⟩
 case round =>
  obtain ⟨i, j, rfl, rfl, hij, hjn, HO, HB, hg⟩ := hrel
  have EO := TI.out
  by_cases hlt : i < j
  ·go_upto_region 3 with fail
   refine wl <| ZG (Z8 i) (Z8 j) <| ZM (ZC rfl (i) (j) dT) <| wn ?_
   simp only [pu]
   go_upto_region 4 with fail
   refine wl <| ZG (Z8 i) (Z8 j) <| YN (Z8 (i + j : Nat)) (ZK rfl i j (by omega)) <| YO (Z7 (i + j : Nat)) (QT rfl (i + j) (by omega) (by kernel_rfl) _) <|
    YN (Z7 ((i + j) / 2 : Nat)) (qJ rfl (i + j) (by omega)) <| YO (Z8 ((i + j) / 2 : Nat)) (yH rfl ((i + j) / 2) (by omega) (by kernel_rfl) _) <| ZV (Z8 ((i + j) / 2 : Nat)) <| wn ?_
   simp only [pu]
   obtain ⟨h, hh⟩ := ZR ((i + j) / 2)
   have HH : Hid (i ≤ h ∧ h < j) := Z9 (by omega)
   have hhn : h < n := by have := HH.out; omega
   rw [hh]
   clear hh
   obtain ⟨b, off, rfl, -, hrx⟩ := YS (HA.out.below HB.out) (k := h) (by rw [HN.out]; exact hhn)
   have Y0 := Z9 (Ym hrx)
   have hl1 := HLT.out h
   generalize hy : aca A h = y at *
   have CP := LG y s wr
   obtain ⟨q, hq⟩ := ZR (N8 y.1 s)
   rw [hq] at CP hl1
   have HY := Z9 hy
   have HG := Z9 hg
   clear hrx hq hy hg
   go_upto_region 5 with fail
   by_cases hqq : q < 0
   ·rw [decide_eq_true hqq] at hl1
    refine wl <| YT (.func (.func 51) #[] #[]) (.slice (some ⟨b, off, none⟩) n k) (Z8 h) <| YO (Z5 b (off + h * 3)) (YR b off n k h hhn _ _ _ rfl (by kernel_rfl) (by kernel_rfl)) <| ZI rfl ⟨b, off + h * 3, none⟩ (.agg (ZA y)) (Y0.out) <|
     ZV (.string s) <| Y2 (Z8 q) (fun w' => Below wr.heap.size wr w') (CP) (fun V9 XQ => ?_)
    have Zj := Z9 (HB.out.trans (XQ.mono HB.out.size))
    simp only [pu]
    refine ZM (ZC rfl (q) (0) (decide_eq_true (hqq))) <| wn ?_
    simp only [pu]
    clear XQ HB Y0 CP hqq
    have Gq : Hid ((∀ t, t < h + 1 → WG (aca A t).1 s = true) ∧ (∀ t, j ≤ t → t < n → WG (aca A t).1 s = false)) := Z9 ⟨fun t ht => (by rcases Nat.lt_or_ge t h with h7 | h7; exact RZ (HS.out t h h7 (by rw [HN.out]; exact hhn)) (by rw [HY.out]; exact hl1.symm); have e7 : t = h := (by omega); rw [e7, HY.out]; exact hl1.symm), HO.out.2⟩
    go_upto_region 6 with fail
    refine wl <| ZV (Z8 h) <| YN (Z8 (h + 1 : Nat)) (ZK rfl h 1 (by omega)) <| ZV (Z8 (h + 1 : Nat)) <| wn ?_
    simp only [pu]
    clear HO hl1
    go_wp2_with fail
    go_roundg (j - (h + 1))
    case measure => have := HG.out; have := HH.out; omega
    case rel => exact ⟨h + 1, j, rfl, rfl, by have := HH.out; omega, hjn, Gq, Zj, rfl⟩
   ·rw [decide_eq_false hqq] at hl1
    refine wl <| YT (.func (.func 51) #[] #[]) (.slice (some ⟨b, off, none⟩) n k) (Z8 h) <| YO (Z5 b (off + h * 3)) (YR b off n k h hhn _ _ _ rfl (by kernel_rfl) (by kernel_rfl)) <| ZI rfl ⟨b, off + h * 3, none⟩ (.agg (ZA y)) (Y0.out) <|
     ZV (.string s) <| Y2 (Z8 q) (fun w' => Below wr.heap.size wr w') (CP) (fun V9 XQ => ?_)
    have Zj := Z9 (HB.out.trans (XQ.mono HB.out.size))
    simp only [pu]
    refine ZM (ZC rfl (q) (0) (decide_eq_false (hqq))) <| wn ?_
    simp only [pu]
    clear XQ HB Y0 CP hqq
    have Gq : Hid ((∀ t, t < i → WG (aca A t).1 s = true) ∧ (∀ t, h ≤ t → t < n → WG (aca A t).1 s = false)) := Z9 ⟨HO.out.1, fun t ht htn => (by have h0 : WG (aca A h).1 s = false := (by rw [HY.out]; exact hl1.symm); rcases Nat.lt_or_ge h t with h7 | h7; have h8 := HS.out h t h7 (by rw [HN.out]; exact htn); by_cases h9 : WG (aca A t).1 s = true; rw [RZ h8 h9] at h0; cases h0; simpa using h9; have e7 : t = h := (by omega); rw [e7]; exact h0)⟩
    go_upto_region 7 with fail
    refine wl <| ZG (Z8 h) (Z8 h) <| wn ?_
    simp only [pu]
    clear HO hl1
    go_wp2_with fail
    go_roundg (h - i)
    case measure => have := HG.out; have := HH.out; omega
    case rel => exact ⟨i, h, rfl, rfl, by have := HH.out; omega, by have := HH.out; omega, Gq, Zj, rfl⟩
  ·obtain rfl : i = j := by omega
   obtain ⟨hil, dw⟩ := yG.out i hjn HO.out.1 HO.out.2
   subst hil
   clear HO yG hg hij
   by_cases hin : i < n
   ·obtain ⟨b, off, rfl, -, hrx⟩ := YS (HA.out.below HB.out) (k := i) (by rw [HN.out]; exact hin)
    have Y0 := Z9 (Ym hrx)
    have hl1 := dA.out i
    have yE : fF = decide ((aca A i).1 = s) := by rw [dw, decide_eq_decide]; exact ⟨fun h => h.2, fun h => ⟨hin, h⟩⟩
    clear dw
    generalize aca A i = y at *
    rw [← hl1] at yE
    have CP := LG y s wr
    obtain ⟨q, hq⟩ := ZR (N8 y.1 s)
    rw [hq] at CP yE
    have HFF := Z9 yE.symm
    clear hrx hq hl1 yE
    go_upto_region 3 with fail
    refine wl <| ZG (Z8 i) (Z8 i) <| ZM (ZC rfl (i) (i) dF) <| wn ?_
    simp only [pu]
    go_upto_region 8 with fail
    refine wl <| YT (Z8 i) (Z8 i) (Z8 n) <| ZM (ZC rfl (i) (n) dT) <| Xl Z4 (.func (.func 51) #[] #[]) (.slice (some ⟨b, off, none⟩) n k) (Z8 i) <|
     YO (Z5 b (off + i * 3)) (YR b off n k i hin _ _ _ rfl (by kernel_rfl) (by kernel_rfl)) <| ZI rfl ⟨b, off + i * 3, none⟩ (.agg (ZA y)) (Y0.out) <| ZV (.string s) <| Y2 (Z8 q) (fun w' => Below wr.heap.size wr w') (CP) (fun V9 XQ => ?_)
    have Zj := Z9 (HB.out.trans (XQ.mono HB.out.size))
    simp only [pu]
    refine YN (.bool fF) (Xv rfl q 0 HFF.out) <| YT (.bool fF) (Z8 i) (.bool fF) <| wn ?_
    simp only [pu]
    clear XQ HB Y0 CP HFF
    go_wp2_with fail
    go_ret2
    exact ⟨rfl, Zj.out⟩
   ·rw [decide_eq_false (fun h => hin h.1)] at dw
    subst dw
    go_upto_region 3 with fail
    refine wl <| ZG (Z8 i) (Z8 i) <| ZM (ZC rfl (i) (i) dF) <| wn ?_
    simp only [pu]
    go_upto_region 8 with fail
    refine wl <| YT (Z8 i) (Z8 i) (Z8 n) <| ZM (ZC rfl (i) (n) dF) <| YX ZY undef undef undef undef undef <| YX undef undef undef ZY (Z8 i) ZY <|
     wpList_nil ?_
    simp only [pu]
    go_wp2_with fail
    go_ret2
    exact ⟨rfl, HB.out⟩
theorem IB (a : Option Addr) (k : Nat) (A : List Ac) (s : ByteArray) (w : World) (hR : Cs w a (acc A)) (hs : Rl A) (hn : A.length ≤ 1000000) :
  Calls Try.prog 32 #[.slice a A.length k, .string s] w fun e w' => e = .returned (.tuple #[Z8 (Y1 A s), .bool (decide (Ze A s < A.length))]) ∧ Below w.heap.size w w' := by
 have CB := aa2 a k A s w hR hs hn
 obtain ⟨lL, mD⟩ := ZR (Y1 A s)
 obtain ⟨fF, Gh⟩ := ZR (decide (Ze A s < A.length))
 rw [mD, Gh] at CB ⊢
 generalize A.length = n at *
 clear mD Gh hR hs hn
 go_enter Try.func32, Try.ntmps32
 go_upto_region 1 with fail
 refine wl <| ZG (.slice a n k) (.string s) <| Y2 (.tuple #[Z8 lL, .bool fF]) (fun w' => Below w.heap.size w w') (CB) (fun V9 XQ => ?_)
 have Zj := Z9 XQ
 simp only [pu]
 refine Xl (Z8 lL) (.bool fF) (Z8 lL) (.bool fF) <| wn ?_
 simp only [pu]
 clear XQ CB
 go_wp2_with fail
 go_ret2
 exact ⟨rfl, Zj.out⟩
def Og (A : List Ac) (s : ByteArray) : Int := if Ze A s < A.length then Ze A s else -1
theorem LU (a : Option Addr) (k : Nat) (A : List Ac) (s : ByteArray) (w : World) (hR : Cs w a (acc A)) (hn : A.length ≤ 4398046511104) :
  Calls Try.prog 37 #[.slice a A.length k, .string s] w fun e w' => e = .returned (Z8 (Og A s)) ∧ Below w.heap.size w w' := by
 have HA := Z9 hR
 obtain ⟨n, hnn⟩ := ZR A.length
 have HN := Z9 hnn
 have TI : Hid (n ≤ 4398046511104) := Z9 (by omega)
 have HF1 : Hid (∀ i, i < n → (∀ t, t < i → (aca A t).1 ≠ s) → (aca A i).1 = s → Og A s = i) := Z9 fun i h1 h2 h3 => by
  have e := Ed (A := A) (by omega) h2 h3
  unfold Og
  rw [e, if_pos (by omega)]
 have HF2 : Hid ((∀ t, t < n → (aca A t).1 ≠ s) → Og A s = -1) := Z9 fun h => by
  have e := Ec (A := A) (s := s) (fun j hj => h j (by omega))
  unfold Og
  rw [e, if_neg (by omega)]
 rw [hnn]
 generalize Og A s = r at *
 clear hR hn hnn
 go_enter Try.func37, Try.ntmps37
 go_upto_region 1 with fail
 refine wl <| YT (.slice a n k) (Z8 n) (Z8 0) <| wn ?_
 simp only [pu]
 go_wp2_with fail
 go_loopg [9] n (fun gg s9 wx => ∃ j : Nat, s9 = Z8 j ∧ j ≤ n ∧ Hid (∀ t, t < j → (aca A t).1 ≠ s) ∧ Hid (Below w.heap.size w wx) ∧ n - j = gg)
 case atStart => exact ⟨0, rfl, by omega, Z9 (fun t h => by omega), Z9 (Below.refl _ _), by omega⟩
 case round =>
  obtain ⟨j, rfl, hj, HO, HB, hg⟩ := hrel
  have EO := TI.out
  by_cases hlt : j < n
  ·obtain ⟨b, off, rfl, -, hrx⟩ := YS (HA.out.below HB.out) (k := j) (by rw [HN.out]; exact hlt)
   have Y0 := Z9 (Ym hrx)
   have hf1 := HF1.out j hlt HO.out
   generalize hy : aca A j = y at *
   have HY := Z9 hy
   have HG := Z9 hg
   obtain ⟨V2, hst, hb2, hbx⟩ := WW wr y
   have HB2 := Z9 (HB.out.trans (hb2.mono HB.out.size))
   clear hrx hy hg hb2
   go_upto_region 2 with fail
   refine wl <| ZM (ZC rfl (j) (n) dT) <| wn ?_
   simp only [pu]
   go_upto_region 3 with fail
   refine wl <| ZV (Z8 j) <| YO (Z5 b (off + j * 3)) (YR b off n k j hlt _ _ _ rfl (by kernel_rfl) (by kernel_rfl)) <| ZI rfl ⟨b, off + j * 3, none⟩ (.agg (ZA y)) (Y0.out) ?_
   simp only [pu]
   refine Zz rfl (some 6) rfl (Z5 wr.heap.size 0) (wr.alloc (.cells (ZA Xg) 49)) (by kernel_rfl) ?_
   simp only [pu]
   refine ZV (Z8 j) <| Zt rfl (hst) <| wn ?_
   simp only [pu]
   obtain ⟨g4, hg4⟩ := ZR wr.heap.size
   rw [hg4] at hbx ⊢
   clear hst hg4 Y0
   by_cases E5 : y.1 = s
   ·go_upto_region 4 with fail
    refine wl <| ZV (Z5 g4 0) <| ZI rfl ⟨g4, 0, none⟩ (.string y.1) (hbx.ZN 0) <| ZV (.string s) <| YN Z4 (Ui rfl y.1 s (by rw [JE]; exact decide_eq_true E5)) <| wn ?_
    simp only [pu]
    clear hbx
    have HR := Z9 (hf1 E5)
    clear hf1 HO HB
    go_upto_region 5 with fail
    refine wl <| ZG (Z8 j) (Z8 j) <| wn ?_
    simp only [pu]
    go_wp2_with fail
    go_ret
    exact ⟨by rw [HR.out]; rfl, HB2.out⟩
   ·go_upto_region 4 with fail
    refine wl <| ZV (Z5 g4 0) <| ZI rfl ⟨g4, 0, none⟩ (.string y.1) (hbx.ZN 0) <| ZV (.string s) <| YN ZY (Ui rfl y.1 s (by rw [JE]; exact decide_eq_false E5)) <| wn ?_
    simp only [pu]
    clear hbx
    have Gq : Hid (∀ t, t < j + 1 → (aca A t).1 ≠ s) := Z9 fun t ht => (by rcases Nat.lt_or_ge t j with h7 | h7; exact HO.out t h7; have e7 : t = j := (by omega); rw [e7, HY.out]; exact E5)
    clear hf1 HO HB E5
    go_upto_region 6 with fail
    refine wl <| YN (Z8 (j + 1 : Nat)) (ZK rfl j 1 (by omega)) <| ZV (Z8 (j + 1 : Nat)) <| wn ?_
    simp only [pu]
    go_wp2_with fail
    go_roundg (n - (j + 1))
    case measure => have := HG.out; omega
    case rel => exact ⟨j + 1, rfl, hlt, Gq, HB2, rfl⟩
  ·obtain rfl : n = j := by omega
   obtain rfl := HF2.out HO.out
   clear HO HF1 HF2 hg
   go_upto_region 2 with fail
   refine wl <| ZM (ZC rfl (n) (n) dF) <| wn ?_
   simp only [pu]
   go_upto_region 7 with fail
   refine wl <| ZV (Z8 (-1)) <| wn ?_
   simp only [pu]
   go_wp2_with fail
   go_ret
   exact ⟨rfl, HB.out⟩
theorem ZP {fn : Func} {tmps : Array Value} {w : World} {p q g ty : Nat} {v u : Value} (hr : fn.results = #[.cell p ty, .tmp q]) (h2 : tmps.getD p undef = Z5 g 0) (hl : (Instr.loadAt ty (Z5 g 0)).run Try.prog w = .ok v w) (h3 : tmps.getD q undef = u) : (results fn tmps).run Try.prog w = .ok (.tuple #[v, u]) w := by
 unfold results
 rw [hr]
 have h2' : tmps[p]?.getD undef = Z5 g 0 := by simpa using h2
 have h3' : tmps[q]?.getD undef = u := by simpa using h3
 have hl' := hl
 simp only [Instr.loadAt, Instr.sureAddr, Sem.run_bind, Sem.run_pure, Result.andThen_ok] at hl'
 simp [h2', h3', asAddr, hl', Result.andThen]
def PO (w : World) (B : Nat) (v : Value) (L : List Int) : Prop := w.ownsRow B 23 1 v L.length (WU L)
theorem QU (x : Int) (V : World) : (Instr.buildSlice 67 1 #[(0, Z7 x)]).run Try.prog V = .ok (.slice (some ⟨V.heap.size, 0, none⟩) 1 1) (V.alloc (.cells #[Z7 x] 23)) := by
 obtain ⟨i0, hi, hz0, hz1, hz2⟩ := info_parts Io
 refine run_buildSlice V 67 23 1 _ #[Z7 x] i0 _ Try.underlying67 hi hz0 (by rw [hz1]; omega) (by rw [hz1]; omega) ?_
 rw [hz1]
 kernel_rfl
theorem uh (x : Int) (V : World) : PO (V.alloc (.cells #[Z7 x] 23)) V.heap.size (.slice (some ⟨V.heap.size, 0, none⟩) 1 1) [x] :=
 ⟨by simp [WU], .inr ⟨V.heap.size, 1, #[Z7 x], rfl, Nat.le_refl _, heap_alloc_last V _, Nat.le_refl _, by simp [maxLen], by simp, by simp [WU]⟩⟩
theorem Ea {w : World} {B : Nat} {v : Value} {L : List Int} (h : PO w B v L) (hB : B ≤ w.heap.size) (x : Int) (hl : L.length ≤ 4398046511200) :
  ∃ v2 V2, (Builtin.append_ #[67, 67] 67 #[v, .slice (some ⟨w.heap.size, 0, none⟩) 1 1]).run Try.prog (w.alloc (.cells #[Z7 x] 23)) = .ok v2 V2 ∧ PO V2 B v2 (L ++ [x]) ∧ Below B w V2 := by
 have hb : Below w.heap.size w (w.alloc (.cells #[Z7 x] 23)) := (Below.refl _ w).alloc (Nat.le_refl _) _
 have hO := own_below h hb
 have hc : Cs (w.alloc (.cells #[Z7 x] 23)) (some ⟨w.heap.size, 0, none⟩) [Z7 x] := Cs.block (t := 23) (fr := (0, 0)) (heap_alloc_last w _)
 obtain ⟨v2, V2, hr, hO2, hb2, -, -⟩ := Ua (P := Try.prog) (t := 67) (m := 1) Try.underlying67 Io (by kernel_rfl) (by omega) hO (some ⟨w.heap.size, 0, none⟩) 1 [Z7 x] hc rfl (fun u hu => by
  simp only [List.mem_cons, List.not_mem_nil, or_false] at hu
  subst hu
  rfl) (by simp; omega) (by omega) (by omega)
 refine ⟨v2, V2, hr, ?_, (hb.mono hB).trans hb2⟩
 unfold PO
 rw [List.length_append, show WU (L ++ [x]) = WU L ++ [Z7 x] by simp [WU]]
 exact hO2
theorem QB (A : List Ac) : (Zy A).length = A.length := by simp [Zy]
theorem Pg {A : List Ac} {j : Nat} (h : j < A.length) : Zy (A.take (j + 1)) = Zy (A.take j) ++ [(aca A j).2.1] := by
 unfold Zy
 rw [List.take_succ_eq_append_getElem h, List.map_append, YH h]
 rfl
theorem Gi {A : List Ac} {j : Nat} (c : Int) (h : j < A.length) : tot (c :: Zy (A.take (j + 1))) = tot (c :: Zy (A.take j)) + (aca A j).2.1 := by
 rw [Pg h, ← List.cons_append, Yo, YQ (aca A j).2.1]
 simp [tot]
theorem D9 {A : List Ac} {c : Int} (hc : W64 c) (hw : Xz A) : ∀ k, k < (c :: Zy A).length → W64 ((c :: Zy A).getD k 0) := fun k hk => by
 cases k with
 | zero => exact hc
 | succ k =>
  have hk2 : k < A.length := by simp [Zy] at hk; exact hk
  rw [List.getD_cons_succ]
  unfold Zy
  rw [yN A k hk2]
  exact (hw k hk2).1
theorem yM {A : List Ac} {c : Int} (hc : W64 c) (hw : Xz A) (j : Nat) : tot (c :: Zy (A.take j)) ≤ tot (c :: Zy A) := by
 have := Vh (c :: Zy A) (D9 hc hw) (j + 1)
 rwa [List.take_succ_cons, show (Zy A).take j = Zy (A.take j) from (List.map_take ..).symm] at this
theorem yL {A : List Ac} {c : Int} (hc : W64 c) (hw : Xz A) (j : Nat) : 0 ≤ tot (c :: Zy (A.take j)) := XL _ fun x hx => by
 rcases List.mem_cons.1 hx with h | h
 ·rw [h]; exact hc.1
 ·obtain ⟨y, hy, rfl⟩ := List.mem_map.1 h
  exact (VN hw y (List.mem_of_mem_take hy)).1.1
theorem D8 (A : List Ac) (c : Int) : tot (c :: Zy (A.take A.length)) = tot (c :: Zy A) := by rw [List.take_length]
theorem yO (a : Option Addr) (k : Nat) (A : List Ac) (c : Int) (w : World) (hR : Cs w a (acc A)) (hn : A.length ≤ 4398046511104) (hc : W64 c) (hw : Xz A) :
  Calls Try.prog 53 #[.agg (ZU a A.length k c)] w fun e w' => e = .returned (.tuple #[Z7 (Oe A c), .bool (Yp A c)]) ∧ Below w.heap.size w w' := by
 have hb0 : Below w.heap.size w (w.alloc (.cells (ZU a A.length k c) 33)) := (Below.refl _ w).alloc (Nat.le_refl _) _
 have hX0 : Bx (w.alloc (.cells (ZU a A.length k c) 33)) w.heap.size (ZU a A.length k c) 33 := heap_alloc_last w _
 have HA := Z9 (hR.below hb0)
 have HW := Z9 hw
 have HC := Z9 hc
 have jK := Z9 (fun (al : Option Addr) (cl : Nat) (V : World) (h : Cs V al (WU (c :: Zy A))) => O9 al cl (c :: Zy A) V (by rw [List.length_cons, QB]; omega) (fun q hq => by
  obtain ⟨b, off, e, -, h1⟩ := h q (Z7 ((c :: Zy A).getD q 0)) (by
   unfold WU
   rw [List.getElem?_map, List.getElem?_eq_getElem hq, List.getD_eq_getElem?_getD, List.getElem?_eq_getElem hq]
   rfl)
  exact ⟨b, off, e, h1⟩) (D9 hc hw))
 have qM : Hid ((c :: Zy A).length = A.length + 1) := Z9 (by rw [List.length_cons, QB])
 obtain ⟨n, hnn⟩ := ZR A.length
 have HN := Z9 hnn
 have TI : Hid (n ≤ 4398046511104) := Z9 (by omega)
 rw [hnn] at hb0 hX0 HA ⊢
 clear hR hn hnn hw hc
 have EZ : Hid (JK (c :: Zy A) = Oe A c ∧ JL (c :: Zy A) = Yp A c) := Z9 ⟨rfl, rfl⟩
 generalize Oe A c = tv at *
 generalize Yp A c = tb at *
 go_enter Try.func53, Try.ntmps53
 go_upto_region 1 with fail
 change Code.wp _ _ _ _ (w.alloc (.cells (ZU a n k c) 33))
 generalize w.alloc (.cells (ZU a n k c) 33) = W at *
 obtain ⟨g0, hg0⟩ := ZR w.heap.size
 have HB0 := Z9 hb0
 rw [hg0] at hX0
 simp only [hg0]
 have HX := Z9 hX0
 clear hb0 hg0 hX0
 have hbu := QU c W
 have hou := uh c W
 refine wl <| ZV (Z5 g0 1) <| ZI rfl ⟨g0, 1, none⟩ (Z7 c) (HX.out.ZN 1) ?_
 simp only [pu]
 refine Zh (by kernel_rfl) (some 9) rfl 67 1 #[(0, .tmp 8)] rfl #[(0, Z7 c)] (by kernel_rfl) (.slice (some ⟨W.heap.size, 0, none⟩) 1 1) _ hbu ?_
 simp only [pu]
 refine ZV (.slice (some ⟨W.heap.size, 0, none⟩) 1 1) <| wn ?_
 simp only [pu]
 have hb1 : Below W.heap.size W (W.alloc (.cells #[Z7 c] 23)) := (Below.refl _ W).alloc (Nat.le_refl _) _
 clear hbu
 obtain ⟨v1, hv1⟩ := ZR (Value.slice (some ⟨W.heap.size, 0, none⟩) 1 1)
 rw [hv1] at hou ⊢
 generalize W.alloc (.cells #[Z7 c] 23) = W1 at *
 have HR1 : Hid (PO W1 W.heap.size v1 (c :: Zy (A.take 0))) := Z9 hou
 have HB1 := Z9 hb1
 have XP := Z9 (HX.out.below HX.out.lt hb1)
 clear hv1 hou hb1
 go_upto_region 2 with fail
 refine wl <| ZV (Z5 g0 0) <| ZI rfl ⟨g0, 0, none⟩ (.slice a n k) (XP.out.ZN 0) <| ZG (Z8 n) (Z8 0) <| wn ?_
 simp only [pu]
 go_wp2_with fail
 go_loopg [4, 13] n (fun gg s4 s13 wx => ∃ (j : Nat) (v4 : Value), s4 = v4 ∧ s13 = Z8 j ∧ j ≤ n ∧ Hid (PO wx W.heap.size v4 (c :: Zy (A.take j))) ∧ Hid (Below W.heap.size W wx) ∧ n - j = gg)
 case atStart => exact ⟨0, v1, rfl, rfl, by omega, HR1, HB1, by omega⟩
 case round =>
  obtain ⟨j, v4, rfl, rfl, hj, qL, HB, hg⟩ := hrel
  have EO := TI.out
  by_cases hlt : j < n
  ·obtain ⟨b, off, rfl, -, hrx⟩ := YS (HA.out.below HB.out) (k := j) (by rw [HN.out]; exact hlt)
   have Y0 := Z9 (Ym hrx)
   have jJ := Z9 (Pg (A := A) (j := j) (by rw [HN.out]; exact hlt))
   generalize aca A j = y at *
   have HG := Z9 hg
   obtain ⟨V2, hst, hb2, hbx⟩ := WW wr y
   obtain ⟨v3, V3, hap, hr3, hb3⟩ := Ea (own_below qL.out hb2) (by have := HB.out.size; have := hb2.size; omega) y.2.1 (by rw [List.length_cons, QB, List.length_take]; omega)
   have HR3 : Hid (PO V3 W.heap.size v3 (c :: Zy (A.take (j + 1)))) := Z9 (by rw [jJ.out, ← List.cons_append]; exact hr3)
   have HB3 := Z9 ((HB.out.trans (hb2.mono HB.out.size)).trans hb3)
   have hbu := QU y.2.1 V2
   clear hrx hg hb2 hr3 hb3 jJ
   go_upto_region 3 with fail
   refine wl <| ZM (ZC rfl (j) (n) dT) <| wn ?_
   simp only [pu]
   go_upto_region 4 with fail
   refine wl <| YO (Z5 b (off + j * 3)) (YR b off n k j hlt _ _ _ rfl (by kernel_rfl) (by kernel_rfl)) <| ZI rfl ⟨b, off + j * 3, none⟩ (.agg (ZA y)) (Y0.out) ?_
   simp only [pu]
   refine Zz rfl (some 6) rfl (Z5 wr.heap.size 0) (wr.alloc (.cells (ZA Xg) 49)) (by kernel_rfl) ?_
   simp only [pu]
   refine Zt rfl (hst) <| wn ?_
   obtain ⟨g4, hg4⟩ := ZR wr.heap.size
   rw [hg4] at hbx ⊢
   obtain ⟨g5, hg5⟩ := ZR V2.heap.size
   rw [hg5] at hap hbu
   clear hst hg4 hg5 Y0
   go_upto_region 5 with fail
   refine wl <| ZG (u4) (Z5 g4 1) <| ZI rfl ⟨g4, 1, none⟩ (Z7 y.2.1) (hbx.ZN 1) ?_
   simp only [pu]
   refine Zh (by kernel_rfl) (some 20) rfl 67 1 #[(0, .tmp 19)] rfl #[(0, Z7 y.2.1)] (by kernel_rfl) (.slice (some ⟨g5, 0, none⟩) 1 1) _ hbu ?_
   simp only [pu]
   refine Y4 rfl (some 21) rfl 67 rfl (.tmp 17) (.tmp 20) 67 rfl (u4) (.slice (some ⟨g5, 0, none⟩) 1 1) (v3) V3 (by kernel_rfl) (by kernel_rfl) hap ?_
   simp only [pu]
   refine ZV (v3) <| wn ?_
   simp only [pu]
   clear hap hbu hbx
   go_upto_region 6 with fail
   refine wl <| YN (Z8 (j + 1 : Nat)) (ZK rfl j 1 (by omega)) <| ZV (Z8 (j + 1 : Nat)) <| wn ?_
   simp only [pu]
   go_wp2_with fail
   go_roundg (n - (j + 1))
   case measure => have := HG.out; omega
   case rel => exact ⟨j + 1, v3, rfl, rfl, hlt, HR3, HB3, rfl⟩
  ·obtain rfl : n = j := by omega
   obtain ⟨al, cl, rfl, hcs, -⟩ := Yj qL.out
   rw [← HN.out, List.take_length] at hcs
   have hlen : (c :: Zy (A.take n)).length = (c :: Zy A).length := by rw [← HN.out, List.take_length]
   rw [hlen]
   have CS := jK.out al cl wr hcs
   rw [EZ.out.1, EZ.out.2] at CS
   generalize (c :: Zy A).length = m at *
   have Zj := Z9 (HB0.out.trans (HB.out.mono HB0.out.size))
   clear hg qL jK EZ hcs HB hlen qM
   go_upto_region 3 with fail
   refine wl <| ZM (ZC rfl (n) (n) dF) <| wn ?_
   simp only [pu]
   go_upto_region 7 with fail
   refine wl <| ZV (.slice al m cl) <| Y2 (.tuple #[Z7 tv, .bool tb]) (fun w' => wr = w') (CS) (fun V9 XQ => ?_)
   subst XQ
   simp only [pu]
   refine Xl (Z7 tv) (.bool tb) (Z7 tv) (.bool tb) <| wn ?_
   simp only [pu]
   clear CS
   go_wp2_with fail
   go_ret2
   exact ⟨rfl, Zj.out⟩
theorem Gs (a : Option Addr) (k : Nat) (A : List Ac) (c : Int) (w : World) (hR : Cs w a (acc A)) (hn : A.length ≤ 4398046511104) (hc : W64 c) (hw : Xz A) :
  Calls Try.prog 39 #[.agg (ZU a A.length k c)] w fun e w' => e = .returned (.tuple #[Z7 (Oe A c), .bool (Yp A c)]) ∧ Below w.heap.size w w' := by
 have hb0 : Below w.heap.size w (w.alloc (.cells (ZU a A.length k c) 33)) := (Below.refl _ w).alloc (Nat.le_refl _) _
 have hX0 : Bx (w.alloc (.cells (ZU a A.length k c) 33)) w.heap.size (ZU a A.length k c) 33 := heap_alloc_last w _
 have HA := Z9 (hR.below hb0)
 have HW := Z9 hw
 have HC := Z9 hc
 have HT0 : Hid (∀ j, 0 ≤ tot (c :: Zy (A.take j)) ∧ tot (c :: Zy (A.take j)) ≤ tot (c :: Zy A)) := Z9 fun j => ⟨yL hc hw j, yM hc hw j⟩
 have HTS : Hid (∀ j, j < A.length → tot (c :: Zy (A.take (j + 1))) = tot (c :: Zy (A.take j)) + (aca A j).2.1) := Z9 fun j h => Gi c h
 have HTA : Hid (tot (c :: Zy (A.take A.length)) = tot (c :: Zy A)) := Z9 (D8 A c)
 have HT1 : Hid (tot (c :: Zy (A.take 0)) = c) := Z9 (by rw [List.take_zero, YQ]; simp [Zy, tot])
 have EZ : Hid ((tot (c :: Zy A) < 18446744073709551616 → Oe A c = tot (c :: Zy A) ∧ Yp A c = true) ∧ (¬ tot (c :: Zy A) < 18446744073709551616 → Oe A c = 0 ∧ Yp A c = false)) := Z9 ⟨fun h => ⟨if_pos h, decide_eq_true h⟩, fun h => ⟨if_neg h, decide_eq_false h⟩⟩
 obtain ⟨n, hnn⟩ := ZR A.length
 have HN := Z9 hnn
 have TI : Hid (n ≤ 4398046511104) := Z9 (by omega)
 rw [hnn] at hb0 hX0 HA ⊢
 clear hR hn hnn hw hc
 rw [show A.length = n from HN.out] at HTS HTA
 generalize Oe A c = tv at *
 generalize Yp A c = tb at *
 obtain ⟨tt, htt⟩ : ∃ tt : Nat → Int, tt = fun j => tot (c :: Zy (A.take j)) := ⟨_, rfl⟩
 have htj : ∀ j, tot (c :: Zy (A.take j)) = tt j := fun j => by rw [htt]
 simp only [htj] at HT0 HTS HTA HT1
 generalize tot (c :: Zy A) = tz at *
 clear htt htj
 go_enter Try.func39, Try.ntmps39
 go_upto_region 1 with fail
 change Code.wp _ _ _ _ (w.alloc (.cells (ZU a n k c) 33))
 generalize w.alloc (.cells (ZU a n k c) 33) = W at *
 obtain ⟨g0, hg0⟩ := ZR w.heap.size
 have HB0 := Z9 hb0
 rw [hg0] at hX0
 simp only [hg0]
 have HX := Z9 hX0
 clear hb0 hg0 hX0
 refine wl <| ZV (Z5 g0 1) <| ZI rfl ⟨g0, 1, none⟩ (Z7 c) (HX.out.ZN 1) <| ZV (Z7 c) <| wn ?_
 simp only [pu]
 go_upto_region 2 with fail
 refine wl <| ZV (Z5 g0 0) <| ZI rfl ⟨g0, 0, none⟩ (.slice a n k) (HX.out.ZN 0) <| ZG (Z8 n) (Z8 0) <| wn ?_
 simp only [pu]
 go_wp2_with fail
 go_loopg [4, 14] n (fun gg s4 s14 wx => ∃ j : Nat, s4 = Z7 (tt j) ∧ s14 = Z8 j ∧ j ≤ n ∧ Hid (tt j < 18446744073709551616) ∧ Hid (Below W.heap.size W wx) ∧ n - j = gg)
 case atStart => exact ⟨0, by rw [HT1.out], rfl, by omega, Z9 (by rw [HT1.out]; have := HC.out.2; omega), Z9 (Below.refl _ _), by omega⟩
 case round =>
  obtain ⟨j, rfl, rfl, hj, J4, HB, hg⟩ := hrel
  have EO := TI.out
  by_cases hlt : j < n
  ·obtain ⟨b, off, rfl, -, hrx⟩ := YS (HA.out.below HB.out) (k := j) (by rw [HN.out]; exact hlt)
   have Y0 := Z9 (Ym hrx)
   have hts := HTS.out j hlt
   have hyw := (HW.out j (by rw [HN.out]; exact hlt)).1
   generalize aca A j = y at *
   have HG := Z9 hg
   obtain ⟨V2, hst, hb2, hbx⟩ := WW wr y
   have HB2 := Z9 (HB.out.trans (hb2.mono HB.out.size))
   have CA := yK (tt j) y.2.1 V2 ⟨(HT0.out j).1, by have := J4.out; omega⟩ hyw
   clear hrx hg hb2 hyw
   go_upto_region 3 with fail
   refine wl <| ZM (ZC rfl (j) (n) dT) <| wn ?_
   simp only [pu]
   go_upto_region 4 with fail
   refine wl <| YO (Z5 b (off + j * 3)) (YR b off n k j hlt _ _ _ rfl (by kernel_rfl) (by kernel_rfl)) <| ZI rfl ⟨b, off + j * 3, none⟩ (.agg (ZA y)) (Y0.out) ?_
   simp only [pu]
   refine Zz rfl (some 6) rfl (Z5 wr.heap.size 0) (wr.alloc (.cells (ZA Xg) 49)) (by kernel_rfl) ?_
   simp only [pu]
   refine Zt rfl (hst) <| wn ?_
   obtain ⟨g4, hg4⟩ := ZR wr.heap.size
   rw [hg4] at hbx ⊢
   clear hst hg4 Y0
   by_cases hov : tt j + y.2.1 < 18446744073709551616
   ·rw [show PN (tt j) y.2.1 = tt (j + 1) by rw [hts]; exact if_pos hov, show PL (tt j) y.2.1 = true from decide_eq_true hov] at CA
    go_upto_region 5 with fail
    refine wl <| ZG (Z7 (tt j)) (Z5 g4 1) <| ZI rfl ⟨g4, 1, none⟩ (Z7 y.2.1) (hbx.ZN 1) <| Y2 (.tuple #[Z7 (tt (j + 1)), Z4]) (fun w' => V2 = w') (CA) (fun V9 XQ => ?_)
    subst XQ
    simp only [pu]
    refine Sz (.tuple #[Z7 (tt (j + 1)), Z4]) (Z7 (tt (j + 1))) Z4 (Z7 (tt (j + 1))) Z4 <| wn ?_
    simp only [pu]
    clear hbx CA
    go_upto_region 6 with fail
    refine wl <| ZG Z4 ZY <| wn ?_
    simp only [pu]
    have aa1 : Hid (tt (j + 1) < 18446744073709551616) := Z9 (by rw [hts]; exact hov)
    clear hts hov
    go_upto_region 8 with fail
    refine wl <| ZG (Z7 (tt (j + 1))) (Z7 (tt (j + 1))) <| wn ?_
    simp only [pu]
    go_upto_region 9 with fail
    refine wl <| YN (Z8 (j + 1 : Nat)) (ZK rfl j 1 (by omega)) <| ZV (Z8 (j + 1 : Nat)) <| wn ?_
    simp only [pu]
    go_wp2_with fail
    go_roundg (n - (j + 1))
    case measure => have := HG.out; omega
    case rel => exact ⟨j + 1, rfl, rfl, hlt, aa1, HB2, rfl⟩
   ·rw [show PN (tt j) y.2.1 = 0 from if_neg hov, show PL (tt j) y.2.1 = false from decide_eq_false hov] at CA
    go_upto_region 5 with fail
    refine wl <| ZG (Z7 (tt j)) (Z5 g4 1) <| ZI rfl ⟨g4, 1, none⟩ (Z7 y.2.1) (hbx.ZN 1) <| Y2 (.tuple #[Z7 0, ZY]) (fun w' => V2 = w') (CA) (fun V9 XQ => ?_)
    subst XQ
    simp only [pu]
    refine Sz (.tuple #[Z7 0, ZY]) (Z7 0) ZY (Z7 0) ZY <| wn ?_
    simp only [pu]
    clear hbx CA
    go_upto_region 6 with fail
    refine wl <| ZG ZY Z4 <| wn ?_
    simp only [pu]
    have hz := EZ.out.2 (by have h8 := (HT0.out (j + 1)).2; rw [hts] at h8; omega)
    obtain ⟨rfl, rfl⟩ := hz
    have Zj := Z9 (HB0.out.trans (HB2.out.mono HB0.out.size))
    clear hts hov EZ
    go_upto_region 7 with fail
    refine wl <| ZG (Z7 0) ZY <| wn ?_
    simp only [pu]
    go_wp2_with fail
    go_ret2
    exact ⟨rfl, Zj.out⟩
  ·obtain rfl : n = j := by omega
   have htn := HTA.out
   have hz := EZ.out.1 (by rw [← htn]; exact J4.out)
   obtain ⟨rfl, rfl⟩ := hz
   subst htn
   have Zj := Z9 (HB0.out.trans (HB.out.mono HB0.out.size))
   clear hg EZ HB
   go_upto_region 3 with fail
   refine wl <| ZM (ZC rfl (n) (n) dF) <| wn ?_
   simp only [pu]
   go_upto_region 10 with fail
   refine wl <| YT (Z7 (tt n)) (Z7 (tt n)) Z4 <| wn ?_
   simp only [pu]
   go_wp2_with fail
   go_ret2
   exact ⟨rfl, Zj.out⟩
end Go.Proofs.Ytnhlpahoomcgnaa.Lg
