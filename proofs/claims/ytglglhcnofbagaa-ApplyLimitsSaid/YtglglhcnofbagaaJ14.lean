/-
  Ledgers as plain data: totals, validity, the place of a name, what is put in. strings.Compare, slices.BinarySearchFunc, the program's place; the reference's Find: contracts. The totals of ledgers, the program's and the reference's; the program's limited: contracts.
-/
import Derived.Test.YtglglhcnofbagaaJ13
namespace Go.Proofs.Ytglglhcnofbagaa.Lg
set_option maxRecDepth 100000
open Go.RowKit
set_option linter.unusedSimpArgs false
set_option linter.unusedVariables false

def bals (A : List Ac) : List Int := A.map (·.2.1)
def totB (A : List Ac) (c : Int) : Bool := sumB (c :: bals A)
def totV (A : List Ac) (c : Int) : Int := sumV (c :: bals A)
def totE (A : List Ac) (c : Int) : Int := if totB A c = true then 0 else 6
/-- The first account with this name, the first one that is not less. -/
def fndL (A : List Ac) (s : ByteArray) : Nat := A.findIdx (fun x => decide (x.1 = s))
def lesL (A : List Ac) (s : ByteArray) : Nat := A.findIdx (fun x => !ltS x.1 s)
def putL (A : List Ac) (a : Ac) : List Ac := if fndL A a.1 < A.length then A.set (fndL A a.1) a else A.take (lesL A a.1) ++ a :: A.drop (lesL A a.1)
def stpE (A : List Ac) (i : Nat) : Int :=
 if isName (nums (aca A i).1) = false then 10
 else if 0 < i ∧ (aca A (i - 1)).1 = (aca A i).1 then 8
 else if 0 < i ∧ ltS (aca A i).1 (aca A (i - 1)).1 = true then 1
 else 0
/-- The first that is not 0. -/
def frE (f : Nat → Int) : Nat → Int
 | 0 => 0
 | n + 1 => if frE f n ≠ 0 then frE f n else f n
theorem frE_ok {f : Nat → Int} : ∀ {n : Nat}, (∀ j, j < n → f j = 0) → frE f n = 0
 | 0, _ => rfl
 | n + 1, h => by
  unfold frE
  rw [frE_ok (n := n) (fun j hj => h j (by omega)), if_neg (by simp)]
  exact h n (by omega)
theorem frE_all {f : Nat → Int} : ∀ {n : Nat}, frE f n = 0 → ∀ j, j < n → f j = 0
 | 0, _, j, hj => by omega
 | n + 1, h, j, hj => by
  unfold frE at h
  by_cases h1 : frE f n = 0
  ·rw [h1, if_neg (by simp)] at h
   rcases Nat.lt_or_ge j n with h2 | h2
   ·exact frE_all h1 j h2
   ·have : j = n := by omega
    subst this; exact h
  ·rw [if_pos h1] at h
   exact absurd h h1
theorem frE_err {f : Nat → Int} {i : Nat} : ∀ {n : Nat}, i < n → (∀ j, j < i → f j = 0) → f i ≠ 0 → frE f n = f i
 | 0, hi, _, _ => by omega
 | n + 1, hi, h, he => by
  unfold frE
  rcases Nat.lt_or_ge i n with h1 | h1
  ·have e := frE_err h1 h he
   rw [e, if_pos he]
  ·have : i = n := by omega
   subst this
   rw [frE_ok h, if_neg (by simp)]
def valE (A : List Ac) (c : Int) : Int := if 256 < A.length then 3 else if frE (stpE A) A.length ≠ 0 then frE (stpE A) A.length else totE A c
def Srt (A : List Ac) : Prop := ∀ i j, i < j → j < A.length → ltS (aca A i).1 (aca A j).1 = true
def Nmd (A : List Ac) : Prop := ∀ i, i < A.length → isName (nums (aca A i).1) = true
theorem valE_ok {A : List Ac} {c : Int} (h : valE A c = 0) : A.length ≤ 256 ∧ Srt A ∧ Nmd A ∧ totB A c = true := by
 unfold valE at h
 by_cases h1 : 256 < A.length
 ·rw [if_pos h1] at h; cases h
 rw [if_neg h1] at h
 by_cases h2 : frE (stpE A) A.length = 0
 ·rw [h2, if_neg (by simp)] at h
  have h3 := frE_all h2
  have hn : Nmd A := fun i hi => by
   have := h3 i hi
   unfold stpE at this
   by_cases h4 : isName (nums (aca A i).1) = true
   ·exact h4
   ·rw [if_pos (by simpa using h4)] at this; cases this
  have hs : ∀ i, i + 1 < A.length → ltS (aca A i).1 (aca A (i + 1)).1 = true := fun i hi => by
   have := h3 (i + 1) hi
   unfold stpE at this
   rw [if_neg (by rw [hn (i + 1) hi]; simp), show i + 1 - 1 = i by omega] at this
   by_cases h4 : (aca A i).1 = (aca A (i + 1)).1
   ·rw [if_pos ⟨by omega, h4⟩] at this; cases this
   rw [if_neg (fun q => h4 q.2)] at this
   by_cases h5 : ltS (aca A (i + 1)).1 (aca A i).1 = true
   ·rw [if_pos ⟨by omega, h5⟩] at this; cases this
   exact ltS_tot (by simpa using h5) (fun e => h4 e.symm)
  refine ⟨by omega, fun i j hij hj => ?_, hn, ?_⟩
  ·obtain ⟨d, rfl⟩ : ∃ d, j = i + 1 + d := ⟨j - i - 1, by omega⟩
   clear hij
   induction d with
   | zero => exact hs i hj
   | succ d ih => exact ltS_tr (ih (by omega)) (hs (i + 1 + d) hj)
  ·unfold totE at h
   by_cases h5 : totB A c = true
   ·exact h5
   ·rw [if_neg h5] at h; cases h
 ·rw [if_pos h2] at h
  exact absurd h h2
theorem valE_of {A : List Ac} {c : Int} (h1 : A.length ≤ 256) (h2 : Srt A) (h3 : Nmd A) (h4 : totB A c = true) : valE A c = 0 := by
 unfold valE
 rw [if_neg (by omega), frE_ok, if_neg (by simp)]
 ·unfold totE; rw [if_pos h4]
 intro j hj
 unfold stpE
 rw [if_neg (by rw [h3 j hj]; simp)]
 by_cases h0 : 0 < j
 ·have := h2 (j - 1) j (by omega) hj
  rw [if_neg (fun q => ltS_ne this q.2), if_neg (fun q => by rw [ltS_as this] at q; cases q.2)]
 ·rw [if_neg (fun q => h0 q.1), if_neg (fun q => h0 q.1)]
theorem aca_get {A : List Ac} {i : Nat} (h : i < A.length) : aca A i = A[i] := getD_lt A i _ h
theorem fnd_is {A : List Ac} {s : ByteArray} {i : Nat} (h : i < A.length) (hb : ∀ j, j < i → (aca A j).1 ≠ s) (hi : (aca A i).1 = s) : fndL A s = i := by
 unfold fndL
 rw [List.findIdx_eq h]
 refine ⟨by rw [← aca_get h]; exact decide_eq_true hi, fun j hj => ?_⟩
 rw [← aca_get (by omega)]
 exact decide_eq_false (hb j hj)
theorem fnd_no {A : List Ac} {s : ByteArray} (hb : ∀ j, j < A.length → (aca A j).1 ≠ s) : fndL A s = A.length := by
 unfold fndL
 rw [List.findIdx_eq_length]
 intro x hx
 obtain ⟨j, hj, rfl⟩ := List.mem_iff_getElem.1 hx
 rw [← aca_get hj]
 exact decide_eq_false (hb j hj)
theorem fnd_at {A : List Ac} {s : ByteArray} (h : fndL A s < A.length) : (aca A (fndL A s)).1 = s ∧ ∀ j, j < fndL A s → (aca A j).1 ≠ s := by
 refine ⟨?_, fun j hj => ?_⟩
 ·have := List.findIdx_getElem (w := h)
  rw [aca_get h]
  exact of_decide_eq_true this
 ·have := List.not_of_lt_findIdx hj
  rw [aca_get (by omega)]
  simpa using this
theorem fnd_le (A : List Ac) (s : ByteArray) : fndL A s ≤ A.length := List.findIdx_le_length
theorem fnd_not {A : List Ac} {s : ByteArray} (h : ¬ fndL A s < A.length) : ∀ j, j < A.length → (aca A j).1 ≠ s := fun j hj e => by
 have h1 := fnd_le A s
 have h2 : fndL A s = A.length := by omega
 unfold fndL at h2
 rw [List.findIdx_eq_length] at h2
 have := h2 (aca A j) (aca_mem hj)
 exact of_decide_eq_false this e
theorem les_is {A : List Ac} {s : ByteArray} {i : Nat} (h : i ≤ A.length) (hb : ∀ j, j < i → ltS (aca A j).1 s = true) (hi : i < A.length → ltS (aca A i).1 s = false) : lesL A s = i := by
 unfold lesL
 rcases Nat.lt_or_ge i A.length with h1 | h1
 ·rw [List.findIdx_eq h1]
  refine ⟨by rw [← aca_get h1, hi h1]; rfl, fun j hj => ?_⟩
  rw [← aca_get (by omega), hb j hj]
  rfl
 ·have : i = A.length := by omega
  subst this
  rw [List.findIdx_eq_length]
  intro x hx
  obtain ⟨j, hj, rfl⟩ := List.mem_iff_getElem.1 hx
  rw [← aca_get hj, hb j hj]
  rfl
theorem les_le (A : List Ac) (s : ByteArray) : lesL A s ≤ A.length := List.findIdx_le_length
theorem les_lt {A : List Ac} {s : ByteArray} {j : Nat} (hj : j < lesL A s) : ltS (aca A j).1 s = true := by
 have h1 := les_le A s
 have := List.not_of_lt_findIdx hj
 rw [aca_get (by omega)]
 simpa using this
theorem les_ge {A : List Ac} {s : ByteArray} (h : lesL A s < A.length) : ltS (aca A (lesL A s)).1 s = false := by
 have this : (!ltS (A[lesL A s]'h).1 s) = true := List.findIdx_getElem (w := h)
 rw [aca_get h]
 revert this
 cases ltS (A[lesL A s]'h).1 s <;> simp
/-- In order: the one found is the first that is not less. -/
theorem srt_fnd {A : List Ac} {s : ByteArray} (h : Srt A) (hf : fndL A s < A.length) : lesL A s = fndL A s := by
 obtain ⟨h1, h2⟩ := fnd_at hf
 refine les_is (fnd_le A s) (fun j hj => ?_) (fun _ => ?_)
 ·have := h j _ hj hf
  rwa [h1] at this
 ·rw [h1, ltS_irr]
theorem srt_les {A : List Ac} {s : ByteArray} (h : Srt A) : (decide (fndL A s < A.length)) = (decide (lesL A s < A.length ∧ (aca A (lesL A s)).1 = s)) := by
 rw [decide_eq_decide]
 constructor
 ·intro hf
  rw [srt_fnd h hf]
  exact ⟨hf, (fnd_at hf).1⟩
 ·rintro ⟨h1, h2⟩
  refine Decidable.byContradiction fun hn => fnd_not hn _ h1 h2
theorem put_found {A : List Ac} {a : Ac} (h : fndL A a.1 < A.length) : putL A a = A.set (fndL A a.1) a := if_pos h
theorem put_new {A : List Ac} {a : Ac} (h : ¬ fndL A a.1 < A.length) : putL A a = A.take (lesL A a.1) ++ a :: A.drop (lesL A a.1) := if_neg h
theorem put_len (A : List Ac) (a : Ac) : (putL A a).length = if fndL A a.1 < A.length then A.length else A.length + 1 := by
 by_cases h : fndL A a.1 < A.length
 ·rw [put_found h, if_pos h, List.length_set]
 ·have := les_le A a.1
  rw [put_new h, if_neg h, List.length_append, List.length_cons, List.length_take, List.length_drop]
  omega
theorem aca_set {A : List Ac} {i j : Nat} {a : Ac} (h : i < A.length) : aca (A.set i a) j = if j = i then a else aca A j := by
 unfold aca
 rw [List.getD_eq_getElem?_getD, List.getElem?_set, List.getD_eq_getElem?_getD]
 by_cases e : j = i
 ·subst e; rw [if_pos rfl, if_pos h, if_pos rfl]; rfl
 ·rw [if_neg (fun q => e q.symm), if_neg e]
theorem aca_ins {A : List Ac} {i j : Nat} {a : Ac} (h : i ≤ A.length) : aca (A.take i ++ a :: A.drop i) j = if j < i then aca A j else if j = i then a else aca A (j - 1) := by
 unfold aca
 have ht : (A.take i).length = i := by rw [List.length_take]; omega
 simp only [List.getD_eq_getElem?_getD]
 by_cases h1 : j < i
 ·rw [if_pos h1, List.getElem?_append_left (by omega), List.getElem?_take, if_pos h1]
 rw [if_neg h1, List.getElem?_append_right (by omega), ht]
 by_cases h2 : j = i
 ·subst h2; rw [if_pos rfl, Nat.sub_self]; rfl
 ·rw [if_neg h2]
  obtain ⟨d, rfl⟩ : ∃ d, j = i + 1 + d := ⟨j - i - 1, by omega⟩
  rw [show i + 1 + d - i = d + 1 by omega, List.getElem?_cons_succ, List.getElem?_drop, show i + 1 + d - 1 = i + d by omega]
theorem put_srt {A : List Ac} {a : Ac} (h : Srt A) : Srt (putL A a) := by
 have hl := put_len A a
 by_cases hf : fndL A a.1 < A.length
 ·rw [if_pos hf] at hl
  intro i j hij hj
  rw [put_found hf, aca_set hf, aca_set hf]
  obtain ⟨h1, -⟩ := fnd_at hf
  by_cases e1 : i = fndL A a.1
  ·subst e1
   rw [if_pos rfl, if_neg (by omega), ← h1]
   exact h _ _ hij (by omega)
  ·rw [if_neg e1]
   by_cases e2 : j = fndL A a.1
   ·subst e2
    rw [if_pos rfl, ← h1]
    exact h _ _ hij (by omega)
   ·rw [if_neg e2]
    exact h _ _ hij (by omega)
 ·rw [if_neg hf] at hl
  have hle := les_le A a.1
  have hge : ∀ k, lesL A a.1 ≤ k → k < A.length → ltS a.1 (aca A k).1 = true := fun k h1 h2 => by
   have hn := fnd_not hf
   have h3 := les_ge (A := A) (s := a.1) (by omega)
   have h4 := ltS_tot h3 (hn _ (by omega))
   rcases Nat.lt_or_ge (lesL A a.1) k with h5 | h5
   ·exact ltS_tr h4 (h _ _ h5 h2)
   ·have : k = lesL A a.1 := by omega
    rw [this]; exact h4
  intro i j hij hj
  rw [put_new hf, aca_ins hle, aca_ins hle]
  by_cases e1 : j < lesL A a.1
  ·rw [if_pos (by omega), if_pos e1]
   exact h _ _ hij (by omega)
  rw [if_neg e1]
  by_cases e2 : j = lesL A a.1
  ·rw [if_pos e2, if_pos (by omega)]
   exact les_lt (by omega)
  rw [if_neg e2]
  by_cases e3 : i < lesL A a.1
  ·rw [if_pos e3]
   exact ltS_tr (les_lt e3) (hge _ (by omega) (by omega))
  rw [if_neg e3]
  by_cases e4 : i = lesL A a.1
  ·rw [if_pos e4]
   exact hge _ (by omega) (by omega)
  ·rw [if_neg e4]
   exact h _ _ (by omega) (by omega)
theorem put_nmd {A : List Ac} {a : Ac} (h : Nmd A) (ha : isName (nums a.1) = true) : Nmd (putL A a) := by
 have hl := put_len A a
 intro i hi
 by_cases hf : fndL A a.1 < A.length
 ·rw [if_pos hf] at hl
  rw [put_found hf, aca_set hf]
  by_cases e : i = fndL A a.1
  ·rw [if_pos e]; exact ha
  ·rw [if_neg e]; exact h i (by omega)
 ·rw [if_neg hf] at hl
  rw [put_new hf, aca_ins (les_le A a.1)]
  by_cases e : i < lesL A a.1
  ·rw [if_pos e]; exact h i (by have := les_le A a.1; omega)
  rw [if_neg e]
  by_cases e2 : i = lesL A a.1
  ·rw [if_pos e2]; exact ha
  ·rw [if_neg e2]; exact h _ (by omega)
def setX (A : List Ac) (c : Int) (a : Ac) : List Ac × Int × Int :=
 if valE A c ≠ 0 then ([], 0, valE A c) else if isName (nums a.1) = false then ([], 0, 10) else if 256 < (putL A a).length then ([], 0, 3) else if totB (putL A a) c = true then (putL A a, c, 0) else ([], 0, 6)
def getX (A : List Ac) (s : ByteArray) : Ac × Bool := if fndL A s < A.length then (aca A (fndL A s), true) else (zAc, false)
theorem setX_ok {A : List Ac} {c : Int} {a : Ac} (h : (setX A c a).2.2 = 0) : setX A c a = (putL A a, c, 0) ∧ valE A c = 0 ∧ isName (nums a.1) = true ∧ valE (putL A a) c = 0 := by
 unfold setX at h ⊢
 by_cases e1 : valE A c = 0
 ·rw [e1, if_neg (by simp)] at h ⊢
  by_cases e2 : isName (nums a.1) = false
  ·rw [if_pos e2] at h; cases h
  rw [if_neg e2] at h ⊢
  by_cases e3 : 256 < (putL A a).length
  ·rw [if_pos e3] at h; cases h
  rw [if_neg e3] at h ⊢
  by_cases e4 : totB (putL A a) c = true
  ·rw [if_pos e4]
   obtain ⟨-, q2, q3, -⟩ := valE_ok e1
   exact ⟨rfl, rfl, by simpa using e2, valE_of (by omega) (put_srt q2) (put_nmd q3 (by simpa using e2)) e4⟩
  ·rw [if_neg e4] at h; cases h
 ·rw [if_pos e1] at h
  exact absurd h e1
/-- Full: no room for another name. -/
theorem put_full {A : List Ac} {a : Ac} (h : A.length ≤ 256) : (256 < (putL A a).length) ↔ (¬ fndL A a.1 < A.length ∧ A.length = 256) := by
 rw [put_len]
 by_cases hf : fndL A a.1 < A.length
 ·rw [if_pos hf]
  exact ⟨fun q => by omega, fun q => absurd hf q.1⟩
 ·rw [if_neg hf]
  exact ⟨fun q => ⟨hf, by omega⟩, fun q => by omega⟩
/-- Each balance is a word. -/
def AcW (A : List Ac) : Prop := ∀ i, i < A.length → W64 (aca A i).2.1 ∧ W64 (aca A i).2.2
theorem acw_mem {A : List Ac} (h : AcW A) : ∀ x, x ∈ A → W64 x.2.1 ∧ W64 x.2.2 := fun x hx => by
 obtain ⟨j, hj, rfl⟩ := List.mem_iff_getElem.1 hx
 rw [← aca_get hj]
 exact h j hj
theorem acw_of {A : List Ac} (h : ∀ x, x ∈ A → W64 x.2.1 ∧ W64 x.2.2) : AcW A := fun i hi => h _ (aca_mem hi)
theorem acw_nil : AcW [] := fun i h => by simp at h
theorem put_mem {A : List Ac} {a x : Ac} (h : x ∈ putL A a) : x = a ∨ x ∈ A := by
 unfold putL at h
 split at h
 ·rcases List.mem_or_eq_of_mem_set h with h1 | h1
  ·exact .inr h1
  ·exact .inl h1
 ·rcases List.mem_append.1 h with h1 | h1
  ·exact .inr (List.mem_of_mem_take h1)
  ·rcases List.mem_cons.1 h1 with h2 | h2
   ·exact .inl h2
   ·exact .inr (List.mem_of_mem_drop h2)
theorem put_w {A : List Ac} {a : Ac} (h : AcW A) (ha : W64 a.2.1 ∧ W64 a.2.2) : AcW (putL A a) := acw_of fun x hx => (put_mem hx).elim (fun e => e ▸ ha) (acw_mem h x)
end Go.Proofs.Ytglglhcnofbagaa.Lg
namespace Go.Proofs.Ytglglhcnofbagaa.Lg
attribute [local irreducible] wpList wpQuiet
set_option maxRecDepth 100000
open Go.RowKit
set_option linter.unusedSimpArgs false
set_option linter.unusedVariables false

theorem new_ac (V : World) (x : Ac) : ∃ V2, (Instr.storeAt 24 (.pointer (some ⟨V.heap.size, 0, none⟩)) (.agg (acA x))).run Try.prog (V.alloc (.cells (acA zAc) 24)) = .ok () V2 ∧ Below V.heap.size V V2 ∧ Bx V2 V.heap.size (acA x) 24 :=
 have hb : Bx (V.alloc (.cells (acA zAc) 24)) V.heap.size (acA zAc) 24 := heap_alloc_last V _
 ⟨_, (store_ac hb).1, belowRow ((Below.refl _ V).alloc (Nat.le_refl _) _) (Nat.le_refl _) _, (store_ac hb).2⟩
/-- A ledger in a block of its own. -/
abbrev lgA (a : Option Addr) (n k : Nat) (c : Int) : Array Value := #[.slice a n k, .int .u64 c]
theorem store_lg {w : World} {g : Nat} {a a' : Option Addr} {n n' k k' : Nat} {c c' : Int} (h : Bx w g (lgA a n k c) 27) : (Instr.storeAt 27 (.pointer (some ⟨g, 0, none⟩)) (.agg (lgA a' n' k' c'))).run Try.prog w = .ok () (w.setRow g (lgA a' n' k' c')) ∧ Bx (w.setRow g (lgA a' n' k' c')) g (lgA a' n' k' c') 27 :=
 ⟨run_store_all h rfl (by simp [Value.oneCell']) (by kernel_rfl), h.set⟩
theorem new_lg (V : World) (a : Option Addr) (n k : Nat) (c : Int) : ∃ V2, (Instr.storeAt 27 (.pointer (some ⟨V.heap.size, 0, none⟩)) (.agg (lgA a n k c))).run Try.prog (V.alloc (.cells (lgA none 0 0 0) 27)) = .ok () V2 ∧ Below V.heap.size V V2 ∧ Bx V2 V.heap.size (lgA a n k c) 27 :=
 have hb : Bx (V.alloc (.cells (lgA none 0 0 0) 27)) V.heap.size (lgA none 0 0 0) 27 := heap_alloc_last V _
 ⟨_, (store_lg hb).1, belowRow ((Below.refl _ V).alloc (Nat.le_refl _) _) (Nat.le_refl _) _, (store_lg hb).2⟩
theorem load_lg {w : World} {g : Nat} {a : Option Addr} {n k : Nat} {c : Int} (h : Bx w g (lgA a n k c) 27) : (Instr.loadAt 27 (.pointer (some ⟨g, 0, none⟩))).run Try.prog w = .ok (.agg (lgA a n k c)) w :=
 run_loadAt_mid w g 0 27 [.slice a n k, .int .u64 c] _ (fun j v hv => by
  rw [cell_of_row w g _ _ _ (0, 0) h]
  simpa using hv) Try.underlying27 rfl (by kernel_rfl)
theorem cb_lt : ∀ (x y : List UInt8), (Lib.compareBytes x y < 0 ↔ x < y) ∧ (Lib.compareBytes x y = 0 ↔ x = y)
 | [], [] => by simp [Lib.compareBytes]
 | [], _ :: _ => by simp [Lib.compareBytes]
 | _ :: _, [] => by simp [Lib.compareBytes]
 | a :: x, b :: y => by
  obtain ⟨h1, h2⟩ := cb_lt x y
  unfold Lib.compareBytes
  by_cases e1 : a < b
  ·rw [if_pos e1]
   have : a ≠ b := fun e => by subst e; exact absurd e1 (UInt8.lt_irrefl _)
   simp [List.cons_lt_cons_iff, e1, this]
  rw [if_neg e1]
  by_cases e2 : b < a
  ·rw [if_pos e2]
   have h3 : a ≠ b := fun e => by subst e; exact absurd e2 (UInt8.lt_irrefl _)
   simp [List.cons_lt_cons_iff, e1, h3]
  ·rw [if_neg e2]
   have h3 : a = b := UInt8.le_antisymm (UInt8.not_lt.1 e2) (UInt8.not_lt.1 e1)
   subst h3
   simp [List.cons_lt_cons_iff, e1, h1, h2]
/-- The comparison of two strings. -/
def cmpS (a b : ByteArray) : Int := Lib.compareBytes a.data.toList b.data.toList
theorem cmpS_lt (a b : ByteArray) : decide (cmpS a b < 0) = ltS a b := decide_eq_decide.2 (cb_lt _ _).1
theorem cmpS_eq (a b : ByteArray) : decide (cmpS a b = 0) = decide (a = b) := decide_eq_decide.2 ((cb_lt _ _).2.trans ⟨fun h => ByteArray.ext (Array.toList_inj.1 h), fun h => by rw [h]⟩)
set_option maxRecDepth 100000 in
set_option maxHeartbeats 8000000 in
theorem q_cmpb (a b : ByteArray) (w : World) : Calls Try.prog 97 #[.string a, .string b] w fun e w' => e = .returned (.int .i64 (cmpS a b)) ∧ w = w' := by
 go_enter Try.func97, Try.ntmps97
 go_wp2
 rw [run_callFunc_extern Try.func98 (by kernel_rfl) (by kernel_rfl) (by kernel_rfl) (e := Extern.BytealgCompare.compare) (by kernel_rfl), Lib.run_compareString]
 simp only [Result.andThen]
 rw [Oper.upon_value]
 go_wp2
 go_ret
 exact ⟨rfl, rfl⟩
set_option maxRecDepth 100000 in
set_option maxHeartbeats 8000000 in
theorem q_cmp (a b : ByteArray) (w : World) : Calls Try.prog 91 #[.string a, .string b] w fun e w' => e = .returned (.int .i64 (cmpS a b)) ∧ w = w' := by
 have CB := q_cmpb a b w
 generalize cmpS a b = q at *
 go_enter Try.func91, Try.ntmps91
 go_upto_region 1 with fail
 refine wl <| gz2 (.string a) (.string b) <| gzc (.int .i64 q) (fun w' => w = w') (CB) (fun V9 hV9 => ?_)
 subst hV9
 simp only [pu]
 refine gz1 (.int .i64 q) <| wn ?_
 simp only [pu]
 clear CB
 go_wp2_with fail
 go_ret
 exact ⟨rfl, rfl⟩
set_option maxRecDepth 100000 in
set_option maxHeartbeats 8000000 in
theorem q_place1 (x : Ac) (s : ByteArray) (w : World) : Calls Try.prog 90 #[.agg (acA x), .string s] w fun e w' => e = .returned (.int .i64 (cmpS x.1 s)) ∧ Below w.heap.size w w' := by
 have hb0 : Below w.heap.size w (w.alloc (.cells (acA x) 24)) := (Below.refl _ w).alloc (Nat.le_refl _) _
 have hX : Bx (w.alloc (.cells (acA x) 24)) w.heap.size (acA x) 24 := heap_alloc_last w _
 have CB := q_cmp x.1 s (w.alloc (.cells (acA x) 24))
 obtain ⟨q, hq⟩ : ∃ q, cmpS x.1 s = q := ⟨_, rfl⟩
 rw [hq] at CB ⊢
 clear hq
 go_enter Try.func90, Try.ntmps90
 go_upto_region 1 with fail
 change Code.wp _ _ _ _ (w.alloc (.cells (acA x) 24))
 generalize w.alloc (.cells (acA x) 24) = W at *
 have HB := Lib.hid hb0
 clear hb0
 refine wl <| gz1 (.pointer (some ⟨w.heap.size, 0, none⟩)) <| gzl rfl ⟨w.heap.size, 0, none⟩ (.string x.1) (hX.load (i := 0) rfl (by kernel_rfl)) <| gz1 (.string s) <| gzc (.int .i64 q) (fun w' => W = w') (CB) (fun V9 hV9 => ?_)
 subst hV9
 simp only [pu]
 refine gz1 (.int .i64 q) <| wn ?_
 simp only [pu]
 clear CB hX
 go_wp2_with fail
 go_ret
 exact ⟨rfl, HB.out⟩
theorem conv_iu {ρ : Operand → Value} {o : Oper} {x : Operand} (ho : o.op = .convert 3 102 x) (a : Nat) (h : a ≤ 9223372036854775807) (hx : ρ x = .int .i64 a) (w : World) : (execOp ρ o).run Try.prog w = .ok (.value (.int .u64 a)) w := by
 have e : IntKind.u64.wrap (a : Int) = a := by rw [IntKind.wrap_u64]; omega
 unfold execOp
 simp only [ho, hx]
 go_simp
theorem conv_ui {ρ : Operand → Value} {o : Oper} {x : Operand} (ho : o.op = .convert 102 3 x) (a : Nat) (h : a ≤ 9223372036854775807) (hx : ρ x = .int .u64 a) (w : World) : (execOp ρ o).run Try.prog w = .ok (.value (.int .i64 a)) w := by
 have e : IntKind.i64.wrap (a : Int) = a := by rw [IntKind.wrap_i64]; omega
 unfold execOp
 simp only [ho, hx]
 go_simp
theorem half_u {ρ : Operand → Value} {o : Oper} {x y : Operand} (ho : o.op = .binOp .shr 102 x y 102) (a : Nat) (h : a ≤ 9223372036854775807) (hx : ρ x = .int .u64 a) (hy : ρ y = .int .u64 1) (w : World) : (execOp ρ o).run Try.prog w = .ok (.value (.int .u64 (a / 2 : Nat))) w := by
 unfold execOp
 simp only [ho, hx, hy]
 go_simp
set_option maxRecDepth 100000 in
set_option maxHeartbeats 8000000 in
theorem q_bs (a : Option Addr) (k : Nat) (A : List Ac) (s : ByteArray) (w : World) (hR : Cs w a (acc A)) (hs : Srt A) (hn : A.length ≤ 1000000) :
  Calls Try.prog 89 #[.slice a A.length k, .string s, .func (.func 90) #[] #[]] w fun e w' => e = .returned (.tuple #[.int .i64 (lesL A s), .bool (decide (fndL A s < A.length))]) ∧ Below w.heap.size w w' := by
 have HA := Lib.hid hR
 have HLT := Lib.hid (fun i => cmpS_lt (aca A i).1 s)
 have HEQ := Lib.hid (fun i => cmpS_eq (aca A i).1 s)
 have HS := Lib.hid hs
 obtain ⟨n, hnn⟩ : ∃ n, A.length = n := ⟨_, rfl⟩
 have HN := Lib.hid hnn
 have HNL : Hid (n ≤ 1000000) := Lib.hid (by omega)
 obtain ⟨lL, hlL⟩ : ∃ l, lesL A s = l := ⟨_, rfl⟩
 obtain ⟨fF, hfF⟩ : ∃ f, decide (fndL A s < n) = f := ⟨_, rfl⟩
 have HRS : Hid (∀ i, i ≤ n → (∀ t, t < i → ltS (aca A t).1 s = true) → (∀ t, i ≤ t → t < n → ltS (aca A t).1 s = false) → i = lL ∧ fF = decide (i < n ∧ (aca A i).1 = s)) := Lib.hid fun i h1 h2 h3 => by
  have e := les_is (A := A) (s := s) (i := i) (by omega) h2 (fun h => h3 i (Nat.le_refl _) (by omega))
  refine ⟨by rw [← hlL, e], ?_⟩
  rw [← hfF, ← hnn, srt_les hs, e]
 rw [hnn, hlL, hfF]
 clear hlL hfF hR hs hn hnn
 go_enter Try.func89, Try.ntmps89
 go_upto_region 1 with fail
 refine wl <| gz3 (.slice a n k) (.int .i64 n) (.int .i64 n) <| wn ?_
 simp only [pu]
 go_upto_region 2 with fail
 refine wl <| gz3 (.int .i64 n) (.int .i64 0) (.int .i64 n) <| wn ?_
 simp only [pu]
 go_wp2_with fail
 go_loopg [9, 10] n (fun gg s9 s10 wx => ∃ i j : Nat, s9 = .int .i64 i ∧ s10 = .int .i64 j ∧ i ≤ j ∧ j ≤ n ∧ Hid ((∀ t, t < i → ltS (aca A t).1 s = true) ∧ (∀ t, j ≤ t → t < n → ltS (aca A t).1 s = false)) ∧ Hid (Below w.heap.size w wx) ∧ j - i = gg)
 case atStart => exact ⟨0, n, rfl, rfl, by omega, by omega, Lib.hid ⟨fun t h => by omega, fun t h h2 => by omega⟩, Lib.hid (Below.refl _ _), by omega⟩
 case round =>
  obtain ⟨i, j, rfl, rfl, hij, hjn, HO, HB, hg⟩ := hrel
  have hn9 := HNL.out
  by_cases hlt : i < j
  ·skip
   go_upto_region 3 with fail
   refine wl <| gz2 (.int .i64 i) (.int .i64 j) <| gzb (lss_n rfl (i) (j) dT) <| wn ?_
   simp only [pu]
   go_upto_region 4 with fail
   refine wl <| gz2 (.int .i64 i) (.int .i64 j) <| gzw (.int .i64 (i + j : Nat)) (add_nat rfl i j (by omega)) <| gzv (.int .u64 (i + j : Nat)) (conv_iu rfl (i + j) (by omega) (by kernel_rfl) _) <|
    gzw (.int .u64 ((i + j) / 2 : Nat)) (half_u rfl (i + j) (by omega)) <| gzv (.int .i64 ((i + j) / 2 : Nat)) (conv_ui rfl ((i + j) / 2) (by omega) (by kernel_rfl) _) <| gz1 (.int .i64 ((i + j) / 2 : Nat)) <| wn ?_
   simp only [pu]
   obtain ⟨h, hh⟩ : ∃ h, (i + j) / 2 = h := ⟨_, rfl⟩
   have HH : Hid (i ≤ h ∧ h < j) := Lib.hid (by omega)
   have hhn : h < n := by have := HH.out; omega
   rw [hh]
   clear hh
   obtain ⟨b, off, rfl, -, hrx⟩ := ac_range (HA.out.below HB.out) (k := h) (by rw [HN.out]; exact hhn)
   have HLD := Lib.hid (load_ac hrx)
   have hl1 := HLT.out h
   generalize hy : aca A h = y at *
   have CP := q_place1 y s wr
   obtain ⟨q, hq⟩ : ∃ q, cmpS y.1 s = q := ⟨_, rfl⟩
   rw [hq] at CP hl1
   have HY := Lib.hid hy
   have HG := Lib.hid hg
   clear hrx hq hy hg
   go_upto_region 5 with fail
   by_cases hqq : q < 0
   ·skip
    rw [decide_eq_true hqq] at hl1
    refine wl <| gz3 (.func (.func 90) #[] #[]) (.slice (some ⟨b, off, none⟩) n k) (.int .i64 h) <| gzv (.pointer (some ⟨b, off + h * 3, none⟩)) (idx_ac b off n k h hhn _ _ _ rfl (by kernel_rfl) (by kernel_rfl)) <| gzl rfl ⟨b, off + h * 3, none⟩ (.agg (acA y)) (HLD.out) <|
     gz1 (.string s) <| gzc (.int .i64 q) (fun w' => Below wr.heap.size wr w') (CP) (fun V9 hV9 => ?_)
    have HB9 := Lib.hid (HB.out.trans (hV9.mono HB.out.size))
    simp only [pu]
    refine gzb (lss_n rfl (q) (0) (decide_eq_true (hqq))) <| wn ?_
    simp only [pu]
    clear hV9 HB HLD CP hqq
    have HO9 : Hid ((∀ t, t < h + 1 → ltS (aca A t).1 s = true) ∧ (∀ t, j ≤ t → t < n → ltS (aca A t).1 s = false)) := Lib.hid ⟨fun t ht => (by rcases Nat.lt_or_ge t h with h7 | h7; exact ltS_tr (HS.out t h h7 (by rw [HN.out]; exact hhn)) (by rw [HY.out]; exact hl1.symm); have e7 : t = h := (by omega); rw [e7, HY.out]; exact hl1.symm), HO.out.2⟩
    go_upto_region 6 with fail
    refine wl <| gz1 (.int .i64 h) <| gzw (.int .i64 (h + 1 : Nat)) (add_nat rfl h 1 (by omega)) <| gz1 (.int .i64 (h + 1 : Nat)) <| wn ?_
    simp only [pu]
    clear HO hl1
    go_wp2_with fail
    go_roundg (j - (h + 1))
    case measure => have := HG.out; have := HH.out; omega
    case rel => exact ⟨h + 1, j, rfl, rfl, by have := HH.out; omega, hjn, HO9, HB9, rfl⟩
   ·skip
    rw [decide_eq_false hqq] at hl1
    refine wl <| gz3 (.func (.func 90) #[] #[]) (.slice (some ⟨b, off, none⟩) n k) (.int .i64 h) <| gzv (.pointer (some ⟨b, off + h * 3, none⟩)) (idx_ac b off n k h hhn _ _ _ rfl (by kernel_rfl) (by kernel_rfl)) <| gzl rfl ⟨b, off + h * 3, none⟩ (.agg (acA y)) (HLD.out) <|
     gz1 (.string s) <| gzc (.int .i64 q) (fun w' => Below wr.heap.size wr w') (CP) (fun V9 hV9 => ?_)
    have HB9 := Lib.hid (HB.out.trans (hV9.mono HB.out.size))
    simp only [pu]
    refine gzb (lss_n rfl (q) (0) (decide_eq_false (hqq))) <| wn ?_
    simp only [pu]
    clear hV9 HB HLD CP hqq
    have HO9 : Hid ((∀ t, t < i → ltS (aca A t).1 s = true) ∧ (∀ t, h ≤ t → t < n → ltS (aca A t).1 s = false)) := Lib.hid ⟨HO.out.1, fun t ht htn => (by have h0 : ltS (aca A h).1 s = false := (by rw [HY.out]; exact hl1.symm); rcases Nat.lt_or_ge h t with h7 | h7; have h8 := HS.out h t h7 (by rw [HN.out]; exact htn); by_cases h9 : ltS (aca A t).1 s = true; rw [ltS_tr h8 h9] at h0; cases h0; simpa using h9; have e7 : t = h := (by omega); rw [e7]; exact h0)⟩
    go_upto_region 7 with fail
    refine wl <| gz2 (.int .i64 h) (.int .i64 h) <| wn ?_
    simp only [pu]
    clear HO hl1
    go_wp2_with fail
    go_roundg (h - i)
    case measure => have := HG.out; have := HH.out; omega
    case rel => exact ⟨i, h, rfl, rfl, by have := HH.out; omega, by have := HH.out; omega, HO9, HB9, rfl⟩
  ·skip
   obtain rfl : i = j := by omega
   obtain ⟨hil, hff⟩ := HRS.out i hjn HO.out.1 HO.out.2
   subst hil
   clear HO HRS hg hij
   by_cases hin : i < n
   ·skip
    obtain ⟨b, off, rfl, -, hrx⟩ := ac_range (HA.out.below HB.out) (k := i) (by rw [HN.out]; exact hin)
    have HLD := Lib.hid (load_ac hrx)
    have hl1 := HEQ.out i
    have hff2 : fF = decide ((aca A i).1 = s) := by rw [hff, decide_eq_decide]; exact ⟨fun h => h.2, fun h => ⟨hin, h⟩⟩
    clear hff
    generalize aca A i = y at *
    rw [← hl1] at hff2
    have CP := q_place1 y s wr
    obtain ⟨q, hq⟩ : ∃ q, cmpS y.1 s = q := ⟨_, rfl⟩
    rw [hq] at CP hff2
    have HFF := Lib.hid hff2.symm
    clear hrx hq hl1 hff2
    go_upto_region 3 with fail
    refine wl <| gz2 (.int .i64 i) (.int .i64 i) <| gzb (lss_n rfl (i) (i) dF) <| wn ?_
    simp only [pu]
    go_upto_region 8 with fail
    refine wl <| gz3 (.int .i64 i) (.int .i64 i) (.int .i64 n) <| gzb (lss_n rfl (i) (n) dT) <| gz4 (.bool true) (.func (.func 90) #[] #[]) (.slice (some ⟨b, off, none⟩) n k) (.int .i64 i) <|
     gzv (.pointer (some ⟨b, off + i * 3, none⟩)) (idx_ac b off n k i hin _ _ _ rfl (by kernel_rfl) (by kernel_rfl)) <| gzl rfl ⟨b, off + i * 3, none⟩ (.agg (acA y)) (HLD.out) <| gz1 (.string s) <| gzc (.int .i64 q) (fun w' => Below wr.heap.size wr w') (CP) (fun V9 hV9 => ?_)
    have HB9 := Lib.hid (HB.out.trans (hV9.mono HB.out.size))
    simp only [pu]
    refine gzw (.bool fF) (eql_n rfl q 0 HFF.out) <| gz3 (.bool fF) (.int .i64 i) (.bool fF) <| wn ?_
    simp only [pu]
    clear hV9 HB HLD CP HFF
    go_wp2_with fail
    go_ret2
    exact ⟨rfl, HB9.out⟩
   ·skip
    rw [decide_eq_false (fun h => hin h.1)] at hff
    subst hff
    go_upto_region 3 with fail
    refine wl <| gz2 (.int .i64 i) (.int .i64 i) <| gzb (lss_n rfl (i) (i) dF) <| wn ?_
    simp only [pu]
    go_upto_region 8 with fail
    refine wl <| gz3 (.int .i64 i) (.int .i64 i) (.int .i64 n) <| gzb (lss_n rfl (i) (n) dF) <| gz6 (.bool false) undef undef undef undef undef <| gz6 undef undef undef (.bool false) (.int .i64 i) (.bool false) <|
     wpList_nil ?_
    simp only [pu]
    go_wp2_with fail
    go_ret2
    exact ⟨rfl, HB.out⟩
set_option maxRecDepth 100000 in
set_option maxHeartbeats 8000000 in
theorem q_place (a : Option Addr) (k : Nat) (A : List Ac) (s : ByteArray) (w : World) (hR : Cs w a (acc A)) (hs : Srt A) (hn : A.length ≤ 1000000) :
  Calls Try.prog 80 #[.slice a A.length k, .string s] w fun e w' => e = .returned (.tuple #[.int .i64 (lesL A s), .bool (decide (fndL A s < A.length))]) ∧ Below w.heap.size w w' := by
 have CB := q_bs a k A s w hR hs hn
 obtain ⟨lL, hlL⟩ : ∃ l, lesL A s = l := ⟨_, rfl⟩
 obtain ⟨fF, hfF⟩ : ∃ f, decide (fndL A s < A.length) = f := ⟨_, rfl⟩
 rw [hlL, hfF] at CB ⊢
 generalize A.length = n at *
 clear hlL hfF hR hs hn
 go_enter Try.func80, Try.ntmps80
 go_upto_region 1 with fail
 refine wl <| gz2 (.slice a n k) (.string s) <| gzc (.tuple #[.int .i64 lL, .bool fF]) (fun w' => Below w.heap.size w w') (CB) (fun V9 hV9 => ?_)
 have HB9 := Lib.hid hV9
 simp only [pu]
 refine gz4 (.int .i64 lL) (.bool fF) (.int .i64 lL) (.bool fF) <| wn ?_
 simp only [pu]
 clear hV9 CB
 go_wp2_with fail
 go_ret2
 exact ⟨rfl, HB9.out⟩
def fndI (A : List Ac) (s : ByteArray) : Int := if fndL A s < A.length then fndL A s else -1
set_option maxRecDepth 100000 in
set_option maxHeartbeats 8000000 in
theorem ref_find (a : Option Addr) (k : Nat) (A : List Ac) (s : ByteArray) (w : World) (hR : Cs w a (acc A)) (hn : A.length ≤ 4398046511104) :
  Calls Try.prog 45 #[.slice a A.length k, .string s] w fun e w' => e = .returned (.int .i64 (fndI A s)) ∧ Below w.heap.size w w' := by
 have HA := Lib.hid hR
 obtain ⟨n, hnn⟩ : ∃ n, A.length = n := ⟨_, rfl⟩
 have HN := Lib.hid hnn
 have HNL : Hid (n ≤ 4398046511104) := Lib.hid (by omega)
 have HF1 : Hid (∀ i, i < n → (∀ t, t < i → (aca A t).1 ≠ s) → (aca A i).1 = s → fndI A s = i) := Lib.hid fun i h1 h2 h3 => by
  have e := fnd_is (A := A) (by omega) h2 h3
  unfold fndI
  rw [e, if_pos (by omega)]
 have HF2 : Hid ((∀ t, t < n → (aca A t).1 ≠ s) → fndI A s = -1) := Lib.hid fun h => by
  have e := fnd_no (A := A) (s := s) (fun j hj => h j (by omega))
  unfold fndI
  rw [e, if_neg (by omega)]
 rw [hnn]
 generalize fndI A s = r at *
 clear hR hn hnn
 go_enter Try.func45, Try.ntmps45
 go_upto_region 1 with fail
 refine wl <| gz3 (.slice a n k) (.int .i64 n) (.int .i64 0) <| wn ?_
 simp only [pu]
 go_wp2_with fail
 go_loopg [9] n (fun gg s9 wx => ∃ j : Nat, s9 = .int .i64 j ∧ j ≤ n ∧ Hid (∀ t, t < j → (aca A t).1 ≠ s) ∧ Hid (Below w.heap.size w wx) ∧ n - j = gg)
 case atStart => exact ⟨0, rfl, by omega, Lib.hid (fun t h => by omega), Lib.hid (Below.refl _ _), by omega⟩
 case round =>
  obtain ⟨j, rfl, hj, HO, HB, hg⟩ := hrel
  have hn9 := HNL.out
  by_cases hlt : j < n
  ·skip
   obtain ⟨b, off, rfl, -, hrx⟩ := ac_range (HA.out.below HB.out) (k := j) (by rw [HN.out]; exact hlt)
   have HLD := Lib.hid (load_ac hrx)
   have hf1 := HF1.out j hlt HO.out
   generalize hy : aca A j = y at *
   have HY := Lib.hid hy
   have HG := Lib.hid hg
   obtain ⟨V2, hst, hb2, hbx⟩ := new_ac wr y
   have HB2 := Lib.hid (HB.out.trans (hb2.mono HB.out.size))
   clear hrx hy hg hb2
   go_upto_region 2 with fail
   refine wl <| gzb (lss_n rfl (j) (n) dT) <| wn ?_
   simp only [pu]
   go_upto_region 3 with fail
   refine wl <| gz1 (.int .i64 j) <| gzv (.pointer (some ⟨b, off + j * 3, none⟩)) (idx_ac b off n k j hlt _ _ _ rfl (by kernel_rfl) (by kernel_rfl)) <| gzl rfl ⟨b, off + j * 3, none⟩ (.agg (acA y)) (HLD.out) ?_
   simp only [pu]
   refine run_to rfl (some 6) rfl (.pointer (some ⟨wr.heap.size, 0, none⟩)) (wr.alloc (.cells (acA zAc) 24)) (by kernel_rfl) ?_
   simp only [pu]
   refine gz1 (.int .i64 j) <| gzs rfl (hst) <| wn ?_
   simp only [pu]
   obtain ⟨g4, hg4⟩ : ∃ g4, wr.heap.size = g4 := ⟨_, rfl⟩
   rw [hg4] at hbx ⊢
   clear hst hg4 HLD
   by_cases hey : y.1 = s
   ·skip
    go_upto_region 4 with fail
    refine wl <| gz1 (.pointer (some ⟨g4, 0, none⟩)) <| gzl rfl ⟨g4, 0, none⟩ (.string y.1) (hbx.load (i := 0) rfl (by kernel_rfl)) <| gz1 (.string s) <| gzw (.bool true) (eql_s rfl y.1 s (by rw [beqB]; exact decide_eq_true hey)) <| wn ?_
    simp only [pu]
    clear hbx
    have HR := Lib.hid (hf1 hey)
    clear hf1 HO HB
    go_upto_region 5 with fail
    refine wl <| gz2 (.int .i64 j) (.int .i64 j) <| wn ?_
    simp only [pu]
    go_wp2_with fail
    go_ret
    exact ⟨by rw [HR.out]; rfl, HB2.out⟩
   ·skip
    go_upto_region 4 with fail
    refine wl <| gz1 (.pointer (some ⟨g4, 0, none⟩)) <| gzl rfl ⟨g4, 0, none⟩ (.string y.1) (hbx.load (i := 0) rfl (by kernel_rfl)) <| gz1 (.string s) <| gzw (.bool false) (eql_s rfl y.1 s (by rw [beqB]; exact decide_eq_false hey)) <| wn ?_
    simp only [pu]
    clear hbx
    have HO9 : Hid (∀ t, t < j + 1 → (aca A t).1 ≠ s) := Lib.hid fun t ht => (by rcases Nat.lt_or_ge t j with h7 | h7; exact HO.out t h7; have e7 : t = j := (by omega); rw [e7, HY.out]; exact hey)
    clear hf1 HO HB hey
    go_upto_region 6 with fail
    refine wl <| gzw (.int .i64 (j + 1 : Nat)) (add_nat rfl j 1 (by omega)) <| gz1 (.int .i64 (j + 1 : Nat)) <| wn ?_
    simp only [pu]
    go_wp2_with fail
    go_roundg (n - (j + 1))
    case measure => have := HG.out; omega
    case rel => exact ⟨j + 1, rfl, hlt, HO9, HB2, rfl⟩
  ·skip
   obtain rfl : n = j := by omega
   obtain rfl := HF2.out HO.out
   clear HO HF1 HF2 hg
   go_upto_region 2 with fail
   refine wl <| gzb (lss_n rfl (n) (n) dF) <| wn ?_
   simp only [pu]
   go_upto_region 7 with fail
   refine wl <| gz1 (.int .i64 (-1)) <| wn ?_
   simp only [pu]
   go_wp2_with fail
   go_ret
   exact ⟨rfl, HB.out⟩
end Go.Proofs.Ytglglhcnofbagaa.Lg
namespace Go.Proofs.Ytglglhcnofbagaa.Lg
attribute [local irreducible] wpList wpQuiet
set_option maxRecDepth 100000
open Go.RowKit
set_option linter.unusedSimpArgs false
set_option linter.unusedVariables false

theorem results_c {fn : Func} {tmps : Array Value} {w : World} {p q g ty : Nat} {v u : Value} (hr : fn.results = #[.cell p ty, .tmp q]) (h2 : tmps.getD p undef = .pointer (some ⟨g, 0, none⟩)) (hl : (Instr.loadAt ty (.pointer (some ⟨g, 0, none⟩))).run Try.prog w = .ok v w) (h3 : tmps.getD q undef = u) : (results fn tmps).run Try.prog w = .ok (.tuple #[v, u]) w := by
 unfold results
 rw [hr]
 have h2' : tmps[p]?.getD undef = .pointer (some ⟨g, 0, none⟩) := by simpa using h2
 have h3' : tmps[q]?.getD undef = u := by simpa using h3
 have hl' := hl
 simp only [Instr.loadAt, Instr.sureAddr, Sem.run_bind, Sem.run_pure, Result.andThen_ok] at hl'
 simp [h2', h3', asAddr, hl', Result.andThen]
def RowU (w : World) (B : Nat) (v : Value) (L : List Int) : Prop := w.ownsRow B 22 1 v L.length (u64s L)
theorem build_u (x : Int) (V : World) : (Instr.buildSlice 84 1 #[(0, .int .u64 x)]).run Try.prog V = .ok (.slice (some ⟨V.heap.size, 0, none⟩) 1 1) (V.alloc (.cells #[.int .u64 x] 22)) := by
 obtain ⟨i0, hi, hz0, hz1, hz2⟩ := info_parts infoU
 refine run_buildSlice V 84 22 1 _ #[.int .u64 x] i0 _ Try.underlying84 hi hz0 (by rw [hz1]; omega) (by rw [hz1]; omega) ?_
 rw [hz1]
 kernel_rfl
theorem own_u (x : Int) (V : World) : RowU (V.alloc (.cells #[.int .u64 x] 22)) V.heap.size (.slice (some ⟨V.heap.size, 0, none⟩) 1 1) [x] :=
 ⟨by simp [u64s], .inr ⟨V.heap.size, 1, #[.int .u64 x], rfl, Nat.le_refl _, heap_alloc_last V _, Nat.le_refl _, by simp [maxLen], by simp, by simp [u64s]⟩⟩
theorem grow_u {w : World} {B : Nat} {v : Value} {L : List Int} (h : RowU w B v L) (hB : B ≤ w.heap.size) (x : Int) (hl : L.length ≤ 4398046511200) :
  ∃ v2 V2, (Builtin.append_ #[84, 84] 84 #[v, .slice (some ⟨w.heap.size, 0, none⟩) 1 1]).run Try.prog (w.alloc (.cells #[.int .u64 x] 22)) = .ok v2 V2 ∧ RowU V2 B v2 (L ++ [x]) ∧ Below B w V2 := by
 have hb : Below w.heap.size w (w.alloc (.cells #[.int .u64 x] 22)) := (Below.refl _ w).alloc (Nat.le_refl _) _
 have hO := own_below h hb
 have hc : Cs (w.alloc (.cells #[.int .u64 x] 22)) (some ⟨w.heap.size, 0, none⟩) [.int .u64 x] := Cs.block (t := 22) (fr := (0, 0)) (heap_alloc_last w _)
 obtain ⟨v2, V2, hr, hO2, hb2, -, -⟩ := append_big (P := Try.prog) (t := 84) (m := 1) Try.underlying84 infoU (by kernel_rfl) (by omega) hO (some ⟨w.heap.size, 0, none⟩) 1 [.int .u64 x] hc rfl (fun u hu => by
  simp only [List.mem_cons, List.not_mem_nil, or_false] at hu
  subst hu
  rfl) (by simp; omega) (by omega) (by omega)
 refine ⟨v2, V2, hr, ?_, (hb.mono hB).trans hb2⟩
 unfold RowU
 rw [List.length_append, show u64s (L ++ [x]) = u64s L ++ [.int .u64 x] by simp [u64s]]
 exact hO2
theorem bals_len (A : List Ac) : (bals A).length = A.length := by simp [bals]
theorem bals_succ {A : List Ac} {j : Nat} (h : j < A.length) : bals (A.take (j + 1)) = bals (A.take j) ++ [(aca A j).2.1] := by
 unfold bals
 rw [List.take_succ_eq_append_getElem h, List.map_append, aca_get h]
 rfl
theorem tots_succ {A : List Ac} {j : Nat} (c : Int) (h : j < A.length) : tot (c :: bals (A.take (j + 1))) = tot (c :: bals (A.take j)) + (aca A j).2.1 := by
 rw [bals_succ h, ← List.cons_append, tot_append, tot_cons (aca A j).2.1]
 simp [tot]
theorem bals_w {A : List Ac} {c : Int} (hc : W64 c) (hw : AcW A) : ∀ k, k < (c :: bals A).length → W64 ((c :: bals A).getD k 0) := fun k hk => by
 cases k with
 | zero => exact hc
 | succ k =>
  have hk2 : k < A.length := by simp [bals] at hk; exact hk
  rw [List.getD_cons_succ]
  unfold bals
  rw [bals_at A k hk2]
  exact (hw k hk2).1
theorem tots_le {A : List Ac} {c : Int} (hc : W64 c) (hw : AcW A) (j : Nat) : tot (c :: bals (A.take j)) ≤ tot (c :: bals A) := by
 have := tot_take_le (c :: bals A) (bals_w hc hw) (j + 1)
 rwa [List.take_succ_cons, show (bals A).take j = bals (A.take j) from (List.map_take ..).symm] at this
theorem tots_nn {A : List Ac} {c : Int} (hc : W64 c) (hw : AcW A) (j : Nat) : 0 ≤ tot (c :: bals (A.take j)) := tot_nonneg _ fun x hx => by
 rcases List.mem_cons.1 hx with h | h
 ·rw [h]; exact hc.1
 ·obtain ⟨y, hy, rfl⟩ := List.mem_map.1 h
  exact (acw_mem hw y (List.mem_of_mem_take hy)).1.1
theorem tots_all (A : List Ac) (c : Int) : tot (c :: bals (A.take A.length)) = tot (c :: bals A) := by rw [List.take_length]
set_option maxRecDepth 100000 in
set_option maxHeartbeats 8000000 in
theorem q_total (a : Option Addr) (k : Nat) (A : List Ac) (c : Int) (w : World) (hR : Cs w a (acc A)) (hn : A.length ≤ 4398046511104) (hc : W64 c) (hw : AcW A) :
  Calls Try.prog 70 #[.agg (lgA a A.length k c)] w fun e w' => e = .returned (.tuple #[.int .u64 (totV A c), .bool (totB A c)]) ∧ Below w.heap.size w w' := by
 have hb0 : Below w.heap.size w (w.alloc (.cells (lgA a A.length k c) 27)) := (Below.refl _ w).alloc (Nat.le_refl _) _
 have hX0 : Bx (w.alloc (.cells (lgA a A.length k c) 27)) w.heap.size (lgA a A.length k c) 27 := heap_alloc_last w _
 have HA := Lib.hid (hR.below hb0)
 have HW := Lib.hid hw
 have HC := Lib.hid hc
 have HSM := Lib.hid (fun (al : Option Addr) (cl : Nat) (V : World) (h : Cs V al (u64s (c :: bals A))) => money_sum al cl (c :: bals A) V (by rw [List.length_cons, bals_len]; omega) (fun q hq => by
  obtain ⟨b, off, e, -, h1⟩ := h q (.int .u64 ((c :: bals A).getD q 0)) (by
   unfold u64s
   rw [List.getElem?_map, List.getElem?_eq_getElem hq, List.getD_eq_getElem?_getD, List.getElem?_eq_getElem hq]
   rfl)
  exact ⟨b, off, e, h1⟩) (bals_w hc hw))
 have HLN : Hid ((c :: bals A).length = A.length + 1) := Lib.hid (by rw [List.length_cons, bals_len])
 obtain ⟨n, hnn⟩ : ∃ n, A.length = n := ⟨_, rfl⟩
 have HN := Lib.hid hnn
 have HNL : Hid (n ≤ 4398046511104) := Lib.hid (by omega)
 rw [hnn] at hb0 hX0 HA ⊢
 clear hR hn hnn hw hc
 have HTV : Hid (sumV (c :: bals A) = totV A c ∧ sumB (c :: bals A) = totB A c) := Lib.hid ⟨rfl, rfl⟩
 generalize totV A c = tv at *
 generalize totB A c = tb at *
 go_enter Try.func70, Try.ntmps70
 go_upto_region 1 with fail
 change Code.wp _ _ _ _ (w.alloc (.cells (lgA a n k c) 27))
 generalize w.alloc (.cells (lgA a n k c) 27) = W at *
 obtain ⟨g0, hg0⟩ : ∃ g0, w.heap.size = g0 := ⟨_, rfl⟩
 have HB0 := Lib.hid hb0
 rw [hg0] at hX0
 simp only [hg0]
 have HX := Lib.hid hX0
 clear hb0 hg0 hX0
 have hbu := build_u c W
 have hou := own_u c W
 refine wl <| gz1 (.pointer (some ⟨g0, 1, none⟩)) <| gzl rfl ⟨g0, 1, none⟩ (.int .u64 c) (HX.out.load (i := 1) rfl (by kernel_rfl)) ?_
 simp only [pu]
 refine gw_build (by kernel_rfl) (some 9) rfl 84 1 #[(0, .tmp 8)] rfl #[(0, .int .u64 c)] (by kernel_rfl) (.slice (some ⟨W.heap.size, 0, none⟩) 1 1) _ hbu ?_
 simp only [pu]
 refine gz1 (.slice (some ⟨W.heap.size, 0, none⟩) 1 1) <| wn ?_
 simp only [pu]
 have hb1 : Below W.heap.size W (W.alloc (.cells #[.int .u64 c] 22)) := (Below.refl _ W).alloc (Nat.le_refl _) _
 clear hbu
 obtain ⟨v1, hv1⟩ : ∃ v1, Value.slice (some ⟨W.heap.size, 0, none⟩) 1 1 = v1 := ⟨_, rfl⟩
 rw [hv1] at hou ⊢
 generalize W.alloc (.cells #[.int .u64 c] 22) = W1 at *
 have HR1 : Hid (RowU W1 W.heap.size v1 (c :: bals (A.take 0))) := Lib.hid hou
 have HB1 := Lib.hid hb1
 have HX1 := Lib.hid (HX.out.below HX.out.lt hb1)
 clear hv1 hou hb1
 go_upto_region 2 with fail
 refine wl <| gz1 (.pointer (some ⟨g0, 0, none⟩)) <| gzl rfl ⟨g0, 0, none⟩ (.slice a n k) (HX1.out.load (i := 0) rfl (by kernel_rfl)) <| gz2 (.int .i64 n) (.int .i64 0) <| wn ?_
 simp only [pu]
 go_wp2_with fail
 go_loopg [4, 13] n (fun gg s4 s13 wx => ∃ (j : Nat) (v4 : Value), s4 = v4 ∧ s13 = .int .i64 j ∧ j ≤ n ∧ Hid (RowU wx W.heap.size v4 (c :: bals (A.take j))) ∧ Hid (Below W.heap.size W wx) ∧ n - j = gg)
 case atStart => exact ⟨0, v1, rfl, rfl, by omega, HR1, HB1, by omega⟩
 case round =>
  obtain ⟨j, v4, rfl, rfl, hj, HRU, HB, hg⟩ := hrel
  have hn9 := HNL.out
  by_cases hlt : j < n
  ·skip
   obtain ⟨b, off, rfl, -, hrx⟩ := ac_range (HA.out.below HB.out) (k := j) (by rw [HN.out]; exact hlt)
   have HLD := Lib.hid (load_ac hrx)
   have HBS := Lib.hid (bals_succ (A := A) (j := j) (by rw [HN.out]; exact hlt))
   generalize aca A j = y at *
   have HG := Lib.hid hg
   obtain ⟨V2, hst, hb2, hbx⟩ := new_ac wr y
   obtain ⟨v3, V3, hap, hr3, hb3⟩ := grow_u (own_below HRU.out hb2) (by have := HB.out.size; have := hb2.size; omega) y.2.1 (by rw [List.length_cons, bals_len, List.length_take]; omega)
   have HR3 : Hid (RowU V3 W.heap.size v3 (c :: bals (A.take (j + 1)))) := Lib.hid (by rw [HBS.out, ← List.cons_append]; exact hr3)
   have HB3 := Lib.hid ((HB.out.trans (hb2.mono HB.out.size)).trans hb3)
   have hbu := build_u y.2.1 V2
   clear hrx hg hb2 hr3 hb3 HBS
   go_upto_region 3 with fail
   refine wl <| gzb (lss_n rfl (j) (n) dT) <| wn ?_
   simp only [pu]
   go_upto_region 4 with fail
   refine wl <| gzv (.pointer (some ⟨b, off + j * 3, none⟩)) (idx_ac b off n k j hlt _ _ _ rfl (by kernel_rfl) (by kernel_rfl)) <| gzl rfl ⟨b, off + j * 3, none⟩ (.agg (acA y)) (HLD.out) ?_
   simp only [pu]
   refine run_to rfl (some 6) rfl (.pointer (some ⟨wr.heap.size, 0, none⟩)) (wr.alloc (.cells (acA zAc) 24)) (by kernel_rfl) ?_
   simp only [pu]
   refine gzs rfl (hst) <| wn ?_
   obtain ⟨g4, hg4⟩ : ∃ g4, wr.heap.size = g4 := ⟨_, rfl⟩
   rw [hg4] at hbx ⊢
   obtain ⟨g5, hg5⟩ : ∃ g5, V2.heap.size = g5 := ⟨_, rfl⟩
   rw [hg5] at hap hbu
   clear hst hg4 hg5 HLD
   go_upto_region 5 with fail
   refine wl <| gz2 (u4) (.pointer (some ⟨g4, 1, none⟩)) <| gzl rfl ⟨g4, 1, none⟩ (.int .u64 y.2.1) (hbx.load (i := 1) rfl (by kernel_rfl)) ?_
   simp only [pu]
   refine gw_build (by kernel_rfl) (some 20) rfl 84 1 #[(0, .tmp 19)] rfl #[(0, .int .u64 y.2.1)] (by kernel_rfl) (.slice (some ⟨g5, 0, none⟩) 1 1) _ hbu ?_
   simp only [pu]
   refine append_step rfl (some 21) rfl 84 rfl (.tmp 17) (.tmp 20) 84 rfl (u4) (.slice (some ⟨g5, 0, none⟩) 1 1) (v3) V3 (by kernel_rfl) (by kernel_rfl) hap ?_
   simp only [pu]
   refine gz1 (v3) <| wn ?_
   simp only [pu]
   clear hap hbu hbx
   go_upto_region 6 with fail
   refine wl <| gzw (.int .i64 (j + 1 : Nat)) (add_nat rfl j 1 (by omega)) <| gz1 (.int .i64 (j + 1 : Nat)) <| wn ?_
   simp only [pu]
   go_wp2_with fail
   go_roundg (n - (j + 1))
   case measure => have := HG.out; omega
   case rel => exact ⟨j + 1, v3, rfl, rfl, hlt, HR3, HB3, rfl⟩
  ·skip
   obtain rfl : n = j := by omega
   obtain ⟨al, cl, rfl, hcs, -⟩ := own_cs HRU.out
   rw [← HN.out, List.take_length] at hcs
   have hlen : (c :: bals (A.take n)).length = (c :: bals A).length := by rw [← HN.out, List.take_length]
   rw [hlen]
   have CS := HSM.out al cl wr hcs
   rw [HTV.out.1, HTV.out.2] at CS
   generalize (c :: bals A).length = m at *
   have HB9 := Lib.hid (HB0.out.trans (HB.out.mono HB0.out.size))
   clear hg HRU HSM HTV hcs HB hlen HLN
   go_upto_region 3 with fail
   refine wl <| gzb (lss_n rfl (n) (n) dF) <| wn ?_
   simp only [pu]
   go_upto_region 7 with fail
   refine wl <| gz1 (.slice al m cl) <| gzc (.tuple #[.int .u64 tv, .bool tb]) (fun w' => wr = w') (CS) (fun V9 hV9 => ?_)
   subst hV9
   simp only [pu]
   refine gz4 (.int .u64 tv) (.bool tb) (.int .u64 tv) (.bool tb) <| wn ?_
   simp only [pu]
   clear CS
   go_wp2_with fail
   go_ret2
   exact ⟨rfl, HB9.out⟩
set_option maxRecDepth 100000 in
set_option maxHeartbeats 8000000 in
theorem ref_total (a : Option Addr) (k : Nat) (A : List Ac) (c : Int) (w : World) (hR : Cs w a (acc A)) (hn : A.length ≤ 4398046511104) (hc : W64 c) (hw : AcW A) :
  Calls Try.prog 35 #[.agg (lgA a A.length k c)] w fun e w' => e = .returned (.tuple #[.int .u64 (totV A c), .bool (totB A c)]) ∧ Below w.heap.size w w' := by
 have hb0 : Below w.heap.size w (w.alloc (.cells (lgA a A.length k c) 27)) := (Below.refl _ w).alloc (Nat.le_refl _) _
 have hX0 : Bx (w.alloc (.cells (lgA a A.length k c) 27)) w.heap.size (lgA a A.length k c) 27 := heap_alloc_last w _
 have HA := Lib.hid (hR.below hb0)
 have HW := Lib.hid hw
 have HC := Lib.hid hc
 have HT0 : Hid (∀ j, 0 ≤ tot (c :: bals (A.take j)) ∧ tot (c :: bals (A.take j)) ≤ tot (c :: bals A)) := Lib.hid fun j => ⟨tots_nn hc hw j, tots_le hc hw j⟩
 have HTS : Hid (∀ j, j < A.length → tot (c :: bals (A.take (j + 1))) = tot (c :: bals (A.take j)) + (aca A j).2.1) := Lib.hid fun j h => tots_succ c h
 have HTA : Hid (tot (c :: bals (A.take A.length)) = tot (c :: bals A)) := Lib.hid (tots_all A c)
 have HT1 : Hid (tot (c :: bals (A.take 0)) = c) := Lib.hid (by rw [List.take_zero, tot_cons]; simp [bals, tot])
 have HTV : Hid ((tot (c :: bals A) < 18446744073709551616 → totV A c = tot (c :: bals A) ∧ totB A c = true) ∧ (¬ tot (c :: bals A) < 18446744073709551616 → totV A c = 0 ∧ totB A c = false)) := Lib.hid ⟨fun h => ⟨if_pos h, decide_eq_true h⟩, fun h => ⟨if_neg h, decide_eq_false h⟩⟩
 obtain ⟨n, hnn⟩ : ∃ n, A.length = n := ⟨_, rfl⟩
 have HN := Lib.hid hnn
 have HNL : Hid (n ≤ 4398046511104) := Lib.hid (by omega)
 rw [hnn] at hb0 hX0 HA ⊢
 clear hR hn hnn hw hc
 rw [show A.length = n from HN.out] at HTS HTA
 generalize totV A c = tv at *
 generalize totB A c = tb at *
 obtain ⟨tt, htt⟩ : ∃ tt : Nat → Int, tt = fun j => tot (c :: bals (A.take j)) := ⟨_, rfl⟩
 have htj : ∀ j, tot (c :: bals (A.take j)) = tt j := fun j => by rw [htt]
 simp only [htj] at HT0 HTS HTA HT1
 generalize tot (c :: bals A) = tz at *
 clear htt htj
 go_enter Try.func35, Try.ntmps35
 go_upto_region 1 with fail
 change Code.wp _ _ _ _ (w.alloc (.cells (lgA a n k c) 27))
 generalize w.alloc (.cells (lgA a n k c) 27) = W at *
 obtain ⟨g0, hg0⟩ : ∃ g0, w.heap.size = g0 := ⟨_, rfl⟩
 have HB0 := Lib.hid hb0
 rw [hg0] at hX0
 simp only [hg0]
 have HX := Lib.hid hX0
 clear hb0 hg0 hX0
 refine wl <| gz1 (.pointer (some ⟨g0, 1, none⟩)) <| gzl rfl ⟨g0, 1, none⟩ (.int .u64 c) (HX.out.load (i := 1) rfl (by kernel_rfl)) <| gz1 (.int .u64 c) <| wn ?_
 simp only [pu]
 go_upto_region 2 with fail
 refine wl <| gz1 (.pointer (some ⟨g0, 0, none⟩)) <| gzl rfl ⟨g0, 0, none⟩ (.slice a n k) (HX.out.load (i := 0) rfl (by kernel_rfl)) <| gz2 (.int .i64 n) (.int .i64 0) <| wn ?_
 simp only [pu]
 go_wp2_with fail
 go_loopg [4, 14] n (fun gg s4 s14 wx => ∃ j : Nat, s4 = .int .u64 (tt j) ∧ s14 = .int .i64 j ∧ j ≤ n ∧ Hid (tt j < 18446744073709551616) ∧ Hid (Below W.heap.size W wx) ∧ n - j = gg)
 case atStart => exact ⟨0, by rw [HT1.out], rfl, by omega, Lib.hid (by rw [HT1.out]; have := HC.out.2; omega), Lib.hid (Below.refl _ _), by omega⟩
 case round =>
  obtain ⟨j, rfl, rfl, hj, HTL, HB, hg⟩ := hrel
  have hn9 := HNL.out
  by_cases hlt : j < n
  ·skip
   obtain ⟨b, off, rfl, -, hrx⟩ := ac_range (HA.out.below HB.out) (k := j) (by rw [HN.out]; exact hlt)
   have HLD := Lib.hid (load_ac hrx)
   have hts := HTS.out j hlt
   have hyw := (HW.out j (by rw [HN.out]; exact hlt)).1
   generalize aca A j = y at *
   have HG := Lib.hid hg
   obtain ⟨V2, hst, hb2, hbx⟩ := new_ac wr y
   have HB2 := Lib.hid (HB.out.trans (hb2.mono HB.out.size))
   have CA := ref_add (tt j) y.2.1 V2 ⟨(HT0.out j).1, by have := HTL.out; omega⟩ hyw
   clear hrx hg hb2 hyw
   go_upto_region 3 with fail
   refine wl <| gzb (lss_n rfl (j) (n) dT) <| wn ?_
   simp only [pu]
   go_upto_region 4 with fail
   refine wl <| gzv (.pointer (some ⟨b, off + j * 3, none⟩)) (idx_ac b off n k j hlt _ _ _ rfl (by kernel_rfl) (by kernel_rfl)) <| gzl rfl ⟨b, off + j * 3, none⟩ (.agg (acA y)) (HLD.out) ?_
   simp only [pu]
   refine run_to rfl (some 6) rfl (.pointer (some ⟨wr.heap.size, 0, none⟩)) (wr.alloc (.cells (acA zAc) 24)) (by kernel_rfl) ?_
   simp only [pu]
   refine gzs rfl (hst) <| wn ?_
   obtain ⟨g4, hg4⟩ : ∃ g4, wr.heap.size = g4 := ⟨_, rfl⟩
   rw [hg4] at hbx ⊢
   clear hst hg4 HLD
   by_cases hov : tt j + y.2.1 < 18446744073709551616
   ·skip
    rw [show addV (tt j) y.2.1 = tt (j + 1) by rw [hts]; exact if_pos hov, show addB (tt j) y.2.1 = true from decide_eq_true hov] at CA
    go_upto_region 5 with fail
    refine wl <| gz2 (.int .u64 (tt j)) (.pointer (some ⟨g4, 1, none⟩)) <| gzl rfl ⟨g4, 1, none⟩ (.int .u64 y.2.1) (hbx.load (i := 1) rfl (by kernel_rfl)) <| gzc (.tuple #[.int .u64 (tt (j + 1)), .bool true]) (fun w' => V2 = w') (CA) (fun V9 hV9 => ?_)
    subst hV9
    simp only [pu]
    refine gz5 (.tuple #[.int .u64 (tt (j + 1)), .bool true]) (.int .u64 (tt (j + 1))) (.bool true) (.int .u64 (tt (j + 1))) (.bool true) <| wn ?_
    simp only [pu]
    clear hbx CA
    go_upto_region 6 with fail
    refine wl <| gz2 (.bool true) (.bool false) <| wn ?_
    simp only [pu]
    have HTL9 : Hid (tt (j + 1) < 18446744073709551616) := Lib.hid (by rw [hts]; exact hov)
    clear hts hov
    go_upto_region 8 with fail
    refine wl <| gz2 (.int .u64 (tt (j + 1))) (.int .u64 (tt (j + 1))) <| wn ?_
    simp only [pu]
    go_upto_region 9 with fail
    refine wl <| gzw (.int .i64 (j + 1 : Nat)) (add_nat rfl j 1 (by omega)) <| gz1 (.int .i64 (j + 1 : Nat)) <| wn ?_
    simp only [pu]
    go_wp2_with fail
    go_roundg (n - (j + 1))
    case measure => have := HG.out; omega
    case rel => exact ⟨j + 1, rfl, rfl, hlt, HTL9, HB2, rfl⟩
   ·skip
    rw [show addV (tt j) y.2.1 = 0 from if_neg hov, show addB (tt j) y.2.1 = false from decide_eq_false hov] at CA
    go_upto_region 5 with fail
    refine wl <| gz2 (.int .u64 (tt j)) (.pointer (some ⟨g4, 1, none⟩)) <| gzl rfl ⟨g4, 1, none⟩ (.int .u64 y.2.1) (hbx.load (i := 1) rfl (by kernel_rfl)) <| gzc (.tuple #[.int .u64 0, .bool false]) (fun w' => V2 = w') (CA) (fun V9 hV9 => ?_)
    subst hV9
    simp only [pu]
    refine gz5 (.tuple #[.int .u64 0, .bool false]) (.int .u64 0) (.bool false) (.int .u64 0) (.bool false) <| wn ?_
    simp only [pu]
    clear hbx CA
    go_upto_region 6 with fail
    refine wl <| gz2 (.bool false) (.bool true) <| wn ?_
    simp only [pu]
    have hz := HTV.out.2 (by have h8 := (HT0.out (j + 1)).2; rw [hts] at h8; omega)
    obtain ⟨rfl, rfl⟩ := hz
    have HB9 := Lib.hid (HB0.out.trans (HB2.out.mono HB0.out.size))
    clear hts hov HTV
    go_upto_region 7 with fail
    refine wl <| gz2 (.int .u64 0) (.bool false) <| wn ?_
    simp only [pu]
    go_wp2_with fail
    go_ret2
    exact ⟨rfl, HB9.out⟩
  ·skip
   obtain rfl : n = j := by omega
   have htn := HTA.out
   have hz := HTV.out.1 (by rw [← htn]; exact HTL.out)
   obtain ⟨rfl, rfl⟩ := hz
   subst htn
   have HB9 := Lib.hid (HB0.out.trans (HB.out.mono HB0.out.size))
   clear hg HTV HB
   go_upto_region 3 with fail
   refine wl <| gzb (lss_n rfl (n) (n) dF) <| wn ?_
   simp only [pu]
   go_upto_region 10 with fail
   refine wl <| gz3 (.int .u64 (tt n)) (.int .u64 (tt n)) (.bool true) <| wn ?_
   simp only [pu]
   go_wp2_with fail
   go_ret2
   exact ⟨rfl, HB9.out⟩
end Go.Proofs.Ytglglhcnofbagaa.Lg
