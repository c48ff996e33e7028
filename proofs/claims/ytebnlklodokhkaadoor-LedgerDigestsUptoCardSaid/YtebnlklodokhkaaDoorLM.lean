/-
  Ledgers as plain data: totals, validity, the place of a name, what is put in.
-/
import Derived.Test.YtebnlklodokhkaaDoorNM
namespace Go.Proofs.YtebnlklodokhkaaDoor.Lg
open Go.RowKit
set_option linter.unusedSimpArgs false
set_option linter.unusedVariables false

def bals (A : List Ac) : List Int := A.map (·.2.1)
def totB (A : List Ac) (c : Int) : Bool := sumB (c :: bals A)
def totV (A : List Ac) (c : Int) : Int := sumV (c :: bals A)
def totE (A : List Ac) (c : Int) : Int := if totB A c = true then 0 else 6
/-- The first account with this name, the first one that is not less. -/
def fndL (A : List Ac) (s : ByteArray) : Nat := A.findIdx (fun x => decide (x.1 = s))
def lesL (A : List Ac) (s : ByteArray) : Nat := A.findIdx (fun x => !ltS x.1 s)
def putL (A : List Ac) (a : Ac) : List Ac := if fndL A a.1 < A.length then A.set (fndL A a.1) a else A.take (lesL A a.1) ++ a :: A.drop (lesL A a.1)
def stpE (A : List Ac) (i : Nat) : Int :=
  if isName (nums (aca A i).1) = false then 10
  else if 0 < i ∧ (aca A (i - 1)).1 = (aca A i).1 then 8
  else if 0 < i ∧ ltS (aca A i).1 (aca A (i - 1)).1 = true then 1
  else 0
/-- The first that is not 0. -/
def frE (f : Nat → Int) : Nat → Int
  | 0 => 0
  | n + 1 => if frE f n ≠ 0 then frE f n else f n
theorem frE_ok {f : Nat → Int} : ∀ {n : Nat}, (∀ j, j < n → f j = 0) → frE f n = 0
  | 0, _ => rfl
  | n + 1, h => by
    unfold frE
    rw [frE_ok (n := n) (fun j hj => h j (by omega)), if_neg (by simp)]
    exact h n (by omega)
theorem frE_all {f : Nat → Int} : ∀ {n : Nat}, frE f n = 0 → ∀ j, j < n → f j = 0
  | 0, _, j, hj => by omega
  | n + 1, h, j, hj => by
    unfold frE at h
    by_cases h1 : frE f n = 0
    · rw [h1, if_neg (by simp)] at h
      rcases Nat.lt_or_ge j n with h2 | h2
      · exact frE_all h1 j h2
      · have : j = n := by omega
        subst this; exact h
    · rw [if_pos h1] at h
      exact absurd h h1
theorem frE_err {f : Nat → Int} {i : Nat} : ∀ {n : Nat}, i < n → (∀ j, j < i → f j = 0) → f i ≠ 0 → frE f n = f i
  | 0, hi, _, _ => by omega
  | n + 1, hi, h, he => by
    unfold frE
    rcases Nat.lt_or_ge i n with h1 | h1
    · have e := frE_err h1 h he
      rw [e, if_pos he]
    · have : i = n := by omega
      subst this
      rw [frE_ok h, if_neg (by simp)]
def valE (A : List Ac) (c : Int) : Int := if 256 < A.length then 3 else if frE (stpE A) A.length ≠ 0 then frE (stpE A) A.length else totE A c
def Srt (A : List Ac) : Prop := ∀ i j, i < j → j < A.length → ltS (aca A i).1 (aca A j).1 = true
def Nmd (A : List Ac) : Prop := ∀ i, i < A.length → isName (nums (aca A i).1) = true
theorem valE_ok {A : List Ac} {c : Int} (h : valE A c = 0) : A.length ≤ 256 ∧ Srt A ∧ Nmd A ∧ totB A c = true := by
  unfold valE at h
  by_cases h1 : 256 < A.length
  · rw [if_pos h1] at h; cases h
  rw [if_neg h1] at h
  by_cases h2 : frE (stpE A) A.length = 0
  · rw [h2, if_neg (by simp)] at h
    have h3 := frE_all h2
    have hn : Nmd A := fun i hi => by
      have := h3 i hi
      unfold stpE at this
      by_cases h4 : isName (nums (aca A i).1) = true
      · exact h4
      · rw [if_pos (by simpa using h4)] at this; cases this
    have hs : ∀ i, i + 1 < A.length → ltS (aca A i).1 (aca A (i + 1)).1 = true := fun i hi => by
      have := h3 (i + 1) hi
      unfold stpE at this
      rw [if_neg (by rw [hn (i + 1) hi]; simp), show i + 1 - 1 = i by omega] at this
      by_cases h4 : (aca A i).1 = (aca A (i + 1)).1
      · rw [if_pos ⟨by omega, h4⟩] at this; cases this
      rw [if_neg (fun q => h4 q.2)] at this
      by_cases h5 : ltS (aca A (i + 1)).1 (aca A i).1 = true
      · rw [if_pos ⟨by omega, h5⟩] at this; cases this
      exact ltS_tot (by simpa using h5) (fun e => h4 e.symm)
    refine ⟨by omega, fun i j hij hj => ?_, hn, ?_⟩
    · obtain ⟨d, rfl⟩ : ∃ d, j = i + 1 + d := ⟨j - i - 1, by omega⟩
      clear hij
      induction d with
      | zero => exact hs i hj
      | succ d ih => exact ltS_tr (ih (by omega)) (hs (i + 1 + d) hj)
    · unfold totE at h
      by_cases h5 : totB A c = true
      · exact h5
      · rw [if_neg h5] at h; cases h
  · rw [if_pos h2] at h
    exact absurd h h2
theorem valE_of {A : List Ac} {c : Int} (h1 : A.length ≤ 256) (h2 : Srt A) (h3 : Nmd A) (h4 : totB A c = true) : valE A c = 0 := by
  unfold valE
  rw [if_neg (by omega), frE_ok, if_neg (by simp)]
  · unfold totE; rw [if_pos h4]
  intro j hj
  unfold stpE
  rw [if_neg (by rw [h3 j hj]; simp)]
  by_cases h0 : 0 < j
  · have := h2 (j - 1) j (by omega) hj
    rw [if_neg (fun q => ltS_ne this q.2), if_neg (fun q => by rw [ltS_as this] at q; cases q.2)]
  · rw [if_neg (fun q => h0 q.1), if_neg (fun q => h0 q.1)]
theorem aca_get {A : List Ac} {i : Nat} (h : i < A.length) : aca A i = A[i] := getD_lt A i _ h
theorem fnd_is {A : List Ac} {s : ByteArray} {i : Nat} (h : i < A.length) (hb : ∀ j, j < i → (aca A j).1 ≠ s) (hi : (aca A i).1 = s) : fndL A s = i := by
  unfold fndL
  rw [List.findIdx_eq h]
  refine ⟨by rw [← aca_get h]; exact decide_eq_true hi, fun j hj => ?_⟩
  rw [← aca_get (by omega)]
  exact decide_eq_false (hb j hj)
theorem fnd_no {A : List Ac} {s : ByteArray} (hb : ∀ j, j < A.length → (aca A j).1 ≠ s) : fndL A s = A.length := by
  unfold fndL
  rw [List.findIdx_eq_length]
  intro x hx
  obtain ⟨j, hj, rfl⟩ := List.mem_iff_getElem.1 hx
  rw [← aca_get hj]
  exact decide_eq_false (hb j hj)
theorem fnd_at {A : List Ac} {s : ByteArray} (h : fndL A s < A.length) : (aca A (fndL A s)).1 = s ∧ ∀ j, j < fndL A s → (aca A j).1 ≠ s := by
  refine ⟨?_, fun j hj => ?_⟩
  · have := List.findIdx_getElem (w := h)
    rw [aca_get h]
    exact of_decide_eq_true this
  · have := List.not_of_lt_findIdx hj
    rw [aca_get (by omega)]
    simpa using this
theorem fnd_le (A : List Ac) (s : ByteArray) : fndL A s ≤ A.length := List.findIdx_le_length
theorem fnd_not {A : List Ac} {s : ByteArray} (h : ¬ fndL A s < A.length) : ∀ j, j < A.length → (aca A j).1 ≠ s := fun j hj e => by
  have h1 := fnd_le A s
  have h2 : fndL A s = A.length := by omega
  unfold fndL at h2
  rw [List.findIdx_eq_length] at h2
  have := h2 (aca A j) (aca_mem hj)
  exact of_decide_eq_false this e
theorem les_is {A : List Ac} {s : ByteArray} {i : Nat} (h : i ≤ A.length) (hb : ∀ j, j < i → ltS (aca A j).1 s = true) (hi : i < A.length → ltS (aca A i).1 s = false) : lesL A s = i := by
  unfold lesL
  rcases Nat.lt_or_ge i A.length with h1 | h1
  · rw [List.findIdx_eq h1]
    refine ⟨by rw [← aca_get h1, hi h1]; rfl, fun j hj => ?_⟩
    rw [← aca_get (by omega), hb j hj]
    rfl
  · have : i = A.length := by omega
    subst this
    rw [List.findIdx_eq_length]
    intro x hx
    obtain ⟨j, hj, rfl⟩ := List.mem_iff_getElem.1 hx
    rw [← aca_get hj, hb j hj]
    rfl
theorem les_le (A : List Ac) (s : ByteArray) : lesL A s ≤ A.length := List.findIdx_le_length
theorem les_lt {A : List Ac} {s : ByteArray} {j : Nat} (hj : j < lesL A s) : ltS (aca A j).1 s = true := by
  have h1 := les_le A s
  have := List.not_of_lt_findIdx hj
  rw [aca_get (by omega)]
  simpa using this
theorem les_ge {A : List Ac} {s : ByteArray} (h : lesL A s < A.length) : ltS (aca A (lesL A s)).1 s = false := by
  have this : (!ltS (A[lesL A s]'h).1 s) = true := List.findIdx_getElem (w := h)
  rw [aca_get h]
  revert this
  cases ltS (A[lesL A s]'h).1 s <;> simp
/-- In order: the one found is the first that is not less. -/
theorem srt_fnd {A : List Ac} {s : ByteArray} (h : Srt A) (hf : fndL A s < A.length) : lesL A s = fndL A s := by
  obtain ⟨h1, h2⟩ := fnd_at hf
  refine les_is (fnd_le A s) (fun j hj => ?_) (fun _ => ?_)
  · have := h j _ hj hf
    rwa [h1] at this
  · rw [h1, ltS_irr]
theorem srt_les {A : List Ac} {s : ByteArray} (h : Srt A) : (decide (fndL A s < A.length)) = (decide (lesL A s < A.length ∧ (aca A (lesL A s)).1 = s)) := by
  rw [decide_eq_decide]
  constructor
  · intro hf
    rw [srt_fnd h hf]
    exact ⟨hf, (fnd_at hf).1⟩
  · rintro ⟨h1, h2⟩
    refine Decidable.byContradiction fun hn => fnd_not hn _ h1 h2
theorem put_found {A : List Ac} {a : Ac} (h : fndL A a.1 < A.length) : putL A a = A.set (fndL A a.1) a := if_pos h
theorem put_new {A : List Ac} {a : Ac} (h : ¬ fndL A a.1 < A.length) : putL A a = A.take (lesL A a.1) ++ a :: A.drop (lesL A a.1) := if_neg h
theorem put_len (A : List Ac) (a : Ac) : (putL A a).length = if fndL A a.1 < A.length then A.length else A.length + 1 := by
  by_cases h : fndL A a.1 < A.length
  · rw [put_found h, if_pos h, List.length_set]
  · have := les_le A a.1
    rw [put_new h, if_neg h, List.length_append, List.length_cons, List.length_take, List.length_drop]
    omega
theorem aca_set {A : List Ac} {i j : Nat} {a : Ac} (h : i < A.length) : aca (A.set i a) j = if j = i then a else aca A j := by
  unfold aca
  rw [List.getD_eq_getElem?_getD, List.getElem?_set, List.getD_eq_getElem?_getD]
  by_cases e : j = i
  · subst e; rw [if_pos rfl, if_pos h, if_pos rfl]; rfl
  · rw [if_neg (fun q => e q.symm), if_neg e]
theorem aca_ins {A : List Ac} {i j : Nat} {a : Ac} (h : i ≤ A.length) : aca (A.take i ++ a :: A.drop i) j = if j < i then aca A j else if j = i then a else aca A (j - 1) := by
  unfold aca
  have ht : (A.take i).length = i := by rw [List.length_take]; omega
  simp only [List.getD_eq_getElem?_getD]
  by_cases h1 : j < i
  · rw [if_pos h1, List.getElem?_append_left (by omega), List.getElem?_take, if_pos h1]
  rw [if_neg h1, List.getElem?_append_right (by omega), ht]
  by_cases h2 : j = i
  · subst h2; rw [if_pos rfl, Nat.sub_self]; rfl
  · rw [if_neg h2]
    obtain ⟨d, rfl⟩ : ∃ d, j = i + 1 + d := ⟨j - i - 1, by omega⟩
    rw [show i + 1 + d - i = d + 1 by omega, List.getElem?_cons_succ, List.getElem?_drop, show i + 1 + d - 1 = i + d by omega]
theorem put_srt {A : List Ac} {a : Ac} (h : Srt A) : Srt (putL A a) := by
  have hl := put_len A a
  by_cases hf : fndL A a.1 < A.length
  · rw [if_pos hf] at hl
    intro i j hij hj
    rw [put_found hf, aca_set hf, aca_set hf]
    obtain ⟨h1, -⟩ := fnd_at hf
    by_cases e1 : i = fndL A a.1
    · subst e1
      rw [if_pos rfl, if_neg (by omega), ← h1]
      exact h _ _ hij (by omega)
    · rw [if_neg e1]
      by_cases e2 : j = fndL A a.1
      · subst e2
        rw [if_pos rfl, ← h1]
        exact h _ _ hij (by omega)
      · rw [if_neg e2]
        exact h _ _ hij (by omega)
  · rw [if_neg hf] at hl
    have hle := les_le A a.1
    have hge : ∀ k, lesL A a.1 ≤ k → k < A.length → ltS a.1 (aca A k).1 = true := fun k h1 h2 => by
      have hn := fnd_not hf
      have h3 := les_ge (A := A) (s := a.1) (by omega)
      have h4 := ltS_tot h3 (hn _ (by omega))
      rcases Nat.lt_or_ge (lesL A a.1) k with h5 | h5
      · exact ltS_tr h4 (h _ _ h5 h2)
      · have : k = lesL A a.1 := by omega
        rw [this]; exact h4
    intro i j hij hj
    rw [put_new hf, aca_ins hle, aca_ins hle]
    by_cases e1 : j < lesL A a.1
    · rw [if_pos (by omega), if_pos e1]
      exact h _ _ hij (by omega)
    rw [if_neg e1]
    by_cases e2 : j = lesL A a.1
    · rw [if_pos e2, if_pos (by omega)]
      exact les_lt (by omega)
    rw [if_neg e2]
    by_cases e3 : i < lesL A a.1
    · rw [if_pos e3]
      exact ltS_tr (les_lt e3) (hge _ (by omega) (by omega))
    rw [if_neg e3]
    by_cases e4 : i = lesL A a.1
    · rw [if_pos e4]
      exact hge _ (by omega) (by omega)
    · rw [if_neg e4]
      exact h _ _ (by omega) (by omega)
theorem put_nmd {A : List Ac} {a : Ac} (h : Nmd A) (ha : isName (nums a.1) = true) : Nmd (putL A a) := by
  have hl := put_len A a
  intro i hi
  by_cases hf : fndL A a.1 < A.length
  · rw [if_pos hf] at hl
    rw [put_found hf, aca_set hf]
    by_cases e : i = fndL A a.1
    · rw [if_pos e]; exact ha
    · rw [if_neg e]; exact h i (by omega)
  · rw [if_neg hf] at hl
    rw [put_new hf, aca_ins (les_le A a.1)]
    by_cases e : i < lesL A a.1
    · rw [if_pos e]; exact h i (by have := les_le A a.1; omega)
    rw [if_neg e]
    by_cases e2 : i = lesL A a.1
    · rw [if_pos e2]; exact ha
    · rw [if_neg e2]; exact h _ (by omega)
/-- The accounts that are gathered, or the first error. -/
def genS (B : List Ac) : List Ac → List Ac × Int
  | [] => (B, 0)
  | a :: r => if isName (nums a.1) = false then ([], 10) else if fndL B a.1 < B.length then ([], 8) else genS (putL B a) r
def genX (A : List Ac) : List Ac × Int :=
  if 256 < A.length then ([], 3) else if (genS [] A).2 ≠ 0 then ([], (genS [] A).2) else if totB (genS [] A).1 0 = true then ((genS [] A).1, 0) else ([], 6)
def setX (A : List Ac) (c : Int) (a : Ac) : List Ac × Int × Int :=
  if valE A c ≠ 0 then ([], 0, valE A c) else if isName (nums a.1) = false then ([], 0, 10) else if 256 < (putL A a).length then ([], 0, 3) else if totB (putL A a) c = true then (putL A a, c, 0) else ([], 0, 6)
def getX (A : List Ac) (s : ByteArray) : Ac × Bool := if fndL A s < A.length then (aca A (fndL A s), true) else (zAc, false)
theorem gen_ok : ∀ (A B : List Ac), Srt B → Nmd B → (genS B A).2 = 0 → Srt (genS B A).1 ∧ Nmd (genS B A).1 ∧ (genS B A).1.length = B.length + A.length
  | [], B, h1, h2, h3 => ⟨h1, h2, rfl⟩
  | a :: r, B, h1, h2, h3 => by
    unfold genS at h3 ⊢
    by_cases e1 : isName (nums a.1) = false
    · rw [if_pos e1] at h3; cases h3
    rw [if_neg e1] at h3 ⊢
    by_cases e2 : fndL B a.1 < B.length
    · rw [if_pos e2] at h3; cases h3
    rw [if_neg e2] at h3 ⊢
    obtain ⟨q1, q2, q3⟩ := gen_ok r (putL B a) (put_srt h1) (put_nmd h2 (by simpa using e1)) h3
    refine ⟨q1, q2, ?_⟩
    rw [q3, put_len, if_neg e2, List.length_cons]
    omega
theorem srt_nil : Srt [] := fun i j h1 h2 => by simp at h2
theorem nmd_nil : Nmd [] := fun i h => by simp at h
theorem genX_ok {A : List Ac} (h : (genX A).2 = 0) : valE (genX A).1 0 = 0 ∧ (genX A).1.length = A.length := by
  unfold genX at h ⊢
  by_cases e1 : 256 < A.length
  · rw [if_pos e1] at h; cases h
  rw [if_neg e1] at h ⊢
  by_cases e2 : (genS [] A).2 = 0
  · rw [e2, if_neg (by simp)] at h ⊢
    by_cases e3 : totB (genS [] A).1 0 = true
    · rw [if_pos e3]
      obtain ⟨q1, q2, q3⟩ := gen_ok A [] srt_nil nmd_nil e2
      have q4 : (genS [] A).1.length = A.length := by simpa using q3
      exact ⟨valE_of (by rw [q4]; omega) q1 q2 e3, q4⟩
    · rw [if_neg e3] at h; cases h
  · rw [if_pos e2] at h
    exact absurd h e2
theorem setX_ok {A : List Ac} {c : Int} {a : Ac} (h : (setX A c a).2.2 = 0) : setX A c a = (putL A a, c, 0) ∧ valE A c = 0 ∧ isName (nums a.1) = true ∧ valE (putL A a) c = 0 := by
  unfold setX at h ⊢
  by_cases e1 : valE A c = 0
  · rw [e1, if_neg (by simp)] at h ⊢
    by_cases e2 : isName (nums a.1) = false
    · rw [if_pos e2] at h; cases h
    rw [if_neg e2] at h ⊢
    by_cases e3 : 256 < (putL A a).length
    · rw [if_pos e3] at h; cases h
    rw [if_neg e3] at h ⊢
    by_cases e4 : totB (putL A a) c = true
    · rw [if_pos e4]
      obtain ⟨-, q2, q3, -⟩ := valE_ok e1
      exact ⟨rfl, rfl, by simpa using e2, valE_of (by omega) (put_srt q2) (put_nmd q3 (by simpa using e2)) e4⟩
    · rw [if_neg e4] at h; cases h
  · rw [if_pos e1] at h
    exact absurd h e1
theorem srt_uni {A : List Ac} (h : Srt A) {i j : Nat} (hi : i < A.length) (hj : j < A.length) (e : (aca A i).1 = (aca A j).1) : i = j := by
  rcases Nat.lt_trichotomy i j with h1 | h1 | h1
  · exact absurd e (ltS_ne (h i j h1 hj))
  · exact h1
  · exact absurd e.symm (ltS_ne (h j i h1 hi))
theorem srt_fnd_at {A : List Ac} (h : Srt A) {i : Nat} (hi : i < A.length) : fndL A (aca A i).1 = i := fnd_is hi (fun j hj e => by have := srt_uni h (by omega) hi e; omega) rfl
theorem get_is {A : List Ac} (h : Srt A) {i : Nat} (hi : i < A.length) : getX A (aca A i).1 = (aca A i, true) := by
  unfold getX
  rw [srt_fnd_at h hi, if_pos hi]
/-- What was put in is found; all else is as it was. -/
theorem put_get {A : List Ac} {a : Ac} (h : Srt A) : getX (putL A a) a.1 = (a, true) := by
  have hl := put_len A a
  by_cases hf : fndL A a.1 < A.length
  · rw [if_pos hf] at hl
    have e : aca (putL A a) (fndL A a.1) = a := by rw [put_found hf, aca_set hf, if_pos rfl]
    have := get_is (put_srt (a := a) h) (i := fndL A a.1) (by omega)
    rwa [e] at this
  · rw [if_neg hf] at hl
    have hle := les_le A a.1
    have e : aca (putL A a) (lesL A a.1) = a := by rw [put_new hf, aca_ins hle, if_neg (by omega), if_pos rfl]
    have := get_is (put_srt (a := a) h) (i := lesL A a.1) (by omega)
    rwa [e] at this
theorem put_other {A : List Ac} {a : Ac} (h : Srt A) {i : Nat} (hi : i < A.length) (hn : (aca A i).1 ≠ a.1) : getX (putL A a) (aca A i).1 = (aca A i, true) := by
  have hl := put_len A a
  by_cases hf : fndL A a.1 < A.length
  · rw [if_pos hf] at hl
    have hne : i ≠ fndL A a.1 := fun e => hn (by rw [e]; exact (fnd_at hf).1)
    have e : aca (putL A a) i = aca A i := by rw [put_found hf, aca_set hf, if_neg hne]
    have := get_is (put_srt (a := a) h) (i := i) (by omega)
    rwa [e] at this
  · rw [if_neg hf] at hl
    have hle := les_le A a.1
    rcases Nat.lt_or_ge i (lesL A a.1) with h1 | h1
    · have e : aca (putL A a) i = aca A i := by rw [put_new hf, aca_ins hle, if_pos h1]
      have := get_is (put_srt (a := a) h) (i := i) (by omega)
      rwa [e] at this
    · have e : aca (putL A a) (i + 1) = aca A i := by rw [put_new hf, aca_ins hle, if_neg (by omega), if_neg (by omega)]; rfl
      have := get_is (put_srt (a := a) h) (i := i + 1) (by omega)
      rwa [e] at this
/-- Full: no room for another name. -/
theorem put_full {A : List Ac} {a : Ac} (h : A.length ≤ 256) : (256 < (putL A a).length) ↔ (¬ fndL A a.1 < A.length ∧ A.length = 256) := by
  rw [put_len]
  by_cases hf : fndL A a.1 < A.length
  · rw [if_pos hf]
    exact ⟨fun q => by omega, fun q => absurd hf q.1⟩
  · rw [if_neg hf]
    exact ⟨fun q => ⟨hf, by omega⟩, fun q => by omega⟩
/-- Each balance is a word. -/
def AcW (A : List Ac) : Prop := ∀ i, i < A.length → W64 (aca A i).2.1 ∧ W64 (aca A i).2.2
theorem acw_mem {A : List Ac} (h : AcW A) : ∀ x, x ∈ A → W64 x.2.1 ∧ W64 x.2.2 := fun x hx => by
  obtain ⟨j, hj, rfl⟩ := List.mem_iff_getElem.1 hx
  rw [← aca_get hj]
  exact h j hj
theorem acw_of {A : List Ac} (h : ∀ x, x ∈ A → W64 x.2.1 ∧ W64 x.2.2) : AcW A := fun i hi => h _ (aca_mem hi)
theorem acw_nil : AcW [] := fun i h => by simp at h
theorem put_mem {A : List Ac} {a x : Ac} (h : x ∈ putL A a) : x = a ∨ x ∈ A := by
  unfold putL at h
  split at h
  · rcases List.mem_or_eq_of_mem_set h with h1 | h1
    · exact .inr h1
    · exact .inl h1
  · rcases List.mem_append.1 h with h1 | h1
    · exact .inr (List.mem_of_mem_take h1)
    · rcases List.mem_cons.1 h1 with h2 | h2
      · exact .inl h2
      · exact .inr (List.mem_of_mem_drop h2)
theorem put_w {A : List Ac} {a : Ac} (h : AcW A) (ha : W64 a.2.1 ∧ W64 a.2.2) : AcW (putL A a) := acw_of fun x hx => (put_mem hx).elim (fun e => e ▸ ha) (acw_mem h x)
theorem gen_w : ∀ (A B : List Ac), AcW B → (∀ x, x ∈ A → W64 x.2.1 ∧ W64 x.2.2) → AcW (genS B A).1
  | [], B, h1, h2 => h1
  | a :: r, B, h1, h2 => by
    unfold genS
    split
    · exact acw_nil
    split
    · exact acw_nil
    exact gen_w r (putL B a) (put_w h1 (h2 a (List.mem_cons_self ..))) (fun x hx => h2 x (List.mem_cons_of_mem _ hx))
theorem genX_w {A : List Ac} (h : AcW A) : AcW (genX A).1 := by
  unfold genX
  split
  · exact acw_nil
  split
  · exact acw_nil
  split
  · exact gen_w A [] acw_nil (acw_mem h)
  · exact acw_nil
theorem setX_w {A : List Ac} {c : Int} {a : Ac} (h : AcW A) (ha : W64 a.2.1 ∧ W64 a.2.2) : AcW (setX A c a).1 := by
  unfold setX
  split
  · exact acw_nil
  split
  · exact acw_nil
  split
  · exact acw_nil
  split
  · exact put_w h ha
  · exact acw_nil
end Go.Proofs.YtebnlklodokhkaaDoor.Lg
