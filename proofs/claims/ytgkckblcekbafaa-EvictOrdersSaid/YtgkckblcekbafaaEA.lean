/-
 Entries, places and a store of places as plain data.
-/
import Derived.Test.YtgkckblcekbafaaCB
namespace Go.Proofs.Ytgkckblcekbafaa
open Go.RowKit
set_option linter.unusedSimpArgs false
set_option linter.unusedVariables false

/-- An entry as plain data. -/
structure En where
 k : Nat → Int
 raw : List Int
 snd : ByteArray
 sq : Int
 gas : Int
 pri : Int
 ht : Int
 tm : Int
 od : Int
 prs : List Int
def zEn : En := ⟨fun _ => 0, [], ⟨#[]⟩, 0, 0, 0, 0, 0, 0, []⟩
/-- A place: is an entry there, how many have been there, the entry. -/
structure Pn where
 full : Bool
 us : Nat
 e : En
def zPn : Pn := ⟨false, 0, zEn⟩
def cntL : List Pn → Nat
 | [] => 0
 | p :: r => (if p.full then 1 else 0) + cntL r
def sizL : List Pn → Nat
 | [] => 0
 | p :: r => (if p.full then p.e.raw.length else 0) + sizL r
def hndL : Nat → List Pn → List (Int × Int)
 | _, [] => []
 | i, p :: r => if p.full then ((i : Int), (p.us : Int) - 1) :: hndL (i + 1) r else hndL (i + 1) r
theorem cnt_app : ∀ (A B : List Pn), cntL (A ++ B) = cntL A + cntL B
 | [], B => by simp [cntL]
 | p :: r, B => by simp only [List.cons_append, cntL]; rw [cnt_app r B]; omega
theorem siz_app : ∀ (A B : List Pn), sizL (A ++ B) = sizL A + sizL B
 | [], B => by simp [sizL]
 | p :: r, B => by simp only [List.cons_append, sizL]; rw [siz_app r B]; omega
theorem hnd_app : ∀ (A B : List Pn) (i : Nat), hndL i (A ++ B) = hndL i A ++ hndL (i + A.length) B
 | [], B, i => by simp [hndL]
 | p :: r, B, i => by
  simp only [List.cons_append, hndL]
  rw [hnd_app r B (i + 1), List.length_cons, show i + 1 + r.length = i + (r.length + 1) by omega]
  split <;> simp
theorem cnt_le (A : List Pn) : cntL A ≤ A.length := by
 induction A with
 | nil => simp [cntL]
 | cons p r ih => simp only [cntL, List.length_cons]; split <;> omega
def pb (b : Bool) (n : Nat) : Nat := if b then n else 0
theorem cnt_set : ∀ (A : List Pn) (i : Nat) (q : Pn), i < A.length → cntL (A.set i q) + pb (A.getD i zPn).full 1 = cntL A + pb q.full 1
 | [], i, q, h => by simp at h
 | p :: r, 0, q, _ => by simp only [List.set_cons_zero, cntL, List.getD_cons_zero, pb]; omega
 | p :: r, i + 1, q, h => by
  have := cnt_set r i q (by simpa using h)
  simp only [List.set_cons_succ, cntL, List.getD_cons_succ]; omega
theorem siz_set : ∀ (A : List Pn) (i : Nat) (q : Pn), i < A.length → sizL (A.set i q) + pb (A.getD i zPn).full (A.getD i zPn).e.raw.length = sizL A + pb q.full q.e.raw.length
 | [], i, q, h => by simp at h
 | p :: r, 0, q, _ => by simp only [List.set_cons_zero, sizL, List.getD_cons_zero, pb]; omega
 | p :: r, i + 1, q, h => by
  have := siz_set r i q (by simpa using h)
  simp only [List.set_cons_succ, sizL, List.getD_cons_succ]; omega
theorem getD_set_eq {α : Type} (A : List α) (i : Nat) (q z : α) (h : i < A.length) : (A.set i q).getD i z = q := by simp [List.getD_eq_getElem?_getD, h]
theorem getD_set_ne {α : Type} (A : List α) (i j : Nat) (q z : α) (h : i ≠ j) : (A.set i q).getD j z = A.getD j z := by simp [List.getD_eq_getElem?_getD, List.getElem?_set, h]
theorem getD_app_lt {α : Type} (A B : List α) (i : Nat) (z : α) (h : i < A.length) : (A ++ B).getD i z = A.getD i z := by simp [List.getD_eq_getElem?_getD, List.getElem?_append_left h]
theorem getD_app_last {α : Type} (A : List α) (x z : α) : (A ++ [x]).getD A.length z = x := by simp [List.getD_eq_getElem?_getD]
theorem siz_le (A : List Pn) (b : Nat) (h : ∀ p, p ∈ A → p.e.raw.length ≤ b) : sizL A ≤ A.length * b := by
 induction A with
 | nil => simp [sizL]
 | cons p r ih =>
  have h1 := ih fun q hq => h q (by simp [hq])
  have h2 := h p (by simp)
  simp only [sizL, List.length_cons, Nat.add_mul]
  split <;> omega
/-- A store. -/
structure Sm where
 mo : Nat
 P : List Pn
 F : List Nat
def capS (n : Int) : Nat := (max 0 (min n 512)).toNat
def newS (n : Int) : Sm := ⟨capS n, [], []⟩
def addS (m : Sm) (e : En) : Sm := if m.mo ≤ cntL m.P then m else match m.F.getLast? with
 | some i => { m with P := m.P.set i ⟨true, (m.P.getD i zPn).us + 1, e⟩, F := m.F.dropLast }
 | none => { m with P := m.P ++ [⟨true, 1, e⟩] }
def addH (m : Sm) : Int × Int := if m.mo ≤ cntL m.P then (0, 0) else match m.F.getLast? with
 | some i => ((i : Int), ((m.P.getD i zPn).us : Int))
 | none => ((m.P.length : Int), 0)
def addO (m : Sm) : Bool := decide (cntL m.P < m.mo)
def valS (m : Sm) (h : Int × Int) : Bool := decide (0 ≤ h.1) && (decide (h.1 < (m.P.length : Int)) && ((m.P.getD h.1.toNat zPn).full && decide (((m.P.getD h.1.toNat zPn).us : Int) - 1 = h.2)))
def getS (m : Sm) (h : Int × Int) : En := if valS m h then (m.P.getD h.1.toNat zPn).e else zEn
def remS (m : Sm) (h : Int × Int) : Sm := if valS m h then { m with P := m.P.set h.1.toNat ⟨false, (m.P.getD h.1.toNat zPn).us, zEn⟩, F := m.F ++ [h.1.toNat] } else m
/-- What stays true of a store: the free places are empty, each is named once; the entries are not long. -/
structure Wm (m : Sm) (u : Nat) : Prop where
 nd : m.F.Nodup
 fr : ∀ i, i ∈ m.F → i < m.P.length ∧ (m.P.getD i zPn).full = false
 al : ∀ i, i < m.P.length → (m.P.getD i zPn).full = false → i ∈ m.F
 mo : m.mo ≤ 512
 len : cntL m.P ≤ m.mo
 pl : m.P.length ≤ 512
 us : ∀ i, i < m.P.length → (m.P.getD i zPn).us ≤ u
 up : ∀ i, i < m.P.length → (m.P.getD i zPn).full = true → 1 ≤ (m.P.getD i zPn).us
 raw : ∀ i, i < m.P.length → (m.P.getD i zPn).e.raw.length ≤ 60000
 prs : ∀ i, i < m.P.length → (m.P.getD i zPn).e.prs.length ≤ 60000
def EnB (e : En) : Prop := e.raw.length ≤ 60000 ∧ e.prs.length ≤ 60000
theorem EnB.z : EnB zEn := ⟨by show 0 ≤ 60000; omega, by show 0 ≤ 60000; omega⟩
theorem capS_le (n : Int) : capS n ≤ 512 := by unfold capS; omega
theorem Wm.new (n : Int) (u : Nat) : Wm (newS n) u :=
 ⟨by simp [newS], fun i h => by simp [newS] at h, fun i h => by simp [newS] at h, capS_le n, by simp [newS, cntL], by simp [newS], fun i h => by simp [newS] at h, fun i h => by simp [newS] at h, fun i h => by simp [newS] at h, fun i h => by simp [newS] at h⟩
theorem Wm.mono {m : Sm} {u v : Nat} (h : Wm m u) (hv : u ≤ v) : Wm m v := { h with us := fun i hi => Nat.le_trans (h.us i hi) hv }
theorem cnt_full : ∀ (A : List Pn), (∀ i, i < A.length → (A.getD i zPn).full = true) → cntL A = A.length
 | [], _ => rfl
 | p :: r, h => by
  have h0 : p.full = true := h 0 (by simp)
  have h1 := cnt_full r fun i hi => h (i + 1) (by simpa using hi)
  simp only [cntL, List.length_cons, h0, if_true]; omega
/-- The cases of an addition. -/
theorem add_full {m : Sm} (e : En) (h : m.mo ≤ cntL m.P) : addS m e = m ∧ addH m = (0, 0) ∧ addO m = false := by
 unfold addS addH addO
 exact ⟨if_pos h, if_pos h, decide_eq_false (by omega)⟩
theorem add_free {m : Sm} (e : En) (h : cntL m.P < m.mo) {F : List Nat} {i : Nat} (hF : m.F = F ++ [i]) : addS m e = ⟨m.mo, m.P.set i ⟨true, (m.P.getD i zPn).us + 1, e⟩, F⟩ ∧ addH m = ((i : Int), ((m.P.getD i zPn).us : Int)) ∧ addO m = true := by
 unfold addS addH addO
 rw [if_neg (by omega), if_neg (by omega), hF]
 exact ⟨by simp, by simp, decide_eq_true h⟩
theorem add_new {m : Sm} (e : En) (h : cntL m.P < m.mo) (hF : m.F = []) : addS m e = ⟨m.mo, m.P ++ [⟨true, 1, e⟩], []⟩ ∧ addH m = ((m.P.length : Int), 0) ∧ addO m = true := by
 unfold addS addH addO
 rw [if_neg (by omega), if_neg (by omega), hF]
 exact ⟨by simp [hF], by simp, decide_eq_true h⟩
theorem add_cases (m : Sm) : m.mo ≤ cntL m.P ∨ (cntL m.P < m.mo ∧ ((∃ F i, m.F = F ++ [i]) ∨ m.F = [])) := by
 by_cases h : m.mo ≤ cntL m.P
 ·exact .inl h
 ·refine .inr ⟨by omega, ?_⟩
  rcases List.eq_nil_or_concat m.F with h | ⟨F, i, h⟩
  ·exact .inr h
  ·exact .inl ⟨F, i, by simpa using h⟩
theorem Wm.add {m : Sm} {u : Nat} (h : Wm m u) {e : En} (he : EnB e) : Wm (addS m e) (u + 1) := by
 rcases add_cases m with h0 | ⟨h0, ⟨F, i, hF⟩ | hF⟩
 ·rw [(add_full e h0).1]
  exact h.mono (by omega)
 ·rw [(add_free e h0 hF).1]
  have hi := h.fr i (by rw [hF]; simp)
  have hnd := h.nd
  rw [hF, List.nodup_append] at hnd
  have hni : i ∉ F := fun h1 => hnd.2.2 i h1 i (by simp) rfl
  have hc := cnt_set m.P i ⟨true, (m.P.getD i zPn).us + 1, e⟩ hi.1
  rw [hi.2] at hc
  simp only [pb] at hc
  have key : ∀ (X : Pn → Prop), X ⟨true, (m.P.getD i zPn).us + 1, e⟩ → (∀ j, j < m.P.length → X (m.P.getD j zPn)) → ∀ j, j < (m.P.set i ⟨true, (m.P.getD i zPn).us + 1, e⟩).length → X ((m.P.set i ⟨true, (m.P.getD i zPn).us + 1, e⟩).getD j zPn) := fun X h1 h2 j hj => by
   rw [List.length_set] at hj
   by_cases hij : i = j
   ·subst hij; rw [getD_set_eq _ _ _ _ hi.1]; exact h1
   ·rw [getD_set_ne _ _ _ _ _ hij]; exact h2 j hj
  refine ⟨hnd.1, fun j hj => ?_, fun j hj hjf => ?_, h.mo, ?_, by rw [List.length_set]; exact h.pl, key (fun p => p.us ≤ u + 1) (Nat.succ_le_succ (h.us i hi.1)) (fun j hj => Nat.le_succ_of_le (h.us j hj)), key (fun p => p.full = true → 1 ≤ p.us) (fun _ => Nat.le_add_left 1 _) (fun j hj => h.up j hj), key (fun p => p.e.raw.length ≤ 60000) he.1 h.raw, key (fun p => p.e.prs.length ≤ 60000) he.2 h.prs⟩
  ·have h1 := h.fr j (by rw [hF]; simp [hj])
   have hij : i ≠ j := fun e => hni (e ▸ hj)
   exact ⟨by rw [List.length_set]; exact h1.1, by rw [getD_set_ne _ _ _ _ _ hij]; exact h1.2⟩
  ·rw [List.length_set] at hj
   by_cases hij : i = j
   ·subst hij; rw [getD_set_eq _ _ _ _ hi.1] at hjf; cases hjf
   ·rw [getD_set_ne _ _ _ _ _ hij] at hjf
    have := h.al j hj hjf
    rw [hF] at this
    simpa [Ne.symm hij] using this
  ·show cntL (m.P.set i ⟨true, (m.P.getD i zPn).us + 1, e⟩) ≤ m.mo
   simp only [Bool.false_eq_true, if_false, if_true] at hc
   omega
 ·rw [(add_new e h0 hF).1]
  have hfull : ∀ i, i < m.P.length → (m.P.getD i zPn).full = true := fun i hi => by
   by_cases hf : (m.P.getD i zPn).full = true
   ·exact hf
   ·have := h.al i hi (by simpa using hf)
    rw [hF] at this; cases this
  have hcl := cnt_full m.P hfull
  have key : ∀ (X : Pn → Prop), X (Pn.mk true 1 e) → (∀ j, j < m.P.length → X (m.P.getD j zPn)) → ∀ j, j < (m.P ++ [Pn.mk true 1 e]).length → X ((m.P ++ [Pn.mk true 1 e]).getD j zPn) := fun X h1 h2 j hj => by
   rw [List.length_append, List.length_singleton] at hj
   by_cases hij : j < m.P.length
   ·rw [getD_app_lt _ _ _ _ hij]; exact h2 j hij
   ·obtain rfl : j = m.P.length := by omega
    rw [getD_app_last]; exact h1
  refine ⟨by simp, fun j hj => by simp at hj, fun j hj hjf => ?_, h.mo, ?_, ?_, key (fun p => p.us ≤ u + 1) (Nat.le_add_left 1 _) (fun j hj => Nat.le_succ_of_le (h.us j hj)), key (fun p => p.full = true → 1 ≤ p.us) (fun _ => Nat.le_refl 1) h.up, key (fun p => p.e.raw.length ≤ 60000) he.1 h.raw, key (fun p => p.e.prs.length ≤ 60000) he.2 h.prs⟩
  ·have := key (fun p => p.full = true) rfl hfull j hj
   rw [this] at hjf; cases hjf
  ·show cntL (m.P ++ _) ≤ m.mo
   rw [cnt_app]; simp [cntL]; omega
  ·show (m.P ++ _).length ≤ 512
   have := h.mo
   rw [List.length_append, List.length_singleton]; omega
theorem val_iff {m : Sm} {h : Int × Int} (hv : valS m h = true) : ∃ i : Nat, h.1 = i ∧ i < m.P.length ∧ (m.P.getD i zPn).full = true ∧ ((m.P.getD i zPn).us : Int) - 1 = h.2 := by
 unfold valS at hv
 simp only [Bool.and_eq_true, decide_eq_true_eq] at hv
 exact ⟨h.1.toNat, by omega, by omega, hv.2.2.1, hv.2.2.2⟩
theorem rem_yes {m : Sm} {h : Int × Int} (hv : valS m h = true) {i : Nat} (hi : h.1 = i) : remS m h = ⟨m.mo, m.P.set i ⟨false, (m.P.getD i zPn).us, zEn⟩, m.F ++ [i]⟩ := by
 unfold remS
 rw [if_pos hv, hi]
 rfl
theorem rem_no {m : Sm} {h : Int × Int} (hv : valS m h = false) : remS m h = m := by
 unfold remS
 rw [if_neg (by rw [hv]; decide)]
theorem get_yes {m : Sm} {h : Int × Int} (hv : valS m h = true) {i : Nat} (hi : h.1 = i) : getS m h = (m.P.getD i zPn).e := by
 unfold getS
 rw [if_pos hv, hi]
 rfl
theorem get_no {m : Sm} {h : Int × Int} (hv : valS m h = false) : getS m h = zEn := by
 unfold getS
 rw [if_neg (by rw [hv]; decide)]
theorem Wm.rem {m : Sm} {u : Nat} (h : Wm m u) (q : Int × Int) : Wm (remS m q) u := by
 by_cases hv : valS m q = true
 ·obtain ⟨i, hi, hil, hf, hu⟩ := val_iff hv
  rw [rem_yes hv hi]
  have hni : i ∉ m.F := fun h1 => by have := (h.fr i h1).2; rw [hf] at this; cases this
  have hc := cnt_set m.P i ⟨false, (m.P.getD i zPn).us, zEn⟩ hil
  rw [hf] at hc
  have key : ∀ (X : Pn → Prop), X ⟨false, (m.P.getD i zPn).us, zEn⟩ → (∀ j, j < m.P.length → X (m.P.getD j zPn)) → ∀ j, j < (m.P.set i ⟨false, (m.P.getD i zPn).us, zEn⟩).length → X ((m.P.set i ⟨false, (m.P.getD i zPn).us, zEn⟩).getD j zPn) := fun X h1 h2 j hj => by
   rw [List.length_set] at hj
   by_cases hij : i = j
   ·subst hij; rw [getD_set_eq _ _ _ _ hil]; exact h1
   ·rw [getD_set_ne _ _ _ _ _ hij]; exact h2 j hj
  refine ⟨?_, fun j hj => ?_, fun j hj hjf => ?_, h.mo, ?_, by rw [List.length_set]; exact h.pl, key (fun p => p.us ≤ u) (h.us i hil) h.us, key (fun p => p.full = true → 1 ≤ p.us) (fun h => (by cases h)) h.up, key (fun p => p.e.raw.length ≤ 60000) EnB.z.1 h.raw, key (fun p => p.e.prs.length ≤ 60000) EnB.z.2 h.prs⟩
  ·rw [List.nodup_append]
   exact ⟨h.nd, by simp, fun a ha b hb => by simp at hb; subst hb; exact fun e => hni (e ▸ ha)⟩
  ·rw [List.length_set]
   rcases List.mem_append.1 hj with h1 | h1
   ·have h2 := h.fr j h1
    have hij : i ≠ j := fun e => hni (e ▸ h1)
    exact ⟨h2.1, by rw [getD_set_ne _ _ _ _ _ hij]; exact h2.2⟩
   ·simp at h1
    subst h1
    exact ⟨hil, by rw [getD_set_eq _ _ _ _ hil]⟩
  ·rw [List.length_set] at hj
   by_cases hij : i = j
   ·simp [hij]
   ·rw [getD_set_ne _ _ _ _ _ hij] at hjf
    exact List.mem_append.2 (.inl (h.al j hj hjf))
  ·show cntL (m.P.set i ⟨false, (m.P.getD i zPn).us, zEn⟩) ≤ m.mo
   have := h.len
   simp only [pb, Bool.false_eq_true, if_false, if_true] at hc
   omega
 ·rw [rem_no (by simpa using hv)]
  exact h
/-- How many entries there are behind an addition, a removal. -/
theorem cnt_add {m : Sm} {u : Nat} (h : Wm m u) (e : En) : cntL (addS m e).P = cntL m.P + (if addO m then 1 else 0) ∧ (addS m e).mo = m.mo := by
 rcases add_cases m with h0 | ⟨h0, ⟨F, i, hF⟩ | hF⟩
 ·obtain ⟨h1, -, h3⟩ := add_full e h0
  rw [h1, h3]
  simp
 ·obtain ⟨h1, -, h3⟩ := add_free e h0 hF
  rw [h1, h3]
  have hi := h.fr i (by rw [hF]; simp)
  have hc := cnt_set m.P i ⟨true, (m.P.getD i zPn).us + 1, e⟩ hi.1
  rw [hi.2] at hc
  simp [pb] at hc
  exact ⟨by simpa using hc, rfl⟩
 ·obtain ⟨h1, -, h3⟩ := add_new e h0 hF
  rw [h1, h3]
  exact ⟨by rw [cnt_app]; simp [cntL], rfl⟩
theorem cnt_rem (m : Sm) (q : Int × Int) : cntL (remS m q).P + (if valS m q then 1 else 0) = cntL m.P ∧ (remS m q).mo = m.mo := by
 by_cases hv : valS m q = true
 ·obtain ⟨i, hi, hil, hf, hu⟩ := val_iff hv
  rw [rem_yes hv hi, hv]
  have hc := cnt_set m.P i ⟨false, (m.P.getD i zPn).us, zEn⟩ hil
  rw [hf] at hc
  simp [pb] at hc
  exact ⟨by simpa using hc, rfl⟩
 ·have hv : valS m q = false := by simpa using hv
  rw [rem_no hv, hv]
  exact ⟨by simp, rfl⟩
end Go.Proofs.Ytgkckblcekbafaa
