/-
 What is true of the victims. No program.
-/
import Derived.Test.YtgkckblcekbafaaME
namespace Go.Proofs.Ytgkckblcekbafaa
open Go.RowKit
set_option maxRecDepth 100000
set_option linter.unusedSimpArgs false
set_option linter.unusedVariables false

theorem ordL_perm (X : List (En × Ad)) : (ordL (lE X)).Perm (lE X) := by
 rw [← lE_ord]
 exact (ord_perm X).map _
theorem ordL_srt (X : List (En × Ad)) : (ordL (lE X)).Pairwise fun a b => a.pri ≤ b.pri := by
 rw [← lE_ord]
 exact List.pairwise_map.2 (ord_srt X)
theorem ordL_len (X : List (En × Ad)) : (ordL (lE X)).length = X.length := by rw [(ordL_perm X).length_eq, lE_len]
theorem fit_sum {O : List En} {sz mt mb : Int} {i : Nat} (hi : i ≤ O.length) (hs : 0 ≤ sz) : fitJ O sz mt mb i = true ↔ (((O.length + 1 - i : Nat) : Int) ≤ mt ∧ ((rawL O - rawL (O.take i) : Nat) : Int) + sz ≤ mb) := by
 unfold fitJ
 rw [fit_iff]
 omega
theorem fit_sum_no {O : List En} {sz mt mb : Int} {i : Nat} (hi : i ≤ O.length) (hs : 0 ≤ sz) : fitJ O sz mt mb i = false ↔ ¬ (((O.length + 1 - i : Nat) : Int) ≤ mt ∧ ((rawL O - rawL (O.take i) : Nat) : Int) + sz ≤ mb) := by
 rw [← fit_sum hi hs]
 simp
theorem vic_le (O : List En) (pri sz mt mb : Int) : vicN O pri sz mt mb ≤ O.length := fw_le _ _
theorem vic_no {O : List En} {pri sz mt mb : Int} {j : Nat} (h : j < vicN O pri sz mt mb) : fitJ O sz mt mb j = false ∧ (O.getD j zEn).pri < pri := stp_no.1 (fw_no h)
theorem vicK_ok {O : List En} {pri sz mt mb : Int} (h : vicB O pri sz mt mb = true) : vicK O pri sz mt mb = (O.take (vicN O pri sz mt mb)).map En.k ∧ (vicK O pri sz mt mb).length = vicN O pri sz mt mb := by
 have e : vicK O pri sz mt mb = (O.take (vicN O pri sz mt mb)).map En.k := by unfold vicK; rw [if_pos h]
 refine ⟨e, ?_⟩
 rw [e, List.length_map, List.length_take]
 have := vic_le O pri sz mt mb
 omega
theorem vicK_no {O : List En} {pri sz mt mb : Int} (h : vicB O pri sz mt mb = false) : vicK O pri sz mt mb = [] := by unfold vicK; rw [h]; rfl
theorem rt_mono (O : List En) {i j : Nat} (h : i ≤ j) : rawL (O.take i) ≤ rawL (O.take j) := raw_sub (List.take_sublist_take_left h)
theorem fit_mono {O : List En} {sz mt mb : Int} {i j : Nat} (h : fitJ O sz mt mb i = true) (hij : i ≤ j) (hj : j ≤ O.length) : fitJ O sz mt mb j = true := by
 unfold fitJ at *
 rw [fit_iff] at *
 have := rt_mono O hij
 omega
/-- The entries of lesser priority come first. -/
theorem srt_split (p : Int) : ∀ O : List En, O.Pairwise (fun a b => a.pri ≤ b.pri) → ∃ q, q ≤ O.length ∧ (∀ j, j < q → (O.getD j zEn).pri < p) ∧ (∀ j, q ≤ j → j < O.length → p ≤ (O.getD j zEn).pri) ∧ O.filter (fun e => decide (p ≤ e.pri)) = O.drop q
 | [], _ => ⟨0, Nat.le_refl _, fun j h => by omega, fun j _ h => by simp at h, rfl⟩
 | x :: r, h => by
  have h0 := List.pairwise_cons.1 h
  by_cases hx : p ≤ x.pri
  ·refine ⟨0, Nat.zero_le _, fun j h => by omega, fun j _ hj => ?_, ?_⟩
   ·cases j with
    | zero => exact hx
    | succ j =>
     rw [List.getD_cons_succ]
     have : r.getD j zEn ∈ r := by
      rw [List.getD_eq_getElem?_getD, List.getElem?_eq_getElem (by simpa using hj)]
      exact List.getElem_mem _
     have := h0.1 _ this
     omega
   ·rw [List.drop_zero]
    refine List.filter_eq_self.2 fun e he => decide_eq_true ?_
    rcases List.mem_cons.1 he with rfl | he
    ·exact hx
    ·have := h0.1 _ he
     omega
  ·obtain ⟨q, h1, h2, h3, h4⟩ := srt_split p r h0.2
   refine ⟨q + 1, by simpa using h1, fun j hj => ?_, fun j hj hl => ?_, ?_⟩
   ·cases j with
    | zero => rw [List.getD_cons_zero]; omega
    | succ j => rw [List.getD_cons_succ]; exact h2 j (by omega)
   ·cases j with
    | zero => omega
    | succ j => rw [List.getD_cons_succ]; exact h3 j (by omega) (by simpa using hl)
   ·rw [List.filter_cons, decide_eq_false hx, List.drop_succ_cons]
    exact h4
/-- There is room if and only if there is room without all of lesser priority. -/
theorem vic_all {X : List (En × Ad)} {p sz mt mb : Int} (hs : 0 ≤ sz) : vicB (ordL (lE X)) p sz mt mb = (decide ((((lE X).filter fun e => decide (p ≤ e.pri)).length : Int) + 1 ≤ mt) && decide ((rawL ((lE X).filter fun e => decide (p ≤ e.pri)) : Int) + sz ≤ mb)) := by
 obtain ⟨q, h1, h2, h3, h4⟩ := srt_split p _ (ordL_srt X)
 have hp := ordL_perm X
 generalize ordL (lE X) = O at *
 have hf := hp.filter fun e => decide (p ≤ e.pri)
 rw [h4] at hf
 have hl : ((lE X).filter fun e => decide (p ≤ e.pri)).length = O.length - q := by rw [← hf.length_eq, List.length_drop]
 have hr : rawL ((lE X).filter fun e => decide (p ≤ e.pri)) = rawL O - rawL (O.take q) := by
  rw [← raw_perm hf]
  have := raw_app (O.take q) (O.drop q)
  rw [List.take_append_drop] at this
  omega
 have hv : vicB O p sz mt mb = fitJ O sz mt mb q := by
  have hle := vic_le O p sz mt mb
  have hvq : vicN O p sz mt mb ≤ q := by
   rcases Nat.lt_or_ge q (vicN O p sz mt mb) with h | h
   ·have h5 := (vic_no h).2
    have h6 := h3 q (Nat.le_refl _) (by omega)
    omega
   ·exact h
  unfold vicB
  cases hb : fitJ O sz mt mb (vicN O p sz mt mb) with
  | true => exact (fit_mono hb hvq h1).symm
  | false =>
   have hq : vicN O p sz mt mb = q := by
    rcases Nat.lt_or_ge (vicN O p sz mt mb) O.length with h | h
    ·have h5 : stpJ O p sz mt mb (vicN O p sz mt mb) = true := fw_yes h
     rcases stp_iff.1 h5 with h6 | h6
     ·rw [hb] at h6; cases h6
     ·rcases Nat.lt_or_ge (vicN O p sz mt mb) q with h7 | h7
      ·have := h2 _ h7
       omega
      ·omega
    ·omega
   rw [← hq, hb]
 rw [hv, Bool.eq_iff_iff, fit_sum h1 hs, hl, hr]
 simp only [Bool.and_eq_true, decide_eq_true_eq]
 omega
end Go.Proofs.Ytgkckblcekbafaa
