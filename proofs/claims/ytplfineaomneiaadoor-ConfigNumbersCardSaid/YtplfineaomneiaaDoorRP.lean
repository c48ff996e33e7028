/-
 ParseConfig as plain data: what a walk over its lines keeps.
-/
import Derived.Test.YtplfineaomneiaaDoorRZ
namespace Go.Proofs.YtplfineaomneiaaDoor
open Go.RowKit
set_option maxRecDepth 100000
set_option linter.unusedSimpArgs false
set_option linter.unusedVariables false

theorem split_len : ∀ (L cur l : List Int), l ∈ splitL cur L → l.length ≤ cur.length + L.length
 | [], cur, l, h => by
  rw [splitL, List.mem_singleton] at h
  rw [h]
  exact Nat.le_refl _
 | x :: r, cur, l, h => by
  rw [splitL] at h
  split at h
  ·rcases List.mem_cons.1 h with rfl | h
   ·simp only [List.length_cons]; omega
   ·have := split_len r [] l h
    simp only [List.length_cons, List.length_nil] at this ⊢
    omega
  ·have := split_len r (cur ++ [x]) l h
   simp only [List.length_append, List.length_cons, List.length_nil] at this ⊢
   omega
theorem split_num : ∀ (L cur : List Int), (splitL cur L).length ≤ L.length + 1
 | [], cur => by rw [splitL]; exact Nat.le_refl _
 | x :: r, cur => by
  rw [splitL]
  split
  ·have := split_num r []
   simp only [List.length_cons]
   omega
  ·have := split_num r (cur ++ [x])
   simp only [List.length_cons]
   omega
theorem wrd_len (L : List Int) : ∀ (n i : Nat) (w x : List Int), L.length - i ≤ n → x ∈ wrd L i w → x.length ≤ w.length + (L.length - i)
 | n, i, w, x, hn, hx => by
  by_cases h : i < L.length ∧ runK L i ≠ 0
  ·obtain ⟨h1, h2⟩ := h
   have hk := run_len h1
   have ht : ((L.drop i).take (runK L i)).length ≤ runK L i := by rw [List.length_take]; exact Nat.min_le_left _ _
   rw [wrd_step h1 h2] at hx
   cases n with
   | zero => omega
   | succ n =>
    split at hx
    ·split at hx
     ·cases hx
     ·rw [List.mem_singleton] at hx; rw [hx]; omega
    ·split at hx
     ·split at hx
      ·have := wrd_len L n _ _ x (by omega) hx
       simp only [List.length_nil] at this
       omega
      ·rcases List.mem_cons.1 hx with rfl | hx
       ·omega
       ·have := wrd_len L n _ _ x (by omega) hx
        simp only [List.length_nil] at this
        omega
     ·have := wrd_len L n _ _ x (by omega) hx
      rw [List.length_append] at this
      omega
  ·rw [wrd, dif_neg h] at hx
   split at hx
   ·cases hx
   ·rw [List.mem_singleton] at hx; rw [hx]; omega
theorem idxL_rng {t : List Int} : ∀ (L : List (List Int)) (k i : Nat), idxL t L k = some i → k ≤ i ∧ i < k + L.length
 | [], k, i, h => by rw [idxL] at h; cases h
 | x :: r, k, i, h => by
  rw [idxL] at h
  split at h
  ·injection h with h
   subst h
   exact ⟨Nat.le_refl _, by rw [List.length_cons]; omega⟩
  ·have := idxL_rng r (k + 1) i h
   rw [List.length_cons]
   omega
theorem idxL_mem {t : List Int} : ∀ (L : List (List Int)) (k : Nat), idxL t L k = none ↔ L.contains t = false
 | [], k => ⟨fun _ => rfl, fun _ => rfl⟩
 | x :: r, k => by
  rw [idxL, List.contains_cons]
  by_cases e : x = t
  ·rw [if_pos e, show (t == x) = true by rw [e]; exact beq_self_eq_true t, Bool.true_or]
   exact ⟨fun h => (by cases h), fun h => (by cases h)⟩
  ·rw [if_neg e, show (t == x) = false from by rw [beq_eq_false_iff_ne]; exact fun q => e q.symm, Bool.false_or]
   exact idxL_mem r (k + 1)
theorem idxI_neg {t : List Int} {L : List (List Int)} (h : idxI t L < 0) : idxL t L 0 = none := by
 unfold idxI at h
 cases hc : idxL t L 0 with
 | none => rfl
 | some i => rw [hc] at h; simp only at h; omega
theorem idxI_nat {t : List Int} {L : List (List Int)} (h : ¬ idxI t L < 0) : ∃ j : Nat, idxL t L 0 = some j ∧ idxI t L = (j : Int) ∧ j < L.length := by
 unfold idxI at h ⊢
 cases hc : idxL t L 0 with
 | none => rw [hc] at h; exact absurd (by decide) h
 | some i =>
  have := idxL_rng L 0 i hc
  exact ⟨i, rfl, rfl, by omega⟩
def parV (L : List Int) : Value := .tuple #[.agg (cfA (parX L).1), .int .i64 ((parX L).2.1 : Nat), .int .i64 (parX L).2.2]
theorem parV_of {L : List Int} {c : List Int} {n : Nat} {e : Int} (h : parX L = (c, n, e)) : .tuple #[.agg (cfA c), .int .i64 n, .int .i64 e] = parV L := by
 unfold parV
 rw [h]
/-- So far the lines are read. -/
def PI (L : List Int) (i : Nat) (c : List Int) (S Ls : List ByteArray) : Prop := CfOk c ∧ S.length ≤ i ∧ parX L = parL ((Ls.map nums).drop i) i c (S.map nums)
section
variable {L c : List Int} {i : Nat} {S Ls : List ByteArray} {k v : ByteArray}
theorem PI.start (h1 : ¬ 4096 < L.length) (h2 : runs L 0 ≠ none) (hm : Ls.map nums = splitL [] L) : PI L 0 dfltL [] Ls := ⟨dflt_ok, Nat.le_refl _, by
 unfold parX
 rw [if_neg h1, if_neg h2, ← hm]
 rfl⟩
theorem map_drop (hi : i < Ls.length) : (Ls.map nums).drop i = nums (Ls.getD i (⟨#[]⟩ : ByteArray)) :: (Ls.map nums).drop (i + 1) := by
 rw [← getD_nums Ls hi]
 rw [List.getD_eq_getElem?_getD, List.getElem?_eq_getElem (by rw [List.length_map]; exact hi)]
 exact List.drop_eq_getElem_cons (by rw [List.length_map]; exact hi)
theorem PI.skip (h : PI L i c S Ls) (hi : i < Ls.length) (hw : wrd (nums (Ls.getD i (⟨#[]⟩ : ByteArray))) 0 [] = []) : PI L (i + 1) c S Ls := by
 refine ⟨h.1, by have := h.2.1; omega, ?_⟩
 rw [h.2.2, map_drop hi, parL, hw]
theorem PI.syn (h : PI L i c S Ls) (hi : i < Ls.length) {W : List (List Int)} (hw : wrd (nums (Ls.getD i (⟨#[]⟩ : ByteArray))) 0 [] = W) (h0 : W.length ≠ 0) (h2 : W.length ≠ 2) : parX L = (zeroL, i + 1, 2) := by
 rw [h.2.2, map_drop hi, parL, hw]
 match W, h0, h2 with
 | [], h0, _ => exact absurd rfl h0
 | [x], _, _ => rfl
 | [x, y], _, h2 => exact absurd rfl h2
 | x :: y :: z :: r, _, _ => rfl
theorem PI.name (h : PI L i c S Ls) (hi : i < Ls.length) (hw : wrd (nums (Ls.getD i (⟨#[]⟩ : ByteArray))) 0 [] = [nums k, nums v]) (hk : idxL (nums k) keysL 0 = none) : parX L = (zeroL, i + 1, 10) := by
 rw [h.2.2, map_drop hi, parL, hw]
 simp only [hk]
theorem PI.dup (h : PI L i c S Ls) (hi : i < Ls.length) (hw : wrd (nums (Ls.getD i (⟨#[]⟩ : ByteArray))) 0 [] = [nums k, nums v]) {j : Nat} (hk : idxL (nums k) keysL 0 = some j) (hs : ¬ idxI (nums k) (S.map nums) < 0) : parX L = (zeroL, i + 1, 8) := by
 have hc : (S.map nums).contains (nums k) = true := by
  cases q : (S.map nums).contains (nums k) with
  | true => rfl
  | false =>
   obtain ⟨j2, e, -, -⟩ := idxI_nat hs
   rw [(idxL_mem _ 0).2 q] at e
   cases e
 rw [h.2.2, map_drop hi, parL, hw]
 simp only [hk, hc, if_true]
theorem PI.new (hs : idxI (nums k) (S.map nums) < 0) : (S.map nums).contains (nums k) = false := (idxL_mem _ 0).1 (idxI_neg hs)
theorem PI.bad (h : PI L i c S Ls) (hi : i < Ls.length) (hw : wrd (nums (Ls.getD i (⟨#[]⟩ : ByteArray))) 0 [] = [nums k, nums v]) {j : Nat} (hk : idxL (nums k) keysL 0 = some j) (hs : idxI (nums k) (S.map nums) < 0) (he : ¬ (setX c j (nums v)).2 = 0) : parX L = (zeroL, i + 1, (setX c j (nums v)).2) := by
 rw [h.2.2, map_drop hi, parL, hw]
 simp only [hk, PI.new hs, if_neg he, Bool.false_eq_true, if_false]
theorem PI.step (h : PI L i c S Ls) (hi : i < Ls.length) (hw : wrd (nums (Ls.getD i (⟨#[]⟩ : ByteArray))) 0 [] = [nums k, nums v]) {j : Nat} (hk : idxL (nums k) keysL 0 = some j) (hj : j < 12) (hs : idxI (nums k) (S.map nums) < 0) (he : (setX c j (nums v)).2 = 0) : PI L (i + 1) (setX c j (nums v)).1 (S ++ [k]) Ls := by
 refine ⟨setX_ok h.1 hj, by rw [List.length_append]; have := h.2.1; show _ + 1 ≤ _; omega, ?_⟩
 rw [h.2.2, map_drop hi, parL, hw]
 simp only [hk, PI.new hs, if_pos he, Bool.false_eq_true, if_false]
 rw [List.map_append]
 rfl
theorem PI.fin (h : PI L i c S Ls) (hi : i = Ls.length) : parX L = if c.getD 11 0 ≤ c.getD 10 0 then (zeroL, 0, 1) else (c, 0, 0) := by
 rw [h.2.2, hi, List.drop_eq_nil_of_le (by rw [List.length_map]; exact Nat.le_refl _), parL]
end
theorem parX_lim {L : List Int} (h : 4096 < L.length) : parX L = (zeroL, 0, 3) := by unfold parX; rw [if_pos h]
theorem parX_enc {L : List Int} (h : ¬ 4096 < L.length) (h2 : runs L 0 = none) : parX L = (zeroL, 0, 4) := by unfold parX; rw [if_neg h, if_pos h2]
end Go.Proofs.YtplfineaomneiaaDoor
