/-
 The index as plain data: rows in their order, the entries of a name, names, runs.
-/
import Derived.Test.YtjononjpoeobcaaBA
namespace Go.Proofs.Ytjononjpoeobcaa
open Go.RowKit
set_option maxRecDepth 100000
set_option linter.unusedSimpArgs false
set_option linter.unusedVariables false

/-- Keys of rows, and their order. -/
abbrev Ky := ByteArray × Int
def kl (a b : Ky) : Bool := ltS a.1 b.1 || (decide (a.1 = b.1) && decide (a.2 < b.2))
def kx (x : Rw) : Ky := (x.1, x.2.1)
theorem kl_iff {a b : Ky} : kl a b = true ↔ ltS a.1 b.1 = true ∨ (a.1 = b.1 ∧ a.2 < b.2) := by
 unfold kl
 simp only [Bool.or_eq_true, Bool.and_eq_true, decide_eq_true_eq]
theorem kl_irr (a : Ky) : kl a a = false := by
 cases h : kl a a with
 | false => rfl
 | true =>
  rcases kl_iff.1 h with h | h
  ·rw [ltS_irr] at h; cases h
  ·omega
theorem kl_tr {a b c : Ky} (h : kl a b = true) (g : kl b c = true) : kl a c = true := by
 rcases kl_iff.1 h with h1 | ⟨h1, h2⟩ <;> rcases kl_iff.1 g with g1 | ⟨g1, g2⟩
 ·exact kl_iff.2 (.inl (ltS_tr h1 g1))
 ·exact kl_iff.2 (.inl (by rw [← g1]; exact h1))
 ·exact kl_iff.2 (.inl (by rw [h1]; exact g1))
 ·exact kl_iff.2 (.inr ⟨h1.trans g1, by omega⟩)
theorem kl_ne {a b : Ky} (h : kl a b = true) : a ≠ b := fun e => by rw [e, kl_irr] at h; cases h
theorem kl_as {a b : Ky} (h : kl a b = true) : kl b a = false := by
 cases g : kl b a with
 | false => rfl
 | true => have := kl_tr h g; rw [kl_irr] at this; cases this
theorem kl_tot {a b : Ky} (h : kl a b = false) (hn : a ≠ b) : kl b a = true := by
 have h1 : ltS a.1 b.1 = false := by
  cases q : ltS a.1 b.1 with
  | false => rfl
  | true => rw [kl_iff.2 (.inl q)] at h; cases h
 by_cases he : a.1 = b.1
 ·refine kl_iff.2 (.inr ⟨he.symm, ?_⟩)
  have h2 : ¬ a.2 < b.2 := fun q => by rw [kl_iff.2 (.inr ⟨he, q⟩)] at h; cases h
  have h3 : a.2 ≠ b.2 := fun q => hn (Prod.ext he q)
  omega
 ·exact kl_iff.2 (.inl (ltS_tot h1 he))
def Srt (l : List Rw) : Prop := l.Pairwise fun x y => kl (kx x) (kx y) = true
def hasR (l : List Rw) (k : Ky) : Bool := l.any fun x => decide (kx x = k)
/-- Where the loop of AddRow ends. -/
def posA (k : Ky) : List Rw → Nat → Nat → Nat
 | [], _, p => p
 | x :: r, i, p => posA k r (i + 1) (if kl (kx x) k then i + 1 else p)
def addR (l : List Rw) (k : Ky) (id : Int) : List Rw := if hasR l k then l else l.take (posA k l 0 0) ++ [(k.1, k.2, id)] ++ l.drop (posA k l 0 0)
def remR (k : Ky) : List Rw → List Rw
 | [] => []
 | x :: r => if kx x = k then r else x :: remR k r
/-- The entries of a name. -/
def lstE (l : List Rw) (n : ByteArray) : List Eo := (l.filter fun x => decide (x.1 = n)).map fun x => x.2
theorem srt_split : ∀ {l : List Rw}, Srt l → ∀ k : Ky, ∃ A B, (l = A ++ B ∨ ∃ x, kx x = k ∧ l = A ++ x :: B) ∧ (∀ x ∈ A, kl (kx x) k = true) ∧ (∀ x ∈ B, kl k (kx x) = true)
 | [], _, k => ⟨[], [], .inl rfl, (fun x h => by simp at h), (fun x h => by simp at h)⟩
 | x :: r, h, k => by
  have hp := List.pairwise_cons.1 h
  cases hx : kl (kx x) k with
  | true =>
   obtain ⟨A, B, h1, h2, h3⟩ := srt_split hp.2 k
   refine ⟨x :: A, B, ?_, fun y hy => ?_, h3⟩
   ·rcases h1 with h1 | ⟨z, hz, h1⟩
    ·exact .inl (by rw [h1]; rfl)
    ·exact .inr ⟨z, hz, by rw [h1]; rfl⟩
   ·rcases List.mem_cons.1 hy with rfl | hy
    ·exact hx
    ·exact h2 y hy
  | false =>
   by_cases he : kx x = k
   ·exact ⟨[], r, .inr ⟨x, he, rfl⟩, (fun y h => by simp at h), fun y hy => by rw [← he]; exact hp.1 y hy⟩
   ·have hk := kl_tot hx he
    exact ⟨[], x :: r, .inl rfl, (fun y h => by simp at h), fun y hy => by
     rcases List.mem_cons.1 hy with rfl | hy
     ·exact hk
     ·exact kl_tr hk (hp.1 y hy)⟩
section
variable {A B : List Rw} {k : Ky} {x : Rw}
theorem has_app (A B : List Rw) (k : Ky) : hasR (A ++ B) k = (hasR A k || hasR B k) := List.any_append
theorem has_less (h : ∀ x ∈ A, kl (kx x) k = true) : hasR A k = false := by
 unfold hasR
 rw [List.any_eq_false]
 exact fun x hx => by simpa using kl_ne (h x hx)
theorem has_more (h : ∀ x ∈ B, kl k (kx x) = true) : hasR B k = false := by
 unfold hasR
 rw [List.any_eq_false]
 exact fun x hx => by simpa using Ne.symm (kl_ne (h x hx))
theorem pos_app : ∀ (A B : List Rw) (i p : Nat), (∀ x ∈ A, kl (kx x) k = true) → posA k (A ++ B) i p = posA k B (i + A.length) (if A = [] then p else i + A.length)
 | [], B, i, p, _ => by simp
 | x :: r, B, i, p, h => by
  rw [List.cons_append, posA, if_pos (h x (by simp)), pos_app r B (i + 1) (i + 1) (fun y hy => h y (by simp [hy]))]
  rw [if_neg (List.cons_ne_nil _ _), List.length_cons]
  by_cases hr : r = []
  ·subst hr; simp
  ·rw [if_neg hr, show i + 1 + r.length = i + (r.length + 1) by omega]
theorem pos_more : ∀ (B : List Rw) (i p : Nat), (∀ x ∈ B, kl k (kx x) = true) → posA k B i p = p
 | [], i, p, _ => rfl
 | x :: r, i, p, h => by
  rw [posA, if_neg (by rw [kl_as (h x (by simp))]; exact Bool.false_ne_true), pos_more r (i + 1) p (fun y hy => h y (by simp [hy]))]
theorem pos_is (hA : ∀ x ∈ A, kl (kx x) k = true) (hB : ∀ x ∈ B, kl k (kx x) = true) : posA k (A ++ B) 0 0 = A.length := by
 rw [pos_app A B 0 0 hA, pos_more _ _ _ hB, Nat.zero_add]
 by_cases h : A = []
 ·subst h; rfl
 ·rw [if_neg h]
theorem add_is (hA : ∀ x ∈ A, kl (kx x) k = true) (hB : ∀ x ∈ B, kl k (kx x) = true) (id : Int) : addR (A ++ B) k id = A ++ (k.1, k.2, id) :: B := by
 unfold addR
 rw [has_app, has_less hA, has_more hB, pos_is hA hB, Bool.or_self, if_neg Bool.false_ne_true, List.take_left, List.drop_left, List.append_assoc]
 rfl
theorem rem_app : ∀ (A B : List Rw), (∀ x ∈ A, kl (kx x) k = true) → remR k (A ++ B) = A ++ remR k B
 | [], B, _ => rfl
 | x :: r, B, h => by
  rw [List.cons_append, remR, if_neg (kl_ne (h x (by simp))), rem_app r B (fun y hy => h y (by simp [hy]))]
  rfl
theorem rem_none : ∀ (B : List Rw), hasR B k = false → remR k B = B
 | [], _ => rfl
 | x :: r, h => by
  unfold hasR at h
  rw [List.any_cons, Bool.or_eq_false_iff] at h
  rw [remR, if_neg (by simpa using h.1), rem_none r h.2]
theorem lst_app (A B : List Rw) (n : ByteArray) : lstE (A ++ B) n = lstE A n ++ lstE B n := by
 unfold lstE
 rw [List.filter_append, List.map_append]
theorem lst_cons (x : Rw) (B : List Rw) (n : ByteArray) : lstE (x :: B) n = if x.1 = n then x.2 :: lstE B n else lstE B n := by
 unfold lstE
 by_cases h : x.1 = n
 ·rw [List.filter_cons_of_pos (by simpa using h), if_pos h]; rfl
 ·rw [List.filter_cons_of_neg (by simpa using h), if_neg h]
theorem lst_mem {l : List Rw} {n : ByteArray} {e : Eo} : e ∈ lstE l n ↔ (n, e) ∈ l := by
 unfold lstE
 simp only [List.mem_map, List.mem_filter, decide_eq_true_eq]
 constructor
 ·rintro ⟨x, ⟨h1, h2⟩, h3⟩
  rw [← h2, ← h3]; exact h1
 ·exact fun h => ⟨(n, e), ⟨h, rfl⟩, rfl⟩
theorem lst_less {n : ByteArray} (h : ∀ x ∈ A, kl (kx x) k = true) (hn : k.1 = n) : ∀ e ∈ lstE A n, e.1 < k.2 := fun e he => by
 rcases kl_iff.1 (h _ (lst_mem.1 he)) with h1 | h1
 ·rw [show (kx (n, e)).1 = n from rfl, hn, ltS_irr] at h1; cases h1
 ·exact h1.2
theorem lst_more {n : ByteArray} (h : ∀ x ∈ B, kl k (kx x) = true) (hn : k.1 = n) : ∀ e ∈ lstE B n, k.2 < e.1 := fun e he => by
 rcases kl_iff.1 (h _ (lst_mem.1 he)) with h1 | h1
 ·rw [show (kx (n, e)).1 = n from rfl, hn, ltS_irr] at h1; cases h1
 ·exact h1.2
end
def SrtE (E : List Eo) : Prop := E.Pairwise fun x y => x.1 < y.1
theorem lst_srt {l : List Rw} (h : Srt l) (n : ByteArray) : SrtE (lstE l n) := by
 unfold SrtE lstE
 rw [List.pairwise_map]
 refine (h.filter _).imp_of_mem fun {x y} hx hy hk => ?_
 have h1 : x.1 = n := by simpa using (List.mem_filter.1 hx).2
 have h2 : y.1 = n := by simpa using (List.mem_filter.1 hy).2
 rcases kl_iff.1 hk with h3 | h3
 ·rw [show (kx x).1 = n from h1, show (kx y).1 = n from h2, ltS_irr] at h3; cases h3
 ·exact h3.2
/-- Where a sequence stands or would stand. -/
def cntE (E : List Eo) (q : Int) : Nat := E.countP fun e => decide (e.1 < q)
def hasE (E : List Eo) (q : Int) : Bool := E.any fun e => decide (e.1 = q)
theorem cnt_is {EA EB : List Eo} {q : Int} (hA : ∀ e ∈ EA, e.1 < q) (hB : ∀ e ∈ EB, q ≤ e.1) : cntE (EA ++ EB) q = EA.length := by
 unfold cntE
 rw [List.countP_append, List.countP_eq_length.2 (fun e he => by simpa using hA e he), List.countP_eq_zero.2 (fun e he => by have := hB e he; simp; omega)]
 rfl
theorem cnt_le (E : List Eo) (q : Int) : cntE E q ≤ E.length := List.countP_le_length
theorem hasE_is {l : List Rw} (k : Ky) : hasE (lstE l k.1) k.2 = hasR l k := by
 unfold hasE hasR
 rw [Bool.eq_iff_iff]
 simp only [List.any_eq_true, decide_eq_true_eq]
 constructor
 ·rintro ⟨e, he, h⟩
  exact ⟨_, lst_mem.1 he, Prod.ext rfl h⟩
 ·rintro ⟨x, hx, h⟩
  refine ⟨x.2, lst_mem.2 ?_, congrArg Prod.snd h⟩
  rw [← show x.1 = k.1 from congrArg Prod.fst h]; exact hx
/-- What an addition and a removal do to the entries of each name. -/
structure AddO (l l2 : List Rw) (k : Ky) (id : Int) : Prop where
 srt : Srt l2
 len : l2.length = l.length + 1
 own : lstE l2 k.1 = (lstE l k.1).take (cntE (lstE l k.1) k.2) ++ (k.2, id) :: (lstE l k.1).drop (cntE (lstE l k.1) k.2)
 oth : ∀ n, n ≠ k.1 → lstE l2 n = lstE l n
 mem : ∀ x ∈ l2, x = (k.1, k.2, id) ∨ x ∈ l
theorem add_yes {l : List Rw} (h : Srt l) {k : Ky} (hn : hasR l k = false) (id : Int) : AddO l (addR l k id) k id := by
 obtain ⟨A, B, h1, hA, hB⟩ := srt_split h k
 rcases h1 with rfl | ⟨x, hx, rfl⟩
 ·have hp := List.pairwise_append.1 h
  rw [add_is hA hB]
  have hlA := lst_less (n := k.1) hA rfl
  have hlB := lst_more (n := k.1) hB rfl
  have hc : cntE (lstE (A ++ B) k.1) k.2 = (lstE A k.1).length := by rw [lst_app]; exact cnt_is hlA fun e he => Int.le_of_lt (hlB e he)
  refine ⟨?_, by simp only [List.length_append, List.length_cons]; omega, ?_, fun n hn => ?_, fun x hx => ?_⟩
  ·refine List.pairwise_append.2 ⟨hp.1, List.pairwise_cons.2 ⟨hB, hp.2.1⟩, fun a ha b hb => ?_⟩
   rcases List.mem_cons.1 hb with rfl | hb
   ·exact hA a ha
   ·exact hp.2.2 a ha b hb
  ·rw [hc, lst_app, lst_app, lst_cons, if_pos rfl, List.take_left, List.drop_left]
  ·rw [lst_app, lst_app, lst_cons, if_neg (Ne.symm hn)]
  ·rcases List.mem_append.1 hx with h | h
   ·exact .inr (List.mem_append.2 (.inl h))
   ·rcases List.mem_cons.1 h with rfl | h
    ·exact .inl rfl
    ·exact .inr (List.mem_append.2 (.inr h))
 ·rw [has_app, show hasR (x :: B) k = true by unfold hasR; rw [List.any_cons, decide_eq_true hx]; rfl, Bool.or_true] at hn
  cases hn
theorem add_no {l : List Rw} {k : Ky} (hn : hasR l k = true) (id : Int) : addR l k id = l := by unfold addR; rw [if_pos hn]
structure RemO (l l2 : List Rw) (k : Ky) : Prop where
 srt : Srt l2
 len : l2.length + 1 = l.length
 lt : cntE (lstE l k.1) k.2 < (lstE l k.1).length
 own : lstE l2 k.1 = (lstE l k.1).take (cntE (lstE l k.1) k.2) ++ (lstE l k.1).drop (cntE (lstE l k.1) k.2 + 1)
 oth : ∀ n, n ≠ k.1 → lstE l2 n = lstE l n
 mem : ∀ x ∈ l2, x ∈ l
theorem rem_yes {l : List Rw} (h : Srt l) {k : Ky} (hn : hasR l k = true) : RemO l (remR k l) k := by
 obtain ⟨A, B, h1, hA, hB⟩ := srt_split h k
 rcases h1 with rfl | ⟨x, hx, rfl⟩
 ·rw [has_app, has_less hA, has_more hB] at hn; cases hn
 ·have hp := List.pairwise_append.1 h
  have hr : remR k (A ++ x :: B) = A ++ B := by rw [rem_app A _ hA, remR, if_pos hx]
  rw [hr]
  have hxk : x.1 = k.1 := congrArg Prod.fst hx
  have hlA := lst_less (n := k.1) hA rfl
  have hlB := lst_more (n := k.1) hB rfl
  have hc : cntE (lstE (A ++ x :: B) k.1) k.2 = (lstE A k.1).length := by
   rw [lst_app, lst_cons, if_pos hxk]
   refine cnt_is hlA fun e he => ?_
   rcases List.mem_cons.1 he with rfl | he
   ·have : x.2.1 = k.2 := congrArg Prod.snd hx
    omega
   ·exact Int.le_of_lt (hlB e he)
  refine ⟨?_, by simp only [List.length_append, List.length_cons]; omega, ?_, ?_, fun n hn => ?_, fun y hy => ?_⟩
  ·exact List.pairwise_append.2 ⟨hp.1, (List.pairwise_cons.1 hp.2.1).2, fun a ha b hb => hp.2.2 a ha b (by simp [hb])⟩
  ·rw [hc, lst_app, lst_cons, if_pos hxk, List.length_append, List.length_cons]; omega
  ·rw [hc, lst_app, lst_app, lst_cons, if_pos hxk, List.take_left, List.drop_append, List.drop_of_length_le (by omega), Nat.add_sub_cancel_left]
   rfl
  ·rw [lst_app, lst_app, lst_cons, if_neg (fun e => hn (e.symm.trans hxk))]
  ·rcases List.mem_append.1 hy with h | h
   ·exact List.mem_append.2 (.inl h)
   ·exact List.mem_append.2 (.inr (by simp [h]))
theorem rem_no {l : List Rw} {k : Ky} (hn : hasR l k = false) : remR k l = l := rem_none l hn
/-- Names. -/
def nmsA : Option ByteArray → List Rw → List ByteArray
 | _, [] => []
 | p, x :: r => if p = some x.1 then nmsA (some x.1) r else x.1 :: nmsA (some x.1) r
def lastN : Option ByteArray → List Rw → Option ByteArray
 | p, [] => p
 | _, x :: r => lastN (some x.1) r
theorem nms_app : ∀ (p : Option ByteArray) (A : List Rw) (x : Rw), nmsA p (A ++ [x]) = nmsA p A ++ (if lastN p A = some x.1 then [] else [x.1])
 | p, [], x => by
  rw [List.nil_append, nmsA, nmsA, nmsA, lastN]
  split <;> rfl
 | p, y :: r, x => by
  rw [List.cons_append, nmsA, nms_app (some y.1) r x, nmsA, lastN]
  split
  ·rfl
  ·rfl
theorem last_app : ∀ (p : Option ByteArray) (A : List Rw) (x : Rw), lastN p (A ++ [x]) = some x.1
 | p, [], x => rfl
 | p, y :: r, x => by rw [List.cons_append, lastN, last_app]
theorem last_take {l : List Rw} {i : Nat} (hi : i < l.length) : lastN none (l.take (i + 1)) = some (l.getD i zrw).1 := by
 rw [List.take_add_one, List.getElem?_eq_getElem hi, Option.toList_some, last_app, getD_lt l i zrw hi]
theorem nms_step0 {l : List Rw} (h : 0 < l.length) : nmsA none (l.take 1) = [(l.getD 0 zrw).1] := by
 cases l with
 | nil => simp at h
 | cons x r => rfl
theorem nms_step {l : List Rw} {i : Nat} (hi : i + 1 < l.length) : nmsA none (l.take (i + 2)) = nmsA none (l.take (i + 1)) ++ (if (l.getD i zrw).1 = (l.getD (i + 1) zrw).1 then [] else [(l.getD (i + 1) zrw).1]) := by
 conv => lhs; rw [List.take_add_one, List.getElem?_eq_getElem hi, Option.toList_some, nms_app, last_take (by omega)]
 rw [getD_lt l (i + 1) zrw hi]
 simp only [Option.some.injEq]
theorem nms_len : ∀ (p : Option ByteArray) (l : List Rw), (nmsA p l).length ≤ l.length
 | p, [] => Nat.le_refl 0
 | p, x :: r => by
  have := nms_len (some x.1) r
  rw [nmsA]
  split
  ·rw [List.length_cons]; omega
  ·rw [List.length_cons, List.length_cons]; omega
theorem nms_mem : ∀ {p : Option ByteArray} {l : List Rw} {n : ByteArray}, n ∈ nmsA p l → ∃ x ∈ l, x.1 = n
 | p, [], n, h => by simp [nmsA] at h
 | p, x :: r, n, h => by
  rw [nmsA] at h
  split at h
  ·obtain ⟨y, h1, h2⟩ := nms_mem h
   exact ⟨y, by simp [h1], h2⟩
  ·rcases List.mem_cons.1 h with rfl | h
   ·exact ⟨x, by simp, rfl⟩
   ·obtain ⟨y, h1, h2⟩ := nms_mem h
    exact ⟨y, by simp [h1], h2⟩
theorem nms_all : ∀ {p : Option ByteArray} {l : List Rw} {x : Rw}, x ∈ l → p = some x.1 ∨ x.1 ∈ nmsA p l
 | p, [], x, h => by simp at h
 | p, y :: r, x, h => by
  rw [nmsA]
  rcases List.mem_cons.1 h with rfl | h
  ·split
   ·exact .inl ‹_›
   ·exact .inr (by simp)
  ·rcases nms_all (p := some y.1) h with h1 | h1
   ·have h1 : y.1 = x.1 := by simpa using h1
    rw [← h1]
    split
    ·exact .inl ‹_›
    ·exact .inr (by simp)
   ·split
    ·exact .inr h1
    ·exact .inr (by simp [h1])
theorem nms_gt : ∀ {p : ByteArray} {l : List Rw}, Srt l → (∀ x ∈ l, p = x.1 ∨ ltS p x.1 = true) → (∀ n ∈ nmsA (some p) l, ltS p n = true) ∧ (nmsA (some p) l).Pairwise fun a b => ltS a b = true
 | p, [], _, _ => ⟨fun n h => by simp [nmsA] at h, List.Pairwise.nil⟩
 | p, x :: r, h, hp => by
  have hc := List.pairwise_cons.1 h
  have hx : ∀ y ∈ r, x.1 = y.1 ∨ ltS x.1 y.1 = true := fun y hy => by
   rcases kl_iff.1 (hc.1 y hy) with h1 | h1
   ·exact .inr h1
   ·exact .inl h1.1
  obtain ⟨h1, h2⟩ := nms_gt hc.2 hx
  rw [nmsA]
  split
  ·rename_i he
   have he : p = x.1 := by simpa using he
   rw [he]
   exact ⟨h1, h2⟩
  ·rename_i he
   have h3 := (hp x (by simp)).resolve_left fun q => he (by rw [q])
   exact ⟨fun n hn => by
    rcases List.mem_cons.1 hn with rfl | hn
    ·exact h3
    ·exact ltS_tr h3 (h1 n hn), List.pairwise_cons.2 ⟨h1, h2⟩⟩
theorem nms_srt : ∀ {l : List Rw}, Srt l → (nmsA none l).Pairwise fun a b => ltS a b = true
 | [], _ => List.Pairwise.nil
 | x :: r, h => by
  have hc := List.pairwise_cons.1 h
  have hx : ∀ y ∈ r, x.1 = y.1 ∨ ltS x.1 y.1 = true := fun y hy => by
   rcases kl_iff.1 (hc.1 y hy) with h1 | h1
   ·exact .inr h1
   ·exact .inl h1.1
  obtain ⟨h1, h2⟩ := nms_gt hc.2 hx
  rw [nmsA, if_neg (by simp)]
  exact List.pairwise_cons.2 ⟨h1, h2⟩
/-- Runs, as the reference finds them. -/
def runF (n : ByteArray) : List Rw → Int → Bool → List Int
 | [], _, _ => []
 | x :: r, q, b => if x.1 ≠ n ∨ x.2.1 < q ∨ b = true then runF n r q b else if q < x.2.1 then [] else x.2.2 :: runF n r (IntKind.u64.wrap (q + 1)) (decide (q = 18446744073709551615))
/-- Runs, as the program finds them. -/
def runL : List Eo → Int → Nat
 | [], _ => 0
 | e :: r, q => if e.1 = q then runL r (q + 1) + 1 else 0
theorem runL_le : ∀ (E : List Eo) (q : Int), runL E q ≤ E.length
 | [], q => Nat.le_refl 0
 | e :: r, q => by
  have := runL_le r (q + 1)
  rw [runL]
  split
  ·rw [List.length_cons]; omega
  ·omega
def runX (E : List Eo) (q : Int) : List Int := ((E.drop (cntE E q)).take (runL (E.drop (cntE E q)) q)).map fun e => e.2
def W64 (x : Int) : Prop := 0 ≤ x ∧ x ≤ 18446744073709551615
def RwW (l : List Rw) : Prop := ∀ x ∈ l, W64 x.2.1
theorem run_over (n : ByteArray) : ∀ (l : List Rw) (q : Int), runF n l q true = []
 | [], q => rfl
 | x :: r, q => by rw [runF, if_pos (.inr (.inr rfl)), run_over n r q]
def runE : List Eo → Int → List Int
 | [], _ => []
 | e :: r, q => if e.1 < q then runE r q else if q < e.1 then [] else e.2 :: runE r (q + 1)
theorem run_fg {n : ByteArray} : ∀ {l : List Rw} {q : Int}, Srt l → RwW l → W64 q → runF n l q false = runE (lstE l n) q
 | [], q, _, _, _ => rfl
 | x :: r, q, h, hw, hq => by
  have hc := List.pairwise_cons.1 h
  have hw2 : RwW r := fun y hy => hw y (by simp [hy])
  rw [runF, lst_cons]
  by_cases h1 : x.1 = n
  ·rw [if_pos h1]
   by_cases h2 : x.2.1 < q
   ·rw [if_pos (.inr (.inl h2)), runE, if_pos h2, run_fg hc.2 hw2 hq]
   ·rw [if_neg (fun h3 => h3.elim (fun h4 => h4 h1) fun h4 => h4.elim h2 fun h5 => by cases h5), runE, if_neg h2]
    by_cases h3 : q < x.2.1
    ·rw [if_pos h3, if_pos h3]
    ·rw [if_neg h3, if_neg h3]
     have hx := hw x (by simp)
     by_cases h4 : q = 18446744073709551615
     ·rw [decide_eq_true h4, run_over]
      have h5 : lstE r n = [] := by
       rw [List.eq_nil_iff_forall_not_mem]
       intro e he
       have h6 := hc.1 _ (lst_mem.1 he)
       have h7 := hw2 _ (lst_mem.1 he)
       rcases kl_iff.1 h6 with h8 | h8
       ·rw [show (kx x).1 = n from h1, show (kx (n, e)).1 = n from rfl, ltS_irr] at h8; cases h8
       ·have : x.2.1 < e.1 := h8.2
        have : e.1 ≤ 18446744073709551615 := h7.2
        omega
      rw [h5]; rfl
     ·have hq2 : W64 (q + 1) := ⟨by have := hq.1; omega, by have := hq.2; omega⟩
      rw [decide_eq_false h4, show IntKind.u64.wrap (q + 1) = q + 1 by rw [IntKind.wrap_u64]; have := hq2.1; have := hq2.2; omega, run_fg hc.2 hw2 hq2]
  ·rw [if_pos (.inl h1), if_neg h1, run_fg hc.2 hw2 hq]
theorem runE_all : ∀ {E : List Eo} {q : Int}, SrtE E → (∀ e ∈ E, q ≤ e.1) → runE E q = (E.take (runL E q)).map fun e => e.2
 | [], q, _, _ => rfl
 | e :: r, q, h, hq => by
  have hc := List.pairwise_cons.1 h
  have h1 := hq e (by simp)
  rw [runE, if_neg (by omega), runL]
  by_cases h2 : e.1 = q
  ·rw [if_neg (by omega), if_pos h2, List.take_succ_cons, List.map_cons, runE_all hc.2 (fun y hy => by have := hc.1 y hy; omega)]
  ·rw [if_pos (by omega), if_neg h2]; rfl
theorem cnt_drop : ∀ {E : List Eo} {q : Int}, SrtE E → (∀ e ∈ E.take (cntE E q), e.1 < q) ∧ ∀ e ∈ E.drop (cntE E q), q ≤ e.1
 | [], q, _ => ⟨fun e h => by simp at h, fun e h => by simp at h⟩
 | e :: r, q, h => by
  have hc := List.pairwise_cons.1 h
  by_cases h1 : e.1 < q
  ·have h2 := cnt_drop (q := q) hc.2
   rw [show cntE (e :: r) q = cntE r q + 1 by unfold cntE; rw [List.countP_cons_of_pos (by simpa using h1)], List.take_succ_cons, List.drop_succ_cons]
   exact ⟨fun y hy => by
    rcases List.mem_cons.1 hy with rfl | hy
    ·exact h1
    ·exact h2.1 y hy, h2.2⟩
  ·have h2 : ∀ y ∈ e :: r, q ≤ y.1 := fun y hy => by
    rcases List.mem_cons.1 hy with rfl | hy
    ·omega
    ·have := hc.1 y hy; omega
   rw [show cntE (e :: r) q = 0 by unfold cntE; exact List.countP_eq_zero.2 fun y hy => by have := h2 y hy; simp; omega]
   exact ⟨fun y hy => by simp at hy, h2⟩
theorem runE_skip : ∀ {E A : List Eo} {q : Int}, (∀ e ∈ A, e.1 < q) → runE (A ++ E) q = runE E q
 | E, [], q, _ => rfl
 | E, e :: r, q, h => by rw [List.cons_append, runE, if_pos (h e (by simp)), runE_skip fun y hy => h y (by simp [hy])]
theorem runF_is {n : ByteArray} {l : List Rw} {q : Int} (h : Srt l) (hw : RwW l) (hq : W64 q) : runF n l q false = runX (lstE l n) q := by
 rw [run_fg h hw hq]
 obtain ⟨h1, h2⟩ := cnt_drop (q := q) (lst_srt h n)
 unfold runX
 conv => lhs; rw [← List.take_append_drop (cntE (lstE l n) q) (lstE l n)]
 rw [runE_skip h1]
 exact runE_all (List.Pairwise.sublist (List.drop_sublist _ _) (lst_srt h n)) h2
end Go.Proofs.Ytjononjpoeobcaa
