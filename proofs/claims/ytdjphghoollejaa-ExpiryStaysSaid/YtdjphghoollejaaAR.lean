/-
 The queue as plain data: elements by their numbers, the two lists by measure, what has expired.
-/
import Derived.Test.YtdjphghoollejaaBA
namespace Go.Proofs.Ytdjphghoollejaa
open Go.RowKit
set_option maxRecDepth 100000
set_option linter.unusedSimpArgs false
set_option linter.unusedVariables false

def SrtW (l : List Wt) : Prop := l.Pairwise fun x y => x.1 < y.1
def hasW (l : List Wt) (k : Int) : Bool := l.any fun x => decide (x.1 = k)
/-- Where the loop of AddWait ends. -/
def posW (k : Int) : List Wt → Nat → Nat → Nat
 | [], _, p => p
 | x :: r, i, p => posW k r (i + 1) (if x.1 < k then i + 1 else p)
def addW (l : List Wt) (z : Wt) : List Wt := if hasW l z.1 then l else l.take (posW z.1 l 0 0) ++ [z] ++ l.drop (posW z.1 l 0 0)
def remW (k : Int) : List Wt → List Wt
 | [] => []
 | x :: r => if x.1 = k then r else x :: remW k r
def getW (l : List Wt) (k : Int) : Option (Int × Int) := (l.find? fun x => decide (x.1 = k)).map fun x => x.2
/-- Has it waited for longer than the limit, if there is one? -/
def late (now than lim : Int) : Bool := decide (0 < lim ∧ than < now ∧ lim < now - than)
def expB (bl sp h t : Int) (x : Wt) : Bool := late h x.2.1 bl || late t x.2.2 sp
def expW (l : List Wt) (bl sp h t : Int) : List Int := (l.filter (expB bl sp h t)).map fun x => x.1
theorem srt_split : ∀ {l : List Wt}, SrtW l → ∀ k : Int, ∃ A B, (l = A ++ B ∨ ∃ x, x.1 = k ∧ l = A ++ x :: B) ∧ (∀ x ∈ A, x.1 < k) ∧ (∀ x ∈ B, k < x.1)
 | [], _, k => ⟨[], [], .inl rfl, (fun x h => by simp at h), (fun x h => by simp at h)⟩
 | x :: r, h, k => by
  have hp := List.pairwise_cons.1 h
  by_cases hx : x.1 < k
  ·obtain ⟨A, B, h1, h2, h3⟩ := srt_split hp.2 k
   refine ⟨x :: A, B, ?_, fun y hy => ?_, h3⟩
   ·rcases h1 with h1 | ⟨z, hz, h1⟩
    ·exact .inl (by rw [h1]; rfl)
    ·exact .inr ⟨z, hz, by rw [h1]; rfl⟩
   ·rcases List.mem_cons.1 hy with rfl | hy
    ·exact hx
    ·exact h2 y hy
  ·by_cases he : x.1 = k
   ·exact ⟨[], r, .inr ⟨x, he, rfl⟩, (fun y h => by simp at h), fun y hy => by rw [← he]; exact hp.1 y hy⟩
   ·exact ⟨[], x :: r, .inl rfl, (fun y h => by simp at h), fun y hy => by
     rcases List.mem_cons.1 hy with rfl | hy
     ·omega
     ·have := hp.1 y hy; omega⟩
section
variable {A B : List Wt} {k : Int} {x : Wt}
theorem has_app (A B : List Wt) (k : Int) : hasW (A ++ B) k = (hasW A k || hasW B k) := List.any_append
theorem has_less (h : ∀ x ∈ A, x.1 < k) : hasW A k = false := by
 unfold hasW
 rw [List.any_eq_false]
 exact fun x hx => by have := h x hx; simp; omega
theorem has_more (h : ∀ x ∈ B, k < x.1) : hasW B k = false := by
 unfold hasW
 rw [List.any_eq_false]
 exact fun x hx => by have := h x hx; simp; omega
theorem has_iff {l : List Wt} {k : Int} : hasW l k = true ↔ ∃ x ∈ l, x.1 = k := by
 unfold hasW
 rw [List.any_eq_true]
 simp only [decide_eq_true_eq]
theorem pos_app : ∀ (A B : List Wt) (i p : Nat), (∀ x ∈ A, x.1 < k) → posW k (A ++ B) i p = posW k B (i + A.length) (if A = [] then p else i + A.length)
 | [], B, i, p, _ => by simp
 | x :: r, B, i, p, h => by
  rw [List.cons_append, posW, if_pos (h x (by simp)), pos_app r B (i + 1) (i + 1) (fun y hy => h y (by simp [hy]))]
  rw [if_neg (List.cons_ne_nil _ _), List.length_cons]
  by_cases hr : r = []
  ·subst hr; simp
  ·rw [if_neg hr, show i + 1 + r.length = i + (r.length + 1) by omega]
theorem pos_more : ∀ (B : List Wt) (i p : Nat), (∀ x ∈ B, k < x.1) → posW k B i p = p
 | [], i, p, _ => rfl
 | x :: r, i, p, h => by
  rw [posW, if_neg (by have := h x (by simp); omega), pos_more r (i + 1) p (fun y hy => h y (by simp [hy]))]
theorem pos_is (hA : ∀ x ∈ A, x.1 < k) (hB : ∀ x ∈ B, k < x.1) : posW k (A ++ B) 0 0 = A.length := by
 rw [pos_app A B 0 0 hA, pos_more _ _ _ hB, Nat.zero_add]
 by_cases h : A = []
 ·subst h; rfl
 ·rw [if_neg h]
theorem add_is {z : Wt} (hA : ∀ x ∈ A, x.1 < z.1) (hB : ∀ x ∈ B, z.1 < x.1) : addW (A ++ B) z = A ++ z :: B := by
 unfold addW
 rw [has_app, has_less hA, has_more hB, pos_is hA hB, Bool.or_self, if_neg Bool.false_ne_true, List.take_left, List.drop_left, List.append_assoc]
 rfl
theorem rem_app : ∀ (A B : List Wt), (∀ x ∈ A, x.1 < k) → remW k (A ++ B) = A ++ remW k B
 | [], B, _ => rfl
 | x :: r, B, h => by
  rw [List.cons_append, remW, if_neg (by have := h x (by simp); omega), rem_app r B (fun y hy => h y (by simp [hy]))]
  rfl
theorem rem_none : ∀ (B : List Wt), hasW B k = false → remW k B = B
 | [], _ => rfl
 | x :: r, h => by
  unfold hasW at h
  rw [List.any_cons, Bool.or_eq_false_iff] at h
  rw [remW, if_neg (by simpa using h.1), rem_none r h.2]
theorem find_none {l : List Wt} {j : Int} (h : ∀ x ∈ l, x.1 ≠ j) : (l.find? fun x => decide (x.1 = j)) = none := by
 rw [List.find?_eq_none]
 exact fun x hx => by simpa using h x hx
theorem get_mid {z : Wt} (hA : ∀ x ∈ A, x.1 < z.1) (j : Int) : getW (A ++ z :: B) j = if j = z.1 then some z.2 else getW (A ++ B) j := by
 unfold getW
 rw [List.find?_append, List.find?_append]
 by_cases h : j = z.1
 ·rw [if_pos h, find_none (fun x hx => by have := hA x hx; omega), List.find?_cons_of_pos (by simpa using h.symm)]
  rfl
 ·rw [if_neg h, List.find?_cons_of_neg (by simpa using fun e => h e.symm)]
theorem get_no {l : List Wt} {j : Int} (h : hasW l j = false) : getW l j = none := by
 unfold getW
 rw [find_none fun x hx e => ?_]
 ·rfl
 ·rw [has_iff.2 ⟨x, hx, e⟩] at h; cases h
theorem get_iff {l : List Wt} {j : Int} : (getW l j).isSome = hasW l j := by
 cases h : hasW l j with
 | false => rw [get_no h]; rfl
 | true =>
  obtain ⟨x, hx, e⟩ := has_iff.1 h
  unfold getW
  cases hf : (l.find? fun x => decide (x.1 = j)) with
  | some y => rfl
  | none =>
   rw [List.find?_eq_none] at hf
   exact absurd e (by simpa using hf x hx)
end
/-- What an addition and a removal do. -/
structure AddO (l l2 : List Wt) (z : Wt) : Prop where
 srt : SrtW l2
 len : l2.length = l.length + 1
 prm : l2.Perm (z :: l)
 get : ∀ k, getW l2 k = if k = z.1 then some z.2 else getW l k
theorem add_yes {l : List Wt} (h : SrtW l) {z : Wt} (hn : hasW l z.1 = false) : AddO l (addW l z) z := by
 obtain ⟨A, B, h1, hA, hB⟩ := srt_split h z.1
 rcases h1 with rfl | ⟨x, hx, rfl⟩
 ·have hp := List.pairwise_append.1 h
  rw [add_is hA hB]
  refine ⟨?_, by simp only [List.length_append, List.length_cons]; omega, List.perm_middle, get_mid hA⟩
  refine List.pairwise_append.2 ⟨hp.1, List.pairwise_cons.2 ⟨hB, hp.2.1⟩, fun a ha b hb => ?_⟩
  rcases List.mem_cons.1 hb with rfl | hb
  ·exact hA a ha
  ·exact hp.2.2 a ha b hb
 ·rw [has_app, show hasW (x :: B) z.1 = true by unfold hasW; rw [List.any_cons, decide_eq_true hx]; rfl, Bool.or_true] at hn
  cases hn
theorem add_no {l : List Wt} {z : Wt} (hn : hasW l z.1 = true) : addW l z = l := by unfold addW; rw [if_pos hn]
structure RemO (l l2 : List Wt) (k : Int) : Prop where
 srt : SrtW l2
 len : l2.length + 1 = l.length
 prm : ∃ x, x.1 = k ∧ l.Perm (x :: l2) ∧ getW l k = some x.2
 get : ∀ j, getW l2 j = if j = k then none else getW l j
theorem rem_yes {l : List Wt} (h : SrtW l) {k : Int} (hn : hasW l k = true) : RemO l (remW k l) k := by
 obtain ⟨A, B, h1, hA, hB⟩ := srt_split h k
 rcases h1 with rfl | ⟨x, hx, rfl⟩
 ·rw [has_app, has_less hA, has_more hB] at hn; cases hn
 ·have hp := List.pairwise_append.1 h
  have hr : remW k (A ++ x :: B) = A ++ B := by rw [rem_app A _ hA, remW, if_pos hx]
  rw [hr]
  subst hx
  have hg := get_mid (B := B) hA
  refine ⟨?_, by simp only [List.length_append, List.length_cons]; omega, ⟨x, rfl, List.perm_middle, by rw [hg, if_pos rfl]⟩, fun j => ?_⟩
  ·exact List.pairwise_append.2 ⟨hp.1, (List.pairwise_cons.1 hp.2.1).2, fun a ha b hb => hp.2.2 a ha b (by simp [hb])⟩
  ·by_cases hj : j = x.1
   ·rw [if_pos hj, hj]
    exact get_no (by rw [has_app, has_less hA, has_more hB]; rfl)
   ·rw [if_neg hj, hg, if_neg hj]
theorem rem_no {l : List Wt} {k : Int} (hn : hasW l k = false) : remW k l = l := rem_none l hn
/-- The order of the program's lists: by measure, then by number. -/
def lt2 (a b : Eo) : Bool := decide (a.1 < b.1) || (decide (a.1 = b.1) && decide (a.2 < b.2))
theorem lt2_iff {a b : Eo} : lt2 a b = true ↔ a.1 < b.1 ∨ (a.1 = b.1 ∧ a.2 < b.2) := by
 unfold lt2
 simp only [Bool.or_eq_true, Bool.and_eq_true, decide_eq_true_eq]
theorem lt2_no {a b : Eo} : lt2 a b = false ↔ ¬ (a.1 < b.1 ∨ (a.1 = b.1 ∧ a.2 < b.2)) := by
 rw [← lt2_iff, Bool.not_eq_true]
def SrtE (E : List Eo) : Prop := E.Pairwise fun x y => lt2 x y = true
def cntE (E : List Eo) (q : Eo) : Nat := E.countP fun e => lt2 e q
theorem e_split : ∀ {E : List Eo}, SrtE E → ∀ q : Eo, ∃ A B, E = A ++ B ∧ (∀ x ∈ A, lt2 x q = true) ∧ (∀ x ∈ B, lt2 x q = false)
 | [], _, q => ⟨[], [], rfl, (fun x h => by simp at h), (fun x h => by simp at h)⟩
 | x :: r, h, q => by
  have hp := List.pairwise_cons.1 h
  cases hx : lt2 x q with
  | true =>
   obtain ⟨A, B, h1, h2, h3⟩ := e_split hp.2 q
   refine ⟨x :: A, B, by rw [h1]; rfl, fun y hy => ?_, h3⟩
   rcases List.mem_cons.1 hy with rfl | hy
   ·exact hx
   ·exact h2 y hy
  | false =>
   refine ⟨[], x :: r, rfl, (fun y h => by simp at h), fun y hy => ?_⟩
   rcases List.mem_cons.1 hy with rfl | hy
   ·exact hx
   ·have h1 := lt2_iff.1 (hp.1 y hy)
    rw [lt2_no] at hx ⊢
    omega
theorem cnt_is {A B : List Eo} {q : Eo} (hA : ∀ e ∈ A, lt2 e q = true) (hB : ∀ e ∈ B, lt2 e q = false) : cntE (A ++ B) q = A.length := by
 unfold cntE
 rw [List.countP_append, List.countP_eq_length.2 (fun e he => hA e he), List.countP_eq_zero.2 (fun e he => by rw [hB e he]; exact Bool.false_ne_true)]
 rfl
theorem cnt_le (E : List Eo) (q : Eo) : cntE E q ≤ E.length := List.countP_le_length
theorem lt2_tot {a b : Eo} (h : lt2 a b = false) (hn : a ≠ b) : lt2 b a = true := by
 rw [lt2_no] at h
 rw [lt2_iff]
 have : ¬ (a.1 = b.1 ∧ a.2 = b.2) := fun e => hn (Prod.ext e.1 e.2)
 omega
theorem lt2_irr (a : Eo) : lt2 a a = false := by rw [lt2_no]; omega
theorem lt2_tr {a b c : Eo} (h : lt2 a b = true) (g : lt2 b c = true) : lt2 a c = true := by
 rw [lt2_iff] at h g ⊢
 omega
theorem ins_e {E : List Eo} (h : SrtE E) {q : Eo} (hq : q ∉ E) : SrtE (E.take (cntE E q) ++ q :: E.drop (cntE E q)) ∧ (E.take (cntE E q) ++ q :: E.drop (cntE E q)).Perm (q :: E) := by
 obtain ⟨A, B, rfl, hA, hB⟩ := e_split h q
 have hp := List.pairwise_append.1 h
 rw [cnt_is hA hB, List.take_left, List.drop_left]
 have hB2 : ∀ x ∈ B, lt2 q x = true := fun x hx => lt2_tot (hB x hx) fun e => hq (by rw [← e]; exact List.mem_append.2 (.inr hx))
 refine ⟨List.pairwise_append.2 ⟨hp.1, List.pairwise_cons.2 ⟨hB2, hp.2.1⟩, fun a ha b hb => ?_⟩, List.perm_middle⟩
 rcases List.mem_cons.1 hb with rfl | hb
 ·exact hA a ha
 ·exact hp.2.2 a ha b hb
theorem del_e {E : List Eo} (h : SrtE E) {q : Eo} (hq : q ∈ E) : cntE E q < E.length ∧ SrtE (E.take (cntE E q) ++ E.drop (cntE E q + 1)) ∧ E.Perm (q :: (E.take (cntE E q) ++ E.drop (cntE E q + 1))) := by
 obtain ⟨A, B, rfl, hA, hB⟩ := e_split h q
 have hp := List.pairwise_append.1 h
 have hqB : q ∈ B := (List.mem_append.1 hq).elim (fun h1 => by have := hA q h1; rw [lt2_irr] at this; cases this) id
 obtain ⟨B2, rfl⟩ : ∃ B2, B = q :: B2 := by
  cases B with
  | nil => simp at hqB
  | cons y r =>
   have hc := List.pairwise_cons.1 hp.2.1
   rcases List.mem_cons.1 hqB with rfl | h1
   ·exact ⟨r, rfl⟩
   ·have h2 := hc.1 q h1
    rw [hB y (by simp)] at h2
    cases h2
 rw [cnt_is hA hB, List.take_left, List.drop_append, List.drop_of_length_le (by omega), Nat.add_sub_cancel_left]
 refine ⟨by simp, ?_, ?_⟩
 ·exact List.pairwise_append.2 ⟨hp.1, (List.pairwise_cons.1 hp.2.1).2, fun a ha b hb => hp.2.2 a ha b (by simp at hb; simp [hb])⟩
 ·exact List.perm_middle
/-- A list of the program stands for the elements by a measure. -/
def LsE (E : List Eo) (m : List Wt) (p : Wt → Int) : Prop := SrtE E ∧ E.Perm (m.map fun x => (p x, x.1))
theorem LsE.nil (p : Wt → Int) : LsE [] [] p := ⟨List.Pairwise.nil, List.Perm.refl _⟩
theorem LsE.len {E : List Eo} {m : List Wt} {p : Wt → Int} (h : LsE E m p) : E.length = m.length := by rw [h.2.length_eq, List.length_map]
theorem LsE.mem {E : List Eo} {m : List Wt} {p : Wt → Int} (h : LsE E m p) {e : Eo} : e ∈ E ↔ ∃ x ∈ m, (p x, x.1) = e := by rw [h.2.mem_iff, List.mem_map]
theorem LsE.add {E : List Eo} {m m2 : List Wt} {p : Wt → Int} (h : LsE E m p) {z : Wt} (hn : hasW m z.1 = false) (ha : AddO m m2 z) : LsE (E.take (cntE E (p z, z.1)) ++ (p z, z.1) :: E.drop (cntE E (p z, z.1))) m2 p := by
 have hq : (p z, z.1) ∉ E := fun hm => by
  obtain ⟨x, hx, e⟩ := h.mem.1 hm
  rw [has_iff.2 ⟨x, hx, congrArg Prod.snd e⟩] at hn
  cases hn
 obtain ⟨h1, h2⟩ := ins_e h.1 hq
 exact ⟨h1, h2.trans ((h.2.cons _).trans (ha.prm.map fun x => (p x, x.1)).symm)⟩
theorem LsE.rem {E : List Eo} {m m2 : List Wt} {p : Wt → Int} (h : LsE E m p) {k : Int} {x : Wt} (hx : x.1 = k) (hm : m.Perm (x :: m2)) : cntE E (p x, k) < E.length ∧ LsE (E.take (cntE E (p x, k)) ++ E.drop (cntE E (p x, k) + 1)) m2 p := by
 subst hx
 have hq : (p x, x.1) ∈ E := h.mem.2 ⟨x, hm.mem_iff.2 (by simp), rfl⟩
 obtain ⟨h0, h1, h2⟩ := del_e h.1 hq
 exact ⟨h0, h1, List.Perm.cons_inv (h2.symm.trans (h.2.trans (hm.map fun x => (p x, x.1))))⟩
/-- What the program finds in a list: a beginning. -/
def longB (since now lim : Int) : Bool := decide (since < now ∧ lim < now - since)
def expL (E : List Eo) (lim now : Int) : List Int := if lim ≤ 0 then [] else (E.takeWhile fun e => longB e.1 now lim).map fun e => e.2
theorem take_filter {p : Eo → Bool} : ∀ {E : List Eo}, E.Pairwise (fun x y => p y = true → p x = true) → E.takeWhile p = E.filter p
 | [], _ => rfl
 | x :: r, h => by
  have hp := List.pairwise_cons.1 h
  cases hx : p x with
  | true => rw [List.takeWhile_cons_of_pos hx, List.filter_cons_of_pos hx, take_filter hp.2]
  | false =>
   rw [List.takeWhile_cons_of_neg (by rw [hx]; exact Bool.false_ne_true), List.filter_cons_of_neg (by rw [hx]; exact Bool.false_ne_true), List.filter_eq_nil_iff.2]
   exact fun y hy h1 => by rw [hp.1 y hy h1] at hx; cases hx
theorem expL_mem {E : List Eo} {m : List Wt} {p : Wt → Int} (h : LsE E m p) {lim now k : Int} : k ∈ expL E lim now ↔ ∃ x ∈ m, late now (p x) lim = true ∧ x.1 = k := by
 have hw : E.takeWhile (fun e => longB e.1 now lim) = E.filter fun e => longB e.1 now lim := take_filter (h.1.imp fun {a b} hab hb => by
  have h1 := lt2_iff.1 hab
  have h2 := of_decide_eq_true hb
  exact decide_eq_true (by omega))
 unfold expL
 rw [hw]
 by_cases hl : lim ≤ 0
 ·rw [if_pos hl]
  refine ⟨fun h1 => by simp at h1, ?_⟩
  rintro ⟨x, -, h1, -⟩
  have := of_decide_eq_true h1
  omega
 ·rw [if_neg hl, List.mem_map]
  constructor
  ·rintro ⟨e, he, rfl⟩
   obtain ⟨h1, h2⟩ := List.mem_filter.1 he
   obtain ⟨x, hx, rfl⟩ := h.mem.1 h1
   have := of_decide_eq_true h2
   exact ⟨x, hx, decide_eq_true ⟨by omega, this⟩, rfl⟩
  ·rintro ⟨x, hx, h1, rfl⟩
   have := of_decide_eq_true h1
   exact ⟨(p x, x.1), List.mem_filter.2 ⟨h.mem.2 ⟨x, hx, rfl⟩, decide_eq_true ⟨this.2.1, this.2.2⟩⟩, rfl⟩
theorem expL_len (E : List Eo) (lim now : Int) : (expL E lim now).length ≤ E.length := by
 unfold expL
 split
 ·exact Nat.zero_le _
 ·rw [List.length_map]; exact (List.takeWhile_prefix _).length_le
theorem expW_mem {m : List Wt} {bl sp h t k : Int} : k ∈ expW m bl sp h t ↔ ∃ x ∈ m, (late h x.2.1 bl = true ∨ late t x.2.2 sp = true) ∧ x.1 = k := by
 unfold expW
 rw [List.mem_map]
 constructor
 ·rintro ⟨x, hx, rfl⟩
  obtain ⟨h1, h2⟩ := List.mem_filter.1 hx
  exact ⟨x, h1, by unfold expB at h2; rwa [Bool.or_eq_true] at h2, rfl⟩
 ·rintro ⟨x, hx, h1, rfl⟩
  exact ⟨x, List.mem_filter.2 ⟨hx, by unfold expB; rwa [Bool.or_eq_true]⟩, rfl⟩
theorem expW_srt {m : List Wt} (hm : SrtW m) (bl sp h t : Int) : (expW m bl sp h t).Pairwise (· < ·) := by
 unfold expW
 rw [List.pairwise_map]
 exact hm.filter _
theorem expW_len (m : List Wt) (bl sp h t : Int) : (expW m bl sp h t).length ≤ m.length := by
 unfold expW
 rw [List.length_map]
 exact List.length_filter_le _ _
/-- Two ascending lists of the same numbers are one. -/
theorem asc_uniq : ∀ {A B : List Int}, A.Pairwise (· < ·) → B.Pairwise (· < ·) → (∀ k, k ∈ A ↔ k ∈ B) → A = B
 | [], [], _, _, _ => rfl
 | [], y :: r, _, _, h => by have := (h y).2 (by simp); simp at this
 | x :: q, [], _, _, h => by have := (h x).1 (by simp); simp at this
 | x :: q, y :: r, hA, hB, h => by
  have pA := List.pairwise_cons.1 hA
  have pB := List.pairwise_cons.1 hB
  have e : x = y := by
   rcases List.mem_cons.1 ((h x).1 (by simp)) with h1 | h1
   ·exact h1
   ·rcases List.mem_cons.1 ((h y).2 (by simp)) with h2 | h2
    ·exact h2.symm
    ·have := pB.1 x h1; have := pA.1 y h2; omega
  subst e
  rw [asc_uniq pA.2 pB.2 fun k => ?_]
  constructor
  ·intro hk
   rcases List.mem_cons.1 ((h k).1 (by simp [hk])) with h1 | h1
   ·have := pA.1 k hk; omega
   ·exact h1
  ·intro hk
   rcases List.mem_cons.1 ((h k).2 (by simp [hk])) with h1 | h1
   ·have := pB.1 k hk; omega
   ·exact h1
/-- The two beginnings, sorted and without repetitions, are what has expired. -/
theorem exp_both {EH ET : List Eo} {m : List Wt} (hH : LsE EH m fun x => x.2.1) (hT : LsE ET m fun x => x.2.2) (hm : SrtW m) {bl sp h t : Int} {R : List Int} (hR : R.Pairwise (· < ·)) (hmem : ∀ k, k ∈ R ↔ k ∈ expL EH bl h ++ expL ET sp t) : R = expW m bl sp h t :=
 asc_uniq hR (expW_srt hm bl sp h t) fun k => by
  rw [hmem, List.mem_append, expL_mem hH, expL_mem hT, expW_mem]
  constructor
  ·rintro (⟨x, h1, h2, h3⟩ | ⟨x, h1, h2, h3⟩)
   ·exact ⟨x, h1, .inl h2, h3⟩
   ·exact ⟨x, h1, .inr h2, h3⟩
  ·rintro ⟨x, h1, h2 | h2, h3⟩
   ·exact .inl ⟨x, h1, h2, h3⟩
   ·exact .inr ⟨x, h1, h2, h3⟩
/-- What has expired stays expired. -/
theorem exp_stays {m : List Wt} {bl sp h t h2 t2 : Int} (hh : h ≤ h2) (ht : t ≤ t2) {k : Int} (hk : k ∈ expW m bl sp h t) : k ∈ expW m bl sp h2 t2 := by
 obtain ⟨x, h1, h3, h4⟩ := expW_mem.1 hk
 refine expW_mem.2 ⟨x, h1, h3.imp (fun h5 => ?_) (fun h5 => ?_), h4⟩
 ·have := of_decide_eq_true h5; exact decide_eq_true (by omega)
 ·have := of_decide_eq_true h5; exact decide_eq_true (by omega)
end Go.Proofs.Ytdjphghoollejaa
