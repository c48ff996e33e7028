/-
 The program's words: contract.
-/
import Derived.Test.YtplfineaomneiaaDoorXI
import Derived.Test.YtplfineaomneiaaDoorRO
import Derived.Lib.OthersKept
namespace Go.Proofs.YtplfineaomneiaaDoor
attribute [local irreducible] wpList wpQuiet
open Go.RowKit
set_option maxRecDepth 100000
set_option linter.unusedSimpArgs false
set_option linter.unusedVariables false

theorem runK_hash (A B : List Int) {i : Nat} (hi : i < A.length) : runK (A ++ 35 :: B) i = runK A i := by
 have hf : ∀ j, fol (A ++ 35 :: B) j = fol A j ∨ A.length < j := fun j => by
  rcases Nat.lt_trichotomy j A.length with h | h | h
  ·left
   unfold fol
   rw [getD_left _ _ h, List.length_append]
   congr 1
   exact decide_eq_decide.2 (by omega)
  ·left
   subst h
   have e : (A ++ 35 :: B).getD A.length 0 = 35 := by have := getD_right A (35 :: B) 0; rw [Nat.add_zero] at this; exact this
   unfold fol
   rw [e, decide_eq_false (Nat.lt_irrefl _), show decide ((128 : Int) ≤ 35) = false from rfl]
   simp
  ·right; exact h
 have h0 := getD_left A (35 :: B) hi
 have hA : ∀ j, A.length ≤ j → fol A j = false := fun j hj => by unfold fol; rw [decide_eq_false (by omega)]; rfl
 have h10 : fol (A ++ 35 :: B) A.length = false := by
  rcases hf A.length with h | h
  ·rw [h]; exact hA _ (Nat.le_refl _)
  ·omega
 -- the bytes that are looked at
 have g1 : fol (A ++ 35 :: B) (i + 1) = fol A (i + 1) := (hf (i + 1)).resolve_right (by omega)
 unfold runK
 rw [h0, g1]
 by_cases c1 : i + 1 < A.length
 ·have g1b := getD_left A (35 :: B) c1
  have g2 : fol (A ++ 35 :: B) (i + 2) = fol A (i + 2) := (hf (i + 2)).resolve_right (by omega)
  rw [g1b, g2]
  by_cases c2 : i + 2 < A.length
  ·rw [(hf (i + 3)).resolve_right (by omega)]
  ·have e2 : fol A (i + 2) = false := hA _ (by omega)
   rw [e2]
   unfold runN
   simp
 ·have e1 : fol A (i + 1) = false := hA _ (by omega)
  rw [e1]
  unfold runN
  simp
/-- A line up to its first '#'. -/
def CutOk (L M : List Int) : Prop := (∀ x ∈ M, x ≠ 35) ∧ (L = M ∨ ∃ B, L = M ++ 35 :: B)
theorem nums_mk (l : List UInt8) : nums ⟨l.toArray⟩ = l.map fun b => (b.toNat : Int) := rfl
theorem cut_ok (s : ByteArray) : CutOk (nums s) (nums ⟨(Lib.cut s.data.toList [35]).1.toArray⟩) := by
 show CutOk (s.data.toList.map fun b => (b.toNat : Int)) ((Lib.cut s.data.toList [35]).1.map fun b => (b.toNat : Int))
 generalize s.data.toList = l
 have hb : ∀ b : UInt8, ((b.toNat : Int) = 35) → b = 35 := fun b h => UInt8.toNat_inj.1 (by show b.toNat = 35; omega)
 unfold Lib.cut
 rw [Lib.index_one]
 by_cases h0 : 0 ≤ Lib.indexByte l 35
 ·rw [if_pos h0]
  obtain ⟨o, ho⟩ : ∃ o : Nat, Lib.indexByte l 35 = o := ⟨(Lib.indexByte l 35).toNat, by omega⟩
  obtain ⟨h1, h2⟩ := Lib.indexByte_some ho
  rw [ho]
  show CutOk _ ((l.take o).map _)
  have hlt : o < l.length := (List.getElem?_eq_some_iff.1 h1).1
  refine ⟨fun x hx => ?_, .inr ⟨(l.drop (o + 1)).map fun b => (b.toNat : Int), ?_⟩⟩
  ·obtain ⟨b, hb1, rfl⟩ := List.mem_map.1 hx
   intro e
   have e2 := hb b e
   subst e2
   obtain ⟨k, hk, hk2⟩ := List.getElem_of_mem hb1
   rw [List.length_take] at hk
   refine h2 k (by omega) ?_
   rw [List.getElem?_eq_getElem (by omega), ← hk2, List.getElem_take]
  ·have e : l = l.take o ++ 35 :: l.drop (o + 1) := by
    conv => lhs; rw [← List.take_append_drop o l, List.drop_eq_getElem_cons hlt]
    rw [List.getElem?_eq_getElem hlt] at h1
    rw [Option.some.inj h1]
   conv => lhs; rw [e]
   rw [List.map_append, List.map_cons]
   rfl
 ·rw [if_neg h0]
  have h1 : Lib.indexByte l 35 = -1 := by have := Lib.indexByte_ge l 35; omega
  have h2 := Lib.indexByte_none h1
  refine ⟨fun x hx => ?_, .inl rfl⟩
  obtain ⟨b, hb1, rfl⟩ := List.mem_map.1 hx
  intro e
  have e2 := hb b e
  subst e2
  obtain ⟨k, hk, hk2⟩ := List.getElem_of_mem hb1
  exact h2 k (by rw [List.getElem?_eq_getElem hk, hk2])
section
variable {L M : List Int} {i : Nat}
theorem CutOk.len (h : CutOk L M) : M.length ≤ L.length := by
 rcases h.2 with rfl | ⟨B, rfl⟩
 ·exact Nat.le_refl _
 ·rw [List.length_append]; omega
theorem CutOk.run (h : CutOk L M) (hi : i < M.length) : runK L i = runK M i := by
 rcases h.2 with rfl | ⟨B, rfl⟩
 ·rfl
 ·exact runK_hash M B hi
theorem CutOk.part (h : CutOk L M) (hi : i < M.length) : (L.drop i).take (runK M i) = (M.drop i).take (runK M i) := by
 rcases h.2 with rfl | ⟨B, rfl⟩
 ·rfl
 ·have := run_len hi
  rw [List.drop_append_of_le_length (by omega), List.take_append_of_le_length (by rw [List.length_drop]; omega)]
theorem CutOk.no (h : CutOk L M) (hi : i < M.length) : (M.drop i).take (runK M i) ≠ [35] := fun e => by
 have h1 : (35 : Int) ∈ (M.drop i).take (runK M i) := by rw [e]; exact List.mem_singleton.2 rfl
 exact h.1 35 (List.mem_of_mem_drop (List.mem_of_mem_take h1)) rfl
theorem CutOk.fin (h : CutOk L M) (w : List Int) : wrd L M.length w = if w = [] then [] else [w] := by
 rcases h.2 with rfl | ⟨B, rfl⟩
 ·exact wrd_end (Nat.lt_irrefl _) w
 ·have hg : (M ++ 35 :: B).getD M.length 0 = 35 := by have := getD_right M (35 :: B) 0; rw [Nat.add_zero] at this; exact this
  have hk : runK (M ++ 35 :: B) M.length = 1 := by
   unfold runK runN
   rw [hg, if_pos (by decide)]
  rw [wrd_step (by rw [List.length_append, List.length_cons]; omega) (by rw [hk]; decide), hk, List.drop_left, if_pos (by rfl)]
/-- A rune is a space just where its bytes are. -/
theorem sp_rune (hi : i < M.length) (hk : runK M i ≠ 0) (hM : ∀ x ∈ M, W8 x) : spR (runV M i) = spL ((M.drop i).take (runK M i)) := by
 have hlen := run_len hi
 have hle := run_le M i
 have hg : ∀ j, j < runK M i → ((M.drop i).take (runK M i)).getD j 0 = M.getD (i + j) 0 := fun j hj => by
  simp only [List.getD_eq_getElem?_getD, List.getElem?_take, List.getElem?_drop, if_pos hj]
 have hl : ((M.drop i).take (runK M i)).length = runK M i := by rw [List.length_take, List.length_drop]; omega
 have h8 : ∀ j, j < M.length → 0 ≤ M.getD j 0 ∧ M.getD j 0 ≤ 255 := fun j hj => by
  have := hM (M.getD j 0) (by rw [List.getD_eq_getElem?_getD, List.getElem?_eq_getElem hj]; exact List.getElem_mem _)
  exact ⟨this.1, by have := this.2; omega⟩
 have h0 := h8 i hi
 have f1 := @fol_rng M (i + 1)
 have f2 := @fol_rng M (i + 2)
 have f3 := @fol_rng M (i + 3)
 have hcase : (runK M i = 1 ∧ M.getD i 0 < 128) ∨ (runK M i = 2 ∧ 194 ≤ M.getD i 0 ∧ M.getD i 0 < 224 ∧ fol M (i + 1) = true) ∨ (runK M i = 3 ∧ 224 ≤ M.getD i 0 ∧ M.getD i 0 < 240 ∧ fol M (i + 1) = true ∧ fol M (i + 2) = true ∧ ¬ (M.getD i 0 = 224 ∧ M.getD (i + 1) 0 < 160)) ∨ (runK M i = 4 ∧ 240 ≤ M.getD i 0 ∧ ¬ (M.getD i 0 = 240 ∧ M.getD (i + 1) 0 < 144) ∧ fol M (i + 1) = true ∧ fol M (i + 2) = true ∧ fol M (i + 3) = true) := by
  unfold runK runN at hk ⊢
  by_cases a1 : M.getD i 0 < 128
  ·rw [if_pos a1]; exact .inl ⟨rfl, a1⟩
  ·rw [if_neg a1] at hk ⊢
   by_cases a2 : (194 ≤ M.getD i 0 ∧ M.getD i 0 < 224) ∧ fol M (i + 1) = true
   ·rw [if_pos a2]; exact .inr (.inl ⟨rfl, a2.1.1, a2.1.2, a2.2⟩)
   ·rw [if_neg a2] at hk ⊢
    by_cases a3 : ((224 ≤ M.getD i 0 ∧ M.getD i 0 < 240) ∧ fol M (i + 1) = true) ∧ fol M (i + 2) = true
    ·rw [if_pos a3] at hk ⊢
     split at hk
     ·exact absurd rfl hk
     ·rename_i h9; rw [if_neg h9]; exact .inr (.inr (.inl ⟨rfl, a3.1.1.1, a3.1.1.2, a3.1.2, a3.2, fun q => h9 (.inl q)⟩))
    ·rw [if_neg a3] at hk ⊢
     split at hk
     ·rename_i a4
      rw [if_pos a4]
      split at hk
      ·exact absurd rfl hk
      ·rename_i h9; rw [if_neg h9]; exact .inr (.inr (.inr ⟨rfl, a4.1.1.1.1, fun q => h9 (.inl q), a4.1.1.2, a4.1.2, a4.2⟩))
     ·exact absurd rfl hk
 unfold runV
 generalize hr : (M.drop i).take (runK M i) = r at *
 generalize runK M i = k at *
 rcases hcase with ⟨rfl, hb⟩ | ⟨rfl, hb1, hb2, hf⟩ | ⟨rfl, hb1, hb2, hf, hf2, hov⟩ | ⟨rfl, hb1, hov, hf, hf2, hf3⟩
 ·have g0 := hg 0 (by omega)
  match r, hl with
  | [x0], _ =>
   have e0 : x0 = M.getD i 0 := g0
   rw [← e0] at hb ⊢
   clear hg g0 e0 hr f1 f2 f3 h0
   rw [Bool.eq_iff_iff]
   simp [valN, spR, spL]
   omega
 ·obtain ⟨-, p1, p2⟩ := f1 hf
  have g0 := hg 0 (by omega)
  have g1 := hg 1 (by omega)
  match r, hl with
  | [x0, x1], _ =>
   have e0 : x0 = M.getD i 0 := g0
   have e1 : x1 = M.getD (i + 1) 0 := g1
   rw [← e0] at hb1 hb2 ⊢
   rw [← e1] at p1 p2 ⊢
   clear hg g0 g1 e0 e1 hr f1 f2 f3 h0 hf
   rw [Bool.eq_iff_iff]
   simp [valN, spR, spL]
   omega
 ·obtain ⟨-, p1, p2⟩ := f1 hf
  obtain ⟨-, q1, q2⟩ := f2 hf2
  have g0 := hg 0 (by omega)
  have g1 := hg 1 (by omega)
  have g2 := hg 2 (by omega)
  match r, hl with
  | [x0, x1, x2], _ =>
   have e0 : x0 = M.getD i 0 := g0
   have e1 : x1 = M.getD (i + 1) 0 := g1
   have e2 : x2 = M.getD (i + 2) 0 := g2
   rw [← e0] at hb1 hb2 ⊢
   rw [← e0, ← e1] at hov
   rw [← e1] at p1 p2 ⊢
   rw [← e2] at q1 q2 ⊢
   clear hg g0 g1 g2 e0 e1 e2 hr f1 f2 f3 h0 hf hf2
   rw [Bool.eq_iff_iff]
   simp [valN, spR, spL]
   omega
 ·obtain ⟨-, p1, p2⟩ := f1 hf
  obtain ⟨-, q1, q2⟩ := f2 hf2
  obtain ⟨-, t1, t2⟩ := f3 hf3
  have g0 := hg 0 (by omega)
  match r, hl with
  | [x0, x1, x2, x3], _ =>
   have e0 : x0 = M.getD i 0 := g0
   rw [← e0] at hb1 hov ⊢
   clear hg g0 e0 hr h0 hf hf2 hf3 f1 f2 f3 h8
   generalize M.getD (i + 1) 0 = y1 at *
   generalize M.getD (i + 2) 0 = y2 at *
   generalize M.getD (i + 3) 0 = y3 at *
   rw [Bool.eq_iff_iff]
   simp [valN, spR, spL]
   omega
/-- So far the words are known: from a place of the cut line on, behind a word that has begun, or none. -/
def curL (M : List Int) (st : Option Nat) (i : Nat) : List Int := match st with
 | none => []
 | some a => (M.drop a).take (i - a)
def WdJ (L M : List Int) (i : Nat) (st : Option Nat) (S : List ByteArray) : Prop := i ≤ M.length ∧ S.length ≤ i ∧ (∀ a, st = some a → a < i) ∧ runs L i ≠ none ∧ wrd L 0 [] = S.map nums ++ wrd L i (curL M st i)
theorem WdJ.zero (h : runs L 0 ≠ none) : WdJ L M 0 none [] := ⟨Nat.zero_le _, Nat.le_refl _, fun a e => (by cases e), h, rfl⟩
theorem cur_ext {a : Nat} (h : a ≤ i) (k : Nat) : (M.drop a).take (i - a) ++ (M.drop i).take k = (M.drop a).take (i + k - a) := by
 rw [show i + k - a = (i - a) + k by omega, List.take_add]
 congr 1
 rw [List.drop_drop, show a + (i - a) = i by omega]
theorem cur_ne {a : Nat} (h : a < i) (hi : i ≤ M.length) : (M.drop a).take (i - a) ≠ [] := fun e => by
 have := congrArg List.length e
 rw [List.length_take, List.length_drop] at this
 simp only [List.length_nil] at this
 omega
variable {st : Option Nat} {S : List ByteArray}
theorem WdJ.run (h : WdJ L M i st S) (hc : CutOk L M) (hi : i < M.length) : runK M i ≠ 0 ∧ runs L (i + runK M i) ≠ none := by
 have := runs_none (L := L) (by have := hc.len; omega) h.2.2.2.1
 rwa [hc.run hi] at this
theorem WdJ.step (h : WdJ L M i st S) (hc : CutOk L M) (hi : i < M.length) : wrd L i (curL M st i) = if spL ((M.drop i).take (runK M i)) then (if curL M st i = [] then wrd L (i + runK M i) [] else curL M st i :: wrd L (i + runK M i) []) else wrd L (i + runK M i) (curL M st i ++ (M.drop i).take (runK M i)) := by
 rw [wrd_step (by have := hc.len; omega) (by rw [hc.run hi]; exact (h.run hc hi).1), hc.run hi, hc.part hi, if_neg (hc.no hi)]
theorem WdJ.begin (h : WdJ L M i none S) (hc : CutOk L M) (hi : i < M.length) (hs : spL ((M.drop i).take (runK M i)) = false) : WdJ L M (i + runK M i) (some i) S := by
 have h2 := run_len hi
 have h3 := h.run hc hi
 refine ⟨h2, by have := h.2.1; omega, fun a e => by cases e; omega, h3.2, ?_⟩
 rw [h.2.2.2.2, h.step hc hi, hs, if_neg (by decide)]
 show _ ++ wrd L _ ([] ++ _) = _ ++ wrd L _ ((M.drop i).take (i + runK M i - i))
 rw [List.nil_append, Nat.add_sub_cancel_left]
theorem WdJ.more {a : Nat} (h : WdJ L M i (some a) S) (hc : CutOk L M) (hi : i < M.length) (hs : spL ((M.drop i).take (runK M i)) = false) : WdJ L M (i + runK M i) (some a) S := by
 have h2 := run_len hi
 have h3 := h.run hc hi
 have h4 := h.2.2.1 a rfl
 refine ⟨h2, by have := h.2.1; omega, fun b e => by cases e; omega, h3.2, ?_⟩
 rw [h.2.2.2.2, h.step hc hi, hs, if_neg (by decide)]
 show _ ++ wrd L _ ((M.drop a).take (i - a) ++ _) = _
 rw [cur_ext (by omega)]
 rfl
theorem WdJ.sp0 (h : WdJ L M i none S) (hc : CutOk L M) (hi : i < M.length) (hs : spL ((M.drop i).take (runK M i)) = true) : WdJ L M (i + runK M i) none S := by
 have h2 := run_len hi
 have h3 := h.run hc hi
 refine ⟨h2, by have := h.2.1; omega, fun a e => (by cases e), h3.2, ?_⟩
 rw [h.2.2.2.2, h.step hc hi, hs, if_pos rfl, if_pos (show curL M none i = [] from rfl)]
 rfl
theorem WdJ.sp1 {a : Nat} {r : ByteArray} (h : WdJ L M i (some a) S) (hc : CutOk L M) (hi : i < M.length) (hs : spL ((M.drop i).take (runK M i)) = true) (hr : nums r = (M.drop a).take (i - a)) : WdJ L M (i + runK M i) none (S ++ [r]) := by
 have h2 := run_len hi
 have h3 := h.run hc hi
 have h4 := h.2.2.1 a rfl
 refine ⟨h2, by rw [List.length_append]; have := h.2.1; show _ + 1 ≤ _; omega, fun a e => (by cases e), h3.2, ?_⟩
 rw [h.2.2.2.2, h.step hc hi, hs, if_pos rfl, if_neg (show ¬ curL M (some a) i = [] from cur_ne h4 (by omega)), List.map_append, List.append_assoc]
 show _ ++ ((M.drop a).take (i - a) :: _) = _ ++ ([nums r] ++ _)
 rw [hr]
 rfl
theorem WdJ.no (h : WdJ L M i none S) (hc : CutOk L M) (hi : ¬ i < M.length) : S.map nums = wrd L 0 [] := by
 obtain rfl : i = M.length := by have := h.1; omega
 rw [h.2.2.2.2, hc.fin, if_pos (show curL M none M.length = [] from rfl), List.append_nil]
theorem WdJ.yes {a : Nat} {r : ByteArray} (h : WdJ L M i (some a) S) (hc : CutOk L M) (hi : ¬ i < M.length) (hr : nums r = (M.drop a).take (i - a)) : (S ++ [r]).map nums = wrd L 0 [] := by
 have h4 := h.2.2.1 a rfl
 obtain rfl : i = M.length := by have := h.1; omega
 rw [h.2.2.2.2, hc.fin, if_neg (show ¬ curL M (some a) M.length = [] from cur_ne h4 (by omega)), List.map_append]
 show _ ++ [nums r] = _ ++ [(M.drop a).take (M.length - a)]
 rw [hr]
end
def stI (st : Option Nat) : Int := match st with
 | none => -1
 | some a => (a : Int)
theorem row_iter {w : World} {B k : Nat} {v : Value} {S : List ByteArray} (h : RowS w B v S) (hk : k < B) (s : ByteArray) (p : Nat) : RowS (w.iterAt k s p) B v S :=
 own_but h ⟨Lib.below_iterAt (Below.refl k w) (Nat.le_refl k) s p, fun j _ hn => Lib.iterAt_other w k j s p hn⟩ hk
theorem ex_next2 {ρ : Operand → Value} {o : Oper} {x : Operand} (ho : o.op = .next x true) {w : World} {k : Nat} {s : ByteArray} {pos : Nat} (hit : w.heap[k]? = some (.stringIter s pos)) (h : pos < s.size) (hx : ρ x = .pointer (some ⟨k, 0, none⟩)) :
  (execOp ρ o).run Tryd.prog w = .ok (.value (.tuple #[.bool true, .int .i64 pos, .int .i32 (Utf8.decode s pos).1])) (w.iterAt k s (pos + (Utf8.decode s pos).2)) := by
 unfold execOp
 simp only [ho, hx, Sem.run_bind, Lib.run_next_any_at w k s pos _ hit h]
 rfl
theorem ex_over2 {ρ : Operand → Value} {o : Oper} {x : Operand} (ho : o.op = .next x true) {w : World} {k : Nat} {s : ByteArray} {pos : Nat} (hit : w.heap[k]? = some (.stringIter s pos)) (h : ¬ pos < s.size) (hx : ρ x = .pointer (some ⟨k, 0, none⟩)) :
  (execOp ρ o).run Tryd.prog w = .ok (.value (.tuple #[.bool false])) w := by
 unfold execOp
 simp only [ho, hx, Sem.run_bind, Lib.run_next_end_at w k s pos _ hit h]
 rfl
theorem from_s {ρ : Operand → Value} {o : Oper} {x y : Operand} (ho : o.op = .slice 9 x (some y) none none) (s : ByteArray) (i : Nat) (hi : i ≤ s.size) (hx : ρ x = .string s) (hy : ρ y = .int .i64 i) (w : World) : (execOp ρ o).run Tryd.prog w = .ok (.value (.string (s.extract i s.size))) w := by
 unfold execOp
 simp only [ho, hx, hy]
 go_simp
set_option maxRecDepth 100000 in
set_option maxHeartbeats 8000000 in
theorem p_words (s : ByteArray) (hl : s.size ≤ 90000) (hv : runs (nums s) 0 ≠ none) (w : World) (hG : Glob w) : Calls Tryd.prog 48 #[.string s] w (NsO w (wrd (nums s) 0 [])) := by
 obtain ⟨mm, hmm⟩ := hG.most
 have CC := strings_Cut s ⟨#[35]⟩ mm w (by omega) hmm
 have hck := cut_ok s
 have hcl := hck.len
 obtain ⟨t, ht⟩ : ∃ t : ByteArray, (⟨(Lib.cut s.data.toList [35]).1.toArray⟩ : ByteArray) = t := ⟨_, rfl⟩
 have ht2 : (⟨(Lib.cut s.data.toList (⟨#[35]⟩ : ByteArray).data.toList).1.toArray⟩ : ByteArray) = t := ht
 rw [ht2] at CC
 rw [ht] at hck hcl
 generalize (⟨(Lib.cut s.data.toList (⟨#[35]⟩ : ByteArray).data.toList).2.1.toArray⟩ : ByteArray) = t2 at *
 generalize (Lib.cut s.data.toList (⟨#[35]⟩ : ByteArray).data.toList).2.2 = tb at *
 have hn0 := nums_len t
 rw [nums_len s, hn0] at hcl
 have HM8 := Lib.hid (nums_byte t)
 have HDR : Hid (∀ i, (Utf8.decode t i).2 = (if runK (nums t) i = 0 then 1 else runK (nums t) i) ∧ ((Utf8.decode t i).1 : Int) = (if runK (nums t) i = 0 then 65533 else runV (nums t) i)) := Lib.hid fun i => dec_run t i
 have HSUB : Hid (∀ i j, nums (t.extract i j) = ((nums t).drop i).take (j - i)) := Lib.hid fun i j => nums_sub t i j
 have HZ := Lib.hid (WdJ.zero (M := nums t) hv)
 have HCK := Lib.hid hck
 obtain ⟨L, hL⟩ : ∃ L, nums s = L := ⟨_, rfl⟩
 rw [hL] at HZ HCK ⊢
 have HNO : Hid (∀ V v S i, Below w.heap.size w V → RowS V w.heap.size v S → WdJ L (nums t) i none S → ¬ i < (nums t).length → NsO w (wrd L 0 []) (.returned v) V) := Lib.hid fun V v S i hb hr h hi => ⟨v, S, rfl, hr, h.no HCK.out hi, hb⟩
 have HYES : Hid (∀ V v S i a r, Below w.heap.size w V → RowS V w.heap.size v (S ++ [r]) → WdJ L (nums t) i (some a) S → ¬ i < (nums t).length → nums r = ((nums t).drop a).take (i - a) → NsO w (wrd L 0 []) (.returned v) V) := Lib.hid fun V v S i a r hb hr h hi e => ⟨v, _, rfl, hr, h.yes HCK.out hi e, hb⟩
 obtain ⟨PO, hPO⟩ : ∃ PO, NsO w (wrd L 0 []) = PO := ⟨_, rfl⟩
 rw [hPO] at HNO HYES ⊢
 generalize nums t = M at *
 have HN : Hid (M.length = t.size ∧ t.size ≤ 90000) := Lib.hid ⟨hn0, by omega⟩
 clear hPO hv hck ht ht2 hL hn0 hcl hmm hG
 go_enter Tryd.func48, Tryd.ntmps48
 go_upto_region 1 with fail
 refine wl <| gz1 (.string s) <| gzc (.tuple #[.string t, .string t2, .bool tb]) (fun w' => ∃ n, w' = w.drewN n) CC (fun V1 hV1 => ?_)
 obtain ⟨nd, hnd⟩ := hV1
 have hbd : Below w.heap.size w V1 := by rw [hnd]; exact below_drewNv (Below.refl _ w) nd
 clear hnd CC
 simp only [pu]
 refine gz5 (.tuple #[.string t, .string t2, .bool tb]) (.string t) (.string t2) (.bool tb) (.string t) <| wn ?_
 simp only [pu]
 go_upto_region 2 with fail
 refine wl <| gz1 (.slice none 0 0) <| wn ?_
 simp only [pu]
 go_upto_region 3 with fail
 refine wl <| gz1 (.int .i64 (-1)) <| wn ?_
 simp only [pu]
 go_upto_region 4 with fail
 have hbi : Below V1.heap.size V1 (V1.iter t 0) := below_iter V1 t 0
 have hrn := fun (ρ : Operand → Value) (o : Oper) (x : Operand) ho hx => ex_range (ρ := ρ) (o := o) (x := x) ho V1 t hx
 have hit0 := World.iter_heap V1 t 0
 have hsz0 : (V1.iter t 0).heap.size = V1.heap.size + 1 := by simp [World.iter]
 generalize V1.iter t 0 = V2 at *
 obtain ⟨q, hq⟩ : ∃ q, V1.heap.size = q := ⟨_, rfl⟩
 rw [hq] at hrn hit0 hsz0
 have HB2 : Hid (Below w.heap.size w V2 ∧ w.heap.size ≤ q) := Lib.hid ⟨hbd.trans (hbi.mono hbd.size), by rw [← hq]; exact hbd.size⟩
 clear hbd hbi hq
 refine wl <| gz1 (.string t) ?_
 simp only [pu]
 refine gw_new (by kernel_rfl) (some 14) rfl (.pointer (some ⟨q, 0, none⟩)) V2 (hrn _ _ _ rfl (by kernel_rfl)) ?_
 simp only [pu]
 apply wpList_nil
 clear hrn
 go_wp2_with fail
 go_loopg [3, 4] t.size (fun gg s3 s4 wx => ∃ (i : Nat) (st : Option Nat) (v : Value) (S : List ByteArray), s4 = .int .i64 (stI st) ∧ s3 = v ∧ i ≤ t.size ∧ t.size - i ≤ gg ∧ Hid (WdJ L M i st S) ∧ Hid (wx.heap[q]? = some (.stringIter t i)) ∧ Hid (RowS wx (q + 1) v S ∧ Below w.heap.size w wx ∧ q + 1 ≤ wx.heap.size))
 case atStart => exact ⟨0, none, _, [], rfl, rfl, by omega, by omega, HZ, Lib.hid hit0, Lib.hid ⟨own_no _ _ _ _, HB2.out.1, by omega⟩⟩
 case round =>
  obtain ⟨i, st, v, S, hs4, hs3, hin, hg, HI, HIT, HP⟩ := hrel
  obtain rfl := hs4
  obtain rfl := hs3.symm
  clear HZ hs3 hit0 hsz0
  by_cases hlt : i < t.size
  ·skip
   have hiM : i < M.length := by rw [HN.out.1]; exact hlt
   obtain ⟨hk0, -⟩ := HI.out.run HCK.out hiM
   have hkl := run_len hiM
   rw [HN.out.1] at hkl
   have hsp := sp_rune hiM hk0 HM8.out
   obtain ⟨hd2, hd1⟩ := HDR.out i
   rw [if_neg hk0] at hd1 hd2
   have hnx := fun (ρ : Operand → Value) (o : Oper) (x : Operand) ho hx => ex_next2 (ρ := ρ) (o := o) (x := x) ho HIT.out hlt hx
   have hit2 := Lib.iterAt_heap wr q t i (i + (Utf8.decode t i).2) HIT.out
   have hrow2 := row_iter HP.out.1 (k := q) (by omega) t (i + (Utf8.decode t i).2)
   have hbe2 := Lib.below_iterAt HP.out.2.1 (k := q) HB2.out.2 t (i + (Utf8.decode t i).2)
   have hsz2 : q + 1 ≤ (wr.iterAt q t (i + (Utf8.decode t i).2)).heap.size := by rw [Lib.iterAt_size]; exact HP.out.2.2
   generalize wr.iterAt q t (i + (Utf8.decode t i).2) = V3 at *
   rw [hd2] at hit2
   obtain ⟨d1, hdq⟩ : ∃ d1 : Int, ((Utf8.decode t i).1 : Int) = d1 := ⟨_, rfl⟩
   rw [hdq] at hd1 hnx
   rw [hd1] at hnx
   have CS := p_space (runV M i) V3
   rw [hsp] at CS
   have HBG : Hid (∀ S, st = none → WdJ L M i st S → spL ((M.drop i).take (runK M i)) = false → WdJ L M (i + runK M i) (some i) S) := Lib.hid fun S e h hs => by subst e; exact h.begin HCK.out hiM hs
   have HMO : Hid (∀ a S, st = some a → WdJ L M i st S → spL ((M.drop i).take (runK M i)) = false → WdJ L M (i + runK M i) st S) := Lib.hid fun a S e h hs => by subst e; exact h.more HCK.out hiM hs
   have HS0 : Hid (∀ S, st = none → WdJ L M i st S → spL ((M.drop i).take (runK M i)) = true → WdJ L M (i + runK M i) st S) := Lib.hid fun S e h hs => by subst e; exact h.sp0 HCK.out hiM hs
   have HS1 : Hid (∀ a S, st = some a → WdJ L M i st S → spL ((M.drop i).take (runK M i)) = true → WdJ L M (i + runK M i) none (S ++ [t.extract a i])) := Lib.hid fun a S e h hs => by subst e; exact h.sp1 HCK.out hiM hs (HSUB.out a i)
   have HAI : Hid (∀ a, st = some a → a < i) := Lib.hid HI.out.2.2.1
   have HSL : Hid (S.length ≤ i ∧ i ≤ 90000) := Lib.hid ⟨HI.out.2.1, by have := HN.out.2; omega⟩
   clear hd1 hd2 hdq hsp hiM HP HIT
   generalize runK M i = k at *
   generalize spL ((M.drop i).take k) = qs at *
   generalize runV M i = d at *
   go_upto_region 5 with fail
   apply wp_region_lit
   refine gw_new (by kernel_rfl) (some 15) rfl (.tuple #[.bool true, .int .i64 i, .int .i32 d]) V3 (hnx _ _ _ rfl (by kernel_rfl)) ?_
   simp only [pu]
   refine gz1 (.bool true) <| wn ?_
   simp only [pu]
   clear hnx
   go_upto_region 6 with fail
   refine wl <| gz4 (.int .i64 i) (.int .i32 d) (.int .i64 i) (.int .i32 d) <| wn ?_
   simp only [pu]
   cases qs
   ·skip
    rcases st with _ | a
    ·skip
     have HIN : Hid (V3.heap[q]? = some (.stringIter t (i + k))) := Lib.hid hit2
     have HI2 := Lib.hid (HBG.out S rfl HI.out rfl)
     go_upto_region 7 with fail
     refine wl <| gz1 (.int .i32 d) <| gzc (.bool false) (fun w' => V3 = w') (CS) (fun V9 hV9 => ?_)
     subst hV9
     simp only [pu]
     refine gz3 (.bool true) (.bool true) (.int .i64 (-1)) <| gzb (lss_n rfl (-1) 0 dT) <| gz2 (.bool true) (.bool true) <| wn ?_
     simp only [pu]
     have HP2 := Lib.hid (And.intro hrow2 (And.intro hbe2 hsz2))
     clear CS hrow2 hbe2 hsz2 hit2 HBG HMO HS0 HS1 HI HAI HSL
     go_upto_region 8 with fail
     refine wl <| gz2 (.int .i64 i) (.int .i64 i) <| wn ?_
     simp only [pu]
     go_wp2_with fail
     go_roundg (t.size - (i + k))
     case measure => omega
     case rel => exact ⟨i + k, some i, v, S, rfl, rfl, by omega, by omega, HI2, HIN, HP2⟩
    ·skip
     have HIN : Hid (V3.heap[q]? = some (.stringIter t (i + k))) := Lib.hid hit2
     have HI2 := Lib.hid (HMO.out a S rfl HI.out rfl)
     go_upto_region 7 with fail
     refine wl <| gz1 (.int .i32 d) <| gzc (.bool false) (fun w' => V3 = w') (CS) (fun V9 hV9 => ?_)
     subst hV9
     simp only [pu]
     refine gz3 (.bool true) (.bool true) (.int .i64 (a : Nat)) <| gzb (lss_n rfl (a : Nat) 0 dF) <| gz2 (.bool false) (.bool false) <| wn ?_
     simp only [pu]
     go_upto_region 9 with fail
     refine wl <| gz1 (.int .i32 d) <| gzc (.bool false) (fun w' => V3 = w') (CS) (fun V9 hV9 => ?_)
     subst hV9
     simp only [pu]
     refine gz5 (.bool false) undef undef (.bool false) (.bool false) <| wn ?_
     simp only [pu]
     have HP2 := Lib.hid (And.intro hrow2 (And.intro hbe2 hsz2))
     clear CS hrow2 hbe2 hsz2 hit2 HBG HMO HS0 HS1 HI HAI HSL
     go_wp2_with fail
     go_roundg (t.size - (i + k))
     case measure => omega
     case rel => exact ⟨i + k, some a, v, S, rfl, rfl, by omega, by omega, HI2, HIN, HP2⟩
   ·skip
    rcases st with _ | a
    ·skip
     have HIN : Hid (V3.heap[q]? = some (.stringIter t (i + k))) := Lib.hid hit2
     have HI2 := Lib.hid (HS0.out S rfl HI.out rfl)
     go_upto_region 7 with fail
     refine wl <| gz1 (.int .i32 d) <| gzc (.bool true) (fun w' => V3 = w') (CS) (fun V9 hV9 => ?_)
     subst hV9
     simp only [pu]
     refine gz6 (.bool false) (.bool false) undef undef (.bool false) (.bool false) <| wn ?_
     simp only [pu]
     go_upto_region 9 with fail
     refine wl <| gz1 (.int .i32 d) <| gzc (.bool true) (fun w' => V3 = w') (CS) (fun V9 hV9 => ?_)
     subst hV9
     simp only [pu]
     refine gz2 (.bool true) (.int .i64 (-1)) <| gzb (geq_n rfl (-1) 0 dF) <| gz2 (.bool false) (.bool false) <| wn ?_
     simp only [pu]
     have HP2 := Lib.hid (And.intro hrow2 (And.intro hbe2 hsz2))
     clear CS hrow2 hbe2 hsz2 hit2 HBG HMO HS0 HS1 HI HAI HSL
     go_wp2_with fail
     go_roundg (t.size - (i + k))
     case measure => omega
     case rel => exact ⟨i + k, none, v, S, rfl, rfl, by omega, by omega, HI2, HIN, HP2⟩
    ·skip
     have HIN : Hid (V3.heap[q]? = some (.stringIter t (i + k))) := Lib.hid hit2
     have HI2 := Lib.hid (HS1.out a S rfl HI.out rfl)
     have hai : a ≤ i := Nat.le_of_lt (HAI.out a rfl)
     go_upto_region 7 with fail
     refine wl <| gz1 (.int .i32 d) <| gzc (.bool true) (fun w' => V3 = w') (CS) (fun V9 hV9 => ?_)
     subst hV9
     simp only [pu]
     refine gz6 (.bool false) (.bool false) undef undef (.bool false) (.bool false) <| wn ?_
     simp only [pu]
     go_upto_region 9 with fail
     refine wl <| gz1 (.int .i32 d) <| gzc (.bool true) (fun w' => V3 = w') (CS) (fun V9 hV9 => ?_)
     subst hV9
     simp only [pu]
     refine gz2 (.bool true) (.int .i64 (a : Nat)) <| gzb (geq_n rfl (a : Nat) 0 dT) <| gz2 (.bool true) (.bool true) <| wn ?_
     simp only [pu]
     go_upto_region 10 with fail
     obtain ⟨r, hr⟩ : ∃ r, t.extract a i = r := ⟨_, rfl⟩
     rw [hr] at HI2
     have hbA : Below V3.heap.size V3 (V3.alloc (.cells #[.string (r)] 9)) := (Below.refl _ V3).alloc (Nat.le_refl _) _
     have hXA : Bx (V3.alloc (.cells #[.string (r)] 9)) V3.heap.size #[.string (r)] 9 := heap_alloc_last V3 _
     obtain ⟨v6, W6, hap6, hrow6, hb6, -, -⟩ := app_str (RowS.below hrow2 hbA) (Nat.le_trans (hsz2) hbA.size) (some ⟨V3.heap.size, 0, none⟩) 1 1 [r] (Cs.block (cs := strs [r]) hXA) rfl (by have := HSL.out; omega) (by omega)
     have hbW6 : Below (q + 1) V3 W6 := (hbA.mono (hsz2)).trans hb6
     refine wl <| gz4 (v) (.string t) (.int .i64 (a : Nat)) (.int .i64 i) <| gzv (.string r) ((by rw [← hr]; exact sub_s rfl t a i hai (by omega) (by kernel_rfl) (by kernel_rfl) (by kernel_rfl) _)) ?_
     simp only [pu]
     refine gw_build (by kernel_rfl) (some 40) rfl 39 1 #[(0, .tmp 39)] rfl #[(0, .string (r))] (by kernel_rfl) (.slice (some ⟨V3.heap.size, 0, none⟩) 1 1) _ (one_str (r) V3) ?_
     simp only [pu]
     refine append_step rfl (some 41) rfl 39 rfl (.tmp 35) (.tmp 40) 39 rfl (v) (.slice (some ⟨V3.heap.size, 0, none⟩) 1 1) (v6) W6 (by kernel_rfl) (by kernel_rfl) hap6 ?_
     simp only [pu]
     refine gz2 (v6) (.int .i64 (-1)) <| wn ?_
     simp only [pu]
     have HIN2 : Hid (W6.heap[q]? = some (.stringIter t (i + k))) := Lib.hid ((hbW6.block q (by omega)).trans hit2)
     have HP6 : Hid (RowS W6 (q + 1) v6 (S ++ [r]) ∧ Below w.heap.size w W6 ∧ q + 1 ≤ W6.heap.size) := Lib.hid ⟨hrow6, hbe2.trans (hbW6.mono (by have := HB2.out.2; omega)), Nat.le_trans hsz2 hbW6.size⟩
     clear CS hrow2 hbe2 hsz2 hit2 HBG HMO HS0 HS1 HI HAI HSL hap6 hrow6 hb6 hbW6 hbA hXA hr hai HIN
     go_wp2_with fail
     go_roundg (t.size - (i + k))
     case measure => omega
     case rel => exact ⟨i + k, none, v6, _, rfl, rfl, by omega, by omega, HI2, HIN2, HP6⟩
  ·skip
   have hit2 := HIT.out
   have hov := fun (ρ : Operand → Value) (o : Oper) (x : Operand) ho hx => ex_over2 (ρ := ρ) (o := o) (x := x) ho hit2 hlt hx
   have hiM : ¬ i < M.length := by rw [HN.out.1]; exact hlt
   have hrowB : RowS wr w.heap.size v S := own_base HP.out.1 (by have := HB2.out.2; omega)
   have hiz : i = t.size := by omega
   go_upto_region 5 with fail
   apply wp_region_lit
   refine gw_new (by kernel_rfl) (some 15) rfl (.tuple #[.bool false]) wr (hov _ _ _ rfl (by kernel_rfl)) ?_
   simp only [pu]
   refine gz1 (.bool false) <| wn ?_
   simp only [pu]
   clear hov hit2 HIT
   rcases st with _ | a
   ·skip
    have HE := Lib.hid (HNO.out wr v S i HP.out.2.1 hrowB HI.out hiM)
    go_upto_region 11 with fail
    refine wl <| gz1 (.int .i64 (-1)) <| gzb (geq_n rfl (-1) 0 dF) <| wn ?_
    simp only [pu]
    clear HNO HYES HI HP hrowB hiM hiz
    go_upto_region 13 with fail
    refine wl <| gz2 (v) (v) <| wn ?_
    simp only [pu]
    go_wp2_with fail
    exact HE.out
   ·skip
    go_upto_region 11 with fail
    refine wl <| gz1 (.int .i64 (a : Nat)) <| gzb (geq_n rfl (a : Nat) 0 dT) <| wn ?_
    simp only [pu]
    have hai : a ≤ t.size := by have := HI.out.2.2.1 a rfl; omega
    go_upto_region 12 with fail
    have hre := HSUB.out a t.size
    obtain ⟨r, hr⟩ : ∃ r, t.extract a t.size = r := ⟨_, rfl⟩
    rw [hr, ← hiz] at hre
    have hbA : Below wr.heap.size wr (wr.alloc (.cells #[.string (r)] 9)) := (Below.refl _ wr).alloc (Nat.le_refl _) _
    have hXA : Bx (wr.alloc (.cells #[.string (r)] 9)) wr.heap.size #[.string (r)] 9 := heap_alloc_last wr _
    obtain ⟨v6, W6, hap6, hrow6, hb6, -, -⟩ := app_str (RowS.below HP.out.1 hbA) (Nat.le_trans (HP.out.2.2) hbA.size) (some ⟨wr.heap.size, 0, none⟩) 1 1 [r] (Cs.block (cs := strs [r]) hXA) rfl (by have := HI.out.2.1; have := HN.out.2; omega) (by omega)
    have hbW6 : Below (q + 1) wr W6 := (hbA.mono (HP.out.2.2)).trans hb6
    refine wl <| gz3 (v) (.string t) (.int .i64 (a : Nat)) <| gzv (.string r) ((by rw [← hr]; exact from_s rfl t a hai (by kernel_rfl) (by kernel_rfl) _)) ?_
    simp only [pu]
    refine gw_build (by kernel_rfl) (some 48) rfl 39 1 #[(0, .tmp 47)] rfl #[(0, .string (r))] (by kernel_rfl) (.slice (some ⟨wr.heap.size, 0, none⟩) 1 1) _ (one_str (r) wr) ?_
    simp only [pu]
    refine append_step rfl (some 49) rfl 39 rfl (.tmp 44) (.tmp 48) 39 rfl (v) (.slice (some ⟨wr.heap.size, 0, none⟩) 1 1) (v6) W6 (by kernel_rfl) (by kernel_rfl) hap6 ?_
    simp only [pu]
    refine gz1 (v6) <| wn ?_
    simp only [pu]
    have HE := Lib.hid (HYES.out W6 v6 S i a r (HP.out.2.1.trans (hbW6.mono (by have := HB2.out.2; omega))) (own_base hrow6 (by have := HB2.out.2; omega)) HI.out hiM hre)
    clear HNO HYES HI HP hrowB hiM hiz hap6 hrow6 hb6 hbW6 hbA hXA hr hai hre
    go_upto_region 13 with fail
    refine wl <| gz2 (v6) (v6) <| wn ?_
    simp only [pu]
    go_wp2_with fail
    exact HE.out
end Go.Proofs.YtplfineaomneiaaDoor
