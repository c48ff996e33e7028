/-
 Texts of configurations as plain data: runes, lines, words, numbers; what is read.
-/
import Derived.Test.YtplfineaomneiaaDoorUM
namespace Go.Proofs.YtplfineaomneiaaDoor
set_option linter.unusedSimpArgs false
set_option linter.unusedVariables false

theorem getD_left (A B : List Int) {i : Nat} (h : i < A.length) : (A ++ B).getD i 0 = A.getD i 0 := by
 rw [List.getD_eq_getElem?_getD, List.getD_eq_getElem?_getD, List.getElem?_append_left h]
theorem getD_right (A B : List Int) (j : Nat) : (A ++ B).getD (A.length + j) 0 = B.getD j 0 := by
 rw [List.getD_eq_getElem?_getD, List.getD_eq_getElem?_getD, List.getElem?_append_right (by omega), Nat.add_sub_cancel_left]
theorem fol_right (A B : List Int) (j : Nat) : fol (A ++ B) (A.length + j) = fol B j := by
 unfold fol
 rw [getD_right, List.length_append]
 congr 1
 exact decide_eq_decide.2 (by omega)
theorem runK_right (A B : List Int) (j : Nat) : runK (A ++ B) (A.length + j) = runK B j := by
 unfold runK
 rw [Nat.add_assoc, Nat.add_assoc, Nat.add_assoc, getD_right, getD_right, fol_right, fol_right, fol_right]
/-- A whole rune: it is read as itself wherever it stands. -/
def Tok (r : List Int) : Prop := r ≠ [] ∧ ∀ A B : List Int, runK (A ++ (r ++ B)) A.length = r.length
theorem Tok.of {r : List Int} (h0 : r ≠ []) (h : ∀ B : List Int, runK (r ++ B) 0 = r.length) : Tok r := ⟨h0, fun A B => by
 have := runK_right A (r ++ B) 0
 rw [Nat.add_zero] at this
 rw [this, h B]⟩
theorem tok1 {b : Int} (h : b < 128) : Tok [b] := Tok.of (by simp) fun B => by
 unfold runK runN
 rw [if_pos (by simpa using h)]
 rfl
theorem fol_is {L : List Int} {i : Nat} {c : Int} (hi : i < L.length) (hc : L.getD i 0 = c) (h : 128 ≤ c ∧ c < 192) : fol L i = true := by
 unfold fol
 rw [hc, decide_eq_true hi, decide_eq_true h.1, decide_eq_true h.2]; rfl
theorem tok2 {b c : Int} (h : 194 ≤ b ∧ b < 224) (hc : 128 ≤ c ∧ c < 192) : Tok [b, c] := Tok.of (by simp) fun B => by
 have h1 : fol ([b, c] ++ B) (0 + 1) = true := fol_is (by simp) (c := c) rfl hc
 unfold runK runN
 rw [h1, if_neg (by show ¬ b < 128; omega), if_pos ⟨by show 194 ≤ b ∧ b < 224; exact h, rfl⟩]
 rfl
theorem tok3 {b c d : Int} (h : 224 ≤ b ∧ b < 240) (hc : 128 ≤ c ∧ c < 192) (hd : 128 ≤ d ∧ d < 192) (hx : ¬ ((b = 224 ∧ c < 160) ∨ (b = 237 ∧ 160 ≤ c))) : Tok [b, c, d] := Tok.of (by simp) fun B => by
 have h1 : fol ([b, c, d] ++ B) (0 + 1) = true := fol_is (by simp) (c := c) rfl hc
 have h2 : fol ([b, c, d] ++ B) (0 + 2) = true := fol_is (by simp) (c := d) rfl hd
 unfold runK runN
 rw [h1, h2, if_neg (by show ¬ b < 128; omega), if_neg (by show ¬ ((194 ≤ b ∧ b < 224) ∧ _); omega), if_pos ⟨⟨by show 224 ≤ b ∧ b < 240; exact h, rfl⟩, rfl⟩, if_neg (by exact hx)]
 rfl
/-- Spaces. -/
def spL (r : List Int) : Bool := decide (r = [9]) || decide (r = [32]) || decide (r = [194, 160]) || decide (r = [226, 128, 131]) || decide (r = [227, 128, 128])
theorem sp_tok {r : List Int} (h : spL r = true) : Tok r := by
 unfold spL at h
 simp only [Bool.or_eq_true, decide_eq_true_eq] at h
 rcases h with (((rfl | rfl) | rfl) | rfl) | rfl
 ·exact tok1 (by decide)
 ·exact tok1 (by decide)
 ·exact tok2 (by decide) (by decide)
 ·exact tok3 (by decide) (by decide) (by decide) (by decide)
 ·exact tok3 (by decide) (by decide) (by decide) (by decide)
/-- The words of a line, from a place on, behind the beginning of a word. -/
def wrd (L : List Int) (i : Nat) (w : List Int) : List (List Int) :=
 if h : i < L.length ∧ runK L i ≠ 0 then
  if (L.drop i).take (runK L i) = [35] then (if w = [] then [] else [w])
  else if spL ((L.drop i).take (runK L i)) then (if w = [] then wrd L (i + runK L i) [] else w :: wrd L (i + runK L i) [])
  else wrd L (i + runK L i) (w ++ (L.drop i).take (runK L i))
 else if w = [] then [] else [w]
termination_by L.length - i
decreasing_by all_goals omega
theorem wrd_end {L : List Int} {i : Nat} (h : ¬ i < L.length) (w : List Int) : wrd L i w = if w = [] then [] else [w] := by rw [wrd, dif_neg (fun e => h e.1)]
theorem wrd_step {L : List Int} {i : Nat} (h : i < L.length) (hk : runK L i ≠ 0) (w : List Int) : wrd L i w = if (L.drop i).take (runK L i) = [35] then (if w = [] then [] else [w]) else if spL ((L.drop i).take (runK L i)) then (if w = [] then wrd L (i + runK L i) [] else w :: wrd L (i + runK L i) []) else wrd L (i + runK L i) (w ++ (L.drop i).take (runK L i)) := by rw [wrd, dif_pos ⟨h, hk⟩]
def wrdT : List (List Int) → List Int → List (List Int)
 | [], w => if w = [] then [] else [w]
 | r :: ts, w => if r = [35] then (if w = [] then [] else [w]) else if spL r then (if w = [] then wrdT ts [] else w :: wrdT ts []) else wrdT ts (w ++ r)
theorem wrd_toks : ∀ (ts : List (List Int)), (∀ r ∈ ts, Tok r) → ∀ A w : List Int, wrd (A ++ ts.flatten) A.length w = wrdT ts w
 | [], _, A, w => by rw [wrd_end (by simp), wrdT]
 | r :: ts, h, A, w => by
  obtain ⟨h0, h1⟩ := h r (by simp)
  have hl : 0 < r.length := List.length_pos_iff.2 h0
  have hk : runK (A ++ (r :: ts).flatten) A.length = r.length := by rw [List.flatten_cons]; exact h1 A _
  have hd : ((A ++ (r :: ts).flatten).drop A.length).take r.length = r := by rw [List.drop_left, List.flatten_cons, List.take_left]
  have ih : ∀ w, wrd (A ++ (r :: ts).flatten) (A.length + r.length) w = wrdT ts w := fun w => by
   have := wrd_toks ts (fun x hx => h x (by simp [hx])) (A ++ r) w
   rw [List.length_append, List.append_assoc] at this
   rw [List.flatten_cons]; exact this
  rw [wrd_step (by rw [List.flatten_cons, List.length_append, List.length_append]; omega) (by rw [hk]; omega), hk, hd, ih, ih, wrdT]
theorem runs_toks : ∀ (ts : List (List Int)), (∀ r ∈ ts, Tok r) → ∀ A : List Int, runs (A ++ ts.flatten) A.length ≠ none
 | [], _, A => by rw [runs, dif_neg (by simp)]; simp
 | r :: ts, h, A => by
  obtain ⟨h0, h1⟩ := h r (by simp)
  have hl : 0 < r.length := List.length_pos_iff.2 h0
  have hk : runK (A ++ (r :: ts).flatten) A.length = r.length := by rw [List.flatten_cons]; exact h1 A _
  have ih := runs_toks ts (fun x hx => h x (by simp [hx])) (A ++ r)
  rw [List.length_append, List.append_assoc, ← List.flatten_cons] at ih
  rw [runs, dif_pos (by rw [List.flatten_cons, List.length_append, List.length_append]; omega), hk, if_neg (by omega)]
  intro e
  rw [Option.map_eq_none_iff] at e
  exact ih e
/-- The lines of a text. -/
def splitL : List Int → List Int → List (List Int)
 | cur, [] => [cur]
 | cur, x :: r => if x = 10 then cur :: splitL [] r else splitL (cur ++ [x]) r
theorem split_line : ∀ (A B cur : List Int), (∀ x ∈ A, x ≠ 10) → splitL cur (A ++ 10 :: B) = (cur ++ A) :: splitL [] B
 | [], B, cur, _ => by rw [List.nil_append, splitL, if_pos rfl, List.append_nil]
 | x :: r, B, cur, h => by
  rw [List.cons_append, splitL, if_neg (h x (by simp)), split_line r B (cur ++ [x]) (fun y hy => h y (by simp [hy])), List.append_assoc]
  rfl
theorem split_last : ∀ (A cur : List Int), (∀ x ∈ A, x ≠ 10) → splitL cur A = [cur ++ A]
 | [], cur, _ => by rw [splitL, List.append_nil]
 | x :: r, cur, h => by
  rw [splitL, if_neg (h x (by simp)), split_last r (cur ++ [x]) (fun y hy => h y (by simp [hy])), List.append_assoc]
  rfl
/-- Lines with a line feed behind each. -/
def joinL (ls : List (List Int)) : List Int := (ls.map fun l => l ++ [10]).flatten
theorem split_join : ∀ ls : List (List Int), (∀ l ∈ ls, ∀ x ∈ l, x ≠ 10) → splitL [] (joinL ls) = ls ++ [[]]
 | [], _ => rfl
 | l :: r, h => by
  have e : joinL (l :: r) = l ++ 10 :: joinL r := by unfold joinL; simp
  rw [e, split_line l _ [] (h l (by simp)), split_join r (fun l2 h2 => h l2 (by simp [h2]))]
  rfl
theorem split_no : ∀ (L cur : List Int), (∀ x ∈ cur, x ≠ 10) → ∀ l ∈ splitL cur L, ∀ x ∈ l, x ≠ 10
 | [], cur, h, l, hl => by rw [splitL, List.mem_singleton] at hl; rw [hl]; exact h
 | y :: r, cur, h, l, hl => by
  rw [splitL] at hl
  split at hl
  ·rcases List.mem_cons.1 hl with rfl | hl
   ·exact h
   ·exact split_no r [] (by simp) l hl
  ·rename_i hy
   exact split_no r (cur ++ [y]) (fun x hx => by
    rcases List.mem_append.1 hx with h1 | h1
    ·exact h x h1
    ·rw [List.mem_singleton] at h1; rw [h1]; exact hy) l hl
/-- What lies ahead of a line feed is read by itself. -/
theorem runK_left (A B : List Int) {i : Nat} (hi : i < A.length) : runK (A ++ 10 :: B) i = runK A i := by
 have hf : ∀ j, fol (A ++ 10 :: B) j = fol A j ∨ A.length < j := fun j => by
  rcases Nat.lt_trichotomy j A.length with h | h | h
  ·left
   unfold fol
   rw [getD_left _ _ h, List.length_append]
   congr 1
   exact decide_eq_decide.2 (by omega)
  ·left
   subst h
   have e : (A ++ 10 :: B).getD A.length 0 = 10 := by have := getD_right A (10 :: B) 0; rw [Nat.add_zero] at this; exact this
   unfold fol
   rw [e, decide_eq_false (Nat.lt_irrefl _), show decide ((128 : Int) ≤ 10) = false from rfl]
   simp
  ·right; exact h
 have h0 := getD_left A (10 :: B) hi
 have hA : ∀ j, A.length ≤ j → fol A j = false := fun j hj => by unfold fol; rw [decide_eq_false (by omega)]; rfl
 have h10 : fol (A ++ 10 :: B) A.length = false := by
  rcases hf A.length with h | h
  ·rw [h]; exact hA _ (Nat.le_refl _)
  ·omega
 -- the bytes that are looked at
 have g1 : fol (A ++ 10 :: B) (i + 1) = fol A (i + 1) := (hf (i + 1)).resolve_right (by omega)
 unfold runK
 rw [h0, g1]
 by_cases c1 : i + 1 < A.length
 ·have g1b := getD_left A (10 :: B) c1
  have g2 : fol (A ++ 10 :: B) (i + 2) = fol A (i + 2) := (hf (i + 2)).resolve_right (by omega)
  rw [g1b, g2]
  by_cases c2 : i + 2 < A.length
  ·rw [(hf (i + 3)).resolve_right (by omega)]
  ·have e2 : fol A (i + 2) = false := hA _ (by omega)
   rw [e2]
   unfold runN
   simp
 ·have e1 : fol A (i + 1) = false := hA _ (by omega)
  rw [e1]
  unfold runN
  simp
theorem runs_none {L : List Int} {i : Nat} (h : i < L.length) (hr : runs L i ≠ none) : runK L i ≠ 0 ∧ runs L (i + runK L i) ≠ none := by
 rw [runs, dif_pos h] at hr
 split at hr
 ·exact absurd rfl hr
 ·rename_i hk
  exact ⟨hk, fun e => hr (by rw [e]; rfl)⟩
theorem runs_left (A B : List Int) : ∀ (n i : Nat), A.length - i ≤ n → i ≤ A.length → runs (A ++ 10 :: B) i ≠ none → runs A i ≠ none ∧ runs (A ++ 10 :: B) A.length ≠ none
 | n, i, hn, hi, hr => by
  by_cases h : i < A.length
  ·obtain ⟨h1, h2⟩ := runs_none (by rw [List.length_append]; omega) hr
   rw [runK_left A B h] at h1 h2
   have h3 := run_len h
   cases n with
   | zero => omega
   | succ n =>
    obtain ⟨h4, h5⟩ := runs_left A B n (i + runK A i) (by omega) h3 h2
    refine ⟨?_, h5⟩
    rw [runs, dif_pos h, if_neg h1]
    intro e
    rw [Option.map_eq_none_iff] at e
    exact h4 e
  ·obtain rfl : i = A.length := by omega
   exact ⟨by rw [runs, dif_neg (by omega)]; simp, hr⟩
theorem runs_right (A B : List Int) : ∀ (n j : Nat), B.length - j ≤ n → runs (A ++ B) (A.length + j) ≠ none → runs B j ≠ none
 | n, j, hn, hr => by
  by_cases h : j < B.length
  ·obtain ⟨h1, h2⟩ := runs_none (by rw [List.length_append]; omega) hr
   rw [runK_right] at h1 h2
   cases n with
   | zero => omega
   | succ n =>
    have h3 := runs_right A B n (j + runK B j) (by omega) (by rw [← Nat.add_assoc]; exact h2)
    rw [runs, dif_pos h, if_neg h1]
    intro e
    rw [Option.map_eq_none_iff] at e
    exact h3 e
  ·rw [runs, dif_neg h]; simp
theorem first_ten : ∀ L : List Int, (10 : Int) ∈ L → ∃ A B : List Int, L = A ++ 10 :: B ∧ ∀ x ∈ A, x ≠ 10
 | [], h => by simp at h
 | x :: r, h => by
  by_cases hx : x = 10
  ·exact ⟨[], r, by rw [hx]; rfl, by simp⟩
  ·obtain ⟨A, B, h1, h2⟩ := first_ten r ((List.mem_cons.1 h).resolve_left (fun e => hx e.symm))
   exact ⟨x :: A, B, by rw [h1]; rfl, fun y hy => by
    rcases List.mem_cons.1 hy with rfl | hy
    ·exact hx
    ·exact h2 y hy⟩
/-- The lines of valid UTF-8 are valid UTF-8. -/
theorem split_valid : ∀ (n : Nat) (L : List Int), L.length ≤ n → runs L 0 ≠ none → ∀ l ∈ splitL [] L, runs l 0 ≠ none
 | n, L, hn, hr, l, hl => by
  by_cases h : ∃ A B : List Int, L = A ++ 10 :: B ∧ ∀ x ∈ A, x ≠ 10
  ·obtain ⟨A, B, rfl, hA⟩ := h
   rw [split_line A B [] hA, List.nil_append] at hl
   obtain ⟨h1, h2⟩ := runs_left A B (A.length - 0) 0 (Nat.le_refl _) (Nat.zero_le _) hr
   rcases List.mem_cons.1 hl with rfl | hl
   ·exact h1
   ·have e : runK (A ++ 10 :: B) A.length = 1 := (tok1 (b := 10) (by decide)).2 A B
    obtain ⟨-, h4⟩ := runs_none (by rw [List.length_append, List.length_cons]; omega) h2
    rw [e] at h4
    have h5 := runs_right (A ++ [10]) B (B.length - 0) 0 (Nat.le_refl _) (by rw [List.length_append, List.append_assoc]; exact h4)
    cases n with
    | zero => rw [List.length_append, List.length_cons] at hn; omega
    | succ n => exact split_valid n B (by rw [List.length_append, List.length_cons] at hn; omega) h5 l hl
  ·have hno : ∀ x ∈ L, x ≠ 10 := fun x hx e => by
    obtain ⟨A, B, h1, h2⟩ := first_ten L (by rw [← e]; exact hx)
    exact h ⟨A, B, h1, h2⟩
   rw [split_last L [] hno, List.mem_singleton, List.nil_append] at hl
   rw [hl]; exact hr
/-- Numbers in decimal. -/
def digitsX (s : List Int) : Bool := s.all (fun x => decide (48 ≤ x) && decide (x ≤ 57)) && (decide (s ≠ []) && (decide (s.length = 1) || decide (s.getD 0 0 ≠ 48)))
def dvalF (s : List Int) (n : Int) : Int := s.foldl (fun a x => 10 * a + (x - 48)) n
def dval (s : List Int) : Int := dvalF s 0
def decN (n : Nat) : List Int := if n < 10 then [((48 + n : Nat) : Int)] else decN (n / 10) ++ [((48 + n % 10 : Nat) : Int)]
theorem decN_ne (n : Nat) : decN n ≠ [] := by
 rw [decN]
 split <;> simp
theorem decN_all (n : Nat) : ∀ x ∈ decN n, 48 ≤ x ∧ x ≤ 57 := by
 induction n using Nat.strongRecOn with
 | ind n ih =>
  intro x hx
  rw [decN] at hx
  split at hx
  ·rw [List.mem_singleton] at hx; omega
  ·rcases List.mem_append.1 hx with h | h
   ·exact ih (n / 10) (by omega) x h
   ·rw [List.mem_singleton] at h; omega
theorem decN_head (n : Nat) (h : 0 < n) : (decN n).getD 0 0 ≠ 48 := by
 induction n using Nat.strongRecOn with
 | ind n ih =>
  rw [decN]
  split
  ·show ((48 + n : Nat) : Int) ≠ 48
   omega
  ·rw [getD_left _ _ (List.length_pos_iff.2 (decN_ne _))]
   exact ih (n / 10) (by omega) (by omega)
theorem dval_decN (n : Nat) : dval (decN n) = n := by
 induction n using Nat.strongRecOn with
 | ind n ih =>
  unfold dval dvalF at ih ⊢
  rw [decN]
  split
  ·show 10 * 0 + (((48 + n : Nat) : Int) - 48) = n
   omega
  ·rw [List.foldl_append, ih (n / 10) (by omega)]
   show 10 * ((n / 10 : Nat) : Int) + (((48 + n % 10 : Nat) : Int) - 48) = n
   omega
theorem digits_decN (n : Nat) : digitsX (decN n) = true := by
 unfold digitsX
 rw [Bool.and_eq_true, Bool.and_eq_true, Bool.or_eq_true, List.all_eq_true]
 refine ⟨fun x hx => ?_, decide_eq_true (decN_ne n), ?_⟩
 ·have := decN_all n x hx
  rw [decide_eq_true this.1, decide_eq_true this.2]; rfl
 ·by_cases h : n < 10
  ·left; rw [decN, if_pos h]; rfl
  ·right; exact decide_eq_true (decN_head n (by omega))
/-- Any int in decimal. -/
def decI (n : Int) : List Int := if n < 0 then 45 :: decN (-n).toNat else decN n.toNat
theorem dec_m1 : decI (-1) = [45, 49] := by
 unfold decI
 rw [if_pos (by omega)]
 show 45 :: decN 1 = _
 rw [decN, if_pos (by omega)]
 rfl
/-- The keys, in order; the least and greatest values. -/
def keysL : List (List Int) := [[109, 97, 120, 45, 116, 120, 115], [109, 97, 120, 45, 98, 121, 116, 101, 115], [109, 97, 120, 45, 116, 120, 45, 98, 121, 116, 101, 115], [99, 97, 99, 104, 101, 45, 115, 105, 122, 101], [116, 116, 108, 45, 98, 108, 111, 99, 107, 115], [116, 116, 108, 45, 116, 105, 109, 101], [107, 101, 101, 112, 45, 105, 110, 118, 97, 108, 105, 100], [98, 108, 111, 99, 107, 45, 98, 121, 116, 101, 115], [98, 108, 111, 99, 107, 45, 103, 97, 115], [112, 114, 105, 99, 101], [115, 101, 108, 102], [110, 111, 100, 101, 115]]
def leastL : List Int := [1, 1, 1, 0, 0, 0, 0, 1, -1, 0, 0, 1]
def greatL : List Int := [512, 1048576, 4096, 1024, 1073741824, 1073741824, 1, 1048576, 1125899906842624, 0, 7, 8]
def dfltL : List Int := [100, 65536, 1024, 200, 0, 0, 0, 32768, -1, 1, 0, 1]
def zeroL : List Int := [0, 0, 0, 0, 0, 0, 0, 0, 0, 0, 0, 0]
/-- Where a text is in a list. -/
def idxL (s : List Int) : List (List Int) → Nat → Option Nat
 | [], _ => none
 | x :: r, i => if x = s then some i else idxL s r (i + 1)
def inR (i : Nat) (n : Int) : Bool := decide (leastL.getD i 0 ≤ n) && decide (n ≤ (if i = 9 then 18446744073709551615 else greatL.getD i 0))
/-- A value of a key is read. -/
def setX (c : List Int) (i : Nat) (s : List Int) : List Int × Int :=
 if i = 8 ∧ s = [45, 49] then (c.set 8 (-1), 0)
 else if digitsX s = false then (c, 2)
 else if inR i (dval s) then (c.set i (dval s), 0) else (c, 1)
def parL : List (List Int) → Nat → List Int → List (List Int) → List Int × Nat × Int
 | [], _, c, _ => if c.getD 11 0 ≤ c.getD 10 0 then (zeroL, 0, 1) else (c, 0, 0)
 | l :: r, i, c, seen =>
  match wrd l 0 [] with
  | [] => parL r (i + 1) c seen
  | [k, v] =>
   match idxL k keysL 0 with
   | none => (zeroL, i + 1, 10)
   | some j =>
    if seen.contains k then (zeroL, i + 1, 8)
    else if (setX c j v).2 = 0 then parL r (i + 1) (setX c j v).1 (seen ++ [k]) else (zeroL, i + 1, (setX c j v).2)
  | _ => (zeroL, i + 1, 2)
def parX (L : List Int) : List Int × Nat × Int :=
 if 4096 < L.length then (zeroL, 0, 3) else if runs L 0 = none then (zeroL, 0, 4) else parL (splitL [] L) 0 dfltL []
/-- Is a configuration valid? -/
def okL (c : List Int) : Bool := ((List.range 12).all fun i => decide (i = 9) || (decide (leastL.getD i 0 ≤ c.getD i 0) && decide (c.getD i 0 ≤ greatL.getD i 0))) && decide (c.getD 10 0 < c.getD 11 0)
def valL (c : List Int) : Int := if okL c then 0 else 1
/-- The line of a key; the text of a configuration. -/
def lineL (c : List Int) (i : Nat) : List Int := keysL.getD i [] ++ 32 :: decI (c.getD i 0)
def fmtL (c : List Int) : List Int := joinL ((List.range 12).map (lineL c))
theorem keys_tok : ∀ k ∈ keysL, k ≠ [] ∧ (∀ x ∈ k, 33 ≤ x ∧ x < 127 ∧ x ≠ 35) := by decide
theorem idx_keys : ∀ i, i < 12 → idxL (keysL.getD i []) keysL 0 = some i := by decide
theorem keys_mem : ∀ i, i < 12 → keysL.getD i [] ∈ keysL := by decide
theorem keys_inj : ∀ i, i < 12 → ∀ j, j < 12 → keysL.getD i [] = keysL.getD j [] → i = j := by decide
/-- The bytes of a word: each is a rune, none a space, none '#'. -/
def PlainB (l : List Int) : Prop := ∀ x ∈ l, 33 ≤ x ∧ x < 127 ∧ x ≠ 35
theorem plain_dec (n : Int) (h : -1 ≤ n) : PlainB (decI n) ∧ decI n ≠ [] := by
 by_cases hn : n = -1
 ·subst hn
  rw [dec_m1]
  exact ⟨fun x hx => by simp only [List.mem_cons, List.not_mem_nil, or_false] at hx; omega, by simp⟩
 ·unfold decI
  rw [if_neg (by omega)]
  exact ⟨fun x hx => by have := decN_all _ x hx; omega, decN_ne _⟩
/-- A word among runes. -/
theorem wrdT_word : ∀ (l : List Int), PlainB l → ∀ (ts : List (List Int)) (w : List Int), wrdT (l.map (fun x => [x]) ++ ts) w = wrdT ts (w ++ l)
 | [], _, ts, w => by rw [List.map_nil, List.nil_append, List.append_nil]
 | x :: r, h, ts, w => by
  have hx := h x (by simp)
  have h1 : spL [x] = false := by
   unfold spL
   simp
   omega
  rw [List.map_cons, List.cons_append, wrdT, if_neg (by simp; omega), h1, if_neg Bool.false_ne_true, wrdT_word r (fun y hy => h y (by simp [hy])) ts (w ++ [x]), List.append_assoc]
  rfl
theorem wrdT_sp : ∀ (ps : List (List Int)), (∀ r ∈ ps, spL r = true) → ∀ (ts : List (List Int)), wrdT (ps ++ ts) [] = wrdT ts []
 | [], _, ts => rfl
 | r :: ps, h, ts => by
  have hr := h r (by simp)
  have h35 : r ≠ [35] := fun e => by rw [e] at hr; exact absurd hr (by decide)
  rw [List.cons_append, wrdT, if_neg h35, if_pos hr, if_pos rfl, wrdT_sp ps (fun x hx => h x (by simp [hx])) ts]
/-- What may stand behind a value: nothing, or a space or '#' first. -/
def Ends (ts : List (List Int)) : Prop := ∃ ps rest, ts = ps ++ rest ∧ (∀ r ∈ ps, spL r = true) ∧ (rest = [] ∨ ∃ q, rest = [35] :: q)
theorem wrdT_ends {ts : List (List Int)} (h : Ends ts) {w : List Int} (hw : w ≠ []) : wrdT ts w = [w] := by
 obtain ⟨ps, rest, rfl, h1, h2⟩ := h
 have hrest : ∀ w : List Int, wrdT rest w = if w = [] then [] else [w] := fun w => by
  rcases h2 with rfl | ⟨q, rfl⟩
  ·rw [wrdT]
  ·rw [wrdT, if_pos rfl]
 cases ps with
 | nil => rw [List.nil_append, hrest, if_neg hw]
 | cons r ps =>
  have hr := h1 r (by simp)
  have h35 : r ≠ [35] := fun e => by rw [e] at hr; exact absurd hr (by decide)
  rw [List.cons_append, wrdT, if_neg h35, if_pos hr, if_neg hw, wrdT_sp ps (fun x hx => h1 x (by simp [hx])) rest, hrest, if_pos rfl]
/-- A line of spaces and a comment. -/
theorem wrdT_none {ts : List (List Int)} (h : Ends ts) : wrdT ts [] = [] := by
 obtain ⟨ps, rest, rfl, h1, h2⟩ := h
 rw [wrdT_sp ps h1 rest]
 rcases h2 with rfl | ⟨q, rfl⟩
 ·rfl
 ·rw [wrdT, if_pos rfl, if_pos rfl]
/-- The runes of a line: spaces, a key, spaces, a value, spaces and a comment. -/
def lineT (ps : List (List Int)) (k : List Int) (v : List Int) (ts : List (List Int)) : List (List Int) := ps ++ (k.map (fun x => [x]) ++ ([32] :: (v.map (fun x => [x]) ++ ts)))
theorem line_words {ps : List (List Int)} {k v : List Int} {ts : List (List Int)} (hp : ∀ r ∈ ps, spL r = true) (hk : PlainB k) (hk0 : k ≠ []) (hv : PlainB v) (hv0 : v ≠ []) (ht : Ends ts) : wrdT (lineT ps k v ts) [] = [k, v] := by
 unfold lineT
 rw [wrdT_sp ps hp, wrdT_word k hk, List.nil_append, wrdT, if_neg (by decide), if_pos (by decide), if_neg hk0, wrdT_word v hv, List.nil_append, wrdT_ends ht hv0]
theorem flat_word (l : List Int) : (l.map (fun x => [x])).flatten = l := by
 induction l with
 | nil => rfl
 | cons x r ih => rw [List.map_cons, List.flatten_cons, ih]; rfl
theorem flat_line (ps : List (List Int)) (k v : List Int) (ts : List (List Int)) : (lineT ps k v ts).flatten = ps.flatten ++ (k ++ 32 :: v) ++ ts.flatten := by
 unfold lineT
 rw [List.flatten_append, List.flatten_append, List.flatten_cons, List.flatten_append, flat_word, flat_word]
 simp
theorem toks_word {l : List Int} (h : PlainB l) : ∀ r ∈ l.map (fun x => [x]), Tok r := fun r hr => by
 obtain ⟨x, hx, rfl⟩ := List.mem_map.1 hr
 exact tok1 (by have := h x hx; omega)
/-- A line of whole runes, without a line feed, not long. -/
def LnOk (l : List Int) : Prop := (∃ ts : List (List Int), l = ts.flatten ∧ ∀ r ∈ ts, Tok r) ∧ (∀ x ∈ l, x ≠ 10) ∧ l.length ≤ 100
/-- Lines, and what they say: which keys get which values. -/
inductive Lns : List (List Int) → List (Nat × Int) → Prop
 | nil : Lns [] []
 | skip {l : List Int} {ls : List (List Int)} {q : List (Nat × Int)} : LnOk l → wrd l 0 [] = [] → Lns ls q → Lns (l :: ls) q
 | set {l : List Int} {ls : List (List Int)} {q : List (Nat × Int)} {i : Nat} {n : Int} : LnOk l → wrd l 0 [] = [keysL.getD i [], decI n] → i < 12 → inR i n = true → Lns ls q → Lns (l :: ls) ((i, n) :: q)
theorem Lns.app {a b : List (List Int)} {p q : List (Nat × Int)} (h : Lns a p) (g : Lns b q) : Lns (a ++ b) (p ++ q) := by
 induction h with
 | nil => exact g
 | skip h1 h2 _ ih => exact .skip h1 h2 ih
 | set h1 h2 h3 h4 _ ih => exact .set h1 h2 h3 h4 ih
theorem Lns.ok {ls : List (List Int)} {q : List (Nat × Int)} (h : Lns ls q) : ∀ l ∈ ls, LnOk l := by
 induction h with
 | nil => intro l hl; simp at hl
 | skip h1 _ _ ih =>
  intro l hl
  rcases List.mem_cons.1 hl with rfl | hl
  ·exact h1
  ·exact ih l hl
 | set h1 _ _ _ _ ih =>
  intro l hl
  rcases List.mem_cons.1 hl with rfl | hl
  ·exact h1
  ·exact ih l hl
theorem set_dec {c : List Int} {i : Nat} {n : Int} (hi : i < 12) (h : inR i n = true) : setX c i (decI n) = (c.set i n, 0) := by
 unfold setX
 by_cases h8 : i = 8 ∧ n = -1
 ·obtain ⟨rfl, rfl⟩ := h8
  rw [dec_m1, if_pos ⟨rfl, rfl⟩]
 ·have h0 : 0 ≤ n := by
   unfold inR at h
   rw [Bool.and_eq_true] at h
   have h1 := of_decide_eq_true h.1
   have hl : ∀ i, i < 12 → i ≠ 8 → 0 ≤ leastL.getD i 0 := by decide
   by_cases h9 : i = 8
   ·subst h9
    have : leastL.getD 8 0 = -1 := rfl
    rw [this] at h1
    have : n ≠ -1 := fun e => h8 ⟨rfl, e⟩
    omega
   ·have := hl i hi h9; omega
  have e : decI n = decN n.toNat := by unfold decI; rw [if_neg (by omega)]
  have hne : decN n.toNat ≠ [45, 49] := fun e2 => by
   have := decN_all n.toNat 45 (by rw [e2]; simp)
   omega
  rw [e, if_neg (fun e2 => hne e2.2), digits_decN, if_neg (by decide), dval_decN, show ((n.toNat : Nat) : Int) = n by omega, h, if_pos rfl]
def finX (c : List Int) : List Int × Nat × Int := if c.getD 11 0 ≤ c.getD 10 0 then (zeroL, 0, 1) else (c, 0, 0)
theorem lns_lt {ls : List (List Int)} {q : List (Nat × Int)} (h : Lns ls q) : ∀ p ∈ q, p.1 < 12 := by
 induction h with
 | nil => intro p hp; simp at hp
 | skip _ _ _ ih => exact ih
 | set _ _ h3 _ _ ih =>
  intro p hp
  rcases List.mem_cons.1 hp with rfl | hp
  ·exact h3
  ·exact ih p hp
theorem par_lns {ls : List (List Int)} {q : List (Nat × Int)} (h : Lns ls q) : ∀ (k : Nat) (c : List Int) (seen : List (List Int)), (q.map (·.1)).Nodup → (∀ p ∈ q, keysL.getD p.1 [] ∉ seen) → parL ls k c seen = finX (q.foldl (fun c p => c.set p.1 p.2) c) := by
 induction h with
 | nil => intro k c seen _ _; rfl
 | skip h1 h2 _ ih =>
  intro k c seen hn hs
  rw [parL, h2]
  exact ih (k + 1) c seen hn hs
 | @set l ls q i n h1 h2 h3 h4 hls ih =>
  intro k c seen hn hs
  rw [List.map_cons, List.nodup_cons] at hn
  have hc : seen.contains (keysL.getD i []) = false := by
   rw [Bool.eq_false_iff]
   intro e
   exact hs (i, n) (by simp) (List.contains_iff_mem.1 e)
  rw [parL, h2]
  simp only [idx_keys i h3, hc, set_dec h3 h4]
  refine (ih (k + 1) (c.set i n) (seen ++ [keysL.getD i []]) hn.2 fun p hp hm => ?_).trans rfl
  rcases List.mem_append.1 hm with hm | hm
  ·exact hs p (by simp [hp]) hm
  ·rw [List.mem_singleton] at hm
   have hp3 : p.1 < 12 := lns_lt hls p hp
   exact hn.1 (List.mem_map.2 ⟨p, hp, keys_inj p.1 hp3 i h3 hm⟩)
theorem fold_len (q : List (Nat × Int)) : ∀ c : List Int, (q.foldl (fun c p => c.set p.1 p.2) c).length = c.length := by
 induction q with
 | nil => intro c; rfl
 | cons p q ih => intro c; rw [List.foldl_cons, ih, List.length_set]
theorem fold_at {C : List Int} (q : List (Nat × Int)) : (∀ p ∈ q, p.2 = C.getD p.1 0) → ∀ (c : List Int) (j : Nat), j < c.length → (j ∈ q.map (·.1) ∨ c.getD j 0 = C.getD j 0) → (q.foldl (fun c p => c.set p.1 p.2) c).getD j 0 = C.getD j 0 := by
 induction q with
 | nil => intro _ c j _ h; exact h.elim (fun h => by simp at h) id
 | cons p q ih =>
  intro hq c j hj h
  rw [List.foldl_cons]
  refine ih (fun x hx => hq x (by simp [hx])) _ j (by rw [List.length_set]; exact hj) ?_
  by_cases hp : p.1 = j
  ·right
   subst hp
   rw [List.getD_eq_getElem?_getD, List.getElem?_set_self hj, Option.getD_some]
   exact hq p (by simp)
  ·rcases h with h | h
   ·rw [List.map_cons] at h
    rcases List.mem_cons.1 h with h | h
    ·exact absurd h.symm hp
    ·exact .inl h
   ·right
    rw [List.getD_eq_getElem?_getD, List.getElem?_set_ne hp, ← List.getD_eq_getElem?_getD]
    exact h
theorem fold_all {C c : List Int} {q : List (Nat × Int)} (hC : C.length = 12) (hc : c.length = 12) (hq : ∀ p ∈ q, p.2 = C.getD p.1 0) (hall : ∀ j, j < 12 → j ∈ q.map (·.1)) : q.foldl (fun c p => c.set p.1 p.2) c = C := by
 apply List.ext_getElem
 ·rw [fold_len, hc, hC]
 ·intro j h1 h2
  have h3 := fold_at q hq c j (by omega) (.inl (hall j (by omega)))
  rw [List.getD_eq_getElem?_getD, List.getD_eq_getElem?_getD, List.getElem?_eq_getElem h1, List.getElem?_eq_getElem h2] at h3
  exact h3
theorem join_ok : ∀ {ls : List (List Int)}, (∀ l ∈ ls, LnOk l) → ∃ ts : List (List Int), joinL ls = ts.flatten ∧ ∀ r ∈ ts, Tok r
 | [], _ => ⟨[], rfl, by simp⟩
 | l :: ls, h => by
  obtain ⟨ts, h1, h2⟩ := join_ok (ls := ls) fun x hx => h x (by simp [hx])
  obtain ⟨⟨us, h3, h4⟩, -, -⟩ := h l (by simp)
  refine ⟨us ++ [10] :: ts, ?_, fun r hr => ?_⟩
  ·unfold joinL at h1 ⊢
   rw [List.map_cons, List.flatten_cons, h1, h3, List.flatten_append, List.flatten_cons, List.append_assoc]
  ·rcases List.mem_append.1 hr with hr | hr
   ·exact h4 r hr
   ·rcases List.mem_cons.1 hr with rfl | hr
    ·exact tok1 (by decide)
    ·exact h2 r hr
theorem join_len : ∀ {ls : List (List Int)}, (∀ l ∈ ls, LnOk l) → (joinL ls).length ≤ 101 * ls.length
 | [], _ => Nat.le_refl 0
 | l :: ls, h => by
  have h1 := join_len (ls := ls) fun x hx => h x (by simp [hx])
  have h2 := (h l (by simp)).2.2
  have e : (joinL (l :: ls)).length = l.length + 1 + (joinL ls).length := by unfold joinL; rw [List.map_cons, List.flatten_cons, List.length_append, List.length_append]; rfl
  rw [e, List.length_cons]
  omega
/-- A text of such lines that sets all keys is read as the configuration of their values. -/
theorem parX_lns {ls : List (List Int)} {q : List (Nat × Int)} (h : Lns ls q) (hl : ls.length ≤ 40) {C : List Int} (hC : C.length = 12) (hv : C.getD 10 0 < C.getD 11 0) (hn : (q.map (·.1)).Nodup) (hq : ∀ p ∈ q, p.2 = C.getD p.1 0) (hall : ∀ j, j < 12 → j ∈ q.map (·.1)) : parX (joinL ls) = (C, 0, 0) := by
 obtain ⟨ts, h1, h2⟩ := join_ok h.ok
 have h3 := join_len h.ok
 have h4 := runs_toks ts h2 []
 rw [List.nil_append, List.length_nil] at h4
 unfold parX
 rw [if_neg (by omega), if_neg (by rw [h1]; exact h4), split_join ls (fun l hl => (h.ok l hl).2.1)]
 have h5 : Lns (ls ++ [[]]) (q ++ []) := h.app (.skip ⟨⟨[], rfl, by simp⟩, by simp, by simp⟩ (by rw [wrd_end (by simp), if_pos rfl]) .nil)
 rw [List.append_nil] at h5
 rw [par_lns h5 0 dfltL [] hn (fun p _ => by simp), fold_all hC rfl hq hall]
 unfold finX
 rw [if_neg (by omega)]
theorem dec_len : ∀ (k n : Nat), n < 10 ^ (k + 1) → (decN n).length ≤ k + 1
 | 0, n, h => by rw [decN, if_pos (by simpa using h)]; exact Nat.le_refl 1
 | k + 1, n, h => by
  rw [decN]
  split
  ·simp
  ·rw [List.length_append, List.length_singleton]
   have := dec_len k (n / 10) (by rw [Nat.pow_succ] at h; omega)
   omega
theorem decI_len {n : Int} (h0 : -1 ≤ n) (h : n ≤ 18446744073709551615) : (decI n).length ≤ 20 := by
 by_cases hn : n = -1
 ·subst hn; rw [dec_m1]; decide
 ·unfold decI
  rw [if_neg (by omega)]
  exact dec_len 19 _ (by omega)
theorem inR_rng {i : Nat} {n : Int} (hi : i < 12) (h : inR i n = true) : -1 ≤ n ∧ n ≤ 18446744073709551615 := by
 unfold inR at h
 rw [Bool.and_eq_true] at h
 have h1 := of_decide_eq_true h.1
 have h2 := of_decide_eq_true h.2
 have hl : ∀ i, i < 12 → -1 ≤ leastL.getD i 0 := by decide
 have hg : ∀ i, i < 12 → greatL.getD i 0 ≤ 18446744073709551615 := by decide
 have := hl i hi
 have := hg i hi
 split at h2 <;> omega
/-- A line with a key, a value, spaces and a comment. -/
theorem line_ok {ps : List (List Int)} {i : Nat} {n : Int} {ts : List (List Int)} (hi : i < 12) (hr : inR i n = true) (hp : ∀ r ∈ ps, spL r = true) (ht : Ends ts) (htt : ∀ r ∈ ts, Tok r ∧ r ≠ [10]) (hlen : ps.flatten.length + ts.flatten.length ≤ 60) (h10 : ∀ x ∈ ps.flatten ++ ts.flatten, x ≠ 10) : LnOk (ps.flatten ++ (keysL.getD i [] ++ 32 :: decI n) ++ ts.flatten) ∧ wrd (ps.flatten ++ (keysL.getD i [] ++ 32 :: decI n) ++ ts.flatten) 0 [] = [keysL.getD i [], decI n] := by
 obtain ⟨hk0, hkb⟩ := keys_tok _ (keys_mem i hi)
 have hk : PlainB (keysL.getD i []) := hkb
 have hrng := inR_rng hi hr
 obtain ⟨hv, hv0⟩ := plain_dec n hrng.1
 have hkl : ∀ i, i < 12 → (keysL.getD i []).length ≤ 12 := by decide
 have hf := flat_line ps (keysL.getD i []) (decI n) ts
 have htok : ∀ r ∈ lineT ps (keysL.getD i []) (decI n) ts, Tok r := fun r hr => by
  unfold lineT at hr
  rcases List.mem_append.1 hr with hr | hr
  ·exact sp_tok (hp r hr)
  ·rcases List.mem_append.1 hr with hr | hr
   ·exact toks_word hk r hr
   ·rcases List.mem_cons.1 hr with rfl | hr
    ·exact tok1 (by decide)
    ·rcases List.mem_append.1 hr with hr | hr
     ·exact toks_word hv r hr
     ·exact (htt r hr).1
 refine ⟨⟨⟨_, hf.symm, htok⟩, fun x hx => ?_, ?_⟩, ?_⟩
 ·rcases List.mem_append.1 hx with hx | hx
  ·rcases List.mem_append.1 hx with hx | hx
   ·exact h10 x (List.mem_append.2 (.inl hx))
   ·rcases List.mem_append.1 hx with hx | hx
    ·have := hk x hx; omega
    ·rcases List.mem_cons.1 hx with rfl | hx
     ·decide
     ·have := hv x hx; omega
  ·exact h10 x (List.mem_append.2 (.inr hx))
 ·have h1 := hkl i hi
  have h2 := decI_len hrng.1 hrng.2
  rw [List.length_append, List.length_append, List.length_append, List.length_cons]
  omega
 ·have h1 := wrd_toks _ htok [] []
  rw [List.nil_append, List.length_nil, hf, line_words hp hk hk0 hv hv0 ht] at h1
  exact h1
theorem valL_ok {c : List Int} (h : valL c = 0) : (∀ i, i < 12 → i ≠ 9 → leastL.getD i 0 ≤ c.getD i 0 ∧ c.getD i 0 ≤ greatL.getD i 0) ∧ c.getD 10 0 < c.getD 11 0 := by
 unfold valL at h
 split at h
 ·rename_i h1
  unfold okL at h1
  rw [Bool.and_eq_true, List.all_eq_true] at h1
  refine ⟨fun i hi h9 => ?_, of_decide_eq_true h1.2⟩
  have h2 := h1.1 i (List.mem_range.2 hi)
  rw [decide_eq_false h9, Bool.false_or, Bool.and_eq_true] at h2
  exact ⟨of_decide_eq_true h2.1, of_decide_eq_true h2.2⟩
 ·cases h
theorem valL_inR {c : List Int} (h : valL c = 0) (h9 : 0 ≤ c.getD 9 0 ∧ c.getD 9 0 ≤ 18446744073709551615) {i : Nat} (hi : i < 12) : inR i (c.getD i 0) = true := by
 unfold inR
 by_cases e : i = 9
 ·subst e
  rw [if_pos rfl, decide_eq_true h9.2, decide_eq_true (show leastL.getD 9 0 ≤ c.getD 9 0 from h9.1)]; rfl
 ·have := (valL_ok h).1 i hi e
  rw [if_neg e, decide_eq_true this.1, decide_eq_true this.2]; rfl
/-- The text of a configuration is read as this configuration. -/
theorem par_fmt {c : List Int} (hc : c.length = 12) (h : valL c = 0) (h9 : 0 ≤ c.getD 9 0 ∧ c.getD 9 0 ≤ 18446744073709551615) : parX (fmtL c) = (c, 0, 0) := by
 have key : ∀ is : List Nat, (∀ i ∈ is, i < 12) → Lns (is.map (lineL c)) (is.map fun i => (i, c.getD i 0)) := by
  intro is
  induction is with
  | nil => intro _; exact .nil
  | cons i is ih =>
   intro hi
   have hi0 := hi i (by simp)
   obtain ⟨h1, h2⟩ := line_ok (ps := []) (ts := []) hi0 (valL_inR h h9 hi0) (by simp) ⟨[], [], rfl, by simp, .inl rfl⟩ (by simp) (by simp) (by simp)
   simp only [List.flatten_nil, List.nil_append, List.append_nil] at h1 h2
   exact .set h1 h2 hi0 (valL_inR h h9 hi0) (ih fun j hj => hi j (by simp [hj]))
 have hk := key (List.range 12) fun i hi => List.mem_range.1 hi
 have e : ((List.range 12).map fun i => (i, c.getD i 0)).map (·.1) = List.range 12 := by rw [List.map_map]; exact List.map_id _
 exact parX_lns hk (by simp) hc (valL_ok h).2 (by rw [e]; exact List.nodup_range) (fun p hp => by obtain ⟨i, -, rfl⟩ := List.mem_map.1 hp; rfl) (fun j hj => by rw [e]; exact List.mem_range.2 hj)
end Go.Proofs.YtplfineaomneiaaDoor
