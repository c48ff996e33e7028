/-
 Merging two sorted parts in place, blocks that grow, the order of leaving, as plain data. No program.
-/
import Derived.Test.YtgkckblcekbafaaVA
namespace Go.Proofs.Ytgkckblcekbafaa
set_option linter.unusedSimpArgs false
set_option linter.unusedVariables false

/-- An element is moved to the right, to the left. -/
def mvR (L : List Tg) (a : Nat) : Nat → List Tg
  | 0 => L
  | k + 1 => swL (mvR L a k) (a + k) (a + k + 1)
def mvL (L : List Tg) (m : Nat) : Nat → List Tg
  | 0 => L
  | k + 1 => swL (mvL L m k) (m - k) (m - k - 1)
theorem mvR_seg (P S : List Tg) (e : Tg) : ∀ (k : Nat) (B : List Tg), k ≤ B.length → mvR (P ++ e :: (B ++ S)) P.length k = P ++ (B.take k ++ e :: (B.drop k ++ S))
  | 0, B, _ => by simp [mvR]
  | k + 1, B, h => by
    rw [mvR, mvR_seg P S e k B (by omega), td B k (by omega), tt1 B k (by omega)]
    have h1 := sw_mid (P ++ B.take k) [] (B.drop (k + 1) ++ S) e B[k]
    rw [show (P ++ B.take k).length = P.length + k by rw [List.length_append, List.length_take]; omega] at h1
    simp only [List.length_nil, Nat.add_zero, List.nil_append, List.append_assoc, List.cons_append] at h1 ⊢
    exact h1
theorem mvL_seg (P S : List Tg) (e : Tg) : ∀ (k : Nat) (A : List Tg), k ≤ A.length → mvL (P ++ (A ++ e :: S)) (P.length + A.length) k = P ++ (A.take (A.length - k) ++ e :: (A.drop (A.length - k) ++ S))
  | 0, A, _ => by simp [mvL]
  | k + 1, A, h => by
    have e1 : A.length - k = (A.length - (k + 1)) + 1 := by omega
    rw [mvL, mvL_seg P S e k A (by omega), e1, tt1 A _ (by omega), td A (A.length - (k + 1)) (by omega)]
    have h1 := sw_mid' (P ++ A.take (A.length - (k + 1))) [] (A.drop (A.length - (k + 1) + 1) ++ S) A[A.length - (k + 1)] e
    rw [show (P ++ A.take (A.length - (k + 1))).length = P.length + A.length - k - 1 by rw [List.length_append, List.length_take]; omega] at h1
    rw [show P.length + A.length - k - 1 + 1 + ([] : List Tg).length = P.length + A.length - k by simp; omega] at h1
    simp only [List.nil_append, List.append_assoc, List.cons_append] at h1 ⊢
    exact h1
theorem pw_at {A : List Tg} (h : A.Pairwise T3) {i j : Nat} (hij : i < j) (hj : j < A.length) : T3 (A.getD i zT) (A.getD j zT) := by
  have := List.pairwise_iff_getElem.1 h i j (by omega) hj hij
  simpa only [List.getD_eq_getElem?_getD, List.getElem?_eq_getElem (show i < A.length by omega), List.getElem?_eq_getElem hj, Option.getD_some] using this
theorem mem_at {A : List Tg} {x : Tg} (h : x ∈ A) : ∃ i, i < A.length ∧ A.getD i zT = x := by
  obtain ⟨i, hi, rfl⟩ := List.getElem_of_mem h
  exact ⟨i, hi, by rw [List.getD_eq_getElem?_getD, List.getElem?_eq_getElem hi]; rfl⟩
theorem at_mem {A : List Tg} {i : Nat} (h : i < A.length) : A.getD i zT ∈ A := by
  rw [List.getD_eq_getElem?_getD, List.getElem?_eq_getElem h]; exact List.getElem_mem h
theorem take_at (A : List Tg) (k i : Nat) (h : i < k) : (A.take k).getD i zT = A.getD i zT := by
  simp only [List.getD_eq_getElem?_getD, List.getElem?_take, if_pos h]
theorem drop_at (A : List Tg) (k i : Nat) : (A.drop k).getD i zT = A.getD (k + i) zT := by
  simp only [List.getD_eq_getElem?_getD, List.getElem?_drop]
/-- Two sorted parts, all of the one ahead of all of the other. -/
theorem srt_app {A B C D : List Tg} (h : Srt A C) (g : Srt B D) (hx : ∀ x ∈ A, ∀ y ∈ B, T3 x y) : Srt (A ++ B) (C ++ D) :=
  ⟨h.1.append g.1, List.pairwise_append.2 ⟨h.2, g.2, fun x q y r => hx x (h.1.mem_iff.1 q) y (g.1.mem_iff.1 r)⟩⟩
/-- The first part is one element. -/
theorem one_l (P B S : List Tg) (e : Tg) (hB : B.Pairwise T3) (ht : Lt2 [e] B) (k : Nat) (hk : k ≤ B.length) (h1 : ∀ i, i < k → lsT (B.getD i zT) e = true) (h0 : ∀ i, k ≤ i → i < B.length → lsT (B.getD i zT) e = false) :
    ∃ C, Srt ([e] ++ B) C ∧ mvR (P ++ ([e] ++ (B ++ S))) P.length k = P ++ (C ++ S) := by
  refine ⟨B.take k ++ e :: B.drop k, ⟨List.perm_middle.trans (by rw [List.take_append_drop]; exact .refl _), ?_⟩, by rw [List.cons_append, List.nil_append, mvR_seg P S e k B hk]; simp⟩
  have hl : ∀ x ∈ B.take k, T3 x e := fun x hx => by
    obtain ⟨i, hi, rfl⟩ := mem_at hx
    rw [List.length_take] at hi
    rw [take_at _ _ _ (by omega)]
    exact ls_t3 (h1 i (by omega))
  have hr : ∀ y ∈ B.drop k, T3 e y := fun y hy => by
    obtain ⟨i, hi, rfl⟩ := mem_at hy
    rw [List.length_drop] at hi
    rw [drop_at]
    exact nls_t3 (h0 (k + i) (by omega) (by omega)) (ht e (by simp) _ (at_mem (by omega)))
  refine List.pairwise_append.2 ⟨hB.sublist (List.take_sublist ..), List.pairwise_cons.2 ⟨hr, hB.sublist (List.drop_sublist ..)⟩, fun x hx y hy => ?_⟩
  rcases List.mem_cons.1 hy with rfl | hy
  · exact hl x hx
  · exact (hl x hx).tr (hr y hy)
/-- The second part is one element; k elements of the first one stay ahead of it. -/
theorem one_r (P A S : List Tg) (e : Tg) (hA : A.Pairwise T3) (ht : Lt2 A [e]) (k : Nat) (hk : k ≤ A.length) (h1 : ∀ i, i < k → lsT e (A.getD i zT) = false) (h0 : ∀ i, k ≤ i → i < A.length → lsT e (A.getD i zT) = true) :
    ∃ C, Srt (A ++ [e]) C ∧ mvL (P ++ (A ++ ([e] ++ S))) (P.length + A.length) (A.length - k) = P ++ (C ++ S) := by
  refine ⟨A.take k ++ e :: A.drop k, ⟨?_, ?_⟩, ?_⟩
  · refine List.perm_middle.trans ?_
    rw [List.take_append_drop]
    exact (List.perm_append_comm (l₁ := [e]) (l₂ := A))
  · have hl : ∀ x ∈ A.take k, T3 x e := fun x hx => by
      obtain ⟨i, hi, rfl⟩ := mem_at hx
      rw [List.length_take] at hi
      rw [take_at _ _ _ (by omega)]
      exact nls_t3 (h1 i (by omega)) (ht _ (at_mem (by omega)) e (by simp))
    have hr : ∀ y ∈ A.drop k, T3 e y := fun y hy => by
      obtain ⟨i, hi, rfl⟩ := mem_at hy
      rw [List.length_drop] at hi
      rw [drop_at]
      exact ls_t3 (h0 (k + i) (by omega) (by omega))
    refine List.pairwise_append.2 ⟨hA.sublist (List.take_sublist ..), List.pairwise_cons.2 ⟨hr, hA.sublist (List.drop_sublist ..)⟩, fun x hx y hy => ?_⟩
    rcases List.mem_cons.1 hy with rfl | hy
    · exact hl x hx
    · exact (hl x hx).tr (hr y hy)
  · rw [List.cons_append, List.nil_append, mvL_seg P S e _ A (by omega), show A.length - (A.length - k) = k by omega]
    simp
/-- The halves after a rotation: i of the first part and j of the second one go to the left. -/
theorem sym_cross (A B : List Tg) (hA : A.Pairwise T3) (hB : B.Pairwise T3) (ht : Lt2 A B) (i j : Nat) (hi : i ≤ A.length) (hj : j ≤ B.length)
    (h0 : 0 < i → j < B.length → lsT (B.getD j zT) (A.getD (i - 1) zT) = false) (h1 : i < A.length → 0 < j → lsT (B.getD (j - 1) zT) (A.getD i zT) = true) :
    (∀ x ∈ A.take i ++ B.take j, ∀ y ∈ A.drop i ++ B.drop j, T3 x y) := by
  have ha := List.pairwise_append.1 (show (A.take i ++ A.drop i).Pairwise T3 by rwa [List.take_append_drop])
  have hb := List.pairwise_append.1 (show (B.take j ++ B.drop j).Pairwise T3 by rwa [List.take_append_drop])
  intro x hx y hy
  rcases List.mem_append.1 hx with hx | hx <;> rcases List.mem_append.1 hy with hy | hy
  · exact ha.2.2 x hx y hy
  · obtain ⟨p, hp, rfl⟩ := mem_at hx
    obtain ⟨q, hq, rfl⟩ := mem_at hy
    rw [List.length_take] at hp
    rw [List.length_drop] at hq
    rw [take_at _ _ _ (by omega), drop_at]
    have h2 : T3 (A.getD (i - 1) zT) (B.getD j zT) := nls_t3 (h0 (by omega) (by omega)) (ht _ (at_mem (by omega)) _ (at_mem (by omega)))
    have h3 : T3 (A.getD p zT) (B.getD j zT) := by
      rcases Nat.lt_or_ge p (i - 1) with h | h
      · exact (pw_at hA h (by omega)).tr h2
      · obtain rfl : p = i - 1 := by omega
        exact h2
    rcases Nat.eq_zero_or_pos q with h | h
    · subst h; exact h3
    · exact h3.tr (pw_at hB (by omega) (by omega))
  · obtain ⟨p, hp, rfl⟩ := mem_at hx
    obtain ⟨q, hq, rfl⟩ := mem_at hy
    rw [List.length_take] at hp
    rw [List.length_drop] at hq
    rw [take_at _ _ _ (by omega), drop_at]
    have h2 : T3 (B.getD (j - 1) zT) (A.getD i zT) := ls_t3 (h1 (by omega) (by omega))
    have h3 : T3 (B.getD p zT) (A.getD i zT) := by
      rcases Nat.lt_or_ge p (j - 1) with h | h
      · exact (pw_at hB h (by omega)).tr h2
      · obtain rfl : p = j - 1 := by omega
        exact h2
    rcases Nat.eq_zero_or_pos q with h | h
    · subst h; exact h3
    · exact h3.tr (pw_at hA (by omega) (by omega))
  · exact hb.2.2 x hx y hy
/-- Sorted in blocks of s. -/
inductive Bk (s : Nat) : List Tg → List Tg → Prop
  | last {A B : List Tg} : A.length ≤ s → Srt A B → Bk s A B
  | cons {A B X L : List Tg} : A.length = s → Srt A B → Bk s X L → Bk s (A ++ X) (B ++ L)
theorem Bk.len {s : Nat} {X L : List Tg} (h : Bk s X L) : L.length = X.length := by
  induction h with
  | last _ h => exact h.len
  | cons _ h _ ih => rw [List.length_append, List.length_append, ih, h.len]
theorem Bk.perm {s : Nat} {X L : List Tg} (h : Bk s X L) : L.Perm X := by
  induction h with
  | last _ h => exact h.1
  | cons _ h _ ih => exact h.1.append ih
theorem Bk.fin {s : Nat} {X L : List Tg} (h : Bk s X L) (hs : X.length ≤ s) (h0 : 0 < s) : Srt X L := by
  cases h with
  | last _ h => exact h
  | cons hl h h2 =>
    rename_i A B X L
    rw [List.length_append] at hs
    have e1 : X = [] := List.length_eq_zero_iff.1 (by omega)
    have e2 : L = [] := List.length_eq_zero_iff.1 (by rw [h2.len, e1]; rfl)
    subst e1; subst e2
    rwa [List.append_nil, List.append_nil]
theorem Bk.one {s : Nat} {X L : List Tg} (h : Bk s X L) (hs : s ≤ X.length) : ∃ A B X' L', X = A ++ X' ∧ L = B ++ L' ∧ A.length = s ∧ Srt A B ∧ Bk s X' L' := by
  cases h with
  | last hl h => exact ⟨X, L, [], [], by simp, by simp, by omega, h, .last (by simp) .nil⟩
  | cons hl h h2 => exact ⟨_, _, _, _, rfl, rfl, hl, h, h2⟩
/-- What stands ahead is sorted in blocks of s. -/
def Pre (s : Nat) (X L : List Tg) : Prop := L.length = X.length ∧ ∀ X' L', Bk s X' L' → Bk s (X ++ X') (L ++ L')
theorem Pre.nil (s : Nat) : Pre s [] [] := ⟨rfl, fun _ _ h => h⟩
theorem Pre.snoc {s : Nat} {X L A B : List Tg} (h : Pre s X L) (hl : A.length = s) (g : Srt A B) : Pre s (X ++ A) (L ++ B) :=
  ⟨by rw [List.length_append, List.length_append, h.1, g.len], fun X' L' h' => by rw [List.append_assoc, List.append_assoc]; exact h.2 _ _ (.cons hl g h')⟩
theorem Pre.fin {s : Nat} {X L A B : List Tg} (h : Pre s X L) (hl : A.length ≤ s) (g : Srt A B) : Bk s (X ++ A) (L ++ B) := h.2 _ _ (.last hl g)
/-- Two neighbouring blocks. -/
theorem Bk.two {s : Nat} {X L : List Tg} (h : Bk s X L) (hs : 2 * s ≤ X.length) : ∃ A1 A2 X' B1 B2 L', X = A1 ++ (A2 ++ X') ∧ L = B1 ++ (B2 ++ L') ∧ A1.length = s ∧ A2.length = s ∧ Srt A1 B1 ∧ Srt A2 B2 ∧ Bk s X' L' := by
  obtain ⟨A1, B1, X1, L1, rfl, rfl, h1, h2, h3⟩ := h.one (by omega)
  rw [List.length_append] at hs
  obtain ⟨A2, B2, X2, L2, rfl, rfl, h4, h5, h6⟩ := h3.one (by omega)
  exact ⟨_, _, _, _, _, _, rfl, rfl, h1, h4, h2, h5, h6⟩
/-- Two blocks, merged. -/
theorem srt_two {A1 A2 B1 B2 C : List Tg} (h1 : Srt A1 B1) (h2 : Srt A2 B2) (h : Srt (B1 ++ B2) C) : Srt (A1 ++ A2) C := ⟨h.1.trans (h1.1.append h2.1), h.2⟩
theorem lt_two {A1 A2 B1 B2 : List Tg} (h1 : Srt A1 B1) (h2 : Srt A2 B2) (h : Lt2 A1 A2) : Lt2 B1 B2 := fun x hx y hy => h x (h1.1.mem_iff.1 hx) y (h2.1.mem_iff.1 hy)
/-- The order of leaving: a new one goes behind those that leave ahead of it, and ahead of its equals. -/
def insX (out : List (En × Ad)) (e : En × Ad) : List (En × Ad) := out.takeWhile (fun x => bfP x.1 e.1) ++ e :: out.dropWhile (fun x => bfP x.1 e.1)
def ordX (X : List (En × Ad)) : List (En × Ad) := X.foldl insX []
def insT (out : List Tg) (e : Tg) : List Tg := out.takeWhile (fun x => lsT x e) ++ e :: out.dropWhile (fun x => lsT x e)
def ordT (X : List Tg) : List Tg := X.foldl insT []
def insE (out : List En) (e : En) : List En := out.takeWhile (fun x => bfP x e) ++ e :: out.dropWhile (fun x => bfP x e)
def ordL (X : List En) : List En := X.foldl insE []
theorem insT_map (out : List Tg) (e : Tg) : (insT out e).map (·.1) = insX (out.map (·.1)) e.1 := by
  unfold insT insX lsT
  rw [List.map_append, List.map_cons, List.takeWhile_map, List.dropWhile_map]
  rfl
theorem insX_map (out : List (En × Ad)) (e : En × Ad) : (insX out e).map (·.1) = insE (out.map (·.1)) e.1 := by
  unfold insX insE
  rw [List.map_append, List.map_cons, List.takeWhile_map, List.dropWhile_map]
  rfl
theorem fold_map {α β : Type} (f : α → β) (p : List α → α → List α) (q : List β → β → List β) (h : ∀ o e, (p o e).map f = q (o.map f) (f e)) : ∀ (L out : List α), (L.foldl p out).map f = (L.map f).foldl q (out.map f)
  | [], out => rfl
  | e :: r, out => by
    rw [List.foldl_cons, List.map_cons, List.foldl_cons, ← h]
    exact fold_map f p q h r _
theorem ordT_map (L : List Tg) : (ordT L).map (·.1) = ordX (L.map (·.1)) := fold_map _ _ _ insT_map L []
theorem lE_ord (X : List (En × Ad)) : lE (ordX X) = ordL (lE X) := fold_map _ _ _ insX_map X []
theorem tw_eq {α : Type} (p : α → Bool) (z : α) : ∀ (L : List α) (k : Nat), k ≤ L.length → (∀ j, j < k → p (L.getD j z) = true) → (k < L.length → p (L.getD k z) = false) → L.takeWhile p = L.take k ∧ L.dropWhile p = L.drop k
  | [], k, hk, _, _ => by
    obtain rfl : k = 0 := by simpa using hk
    exact ⟨rfl, rfl⟩
  | x :: r, 0, _, _, h => by
    have := h (by simp)
    rw [List.getD_cons_zero] at this
    simp [this]
  | x :: r, k + 1, hk, h1, h0 => by
    have h2 := h1 0 (by omega)
    rw [List.getD_cons_zero] at h2
    have ih := tw_eq p z r k (by simpa using hk) (fun j hj => by simpa using h1 (j + 1) (by omega)) (fun hl => by simpa using h0 (by simpa using hl))
    simp [h2, ih.1, ih.2]
theorem insX_at (out : List (En × Ad)) (e : En × Ad) (k : Nat) (hk : k ≤ out.length) (h1 : ∀ j, j < k → bfP (out.getD j zEA).1 e.1 = true) (h0 : k < out.length → bfP (out.getD k zEA).1 e.1 = false) : insX out e = out.take k ++ e :: out.drop k := by
  obtain ⟨a, b⟩ := tw_eq (fun x : En × Ad => bfP x.1 e.1) zEA out k hk h1 h0
  unfold insX
  rw [a, b]
theorem insT_perm (out : List Tg) (e : Tg) : (insT out e).Perm (e :: out) := by
  unfold insT
  refine List.perm_middle.trans ?_
  rw [List.takeWhile_append_dropWhile]
theorem insT_srt {out : List Tg} {e : Tg} (h : out.Pairwise T3) (ht : ∀ x ∈ out, e.2 < x.2) : (insT out e).Pairwise T3 := by
  induction out with
  | nil => simp [insT]
  | cons x r ih =>
    have h0 := List.pairwise_cons.1 h
    have h1 := ih h0.2 fun y hy => ht y (by simp [hy])
    unfold insT at h1 ⊢
    cases hl : lsT x e with
    | true =>
      rw [List.takeWhile_cons, List.dropWhile_cons, if_pos hl, if_pos hl, List.cons_append]
      refine List.pairwise_cons.2 ⟨fun y hy => ?_, h1⟩
      rcases List.mem_cons.1 ((insT_perm r e).mem_iff.1 hy) with rfl | hy
      · exact ls_t3 hl
      · exact h0.1 y hy
    | false =>
      rw [List.takeWhile_cons, List.dropWhile_cons, hl]
      simp only [Bool.false_eq_true, if_false, List.nil_append]
      have hx : T3 e x := nls_t3 hl (ht x (by simp))
      refine List.pairwise_cons.2 ⟨fun y hy => ?_, h⟩
      rcases List.mem_cons.1 hy with rfl | hy
      · exact hx
      · exact hx.tr (h0.1 y hy)
theorem ordT_aux : ∀ (L out : List Tg), out.Pairwise T3 → (∀ x ∈ out, ∀ e ∈ L, e.2 < x.2) → L.Pairwise (fun a b => b.2 < a.2) → (L.foldl insT out).Pairwise T3 ∧ (L.foldl insT out).Perm (out ++ L)
  | [], out, h, _, _ => ⟨h, by simp⟩
  | e :: r, out, h, h1, h2 => by
    have h3 := List.pairwise_cons.1 h2
    have := ordT_aux r (insT out e) (insT_srt h fun x hx => h1 x hx e (by simp)) (fun x hx y hy => by
      rcases List.mem_cons.1 ((insT_perm out e).mem_iff.1 hx) with rfl | hx
      · exact h3.1 y hy
      · exact h1 x hx y (by simp [hy])) h3.2
    refine ⟨this.1, this.2.trans (((insT_perm out e).append_right r).trans ?_)⟩
    rw [List.cons_append]
    exact List.perm_middle.symm
/-- Entries from the last one on, numbered. -/
def tagX (X : List (En × Ad)) : List Tg := X.reverse.zipIdx
theorem tag_fst (X : List (En × Ad)) : (tagX X).map (·.1) = X.reverse := List.zipIdx_map_fst 0 _
theorem tag_inc (X : List (En × Ad)) : (tagX X).Pairwise fun a b => a.2 < b.2 := by
  have h : ((tagX X).map (·.2)).Pairwise (· < ·) := by
    unfold tagX
    rw [List.zipIdx_map_snd]
    exact List.pairwise_lt_range'
  exact List.pairwise_map.1 h
/-- What a stable sort makes of them is the order of leaving. -/
theorem srt_ord (X : List (En × Ad)) (C : List Tg) (h : Srt (tagX X) C) : C.map (·.1) = ordX X := by
  have h1 := ordT_aux (tagX X).reverse [] .nil (fun x hx => by cases hx) (List.pairwise_reverse.2 (tag_inc X))
  rw [List.nil_append] at h1
  have h2 : C = ordT (tagX X).reverse := srt_uniq h.2 h1.1 (h.1.trans ((List.reverse_perm _).symm.trans h1.2.symm))
  rw [h2, ordT_map, List.map_reverse, tag_fst, List.reverse_reverse]
theorem ord_perm (X : List (En × Ad)) : (ordX X).Perm X := by
  have h1 := ordT_aux (tagX X).reverse [] .nil (fun x hx => by cases hx) (List.pairwise_reverse.2 (tag_inc X))
  have h2 := ordT_map (tagX X).reverse
  rw [List.map_reverse, tag_fst, List.reverse_reverse] at h2
  rw [← h2]
  refine (h1.2.map _).trans ?_
  rw [List.nil_append, List.map_reverse, tag_fst, List.reverse_reverse]
theorem ord_len (X : List (En × Ad)) : (ordX X).length = X.length := (ord_perm X).length_eq
/-- No entry ought to leave ahead of one in front of it. -/
theorem ord_srt (X : List (En × Ad)) : (ordX X).Pairwise fun a b => a.1.pri ≤ b.1.pri := by
  have h1 := (ordT_aux (tagX X).reverse [] .nil (fun x hx => by cases hx) (List.pairwise_reverse.2 (tag_inc X))).1
  have h2 := ordT_map (tagX X).reverse
  rw [List.map_reverse, tag_fst, List.reverse_reverse] at h2
  rw [← h2]
  exact List.pairwise_map.2 (h1.imp fun {a b} h => by unfold T3 at h; omega)
end Go.Proofs.Ytgkckblcekbafaa
