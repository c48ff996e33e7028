/-
 A stable sort in place, as plain data: swaps, rotation, insertion, merging. No program.
-/
import Derived.Test.YtgkckblcekbafaaPB
namespace Go.Proofs.Ytgkckblcekbafaa
set_option linter.unusedSimpArgs false
set_option linter.unusedVariables false

/-- An entry with its places and a number that no code sees. -/
abbrev Tg := (En × Ad) × Nat
abbrev zT : Tg := ((zEn, zAd), 0)
def lsT (a b : Tg) : Bool := bfP a.1.1 b.1.1
/-- The order of leaving, ties by number. -/
def T3 (a b : Tg) : Prop := a.1.1.pri < b.1.1.pri ∨ (a.1.1.pri = b.1.1.pri ∧ (b.1.1.od < a.1.1.od ∨ (a.1.1.od = b.1.1.od ∧ a.2 < b.2)))
section
variable {a b c : Tg}
theorem ls_iff : lsT a b = true ↔ (a.1.1.pri < b.1.1.pri ∨ (a.1.1.pri = b.1.1.pri ∧ b.1.1.od < a.1.1.od)) := by simp [lsT, bfP]
theorem ls_no : lsT a b = false ↔ ¬ (a.1.1.pri < b.1.1.pri ∨ (a.1.1.pri = b.1.1.pri ∧ b.1.1.od < a.1.1.od)) := by rw [← ls_iff]; simp
theorem T3.tr (h : T3 a b) (g : T3 b c) : T3 a c := by unfold T3 at *; omega
theorem T3.asym (h : T3 a b) (g : T3 b a) : False := by unfold T3 at *; omega
theorem ls_t3 (h : lsT a b = true) : T3 a b := by have := ls_iff.1 h; unfold T3; omega
theorem nls_t3 (h : lsT b a = false) (ht : a.2 < b.2) : T3 a b := by have := ls_no.1 h; unfold T3; omega
theorem t3_nls (h : T3 a b) : lsT b a = false := ls_no.2 (by unfold T3 at h; omega)
theorem t3_ls (h : T3 a b) (g : lsT b c = true) : lsT a c = true := ls_iff.2 (by have := ls_iff.1 g; unfold T3 at h; omega)
theorem ls_t3' (g : lsT a b = true) (h : T3 b c) : lsT a c = true := ls_iff.2 (by have := ls_iff.1 g; unfold T3 at h; omega)
end
def Srt (A B : List Tg) : Prop := B.Perm A ∧ B.Pairwise T3
theorem srt_uniq {B C : List Tg} (h : B.Pairwise T3) (g : C.Pairwise T3) (p : B.Perm C) : B = C := p.eq_of_pairwise (fun a b _ _ h1 h2 => (T3.asym h1 h2).elim) h g
theorem Srt.len {A B : List Tg} (h : Srt A B) : B.length = A.length := h.1.length_eq
theorem Srt.nil : Srt [] [] := ⟨.refl _, .nil⟩
/-- All numbers of the one are less than those of the other. -/
def Lt2 (A B : List Tg) : Prop := ∀ a ∈ A, ∀ b ∈ B, a.2 < b.2
theorem Lt2.mono {A B A' B' : List Tg} (h : Lt2 A B) (ha : ∀ x ∈ A', x ∈ A) (hb : ∀ x ∈ B', x ∈ B) : Lt2 A' B' := fun a h1 b h2 => h a (ha a h1) b (hb b h2)
def swL (L : List Tg) (i j : Nat) : List Tg := (L.set i (L.getD j zT)).set j (L.getD i zT)
theorem sw_len (L : List Tg) (i j : Nat) : (swL L i j).length = L.length := by simp [swL]
theorem gA (P A R : List Tg) (k : Nat) (h : k < A.length) : (P ++ (A ++ R)).getD (P.length + k) zT = A.getD k zT := by
  simp only [List.getD_eq_getElem?_getD]
  rw [List.getElem?_append_right (by omega), show P.length + k - P.length = k by omega, List.getElem?_append_left h]
theorem gB (P A B S : List Tg) (k : Nat) (h : k < B.length) : (P ++ (A ++ (B ++ S))).getD (P.length + A.length + k) zT = B.getD k zT := by
  have := gA (P ++ A) B S k h
  rwa [List.append_assoc, List.length_append] at this
theorem g1 (P R : List Tg) (x : Tg) : (P ++ x :: R).getD P.length zT = x := by simp [List.getD_eq_getElem?_getD]
theorem s1 (P R : List Tg) (x y : Tg) : (P ++ x :: R).set P.length y = P ++ y :: R := by
  rw [List.set_append_right _ _ (Nat.le_refl _), Nat.sub_self, List.set_cons_zero]
theorem sw_mid (P M S : List Tg) (x y : Tg) : swL (P ++ x :: (M ++ y :: S)) P.length (P.length + 1 + M.length) = P ++ y :: (M ++ x :: S) := by
  have e1 : ∀ z : Tg, P ++ z :: (M ++ y :: S) = (P ++ z :: M) ++ y :: S := fun z => by simp
  have e2 : ∀ z : Tg, (P ++ z :: M).length = P.length + 1 + M.length := fun z => by simp; omega
  unfold swL
  rw [g1, s1]
  have h1 := g1 (P ++ x :: M) S y
  rw [e2, ← e1] at h1
  rw [h1]
  have h2 := s1 (P ++ y :: M) S y x
  rw [e2, ← e1] at h2
  rw [h2]
  simp
theorem sw_comm (L : List Tg) (i j : Nat) : swL L i j = swL L j i := by
  unfold swL
  by_cases h : i = j
  · subst h; rfl
  · rw [List.set_comm _ _ h]
theorem sw_mid' (P M S : List Tg) (x y : Tg) : swL (P ++ x :: (M ++ y :: S)) (P.length + 1 + M.length) P.length = P ++ y :: (M ++ x :: S) := by rw [sw_comm, sw_mid]
/-- swapRange. -/
def srN (L : List Tg) (a b : Nat) : Nat → List Tg
  | 0 => L
  | k + 1 => swL (srN L a b k) (a + k) (b + k)
theorem sr_len (L : List Tg) (a b : Nat) : ∀ k, (srN L a b k).length = L.length
  | 0 => rfl
  | k + 1 => by rw [srN, sw_len, sr_len L a b k]
theorem td (U : List Tg) (k : Nat) (h : k < U.length) : U.drop k = U[k] :: U.drop (k + 1) := List.drop_eq_getElem_cons h
theorem tt1 (U : List Tg) (k : Nat) (h : k < U.length) : U.take (k + 1) = U.take k ++ [U[k]] := (take_snoc U k h).symm
theorem sr_seg (P U M V S : List Tg) (h : U.length = V.length) : ∀ k, k ≤ U.length → srN (P ++ (U ++ (M ++ (V ++ S)))) P.length (P.length + U.length + M.length) k = P ++ (V.take k ++ (U.drop k ++ (M ++ (U.take k ++ (V.drop k ++ S)))))
  | 0, _ => by simp [srN]
  | k + 1, hk => by
    rw [srN, sr_seg P U M V S h k (by omega), td U k (by omega), td V k (by omega), tt1 U k (by omega), tt1 V k (by omega)]
    have h1 := sw_mid (P ++ V.take k) (U.drop (k + 1) ++ (M ++ U.take k)) (V.drop (k + 1) ++ S) U[k] (V[k]'(by omega))
    have e1 : (P ++ V.take k).length = P.length + k := by rw [List.length_append, List.length_take]; omega
    have e2 : (P ++ V.take k).length + 1 + (U.drop (k + 1) ++ (M ++ U.take k)).length = P.length + U.length + M.length + k := by
      simp only [List.length_append, List.length_take, List.length_drop]; omega
    rw [e2, e1] at h1
    simp only [List.append_assoc, List.cons_append, List.nil_append] at h1 ⊢
    exact h1
theorem sr_all (P U M V S : List Tg) (h : U.length = V.length) : srN (P ++ (U ++ (M ++ (V ++ S)))) P.length (P.length + U.length + M.length) U.length = P ++ (V ++ (M ++ (U ++ S))) := by
  rw [sr_seg P U M V S h _ (Nat.le_refl _), List.take_of_length_le (by omega), List.drop_of_length_le (Nat.le_refl _), List.take_of_length_le (Nat.le_refl _), List.drop_of_length_le (by omega), List.nil_append, List.nil_append]
/-- The three steps of a rotation. -/
theorem rot_l (P X Y S : List Tg) (h : Y.length ≤ X.length) : srN (P ++ (X ++ (Y ++ S))) P.length (P.length + X.length) Y.length = (P ++ Y) ++ (X.drop Y.length ++ (X.take Y.length ++ S)) := by
  have h1 := sr_all P (X.take Y.length) (X.drop Y.length) Y S (by rw [List.length_take]; omega)
  rw [List.length_take, List.length_drop, Nat.min_eq_left h, ← List.append_assoc (X.take _), List.take_append_drop, show P.length + Y.length + (X.length - Y.length) = P.length + X.length by omega] at h1
  rw [h1, List.append_assoc]
theorem rot_r (P X Y S : List Tg) (h : X.length ≤ Y.length) : srN (P ++ (X ++ (Y ++ S))) P.length (P.length + Y.length) X.length = P ++ (Y.drop (Y.length - X.length) ++ (Y.take (Y.length - X.length) ++ (X ++ S))) := by
  have h1 := sr_all P X (Y.take (Y.length - X.length)) (Y.drop (Y.length - X.length)) S (by rw [List.length_drop]; omega)
  rw [List.length_take, Nat.min_eq_left (by omega), ← List.append_assoc (Y.take _), List.take_append_drop, show P.length + X.length + (Y.length - X.length) = P.length + Y.length by omega] at h1
  exact h1
/-- Insertion sort. -/
def inI (a : Nat) : Nat → List Tg → List Tg
  | 0, L => L
  | j + 1, L => if a < j + 1 ∧ lsT (L.getD (j + 1) zT) (L.getD j zT) = true then inI a j (swL L (j + 1) j) else L
def inO (a : Nat) : Nat → Nat → List Tg → List Tg
  | 0, _, L => L
  | k + 1, i, L => inO a k (i + 1) (inI a i L)
theorem inI_len (a : Nat) : ∀ (j : Nat) (L : List Tg), (inI a j L).length = L.length
  | 0, L => rfl
  | j + 1, L => by
    unfold inI
    split
    · rw [inI_len a j, sw_len]
    · rfl
theorem inI_stop (a j : Nat) (L : List Tg) (h : j ≤ a ∨ lsT (L.getD j zT) (L.getD (j - 1) zT) = false) : inI a j L = L := by
  cases j with
  | zero => rfl
  | succ j =>
    unfold inI
    refine if_neg fun q => ?_
    rcases h with h | h
    · omega
    · rw [Nat.add_sub_cancel, q.2] at h; cases h
theorem inI_go (a j : Nat) (L : List Tg) (h : a < j) (g : lsT (L.getD j zT) (L.getD (j - 1) zT) = true) : inI a j L = inI a (j - 1) (swL L j (j - 1)) := by
  cases j with
  | zero => omega
  | succ j =>
    rw [Nat.add_sub_cancel] at g ⊢
    rw [inI, if_pos ⟨h, g⟩]
theorem inI_seg (P R : List Tg) (e : Tg) : ∀ (n : Nat) (C1 C2 : List Tg), C1.length = n → (C1 ++ C2).Pairwise T3 → (∀ c ∈ C1, c.2 < e.2) → (∀ y ∈ C2, T3 e y) → ∃ C, C.Perm (C1 ++ e :: C2) ∧ C.Pairwise T3 ∧ inI P.length (P.length + n) (P ++ (C1 ++ e :: (C2 ++ R))) = P ++ (C ++ R)
  | 0, C1, C2, hn, hs, ht, hy => by
    obtain rfl := List.length_eq_zero_iff.1 hn
    refine ⟨e :: C2, .refl _, List.pairwise_cons.2 ⟨hy, hs⟩, ?_⟩
    rw [inI_stop _ _ _ (.inl (by omega))]
    simp
  | n + 1, C1, C2, hn, hs, ht, hy => by
    obtain ⟨D, c, rfl⟩ : ∃ D c, C1 = D ++ [c] := ⟨C1.dropLast, C1.getLast (fun h => by simp [h] at hn), (List.dropLast_concat_getLast _).symm⟩
    have hD : D.length = n := by simpa using hn
    have e0 : P ++ ((D ++ [c]) ++ e :: (C2 ++ R)) = (P ++ D) ++ c :: ([] ++ e :: (C2 ++ R)) := by simp
    have e1 : (P ++ D).length = P.length + n := by rw [List.length_append, hD]
    have q1 : (P ++ ((D ++ [c]) ++ e :: (C2 ++ R))).getD (P.length + (n + 1)) zT = e := by
      have := g1 (P ++ (D ++ [c])) (C2 ++ R) e
      rw [show (P ++ (D ++ [c])).length = P.length + (n + 1) by simp; omega, List.append_assoc] at this
      exact this
    have q2 : (P ++ ((D ++ [c]) ++ e :: (C2 ++ R))).getD (P.length + (n + 1) - 1) zT = c := by
      rw [e0, show P.length + (n + 1) - 1 = (P ++ D).length by omega, g1]
    cases hl : lsT e c with
    | true =>
      rw [inI_go _ _ _ (by omega) (by rw [q1, q2]; exact hl), e0, show P.length + (n + 1) = (P ++ D).length + 1 + ([] : List Tg).length by simp; omega, show (P ++ D).length + 1 + ([] : List Tg).length - 1 = (P ++ D).length by simp, sw_mid', e1]
      obtain ⟨C, h1, h2, h3⟩ := inI_seg P R e n D (c :: C2) hD (by simpa using hs) (fun x hx => ht x (by simp [hx])) (fun y h => by
        rcases List.mem_cons.1 h with rfl | h
        · exact ls_t3 hl
        · exact hy y h)
      refine ⟨C, h1.trans ?_, h2, ?_⟩
      · rw [List.append_assoc]
        exact List.Perm.append_left D (List.Perm.swap c e C2)
      · rw [← h3]; simp
    | false =>
      rw [inI_stop _ _ _ (.inr (by rw [q1, q2]; exact hl))]
      have hce : T3 c e := nls_t3 hl (ht c (by simp))
      refine ⟨(D ++ [c]) ++ e :: C2, .refl _, ?_, by simp⟩
      have h0 := List.pairwise_append.1 hs
      refine List.pairwise_append.2 ⟨h0.1, List.pairwise_cons.2 ⟨hy, h0.2.1⟩, fun x hx y h => ?_⟩
      have hxe : T3 x e := by
        rcases List.mem_append.1 hx with h1 | h1
        · exact ((List.pairwise_append.1 h0.1).2.2 x h1 c (by simp)).tr hce
        · rw [List.mem_singleton.1 h1]; exact hce
      rcases List.mem_cons.1 h with rfl | h
      · exact hxe
      · exact hxe.tr (hy y h)
theorem inO_seg (P S : List Tg) : ∀ (Y X C : List Tg), Srt X C → (X ++ Y).Pairwise (fun a b => a.2 < b.2) → ∃ D, Srt (X ++ Y) D ∧ inO P.length Y.length (P.length + C.length) (P ++ (C ++ (Y ++ S))) = P ++ (D ++ S)
  | [], X, C, h, _ => ⟨C, by rwa [List.append_nil], by simp [inO]⟩
  | e :: Y, X, C, h, ht => by
    have h0 := List.pairwise_append.1 ht
    obtain ⟨C', h1, h2, h3⟩ := inI_seg P (Y ++ S) e C.length C [] rfl (by simpa using h.2) (fun c hc => h0.2.2 c (h.1.mem_iff.1 hc) e (by simp)) (fun y h => by cases h)
    have hS : Srt (X ++ [e]) C' := ⟨h1.trans (h.1.append_right [e]), h2⟩
    obtain ⟨D, h4, h5⟩ := inO_seg P S Y (X ++ [e]) C' hS (by simpa using ht)
    refine ⟨D, by simpa using h4, ?_⟩
    rw [List.length_cons, inO]
    simp only [List.nil_append, List.cons_append] at h3 ⊢
    rw [h3, ← h5, show P.length + C.length + 1 = P.length + C'.length by rw [hS.len, List.length_append, h.len]; simp; omega]
theorem in_sort (P X S : List Tg) (ht : X.Pairwise fun a b => a.2 < b.2) : ∃ D, Srt X D ∧ inO P.length (X.length - 1) (P.length + 1) (P ++ (X ++ S)) = P ++ (D ++ S) := by
  cases X with
  | nil => exact ⟨[], .nil, by simp [inO]⟩
  | cons x X =>
    have := inO_seg P S X [x] [x] ⟨.refl _, List.pairwise_singleton _ _⟩ (by simpa using ht)
    simpa using this
end Go.Proofs.Ytgkckblcekbafaa
