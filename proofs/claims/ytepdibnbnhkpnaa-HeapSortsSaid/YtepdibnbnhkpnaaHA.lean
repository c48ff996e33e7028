/-
  Items as plain data: their order, the reference's sorted list, a heap as a list. No program.
-/
import Derived.Test.YtepdibnbnhkpnaaCB
namespace Go.Proofs.Ytepdibnbnhkpnaa
open Go.RowKit
set_option linter.unusedSimpArgs false
set_option linter.unusedVariables false

/-- An item: its ID, its priority, its order. -/
abbrev It := Int × Int × Int
/-- a comes before b. -/
def bf (a b : It) : Bool := if a.2.1 = b.2.1 then (if a.2.2 = b.2.2 then decide (a.1 < b.1) else decide (a.2.2 < b.2.2)) else decide (b.2.1 < a.2.1)
theorem bf_iff (a b : It) : bf a b = true ↔ b.2.1 < a.2.1 ∨ (a.2.1 = b.2.1 ∧ (a.2.2 < b.2.2 ∨ (a.2.2 = b.2.2 ∧ a.1 < b.1))) := by
  unfold bf
  split
  · split <;> simp <;> omega
  · simp; omega
theorem bf_no (a b : It) : bf a b = false ↔ ¬ (b.2.1 < a.2.1 ∨ (a.2.1 = b.2.1 ∧ (a.2.2 < b.2.2 ∨ (a.2.2 = b.2.2 ∧ a.1 < b.1)))) := by
  rw [← bf_iff, Bool.not_eq_true]
theorem bf_irr (a : It) : bf a a = false := by rw [bf_no]; omega
theorem bf_trans {a b c : It} (h : bf a b = true) (k : bf b c = true) : bf a c = true := by
  rw [bf_iff] at *; omega
theorem bf_asym {a b : It} (h : bf a b = true) : bf b a = false := by
  rw [bf_iff] at h; rw [bf_no]; omega
theorem bf_tot {a b : It} (hn : a ≠ b) (h : bf a b = false) : bf b a = true := by
  obtain ⟨a1, a2, a3⟩ := a
  obtain ⟨b1, b2, b3⟩ := b
  rw [bf_no] at h
  rw [bf_iff]
  simp only [ne_eq, Prod.mk.injEq] at hn h ⊢
  omega
theorem bf_ntr {a b c : It} (h : bf a b = false) (k : bf b c = false) : bf a c = false := by
  rw [bf_no] at *; omega
/-- not (b before a), a before c: not (b .. ) -/
theorem bf_mix {a b c : It} (h : bf a b = false) (k : bf c b = true) : bf a c = false := by
  rw [bf_no] at *
  rw [bf_iff] at k
  omega
def ita (A : List It) (j : Nat) : It := A.getD j (0, 0, 0)
theorem ita_get {A : List It} {j : Nat} (h : j < A.length) : ita A j = A[j] := getD_lt A j _ h
theorem ita_mem {A : List It} {j : Nat} (h : j < A.length) : ita A j ∈ A := by rw [ita_get h]; exact List.getElem_mem h
theorem mem_ita {A : List It} {x : It} (h : x ∈ A) : ∃ j, j < A.length ∧ ita A j = x := by
  obtain ⟨j, hj, e⟩ := List.getElem_of_mem h
  exact ⟨j, hj, by rw [ita_get hj, e]⟩
/-- Two places exchanged. -/
def swL (A : List It) (i j : Nat) : List It := (A.set i (ita A j)).set j (ita A i)
theorem swL_len (A : List It) (i j : Nat) : (swL A i j).length = A.length := by simp [swL]
theorem ita_sw (A : List It) (i j k : Nat) (hi : i < A.length) (hj : j < A.length) : ita (swL A i j) k = if k = j then ita A i else if k = i then ita A j else ita A k := by
  unfold swL
  show ((A.set i (ita A j)).set j (ita A i)).getD k (0, 0, 0) = _
  rw [List.getD_eq_getElem?_getD, List.getElem?_set, List.length_set, List.getElem?_set]
  by_cases h1 : j = k
  · subst h1; simp [hj]
  · have h1' : ¬ k = j := fun e => h1 e.symm
    rw [if_neg h1, if_neg h1']
    by_cases h2 : i = k
    · subst h2; simp [hi]
    · have h2' : ¬ k = i := fun e => h2 e.symm
      rw [if_neg h2, if_neg h2']
      unfold ita
      rw [List.getD_eq_getElem?_getD]
theorem sw_perm (A : List It) (i j : Nat) (hi : i < A.length) (hj : j < A.length) : (swL A i j).Perm A := by
  unfold swL
  rw [ita_get hi, ita_get hj]
  exact List.set_set_perm hi hj
theorem sw_same (A : List It) (i : Nat) (hi : i < A.length) : swL A i i = A := by
  unfold swL
  rw [ita_get hi]
  simp
/-- The place below its parent is right. -/
def okA (A : List It) (j : Nat) : Prop := bf (ita A j) (ita A ((j - 1) / 2)) = false
/-- A heap. -/
def HO (A : List It) : Prop := ∀ j, 0 < j → j < A.length → okA A j
/-- A heap but for the place i. -/
def Gen (A : List It) (i : Nat) : Prop := (∀ j, 0 < j → j < A.length → j ≠ i → (j - 1) / 2 ≠ i → okA A j) ∧ (∀ c, 0 < c → c < A.length → (c - 1) / 2 = i → 0 < i → bf (ita A c) (ita A ((i - 1) / 2)) = false)
def UpI (A : List It) (i : Nat) : Prop := Gen A i ∧ ∀ c, 0 < c → c < A.length → (c - 1) / 2 = i → okA A c
def DnI (A : List It) (i : Nat) : Prop := Gen A i ∧ (0 < i → okA A i)
theorem HO.gen {A : List It} (h : HO A) (i : Nat) (hi : i < A.length) : Gen A i := by
  refine ⟨fun j h1 h2 _ _ => h j h1 h2, fun c h1 h2 h3 h4 => ?_⟩
  have a := h c h1 h2
  have b := h i h4 hi
  unfold okA at a b
  rw [h3] at a
  exact bf_ntr a b
theorem HO.dn {A : List It} (h : HO A) (i : Nat) (hi : i < A.length) : DnI A i := ⟨h.gen i hi, fun h0 => h i h0 hi⟩
theorem up_end {A : List It} {i : Nat} (h : UpI A i) (hk : 0 < i → okA A i) : HO A := fun j h1 h2 => by
  by_cases e : j = i
  · subst e; exact hk h1
  · by_cases e2 : (j - 1) / 2 = i
    · exact h.2 j h1 h2 e2
    · exact h.1.1 j h1 h2 e e2
theorem up_step {A : List It} {i : Nat} (h : Gen A i) (hi : 0 < i) (hl : i < A.length) (hb : bf (ita A i) (ita A ((i - 1) / 2)) = true) : UpI (swL A i ((i - 1) / 2)) ((i - 1) / 2) := by
  obtain ⟨p, hp⟩ : ∃ p, p = (i - 1) / 2 := ⟨_, rfl⟩
  rw [← hp] at hb ⊢
  have hpi : p < i := by omega
  have hpl : p < A.length := by omega
  have S := fun k => ita_sw A i p k hl hpl
  have hkey : ∀ c, 0 < c → c < A.length → (c - 1) / 2 = p → bf (ita (swL A i p) c) (ita A i) = false := fun c h1 h2 h3 => by
    by_cases e : c = i
    · subst e
      rw [S, if_neg (by omega), if_pos rfl]
      exact bf_asym hb
    · rw [S, if_neg (by omega), if_neg e]
      have := h.1 c h1 h2 e (by omega)
      unfold okA at this
      rw [h3] at this
      exact bf_mix this hb
  refine ⟨⟨fun j h1 h2 h3 h4 => ?_, fun c h1 h2 h3 h4 => ?_⟩, fun c h1 h2 h3 => ?_⟩
  · rw [swL_len] at h2
    unfold okA
    by_cases e : (j - 1) / 2 = i
    · rw [S, if_neg h3, if_neg (by omega), S, if_neg h4, if_pos e]
      have := h.2 j h1 h2 e hi
      rw [← hp] at this
      exact this
    · have hji : j ≠ i := fun e2 => h4 (by rw [e2]; exact hp.symm)
      rw [S, if_neg h3, if_neg hji, S, if_neg h4, if_neg e]
      exact h.1 j h1 h2 hji e
  · rw [swL_len] at h2
    have hg : bf (ita A p) (ita A ((p - 1) / 2)) = false := h.1 p h4 (by omega) (by omega) (by omega)
    rw [S ((p - 1) / 2), if_neg (by omega), if_neg (by omega)]
    by_cases e : c = i
    · subst e
      rw [S, if_neg (by omega), if_pos rfl]
      exact hg
    · rw [S, if_neg (by omega), if_neg e]
      have := h.1 c h1 h2 e (by omega)
      unfold okA at this
      rw [h3] at this
      exact bf_ntr this hg
  · rw [swL_len] at h2
    unfold okA
    rw [h3, S p, if_pos rfl]
    exact hkey c h1 h2 h3
theorem dn_end {A : List It} {i : Nat} (h : DnI A i) (hc : ∀ s, 0 < s → s < A.length → (s - 1) / 2 = i → bf (ita A s) (ita A i) = false) : HO A := fun j h1 h2 => by
  by_cases e : j = i
  · subst e; exact h.2 h1
  · by_cases e2 : (j - 1) / 2 = i
    · have := hc j h1 h2 e2
      unfold okA
      rw [e2]
      exact this
    · exact h.1.1 j h1 h2 e e2
theorem dn_step {A : List It} {i c : Nat} (h : DnI A i) (hl : i < A.length) (hc0 : 0 < c) (hc : c < A.length) (hp : (c - 1) / 2 = i) (hb : bf (ita A c) (ita A i) = true) (hs : ∀ s, 0 < s → s < A.length → (s - 1) / 2 = i → bf (ita A s) (ita A c) = false) : DnI (swL A i c) c := by
  have hci : i < c := by omega
  have S := fun k => ita_sw A i c k hl hc
  refine ⟨⟨fun j h1 h2 h3 h4 => ?_, fun d h1 h2 h3 h4 => ?_⟩, fun _ => ?_⟩
  · rw [swL_len] at h2
    unfold okA
    rw [S, if_neg h3, S, if_neg h4]
    by_cases e : j = i
    · subst e
      rw [if_pos rfl, if_neg (by omega)]
      exact h.1.2 c hc0 hc hp h1
    · rw [if_neg e]
      by_cases e2 : (j - 1) / 2 = i
      · rw [if_pos e2]
        exact hs j h1 h2 e2
      · rw [if_neg e2]
        exact h.1.1 j h1 h2 e e2
  · rw [swL_len] at h2
    rw [S, if_neg (by omega), if_neg (by omega), S, if_neg (by omega), if_pos hp]
    have := h.1.1 d h1 h2 (by omega) (by omega)
    unfold okA at this
    rw [h3] at this
    exact this
  · unfold okA
    rw [S, if_pos rfl, hp, S, if_neg (by omega), if_pos rfl]
    exact bf_asym hb
theorem ita_app {A : List It} {x : It} {j : Nat} (h : j < A.length) : ita (A ++ [x]) j = ita A j := by
  unfold ita
  rw [List.getD_eq_getElem?_getD, List.getD_eq_getElem?_getD, List.getElem?_append_left h]
theorem ita_last (A : List It) (x : It) : ita (A ++ [x]) A.length = x := by
  unfold ita
  rw [List.getD_eq_getElem?_getD, List.getElem?_append_right (Nat.le_refl _)]
  simp
theorem ita_take {A : List It} {n j : Nat} (h : j < n) : ita (A.take n) j = ita A j := by
  unfold ita
  rw [List.getD_eq_getElem?_getD, List.getD_eq_getElem?_getD, List.getElem?_take_of_lt h]
theorem gen_app {A : List It} (h : HO A) (x : It) : Gen (A ++ [x]) A.length := by
  refine ⟨fun j h1 h2 h3 h4 => ?_, fun c h1 h2 h3 h4 => ?_⟩
  · rw [List.length_append, List.length_singleton] at h2
    unfold okA
    rw [ita_app (by omega), ita_app (by omega)]
    exact h j h1 (by omega)
  · rw [List.length_append, List.length_singleton] at h2
    omega
theorem dn_last {A : List It} {n : Nat} (hn : A.length ≤ n + 1) (h : DnI A n) : HO A := dn_end h fun s h1 h2 h3 => by omega
theorem gen_cut {A : List It} {i n : Nat} (h : HO A) (hn : A.length = n + 1) (hi : i < n) : Gen ((swL A i n).take n) i := by
  have hl : ((swL A i n).take n).length = n := by rw [List.length_take, swL_len]; omega
  have S : ∀ k, k < n → k ≠ i → ita ((swL A i n).take n) k = ita A k := fun k h1 h2 => by
    rw [ita_take h1, ita_sw A i n k (by omega) (by omega), if_neg (by omega), if_neg h2]
  refine ⟨fun j h1 h2 h3 h4 => ?_, fun c h1 h2 h3 h4 => ?_⟩
  · rw [hl] at h2
    unfold okA
    rw [S j h2 h3, S _ (by omega) h4]
    exact h j h1 (by omega)
  · rw [hl] at h2
    rw [S c h2 (by omega), S _ (by omega) (by omega)]
    exact (h.gen i (by omega)).2 c h1 (by omega) h3 h4
theorem ho_cut {A : List It} {n : Nat} (h : HO A) : HO (A.take n) := fun j h1 h2 => by
  rw [List.length_take] at h2
  unfold okA
  rw [ita_take (by omega), ita_take (by omega)]
  exact h j h1 (by omega)
theorem ho_nil : HO [] := fun j _ h => by simp at h
theorem ho_root {A : List It} (h : HO A) : ∀ j, j < A.length → bf (ita A j) (ita A 0) = false := fun j => by
  induction j using Nat.strongRecOn with
  | ind j ih =>
    intro hj
    by_cases e : j = 0
    · subst e; exact bf_irr _
    · exact bf_ntr (h j (by omega) hj) (ih ((j - 1) / 2) (by omega) (by omega))
/-- A sorted list of items with IDs of their own. -/
structure Wh (M : List It) : Prop where
  srt : M.Pairwise fun a b => bf a b = true
  ids : (M.map (·.1)).Nodup
theorem Wh.nil : Wh [] := ⟨List.Pairwise.nil, by simp⟩
theorem srt_uniq {A B : List It} (hp : A.Perm B) (ha : A.Pairwise fun a b => bf a b = true) (hb : B.Pairwise fun a b => bf a b = true) : A = B :=
  List.Perm.eq_of_pairwise (fun a b _ _ h1 h2 => by rw [bf_asym h1] at h2; cases h2) ha hb hp
/-- The least item lies at the root. -/
theorem root_head {A M : List It} (hp : A.Perm M) (ho : HO A) (hs : M.Pairwise fun a b => bf a b = true) : ita A 0 = ita M 0 := by
  cases M with
  | nil =>
    rw [List.perm_nil] at hp
    rw [hp]
  | cons m r =>
    show ita A 0 = m
    have h0 : 0 < A.length := by rw [hp.length_eq]; simp
    obtain ⟨j, hj, e⟩ := mem_ita (hp.mem_iff.2 (by simp : m ∈ m :: r))
    have h1 := ho_root ho j hj
    rw [e] at h1
    have h2 := hp.mem_iff.1 (ita_mem h0)
    rcases List.mem_cons.1 h2 with h3 | h3
    · exact h3
    · have := (List.pairwise_cons.1 hs).1 _ h3
      rw [h1] at this
      cases this
/-- An item with an ID is there. -/
def hasId (k : Int) (M : List It) : Bool := M.any fun y => decide (y.1 = k)
theorem hasId_true {k : Int} {M : List It} : hasId k M = true ↔ ∃ y, y ∈ M ∧ y.1 = k := by simp [hasId]
theorem hasId_no {k : Int} {M : List It} : hasId k M = false ↔ ∀ y, y ∈ M → y.1 ≠ k := by
  unfold hasId
  rw [List.any_eq_false]
  simp
theorem hasId_perm {k : Int} {A M : List It} (h : A.Perm M) : hasId k A = hasId k M := by
  rw [Bool.eq_iff_iff, hasId_true, hasId_true]
  exact ⟨fun ⟨y, h1, h2⟩ => ⟨y, h.mem_iff.1 h1, h2⟩, fun ⟨y, h1, h2⟩ => ⟨y, h.mem_iff.2 h1, h2⟩⟩
/-- The reference's place for an item. -/
def kkF (x : It) : List It → Nat → Nat → Nat
  | [], _, k => k
  | y :: r, i, k => kkF x r (i + 1) (if bf y x then i + 1 else k)
theorem kkF_le (x : It) : ∀ (m : List It) (i k : Nat), k ≤ i → kkF x m i k ≤ i + m.length
  | [], i, k, h => by simpa [kkF] using h
  | y :: r, i, k, h => by
    have := kkF_le x r (i + 1) (if bf y x then i + 1 else k) (by split <;> omega)
    rw [kkF, List.length_cons]
    omega
theorem kkF_app (x y : It) : ∀ (m : List It) (i k : Nat), kkF x (m ++ [y]) i k = if bf y x then i + m.length + 1 else kkF x m i k
  | [], i, k => by simp [kkF]
  | z :: r, i, k => by
    rw [List.cons_append, kkF, kkF_app x y r, kkF, List.length_cons]
    congr 1
    omega
theorem kkF_split (x : It) : ∀ (m : List It) (i k : Nat), m.Pairwise (fun a b => bf a b = true) → ∃ P Q, m = P ++ Q ∧ (∀ y ∈ P, bf y x = true) ∧ (∀ y ∈ Q, bf y x = false) ∧ kkF x m i k = if P = [] then k else i + P.length
  | [], i, k, _ => ⟨[], [], rfl, by simp, by simp, by simp [kkF]⟩
  | y :: r, i, k, hs => by
    obtain ⟨h1, h2⟩ := List.pairwise_cons.1 hs
    obtain ⟨P, Q, rfl, hP, hQ, hk⟩ := kkF_split x r (i + 1) (if bf y x then i + 1 else k) h2
    by_cases hb : bf y x = true
    · refine ⟨y :: P, Q, rfl, fun z hz => ?_, hQ, ?_⟩
      · rcases List.mem_cons.1 hz with rfl | hz
        · exact hb
        · exact hP z hz
      · rw [kkF, hk, if_pos hb, if_neg (show ¬ (y :: P = []) by simp), List.length_cons]
        split
        · rename_i e; rw [e]; simp
        · omega
    · have hb2 : bf y x = false := by simpa using hb
      obtain rfl : P = [] := by
        cases P with
        | nil => rfl
        | cons z P =>
          exfalso
          have a := h1 z (by simp)
          have b := hP z (by simp)
          exact hb (bf_trans a b)
      refine ⟨[], y :: Q, rfl, by simp, fun z hz => ?_, ?_⟩
      · rcases List.mem_cons.1 hz with rfl | hz
        · exact hb2
        · exact hQ z hz
      · rw [kkF, hk, if_neg hb]
        simp
def insM (M : List It) (x : It) : List It × Bool := if hasId x.1 M then (M, false) else (M.take (kkF x M 0 0) ++ x :: M.drop (kkF x M 0 0), true)
def takM (M : List It) (k : Int) : List It × Bool := (M.eraseP fun y => decide (y.1 = k), hasId k M)
theorem insM_ok (M : List It) (x : It) : (insM M x).2 = !hasId x.1 M := by
  unfold insM
  cases hasId x.1 M <;> rfl
theorem ins_perm {M : List It} {x : It} (h : hasId x.1 M = false) : (insM M x).1.Perm (x :: M) := by
  unfold insM
  rw [h]
  show (M.take (kkF x M 0 0) ++ x :: M.drop (kkF x M 0 0)).Perm (x :: M)
  refine List.perm_middle.trans ?_
  rw [List.take_append_drop]
theorem ins_len {M : List It} {x : It} : (insM M x).1.length ≤ M.length + 1 := by
  cases h : hasId x.1 M with
  | true => unfold insM; rw [h]; simp
  | false => rw [(ins_perm h).length_eq]; simp
theorem Wh.ins {M : List It} (h : Wh M) (x : It) : Wh (insM M x).1 := by
  cases hi : hasId x.1 M with
  | true => unfold insM; rw [hi]; exact h
  | false =>
    refine ⟨?_, ?_⟩
    · unfold insM
      rw [hi]
      show (M.take (kkF x M 0 0) ++ x :: M.drop (kkF x M 0 0)).Pairwise _
      obtain ⟨P, Q, e, hP, hQ, hk⟩ := kkF_split x M 0 0 h.srt
      have hkl : kkF x M 0 0 = P.length := by
        rw [hk]
        split
        · rename_i e2; rw [e2]; rfl
        · omega
      have hs := h.srt
      have hno := hasId_no.1 hi
      rw [hkl]
      rw [e] at hs hno ⊢
      rw [List.take_left, List.drop_left]
      rw [List.pairwise_append] at hs ⊢
      refine ⟨hs.1, List.pairwise_cons.2 ⟨fun q hq => bf_tot (fun e2 => hno q (List.mem_append_right _ hq) (by rw [e2])) (hQ q hq), hs.2.1⟩, fun p hp q hq => ?_⟩
      rcases List.mem_cons.1 hq with rfl | hq
      · exact hP p hp
      · exact hs.2.2 p hp q hq
    · have := (ins_perm hi).map (·.1)
      rw [this.nodup_iff, List.map_cons, List.nodup_cons]
      refine ⟨fun hm => ?_, h.ids⟩
      obtain ⟨y, hy, e⟩ := List.mem_map.1 hm
      exact hasId_no.1 hi y hy e
theorem Wh.sub {M M2 : List It} (h : Wh M) (hs : M2.Sublist M) : Wh M2 := ⟨h.srt.sublist hs, h.ids.sublist (hs.map _)⟩
theorem Wh.tak {M : List It} (h : Wh M) (k : Int) : Wh (takM M k).1 := h.sub List.eraseP_sublist
theorem Wh.tail {M : List It} (h : Wh M) : Wh M.tail := h.sub (List.tail_sublist M)
theorem tak_len {M : List It} {k : Int} : (takM M k).1.length ≤ M.length := List.eraseP_sublist.length_le
theorem tak_none {M : List It} {k : Int} (h : hasId k M = false) : (takM M k).1 = M := List.eraseP_of_forall_not fun a ha => by simpa using hasId_no.1 h a ha
theorem tak_at {M : List It} {k : Int} {i : Nat} (hi : i < M.length) (hk : (ita M i).1 = k) (hno : ∀ j, j < i → (ita M j).1 ≠ k) : (takM M k).1 = M.take i ++ M.drop (i + 1) := by
  have e : M = M.take i ++ ita M i :: M.drop (i + 1) := by
    rw [ita_get hi]
    conv => lhs; rw [← List.take_append_drop i M, List.drop_eq_getElem_cons hi]
  have h1 : ∀ b ∈ M.take i, ¬ (decide (b.1 = k)) = true := fun b hb => by
    obtain ⟨j, hj, e2⟩ := mem_ita hb
    rw [List.length_take] at hj
    rw [ita_take (by omega)] at e2
    rw [← e2]
    simpa using hno j (by omega)
  show M.eraseP _ = _
  conv => lhs; rw [e]
  rw [List.eraseP_append_right _ h1, List.eraseP_cons_of_pos (by simpa using hk)]
/-- One item taken out of a permuted list. -/
theorem tak_perm {A M : List It} {x : It} {k : Int} (hp : (x :: A).Perm M) (hx : x.1 = k) (hn : (M.map (·.1)).Nodup) : A.Perm (takM M k).1 := by
  have hm : x ∈ M := hp.mem_iff.1 (by simp)
  obtain ⟨a, l1, l2, h1, h2, h3, h4⟩ := List.exists_of_eraseP (p := fun y : It => decide (y.1 = k)) hm (by simpa using hx)
  have hax : a = x := by
    have ha : a ∈ M := by rw [h3]; simp
    obtain ⟨i, hi, e1⟩ := List.getElem_of_mem ha
    obtain ⟨j, hj, e2⟩ := List.getElem_of_mem hm
    have h5 : a.1 = x.1 := by rw [hx]; simpa using h2
    have hij : i = j := by
      have := (List.getElem_inj (h₀ := by simpa using hi) (h₁ := by simpa using hj) hn).1 (by simp [e1, e2, h5])
      exact this
    subst hij
    rw [← e1, ← e2]
  show A.Perm (M.eraseP _)
  rw [h4]
  have : (x :: A).Perm (x :: (l1 ++ l2)) := by
    refine hp.trans ?_
    rw [h3, hax]
    exact List.perm_middle
  exact List.Perm.cons_inv this
theorem tak_head {M : List It} (h0 : 0 < M.length) : takM M (ita M 0).1 = (M.tail, true) := by
  cases M with
  | nil => simp at h0
  | cons m r =>
    unfold takM
    simp [ita, hasId]
/-- Where the items with an ID stand. -/
def Px (A : List It) (f : Int → Option Int) : Prop := ∀ k n, f k = some n ↔ ∃ j : Nat, n = j ∧ j < A.length ∧ (ita A j).1 = k
def Inj (A : List It) : Prop := ∀ j k, j < A.length → k < A.length → (ita A j).1 = (ita A k).1 → j = k
theorem inj_of {A : List It} (h : (A.map (·.1)).Nodup) : Inj A := fun j k hj hk e => by
  rw [ita_get hj, ita_get hk] at e
  exact (List.getElem_inj (h₀ := by simpa using hj) (h₁ := by simpa using hk) h).1 (by simpa using e)
def updF (f : Int → Option Int) (k : Int) (v : Option Int) : Int → Option Int := fun x => if x = k then v else f x
theorem Px.nil : Px [] (fun _ => none) := fun k n => by simp
theorem Px.no {A : List It} {f : Int → Option Int} (h : Px A f) {k : Int} : f k = none ↔ hasId k A = false := by
  rw [hasId_no]
  constructor
  · intro hf y hy e
    obtain ⟨j, hj, rfl⟩ := mem_ita hy
    rw [(h k j).2 ⟨j, rfl, hj, e⟩] at hf
    cases hf
  · intro hn
    cases hf : f k with
    | none => rfl
    | some n =>
      obtain ⟨j, -, hj, e⟩ := (h k n).1 hf
      exact absurd e (hn _ (ita_mem hj))
theorem Px.app {A : List It} {f : Int → Option Int} (h : Px A f) {x : It} (hn : hasId x.1 A = false) : Px (A ++ [x]) (updF f x.1 (some (A.length : Int))) := fun k n => by
  unfold updF
  have hl : (A ++ [x]).length = A.length + 1 := by simp
  by_cases e : k = x.1
  · rw [if_pos e]
    constructor
    · intro h2
      simp only [Option.some.injEq] at h2
      exact ⟨A.length, h2.symm, by omega, by rw [ita_last, e]⟩
    · rintro ⟨j, rfl, hj, hk⟩
      by_cases h3 : j < A.length
      · rw [ita_app h3] at hk
        exact absurd (hk.trans e) (hasId_no.1 hn _ (ita_mem h3))
      · rw [show j = A.length by omega]
  · rw [if_neg e, h k n]
    constructor
    · rintro ⟨j, rfl, hj, hk⟩
      exact ⟨j, rfl, by omega, by rw [ita_app hj]; exact hk⟩
    · rintro ⟨j, rfl, hj, hk⟩
      by_cases h3 : j < A.length
      · exact ⟨j, rfl, h3, by rw [ita_app h3] at hk; exact hk⟩
      · rw [show j = A.length by omega, ita_last] at hk
        exact absurd hk.symm e
theorem Px.sw {A : List It} {f : Int → Option Int} (h : Px A f) (hi : Inj A) {i j : Nat} (h1 : i < A.length) (h2 : j < A.length) : Px (swL A i j) (updF (updF f (ita A j).1 (some (i : Int))) (ita A i).1 (some (j : Int))) := fun k n => by
  unfold updF
  rw [swL_len]
  have S := fun x => ita_sw A i j x h1 h2
  by_cases e : k = (ita A i).1
  · rw [if_pos e]
    constructor
    · intro h3
      simp only [Option.some.injEq] at h3
      exact ⟨j, h3.symm, h2, by rw [S, if_pos rfl, e]⟩
    · rintro ⟨x, rfl, hx, hk⟩
      by_cases hxj : x = j
      · rw [hxj]
      · rw [S, if_neg hxj] at hk
        by_cases hxi : x = i
        · rw [if_pos hxi] at hk
          exact absurd (hi j i h2 h1 (hk.trans e)) (fun e2 => hxj (hxi.trans e2.symm))
        · rw [if_neg hxi] at hk
          exact absurd (hi x i hx h1 (hk.trans e)) hxi
  · rw [if_neg e]
    by_cases e2 : k = (ita A j).1
    · rw [if_pos e2]
      have hij : i ≠ j := fun h3 => e (by rw [e2, h3])
      constructor
      · intro h3
        simp only [Option.some.injEq] at h3
        exact ⟨i, h3.symm, h1, by rw [S, if_neg hij, if_pos rfl, e2]⟩
      · rintro ⟨x, rfl, hx, hk⟩
        by_cases hxj : x = j
        · rw [S, if_pos hxj] at hk
          exact absurd hk.symm e
        · rw [S, if_neg hxj] at hk
          by_cases hxi : x = i
          · rw [hxi]
          · rw [if_neg hxi] at hk
            exact absurd (hi x j hx h2 (hk.trans e2)) hxj
    · rw [if_neg e2, h k n]
      constructor
      · rintro ⟨x, rfl, hx, hk⟩
        exact ⟨x, rfl, hx, by rw [S, if_neg (fun h3 => e2 (by rw [← hk, h3])), if_neg (fun h3 => e (by rw [← hk, h3]))]; exact hk⟩
      · rintro ⟨x, rfl, hx, hk⟩
        rw [S] at hk
        by_cases hxj : x = j
        · rw [if_pos hxj] at hk
          exact absurd hk.symm e
        · rw [if_neg hxj] at hk
          by_cases hxi : x = i
          · rw [if_pos hxi] at hk
            exact absurd hk.symm e2
          · rw [if_neg hxi] at hk
            exact ⟨x, rfl, hx, hk⟩
theorem Px.cut {A : List It} {f : Int → Option Int} (h : Px A f) (hi : Inj A) {n : Nat} (hn : A.length = n + 1) : Px (A.take n) (updF f (ita A n).1 none) := fun k m => by
  unfold updF
  rw [List.length_take]
  by_cases e : k = (ita A n).1
  · rw [if_pos e]
    constructor
    · intro h3; cases h3
    · rintro ⟨j, rfl, hj, hk⟩
      rw [ita_take (by omega)] at hk
      have := hi j n (by omega) (by omega) (hk.trans e)
      omega
  · rw [if_neg e, h k m]
    constructor
    · rintro ⟨j, rfl, hj, hk⟩
      have hjn : j ≠ n := fun h3 => e (by rw [← hk, h3])
      exact ⟨j, rfl, by omega, by rw [ita_take (by omega)]; exact hk⟩
    · rintro ⟨j, rfl, hj, hk⟩
      rw [ita_take (by omega)] at hk
      exact ⟨j, rfl, by omega, hk⟩
theorem sw_cut {A : List It} {i n : Nat} (hn : A.length = n + 1) (hi : i < A.length) : (ita A i :: (swL A i n).take n).Perm A := by
  have hl : (swL A i n).length = n + 1 := by rw [swL_len, hn]
  have h1 : (swL A i n).take n ++ [ita A i] = swL A i n := by
    have e : ita (swL A i n) n = ita A i := by rw [ita_sw A i n n hi (by omega), if_pos rfl]
    rw [← e, ita_get (by omega)]
    conv => rhs; rw [← List.take_append_drop n (swL A i n), List.drop_eq_getElem_cons (by omega), List.drop_eq_nil_of_le (by omega)]
  have h2 := sw_perm A i n hi (by omega)
  rw [← h1] at h2
  exact (List.perm_append_comm (l₁ := [ita A i])).trans h2
end Go.Proofs.Ytepdibnbnhkpnaa
