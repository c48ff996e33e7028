/-
 A pool as plain data: insertion, removal, the lists of it. No program.
-/
import Derived.Test.YtgkckblcekbafaaEA
namespace Go.Proofs.Ytgkckblcekbafaa
set_option linter.unusedSimpArgs false
set_option linter.unusedVariables false

/-- Two keys are equal. -/
def keq (a b : Nat → Int) : Bool := (List.range 32).all fun i => decide (a i = b i)
theorem keq_iff {a b : Nat → Int} : keq a b = true ↔ ∀ i, i < 32 → a i = b i := by simp [keq]
theorem keq_refl (a : Nat → Int) : keq a a = true := keq_iff.2 fun _ _ => rfl
theorem keq_symm {a b : Nat → Int} (h : keq a b = true) : keq b a = true := keq_iff.2 fun i hi => (keq_iff.1 h i hi).symm
theorem keq_trans {a b c : Nat → Int} (h : keq a b = true) (g : keq b c = true) : keq a c = true := keq_iff.2 fun i hi => (keq_iff.1 h i hi).trans (keq_iff.1 g i hi)
theorem keq_comm (a b : Nat → Int) : keq a b = keq b a := by
  cases h : keq a b with
  | true => exact (keq_symm h).symm
  | false =>
    cases g : keq b a with
    | true => rw [keq_symm g] at h; exact h.symm
    | false => rfl
/-- Where the entry with a key stands; the length if there is none. -/
def atL (k : Nat → Int) : List En → Nat
  | [] => 0
  | e :: r => if keq e.k k then 0 else atL k r + 1
theorem atL_le (k : Nat → Int) : ∀ L : List En, atL k L ≤ L.length
  | [] => Nat.le_refl _
  | e :: r => by
    unfold atL
    have := atL_le k r
    split
    · exact Nat.zero_le _
    · rw [List.length_cons]; omega
theorem atL_at {k : Nat → Int} : ∀ {L : List En}, atL k L < L.length → keq (L.getD (atL k L) zEn).k k = true
  | [], h => by simp [atL] at h
  | e :: r, h => by
    unfold atL at h ⊢
    split
    · rename_i q; exact q
    · rename_i q
      rw [if_neg q, List.length_cons] at h
      exact atL_at (L := r) (by omega)
theorem atL_min {k : Nat → Int} : ∀ {L : List En} {i : Nat}, i < atL k L → keq (L.getD i zEn).k k = false
  | [], i, h => by simp [atL] at h
  | e :: r, i, h => by
    unfold atL at h
    split at h
    · omega
    · rename_i q
      match i, h with
      | 0, _ => simpa using q
      | i + 1, h => exact atL_min (L := r) (by omega)
theorem atL_lt {k : Nat → Int} {L : List En} : atL k L < L.length ↔ ∃ e ∈ L, keq e.k k = true := by
  constructor
  · intro h
    exact ⟨L.getD (atL k L) zEn, by rw [List.getD_eq_getElem?_getD, List.getElem?_eq_getElem h]; exact List.getElem_mem h, atL_at h⟩
  · rintro ⟨e, he, hk⟩
    obtain ⟨i, hi, rfl⟩ := List.getElem_of_mem he
    rcases Nat.lt_or_ge (atL k L) L.length with h | h
    · exact h
    · have h1 := atL_min (k := k) (L := L) (i := i) (by omega)
      rw [List.getD_eq_getElem?_getD, List.getElem?_eq_getElem hi] at h1
      rw [show (some L[i]).getD zEn = L[i] from rfl, hk] at h1
      cases h1
theorem atL_none {k : Nat → Int} {L : List En} : ¬ atL k L < L.length ↔ ∀ e ∈ L, keq e.k k = false := by
  rw [atL_lt]
  constructor
  · intro h e he
    cases q : keq e.k k with
    | false => rfl
    | true => exact absurd ⟨e, he, q⟩ h
  · rintro h ⟨e, he, q⟩
    rw [h e he] at q; cases q
/-- The first of them stands here. -/
theorem atL_eq {k : Nat → Int} {L : List En} {i : Nat} (hi : i < L.length) (h1 : keq (L.getD i zEn).k k = true) (h0 : ∀ j, j < i → keq (L.getD j zEn).k k = false) : atL k L = i := by
  rcases Nat.lt_trichotomy (atL k L) i with h | h | h
  · have := h0 _ h
    rw [atL_at (by omega)] at this; cases this
  · exact h
  · have := atL_min h
    rw [h1] at this; cases this
theorem atL_end {k : Nat → Int} {L : List En} (h0 : ∀ j, j < L.length → keq (L.getD j zEn).k k = false) : atL k L = L.length := by
  have h1 := atL_le k L
  rcases Nat.lt_or_ge (atL k L) L.length with h | h
  · have := h0 _ h
    rw [atL_at h] at this; cases this
  · omega
theorem take_snoc {α : Type} (L : List α) (i : Nat) (hi : i < L.length) : L.take i ++ [L[i]] = L.take (i + 1) := by rw [List.take_add_one, List.getElem?_eq_getElem hi, Option.toList_some]
theorem pw_all {α : Type} {R : α → α → Prop} (h : ∀ a b, R a b) : ∀ L : List α, L.Pairwise R
  | [] => .nil
  | x :: r => .cons (fun y _ => h x y) (pw_all h r)
/-- The bytes of some entries. -/
def rawL : List En → Nat
  | [] => 0
  | e :: r => e.raw.length + rawL r
theorem raw_app : ∀ A B : List En, rawL (A ++ B) = rawL A + rawL B
  | [], B => by simp [rawL]
  | e :: r, B => by simp only [List.cons_append, rawL]; rw [raw_app r B]; omega
theorem raw_sub {A B : List En} (h : A.Sublist B) : rawL A ≤ rawL B := by
  induction h with
  | slnil => exact Nat.le_refl _
  | cons e _ ih => simp only [rawL]; omega
  | cons_cons e _ ih => simp only [rawL]; omega
theorem raw_perm {A B : List En} (h : A.Perm B) : rawL A = rawL B := by
  induction h with
  | nil => rfl
  | cons e _ ih => simp only [rawL]; omega
  | swap a b l => simp only [rawL]; omega
  | trans _ _ i1 i2 => omega
/-- An entry has this sender and sequence. -/
def ssB (s : ByteArray) (q : Int) (e : En) : Bool := decide (e.snd = s) && decide (e.sq = q)
theorem ssB_iff {s : ByteArray} {q : Int} {e : En} : ssB s q e = true ↔ e.snd = s ∧ e.sq = q := by simp [ssB]
/-- What Insert answers, for a pool of at most mt entries and mb bytes. -/
def insO (mt mb : Int) (L : List En) (e : En) : Int := if atL e.k L < L.length then 8 else if L.any (ssB e.snd e.sq) then 9 else if mt ≤ L.length ∨ mb < rawL L + e.raw.length then 24 else 0
def insL (mt mb : Int) (L : List En) (e : En) : List En := if insO mt mb L e = 0 then L ++ [e] else L
def remO (L : List En) (k : Nat → Int) : Bool := decide (atL k L < L.length)
def remL (L : List En) (k : Nat → Int) : List En := L.take (atL k L) ++ L.drop (atL k L + 1)
theorem rem_sub (L : List En) (k : Nat → Int) : (remL L k).Sublist L := by
  unfold remL
  rw [← List.eraseIdx_eq_take_drop_succ]
  exact List.eraseIdx_sublist ..
theorem remL_no {L : List En} {k : Nat → Int} (h : remO L k = false) : remL L k = L := by
  unfold remO at h
  have h1 := of_decide_eq_false h
  unfold remL
  rw [List.take_of_length_le (by omega), List.drop_of_length_le (by omega), List.append_nil]
/-- What stays true of a pool. -/
structure Wp (mt mb : Int) (L : List En) : Prop where
  key : L.Pairwise fun a b => keq a.k b.k = false
  ss : L.Pairwise fun a b => ssB a.snd a.sq b = false
  len : (L.length : Int) ≤ mt
  raw : (rawL L : Int) ≤ mb
theorem Wp.nil {mt mb : Int} (h1 : 0 ≤ mt) (h2 : 0 ≤ mb) : Wp mt mb [] := ⟨.nil, .nil, by simpa using h1, by simpa [rawL] using h2⟩
section
variable {mt mb : Int} {L A B : List En} {e : En}
theorem Wp.sub (h : Wp mt mb L) (hs : A.Sublist L) : Wp mt mb A := ⟨h.key.sublist hs, h.ss.sublist hs, by have := hs.length_le; have := h.len; omega, by have := raw_sub hs; have := h.raw; omega⟩
theorem Wp.rem (h : Wp mt mb L) (k : Nat → Int) : Wp mt mb (remL L k) := h.sub (rem_sub L k)
theorem ins_ok : insO mt mb L e = 0 ↔ (∀ x ∈ L, keq x.k e.k = false) ∧ (∀ x ∈ L, ssB e.snd e.sq x = false) ∧ (L.length : Int) < mt ∧ (rawL L : Int) + e.raw.length ≤ mb := by
  unfold insO
  constructor
  · intro h
    split at h
    · cases h
    · rename_i h1
      split at h
      · cases h
      · rename_i h2
        split at h
        · cases h
        · rename_i h3
          refine ⟨atL_none.1 h1, fun x hx => ?_, by omega, by omega⟩
          cases q : ssB e.snd e.sq x with
          | false => rfl
          | true => exact absurd (List.any_eq_true.2 ⟨x, hx, q⟩) h2
  · rintro ⟨h1, h2, h3, h4⟩
    rw [if_neg (atL_none.2 h1), if_neg (fun q => by obtain ⟨x, hx, q⟩ := List.any_eq_true.1 q; rw [h2 x hx] at q; cases q), if_neg (by omega)]
theorem ins_no (h : insO mt mb L e ≠ 0) : insL mt mb L e = L := if_neg h
theorem ins_yes (h : insO mt mb L e = 0) : insL mt mb L e = L ++ [e] := if_pos h
theorem ss_comm {a b : En} : ssB a.snd a.sq b = ssB b.snd b.sq a := by
  unfold ssB
  rw [show decide (b.snd = a.snd) = decide (a.snd = b.snd) from decide_eq_decide.2 ⟨Eq.symm, Eq.symm⟩, show decide (b.sq = a.sq) = decide (a.sq = b.sq) from decide_eq_decide.2 ⟨Eq.symm, Eq.symm⟩]
theorem Wp.ins (h : Wp mt mb L) (e : En) : Wp mt mb (insL mt mb L e) := by
  by_cases h0 : insO mt mb L e = 0
  · rw [ins_yes h0]
    obtain ⟨h1, h2, h3, h4⟩ := ins_ok.1 h0
    refine ⟨List.pairwise_append.2 ⟨h.key, List.pairwise_singleton _ _, fun a ha b hb => ?_⟩, List.pairwise_append.2 ⟨h.ss, List.pairwise_singleton _ _, fun a ha b hb => ?_⟩, by simp; omega, ?_⟩
    · rw [List.mem_singleton.1 hb]; exact h1 a ha
    · rw [List.mem_singleton.1 hb, ss_comm]; exact h2 a ha
    · rw [raw_app, show rawL [e] = e.raw.length from by simp [rawL]]
      omega
  · rw [ins_no h0]; exact h
/-- The entries of a pool, put into an empty one in their order, are all taken. -/
theorem Wp.again (h : Wp mt mb L) {i : Nat} (hi : i < L.length) : insO mt mb (L.take i) (L.getD i zEn) = 0 := by
  have e1 : L.getD i zEn = L[i] := by rw [List.getD_eq_getElem?_getD, List.getElem?_eq_getElem hi]; rfl
  have hs : (L.take i ++ [L[i]]).Sublist L := by
    rw [take_snoc L i hi]
    exact List.take_sublist ..
  have hw := h.sub hs
  have hk := List.pairwise_append.1 hw.key
  have hq := List.pairwise_append.1 hw.ss
  rw [e1]
  refine ins_ok.2 ⟨fun x hx => hk.2.2 x hx _ (List.mem_singleton.2 rfl), fun x hx => by rw [ss_comm]; exact hq.2.2 x hx _ (List.mem_singleton.2 rfl), ?_, ?_⟩
  · have := hw.len
    rw [List.length_append, List.length_singleton] at this; omega
  · have := hw.raw
    rw [raw_app, show rawL [L[i]] = L[i].raw.length from by simp [rawL]] at this; omega
theorem Wp.step (h : Wp mt mb L) {i : Nat} (hi : i < L.length) : insL mt mb (L.take i) (L.getD i zEn) = L.take (i + 1) := by
  rw [ins_yes (h.again hi), List.getD_eq_getElem?_getD, List.getElem?_eq_getElem hi]
  exact take_snoc L i hi
end
/-- Insertion behind the last element that need not go behind the new one, seen from the end. -/
def bkN (q : Nat → Bool) : Nat → Nat
  | 0 => 0
  | k + 1 => if q k then bkN q k else k + 1
theorem bk_le (q : Nat → Bool) : ∀ k, bkN q k ≤ k
  | 0 => Nat.le_refl _
  | k + 1 => by
    unfold bkN
    have := bk_le q k
    split <;> omega
theorem bk_past {q : Nat → Bool} : ∀ {k i : Nat}, bkN q k ≤ i → i < k → q i = true
  | 0, i, _, h => by omega
  | k + 1, i, h1, h2 => by
    unfold bkN at h1
    split at h1
    · rename_i h3
      rcases Nat.lt_or_ge i k with h | h
      · exact bk_past h1 h
      · obtain rfl : i = k := by omega
        exact h3
    · omega
theorem bk_stop {q : Nat → Bool} : ∀ {k : Nat}, 0 < bkN q k → q (bkN q k - 1) = false
  | 0, h => by simp [bkN] at h
  | k + 1, h => by
    unfold bkN at h ⊢
    split
    · rename_i h3
      rw [if_pos h3] at h
      exact bk_stop h
    · rename_i h3
      simpa using h3
theorem bk_congr {q r : Nat → Bool} : ∀ {k : Nat}, (∀ i, i < k → q i = r i) → bkN q k = bkN r k
  | 0, _ => rfl
  | k + 1, h => by
    unfold bkN
    rw [h k (by omega), bk_congr fun i hi => h i (by omega)]
section
variable {α β : Type} (p : α → α → Bool) (z : α)
def insP (out : List α) (e : α) : List α := out.take (bkN (fun i => p (out.getD i z) e) out.length) ++ e :: out.drop (bkN (fun i => p (out.getD i z) e) out.length)
theorem insP_len (out : List α) (e : α) : (insP p z out e).length = out.length + 1 := by
  unfold insP
  rw [List.length_append, List.length_cons, List.length_take, List.length_drop]
  have := bk_le (fun i => p (out.getD i z) e) out.length
  omega
theorem insP_perm (out : List α) (e : α) : (insP p z out e).Perm (e :: out) := by
  unfold insP
  refine List.perm_middle.trans ?_
  rw [List.take_append_drop]
theorem insP_srt {R : α → α → Prop} (tr : ∀ a b c, R a b → R b c → R a c) {out : List α} {e : α} (hs : out.Pairwise R) (h1 : ∀ x ∈ out, p x e = true → R e x) (h0 : ∀ x ∈ out, p x e = false → R x e) : (insP p z out e).Pairwise R := by
  unfold insP
  have hb := bk_le (fun i => p (out.getD i z) e) out.length
  have hp := @bk_past (fun i => p (out.getD i z) e) out.length
  have hq := @bk_stop (fun i => p (out.getD i z) e) out.length
  generalize bkN (fun i => p (out.getD i z) e) out.length = k at *
  have g : ∀ i, (h : i < out.length) → out.getD i z = out[i] := fun i h => by rw [List.getD_eq_getElem?_getD, List.getElem?_eq_getElem h]; rfl
  have hlt : ∀ x ∈ out.take k, R x e := fun x hx => by
    obtain ⟨i, hi, rfl⟩ := List.getElem_of_mem hx
    rw [List.length_take] at hi
    rw [List.getElem_take]
    have hk : 0 < k := by omega
    have h2 := hq hk
    simp only [g (k - 1) (by omega)] at h2
    have h3 := h0 _ (List.getElem_mem (by omega : k - 1 < out.length)) h2
    rcases Nat.lt_or_ge i (k - 1) with h | h
    · exact tr _ _ _ (List.pairwise_iff_getElem.1 hs i (k - 1) (by omega) (by omega) h) h3
    · have : i = k - 1 := by omega
      subst this
      exact h3
  have hgt : ∀ x ∈ out.drop k, R e x := fun x hx => by
    obtain ⟨i, hi, rfl⟩ := List.getElem_of_mem hx
    rw [List.length_drop] at hi
    rw [List.getElem_drop]
    have h2 := hp (i := k + i) (by omega) (by omega)
    simp only [g (k + i) (by omega)] at h2
    exact h1 _ (List.getElem_mem _) h2
  refine List.pairwise_append.2 ⟨hs.sublist (List.take_sublist ..), List.pairwise_cons.2 ⟨hgt, hs.sublist (List.drop_sublist ..)⟩, fun a ha b hb => ?_⟩
  rcases List.mem_cons.1 hb with rfl | hb
  · exact hlt a ha
  · exact tr _ _ _ (hlt a ha) (hgt b hb)
theorem insP_map (f : α → β) (q : β → β → Bool) (y : β) (hq : ∀ a b, p a b = q (f a) (f b)) (out : List α) (e : α) : (insP p z out e).map f = insP q y (out.map f) (f e) := by
  unfold insP
  have hk : bkN (fun i => q ((out.map f).getD i y) (f e)) (out.map f).length = bkN (fun i => p (out.getD i z) e) out.length := by
    rw [List.length_map]
    refine bk_congr fun i hi => ?_
    rw [hq]
    simp only [List.getD_eq_getElem?_getD, List.getElem?_map, List.getElem?_eq_getElem hi, Option.map_some, Option.getD_some]
  rw [hk, List.map_append, List.map_cons, List.map_take, List.map_drop]
def srtP (L : List α) : List α := L.foldl (insP p z) []
theorem srtP_perm_aux : ∀ (L out : List α), (L.foldl (insP p z) out).Perm (out ++ L)
  | [], out => by simp
  | e :: r, out => by
    rw [List.foldl_cons]
    refine (srtP_perm_aux r _).trans ?_
    refine ((insP_perm p z out e).append_right r).trans ?_
    rw [List.cons_append]
    exact List.perm_middle.symm
theorem srtP_perm (L : List α) : (srtP p z L).Perm L := by
  have h := srtP_perm_aux p z L []
  rwa [List.nil_append] at h
theorem srtP_map_aux (f : α → β) (q : β → β → Bool) (y : β) (hq : ∀ a b, p a b = q (f a) (f b)) : ∀ (L out : List α), (L.foldl (insP p z) out).map f = (L.map f).foldl (insP q y) (out.map f)
  | [], out => rfl
  | e :: r, out => by
    rw [List.foldl_cons, List.map_cons, List.foldl_cons, ← insP_map p z f q y hq]
    exact srtP_map_aux f q y hq r _
theorem srtP_map (f : α → β) (q : β → β → Bool) (y : β) (hq : ∀ a b, p a b = q (f a) (f b)) (L : List α) : (srtP p z L).map f = srtP q y (L.map f) := srtP_map_aux p z f q y hq L []
theorem srtP_snoc (L : List α) (e : α) : srtP p z (L ++ [e]) = insP p z (srtP p z L) e := by
  unfold srtP
  rw [List.foldl_append]
  rfl
/-- Sorted, where what comes later goes behind what is no greater. -/
theorem srtP_srt_aux {R : α → α → Prop} (tr : ∀ a b c, R a b → R b c → R a c) : ∀ (L out : List α), out.Pairwise R → (∀ x ∈ out, ∀ e ∈ L, (p x e = true → R e x) ∧ (p x e = false → R x e)) →
    L.Pairwise (fun x e => (p x e = true → R e x) ∧ (p x e = false → R x e)) → (L.foldl (insP p z) out).Pairwise R
  | [], out, h, _, _ => h
  | e :: r, out, h, h1, h2 => by
    rw [List.foldl_cons]
    have h3 := List.pairwise_cons.1 h2
    refine srtP_srt_aux tr r _ (insP_srt p z tr h (fun x hx => (h1 x hx e (by simp)).1) (fun x hx => (h1 x hx e (by simp)).2)) (fun x hx y hy => ?_) h3.2
    rcases List.mem_cons.1 ((insP_perm p z out e).mem_iff.1 hx) with rfl | hx
    · exact h3.1 y hy
    · exact h1 x hx y (by simp [hy])
theorem srtP_srt {R : α → α → Prop} (tr : ∀ a b c, R a b → R b c → R a c) {L : List α} (h : L.Pairwise (fun x e => (p x e = true → R e x) ∧ (p x e = false → R x e))) : (srtP p z L).Pairwise R := srtP_srt_aux p z tr L [] .nil (fun x hx => by cases hx) h
end
/-- The second goes ahead of the first. -/
def bfP (a b : En) : Bool := decide (a.pri < b.pri) || (decide (a.pri = b.pri) && decide (b.od < a.od))
def sortL (L : List En) : List En := srtP bfP zEn L
def bsq (a b : En) : Bool := decide (b.sq < a.sq)
def sndL (s : ByteArray) (L : List En) : List En := srtP bsq zEn (L.filter fun e => decide (e.snd = s))
theorem sort_perm (L : List En) : (sortL L).Perm L := srtP_perm _ _ _
theorem sort_len (L : List En) : (sortL L).length = L.length := (sort_perm L).length_eq
theorem snd_perm (s : ByteArray) (L : List En) : (sndL s L).Perm (L.filter fun e => decide (e.snd = s)) := srtP_perm _ _ _
/-- No entry of the sorted ones ought to go ahead of one in front of it. -/
theorem sort_srt (L : List En) : (sortL L).Pairwise fun a b => bfP a b = false := by
  refine srtP_srt (R := fun a b => bfP a b = false) bfP zEn (fun a b c h1 h2 => ?_) (pw_all (fun x e => ⟨fun h => ?_, fun h => h⟩) L)
  · unfold bfP at *
    simp only [Bool.or_eq_false_iff, Bool.and_eq_false_iff, decide_eq_false_iff_not] at *
    omega
  · unfold bfP at *
    simp only [Bool.or_eq_true, Bool.and_eq_true, decide_eq_true_eq, Bool.or_eq_false_iff, Bool.and_eq_false_iff, decide_eq_false_iff_not] at *
    omega
/-- Entries with numbers of their own, which rise: sorted by priority, order and number. -/
def R3 (a b : En × Nat) : Prop := b.1.pri < a.1.pri ∨ (a.1.pri = b.1.pri ∧ (a.1.od < b.1.od ∨ (a.1.od = b.1.od ∧ a.2 < b.2)))
theorem sort_num {M : List (En × Nat)} (h : M.Pairwise fun a b => a.2 < b.2) : ∃ S : List (En × Nat), S.Perm M ∧ S.map (·.1) = sortL (M.map (·.1)) ∧ S.Pairwise R3 := by
  refine ⟨srtP (fun a b => bfP a.1 b.1) (zEn, 0) M, srtP_perm _ _ _, srtP_map _ _ (·.1) bfP zEn (fun _ _ => rfl) M, srtP_srt _ _ (fun a b c h1 h2 => ?_) (h.imp fun {a b} hab => ⟨fun q => ?_, fun q => ?_⟩)⟩
  · unfold R3 at *; omega
  · unfold bfP at q
    unfold R3
    simp only [Bool.or_eq_true, Bool.and_eq_true, decide_eq_true_eq] at q
    omega
  · unfold bfP at q
    unfold R3
    simp only [Bool.or_eq_false_iff, Bool.and_eq_false_iff, decide_eq_false_iff_not] at q
    omega
/-- A sender's entries rise by sequence. -/
theorem snd_srt {mt mb : Int} {L : List En} (h : Wp mt mb L) (s : ByteArray) : (sndL s L).Pairwise fun a b => a.sq < b.sq := by
  have h1 : (L.filter fun e => decide (e.snd = s)).Pairwise fun a b => a.sq ≠ b.sq := by
    rw [List.pairwise_filter]
    refine h.ss.imp fun {a b} hab ha hb e => ?_
    rw [ssB_iff.2 ⟨(of_decide_eq_true hb).trans (of_decide_eq_true ha).symm, e.symm⟩] at hab
    cases hab
  refine srtP_srt bsq zEn (fun a b c h1 h2 => by omega) (h1.imp fun {a b} hab => ⟨fun q => of_decide_eq_true q, fun q => ?_⟩)
  have := of_decide_eq_false q
  omega
theorem snd_len_sum : ∀ (S : List ByteArray), S.Nodup → ∀ L : List En, (∀ e ∈ L, e.snd ∈ S) → (S.map fun s => (sndL s L).length).sum = L.length := fun S hS L => by
  have e : ∀ s, (sndL s L).length = (L.filter fun e => decide (e.snd = s)).length := fun s => (snd_perm s L).length_eq
  simp only [e]
  induction L with
  | nil =>
    intro _
    induction S with
    | nil => rfl
    | cons t T ihT => simpa using ihT (List.nodup_cons.1 hS).2 (fun e he => by cases he)
  | cons x r ih =>
    intro h
    have h1 := ih (fun s => (snd_perm s r).length_eq) fun e he => h e (by simp [he])
    have h2 : ∀ s, ((x :: r).filter fun e => decide (e.snd = s)).length = (if x.snd = s then 1 else 0) + (r.filter fun e => decide (e.snd = s)).length := fun s => by
      rw [List.filter_cons]
      by_cases q : x.snd = s
      · simp [q]; omega
      · simp [q]
    simp only [h2]
    have h3 : ∀ (T : List ByteArray), T.Nodup → x.snd ∈ T → (T.map fun s => (if x.snd = s then 1 else 0) + (r.filter fun e => decide (e.snd = s)).length).sum = 1 + (T.map fun s => (r.filter fun e => decide (e.snd = s)).length).sum := fun T => by
      induction T with
      | nil => intro _ hx; cases hx
      | cons t T ihT =>
        intro hn hx
        have hn2 := List.nodup_cons.1 hn
        simp only [List.map_cons, List.sum_cons]
        by_cases q : x.snd = t
        · have h4 : ∀ (U : List ByteArray), x.snd ∉ U → (U.map fun s => (if x.snd = s then 1 else 0) + (r.filter fun e => decide (e.snd = s)).length).sum = (U.map fun s => (r.filter fun e => decide (e.snd = s)).length).sum := fun U => by
            induction U with
            | nil => intro _; rfl
            | cons u U ihU =>
              intro hu
              simp only [List.map_cons, List.sum_cons, ihU (fun w => hu (by simp [w]))]
              rw [if_neg (fun w => hu (by simp [w]))]
              omega
          rw [h4 T (q ▸ hn2.1), if_pos q]
          omega
        · rw [ihT hn2.2 (by
            rcases List.mem_cons.1 hx with w | w
            · exact absurd w q
            · exact w), if_neg q]
          omega
    rw [h3 S hS (h x (by simp)), h1, List.length_cons]
    omega
/-- The keys of the entries for which f is true. -/
def goneL (f : En → Bool) (L : List En) : List (Nat → Int) := (L.filter f).map En.k
theorem gone_snoc (f : En → Bool) (L : List En) (e : En) : goneL f (L ++ [e]) = goneL f L ++ (if f e then [e.k] else []) := by
  unfold goneL
  rw [List.filter_append, List.map_append]
  cases h : f e <;> simp [h]
end Go.Proofs.Ytgkckblcekbafaa
