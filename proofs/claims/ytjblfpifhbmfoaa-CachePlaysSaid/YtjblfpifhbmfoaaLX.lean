/-
  Lists in slots as a model, and what stays true of them. (Out of stage 7.)
-/
import Derived.Test.YtjblfpifhbmfoaaCU
namespace Go.Proofs.Ytjblfpifhbmfoaa
open Go.RowKit
set_option linter.unusedSimpArgs false
set_option linter.unusedVariables false

/-- A list: its elements (slot, number) in order, the slots that were freed (the last one last), how many slots were ever used. -/
structure LM where
  E : List (Int × Int)
  F : List Int
  U : Nat
def LM.empty : LM := ⟨[], [], 0⟩
def takeM (m : LM) : LM × Int := if m.F.length = 0 then (⟨m.E, m.F, m.U + 1⟩, (m.U : Int)) else (⟨m.E, m.F.take (m.F.length - 1), m.U⟩, m.F.getD (m.F.length - 1) 0)
def pushB (m : LM) (v : Int) : LM × Int := (⟨(takeM m).1.E ++ [((takeM m).2, v)], (takeM m).1.F, (takeM m).1.U⟩, (takeM m).2)
def pushF (m : LM) (v : Int) : LM × Int := (⟨((takeM m).2, v) :: (takeM m).1.E, (takeM m).1.F, (takeM m).1.U⟩, (takeM m).2)
/-- The place of a slot from k on; none: -1. -/
def placeG (s : Int) : List (Int × Int) → Nat → Int
  | [], _ => -1
  | x :: r, k => if x.1 = s then (k : Int) else placeG s r (k + 1)
def placeM (m : LM) (s : Int) : Int := placeG s m.E 0
def without (E : List (Int × Int)) (i : Nat) : List (Int × Int) := E.take i ++ E.drop (i + 1)
def removeM (m : LM) (s : Int) : LM × Bool := if placeM m s < 0 then (m, false) else (⟨without m.E (placeM m s).toNat, m.F ++ [s], m.U⟩, true)
def moveM (m : LM) (s : Int) : LM × Bool := if placeM m s < 0 then (m, false) else (⟨without m.E (placeM m s).toNat ++ [m.E.getD (placeM m s).toNat (0, 0)], m.F, m.U⟩, true)
def slotAt (m : LM) (i : Int) : Int := if i < 0 ∨ (m.E.length : Int) ≤ i then -1 else (m.E.getD i.toNat (0, 0)).1
def nextM (m : LM) (s b : Int) : Int := if placeM m s < 0 then -1 else slotAt m (placeM m s + b)
def valuesM (m : LM) : List Int := m.E.map (·.2)
theorem placeG_range (s : Int) : ∀ (l : List (Int × Int)) (k : Nat), placeG s l k = -1 ∨ ((k : Int) ≤ placeG s l k ∧ placeG s l k < (k + l.length : Nat))
  | [], k => .inl rfl
  | x :: r, k => by
    rw [placeG]
    split
    · exact .inr ⟨Int.le_refl _, by simp; omega⟩
    · rcases placeG_range s r (k + 1) with h | ⟨h1, h2⟩
      · exact .inl h
      · exact .inr ⟨by omega, by simp; omega⟩
theorem placeM_range (m : LM) (s : Int) : placeM m s = -1 ∨ (0 ≤ placeM m s ∧ placeM m s < (m.E.length : Int)) := by
  rcases placeG_range s m.E 0 with h | ⟨h1, h2⟩
  · exact .inl h
  · exact .inr ⟨h1, by unfold placeM; omega⟩
/-- The place, one element at a time. -/
theorem placeG_drop (s : Int) (l : List (Int × Int)) (k : Nat) (h : k < l.length) : placeG s (l.drop k) k = if (l.getD k (0, 0)).1 = s then (k : Int) else placeG s (l.drop (k + 1)) (k + 1) := by
  have e : l.drop k = l.getD k (0, 0) :: l.drop (k + 1) := by
    rw [List.drop_eq_getElem_cons h]
    congr 1
    simp [List.getD, List.getElem?_eq_getElem h]
  rw [e, placeG]
theorem without_len (E : List (Int × Int)) (i : Nat) (h : i < E.length) : (without E i).length = E.length - 1 := by
  unfold without
  rw [List.length_append, List.length_take, List.length_drop]
  omega
theorem takeM_E (m : LM) : (takeM m).1.E = m.E := by unfold takeM; split <;> rfl
theorem takeM_F (m : LM) : (takeM m).1.F.length ≤ m.F.length := by unfold takeM; split <;> simp
theorem takeM_U (m : LM) : (takeM m).1.U ≤ m.U + 1 := by unfold takeM; split <;> simp
set_option linter.unusedSimpArgs false
set_option linter.unusedVariables false
def slots (m : LM) : List Int := m.E.map (·.1) ++ m.F
def upto (n : Nat) : List Int := (List.range n).map fun (k : Nat) => (k : Int)
def Wm (m : LM) : Prop := (slots m).Perm (upto m.U)
theorem upto_next (n : Nat) : upto (n + 1) = upto n ++ [(n : Int)] := by simp [upto, List.range_succ]
theorem upto_nodup (n : Nat) : (upto n).Nodup := by
  induction n with
  | zero => simp [upto]
  | succ n ih =>
    rw [upto_next, List.nodup_append]
    refine ⟨ih, by simp, fun a ha b hb => ?_⟩
    simp only [upto, List.mem_map, List.mem_range] at ha
    obtain ⟨k, hk, rfl⟩ := ha
    simp only [List.mem_singleton] at hb
    omega
theorem Wm.nodup {m : LM} (h : Wm m) : (slots m).Nodup := (List.Perm.nodup_iff h).2 (upto_nodup _)
theorem Wm.range {m : LM} (h : Wm m) {s : Int} (hs : s ∈ slots m) : 0 ≤ s ∧ s < m.U := by
  have := (List.Perm.mem_iff h).1 hs
  simp only [upto, List.mem_map, List.mem_range] at this
  obtain ⟨k, hk, rfl⟩ := this
  omega
theorem Wm.count {m : LM} (h : Wm m) : m.E.length + m.F.length = m.U := by
  have := List.Perm.length_eq h
  simpa [slots, upto] using this
theorem Wm.empty : Wm LM.empty := by simp [Wm, slots, upto, LM.empty]
theorem take_perm {m : LM} (h : Wm m) (v : Int) : Wm ⟨m.E ++ [((takeM m).2, v)], (takeM m).1.F, (takeM m).1.U⟩ := by
  unfold Wm slots at h ⊢
  unfold takeM
  by_cases h0 : m.F.length = 0
  · have hF : m.F = [] := List.eq_nil_of_length_eq_zero h0
    rw [if_pos h0]
    simp only [List.map_append, List.map_cons, List.map_nil, hF, List.append_nil, upto_next] at h ⊢
    exact h.append_right _
  · rw [if_neg h0]
    have hl : m.F = m.F.take (m.F.length - 1) ++ [m.F.getD (m.F.length - 1) 0] := by
      have h1 : m.F.length - 1 < m.F.length := by omega
      have := List.take_succ_eq_append_getElem h1
      rw [show m.F.length - 1 + 1 = m.F.length by omega, List.take_length] at this
      rw [getD_lt m.F _ 0 h1]
      exact this
    simp only [List.map_append, List.map_cons, List.map_nil]
    refine List.Perm.trans ?_ h
    generalize m.F.getD (m.F.length - 1) 0 = s at *
    generalize m.F.take (m.F.length - 1) = F0 at *
    rw [hl, List.append_assoc]
    exact (List.perm_append_comm).append_left _
theorem Wm.pushB {m : LM} (h : Wm m) (v : Int) : Wm (pushB m v).1 := by
  have := take_perm h v
  unfold Go.Proofs.Ytjblfpifhbmfoaa.pushB
  rw [takeM_E]
  exact this
theorem Wm.pushF {m : LM} (h : Wm m) (v : Int) : Wm (pushF m v).1 := by
  have := take_perm h v
  unfold Go.Proofs.Ytjblfpifhbmfoaa.pushF
  rw [takeM_E]
  unfold Wm slots at this ⊢
  simp only [List.map_append, List.map_cons, List.map_nil] at this ⊢
  refine List.Perm.trans ?_ this
  simp only [List.append_assoc, List.singleton_append, List.cons_append]
  exact List.perm_middle.symm
theorem placeG_at (s : Int) : ∀ (l : List (Int × Int)) (k i : Nat), placeG s l k = ((k + i : Nat) : Int) → i < l.length ∧ (l.getD i (0, 0)).1 = s
  | [], k, i, h => by rw [placeG] at h; omega
  | x :: r, k, i, h => by
    rw [placeG] at h
    by_cases hx : x.1 = s
    · rw [if_pos hx] at h
      obtain rfl : i = 0 := by omega
      exact ⟨by simp, by simpa [List.getD] using hx⟩
    · rw [if_neg hx] at h
      cases i with
      | zero =>
        rcases placeG_range s r (k + 1) with h1 | h1
        · omega
        · omega
      | succ i =>
        have := placeG_at s r (k + 1) i (by rw [h]; omega)
        exact ⟨by simp; exact this.1, by simpa [List.getD] using this.2⟩
theorem place_at {m : LM} {s : Int} {i : Nat} (h : placeM m s = (i : Int)) : i < m.E.length ∧ (m.E.getD i (0, 0)).1 = s := placeG_at s m.E 0 i (by unfold placeM at h; rw [h]; omega)
theorem split_at (E : List (Int × Int)) (i : Nat) (h : i < E.length) : E = E.take i ++ E.getD i (0, 0) :: E.drop (i + 1) := by
  conv => lhs; rw [← List.take_append_drop i E, List.drop_eq_getElem_cons h]
  rw [show E.getD i (0, 0) = E[i] by simp [List.getD, List.getElem?_eq_getElem h]]
theorem Wm.remove {m : LM} (h : Wm m) (s : Int) : Wm (removeM m s).1 := by
  unfold removeM
  split
  · exact h
  · rename_i hp
    obtain ⟨i, hi⟩ := Int.eq_ofNat_of_zero_le (show 0 ≤ placeM m s by omega)
    rw [hi, Int.toNat_natCast]
    obtain ⟨hl, hs⟩ := place_at hi
    have he := split_at m.E i hl
    unfold Wm slots at h ⊢
    refine List.Perm.trans ?_ h
    conv => rhs; rw [he]
    simp only [without, List.map_append, List.map_cons, hs, List.append_assoc, List.cons_append]
    refine List.Perm.append_left _ ?_
    rw [← List.append_assoc]
    exact (List.perm_append_comm (l₂ := [s])).trans (by simp)
theorem Wm.move {m : LM} (h : Wm m) (s : Int) : Wm (moveM m s).1 := by
  unfold moveM
  split
  · exact h
  · rename_i hp
    obtain ⟨i, hi⟩ := Int.eq_ofNat_of_zero_le (show 0 ≤ placeM m s by omega)
    rw [hi, Int.toNat_natCast]
    obtain ⟨hl, hs⟩ := place_at hi
    have he := split_at m.E i hl
    unfold Wm slots at h ⊢
    refine List.Perm.trans ?_ h
    conv => rhs; rw [he]
    simp only [without, List.map_append, List.map_cons, List.map_nil, List.append_assoc, List.cons_append]
    refine List.Perm.append_left _ ?_
    exact List.perm_middle
/-- How large a list may be. -/
def Ok (m : LM) (k : Nat) : Prop := m.E.length ≤ k ∧ m.F.length ≤ k ∧ m.U ≤ k
theorem Ok.empty (k : Nat) : Ok LM.empty k := ⟨by simp [LM.empty], by simp [LM.empty], by simp [LM.empty]⟩
theorem Ok.pushB {m : LM} {k : Nat} (h : Ok m k) (v : Int) : Ok (pushB m v).1 (k + 1) := by
  obtain ⟨h1, h2, h3⟩ := h
  have := takeM_F m
  have := takeM_U m
  refine ⟨?_, ?_, ?_⟩
  · show ((takeM m).1.E ++ _).length ≤ _; rw [takeM_E]; simp; omega
  · show (takeM m).1.F.length ≤ _; omega
  · show (takeM m).1.U ≤ _; omega
theorem Ok.pushF {m : LM} {k : Nat} (h : Ok m k) (v : Int) : Ok (pushF m v).1 (k + 1) := by
  obtain ⟨h1, h2, h3⟩ := h
  have := takeM_F m
  have := takeM_U m
  refine ⟨?_, ?_, ?_⟩
  · show (_ :: (takeM m).1.E).length ≤ _; rw [takeM_E]; simp; omega
  · show (takeM m).1.F.length ≤ _; omega
  · show (takeM m).1.U ≤ _; omega
theorem Ok.remove {m : LM} {k : Nat} (h : Ok m k) (s : Int) : Ok (removeM m s).1 (k + 1) := by
  obtain ⟨h1, h2, h3⟩ := h
  unfold removeM
  split
  · exact ⟨Nat.le_succ_of_le h1, Nat.le_succ_of_le h2, Nat.le_succ_of_le h3⟩
  · refine ⟨?_, ?_, by show m.U ≤ _; omega⟩
    · show (without _ _).length ≤ _; unfold without; rw [List.length_append, List.length_take, List.length_drop]; omega
    · show (m.F ++ [s]).length ≤ _; simp; omega
theorem Ok.move {m : LM} {k : Nat} (h : Ok m k) (s : Int) : Ok (moveM m s).1 (k + 1) := by
  obtain ⟨h1, h2, h3⟩ := h
  have hr := placeM_range m s
  unfold moveM
  split
  · exact ⟨Nat.le_succ_of_le h1, Nat.le_succ_of_le h2, Nat.le_succ_of_le h3⟩
  · refine ⟨?_, by show m.F.length ≤ _; omega, by show m.U ≤ _; omega⟩
    show (without _ _ ++ _).length ≤ _
    rw [List.length_append, without_len _ _ (by omega)]
    simp
    omega
theorem But.buts {g : Nat} {w w' : World} (h : But g w w') : ButS g (· = g) w w' := ⟨h.1, h.2⟩
/-- What is at a slot: its number. -/
def valueM (m : LM) (s : Int) : Int × Bool := if placeM m s < 0 then (0, false) else ((m.E.getD (placeM m s).toNat (0, 0)).2, true)
abbrev Rep := World → Nat → (Nat → Prop) → LM → Prop
/-- The list is now m', in S' and new blocks. -/
def Upd (R : Rep) (g B : Nat) (S : Nat → Prop) (m' : LM) (w w' : World) : Prop := ∃ S', R w' g S' m' ∧ (∀ k, S' k → S k ∨ w.heap.size ≤ k) ∧ ButS B S w w'
theorem Ok.mono {m : LM} {k k' : Nat} (h : Ok m k) (hk : k ≤ k') : Ok m k' := ⟨Nat.le_trans h.1 hk, Nat.le_trans h.2.1 hk, Nat.le_trans h.2.2 hk⟩
theorem placeG_mem (s : Int) : ∀ (l : List (Int × Int)) (k i : Nat), i < l.length → (l.map (·.1)).Nodup → (l.getD i (0, 0)).1 = s → placeG s l k = ((k + i : Nat) : Int)
  | [], k, i, h, _, _ => by simp at h
  | x :: r, k, i, h, hn, hs => by
    rw [List.map_cons, List.nodup_cons] at hn
    rw [placeG]
    cases i with
    | zero =>
      have : x.1 = s := by simpa [List.getD] using hs
      rw [if_pos this]
      rfl
    | succ i =>
      have hi : i < r.length := by simpa using h
      have hs2 : (r.getD i (0, 0)).1 = s := by simpa [List.getD] using hs
      have hne : x.1 ≠ s := fun e => hn.1 (by
        rw [e, ← hs2, getD_lt r i (0, 0) hi]
        exact List.mem_map.2 ⟨r[i], List.getElem_mem hi, rfl⟩)
      rw [if_neg hne, placeG_mem s r (k + 1) i hi hn.2 hs2]
      omega
theorem Wm.own {m : LM} (h : Wm m) : (m.E.map (·.1)).Nodup := (List.nodup_append.1 h.nodup).1
/-- The place of the slot at place i is i. -/
theorem Wm.place {m : LM} (h : Wm m) {i : Nat} (hi : i < m.E.length) : placeM m (m.E.getD i (0, 0)).1 = (i : Int) := by
  unfold placeM
  rw [placeG_mem _ m.E 0 i hi h.own rfl]
  omega
theorem Wm.value {m : LM} (h : Wm m) {i : Nat} (hi : i < m.E.length) : valueM m (m.E.getD i (0, 0)).1 = ((m.E.getD i (0, 0)).2, true) := by
  unfold valueM
  rw [h.place hi, if_neg (by omega), Int.toNat_natCast]
theorem Wm.next {m : LM} (h : Wm m) {i : Nat} (hi : i < m.E.length) (b : Int) : nextM m (m.E.getD i (0, 0)).1 b = slotAt m (i + b) := by
  unfold nextM
  rw [h.place hi, if_neg (by omega)]
theorem slotAt_in (m : LM) {i : Nat} (hi : i < m.E.length) : slotAt m i = (m.E.getD i (0, 0)).1 := by
  unfold slotAt
  rw [if_neg (by omega), Int.toNat_natCast]
theorem slotAt_out (m : LM) {i : Int} (hi : i < 0 ∨ (m.E.length : Int) ≤ i) : slotAt m i = -1 := by
  unfold slotAt
  rw [if_pos hi]
theorem Wm.slot_range {m : LM} (h : Wm m) {i : Nat} (hi : i < m.E.length) : 0 ≤ (m.E.getD i (0, 0)).1 ∧ (m.E.getD i (0, 0)).1 < m.U := by
  refine h.range (List.mem_append_left _ ?_)
  rw [getD_lt m.E i (0, 0) hi]
  exact List.mem_map.2 ⟨m.E[i], List.getElem_mem hi, rfl⟩
/-- A walk on from the slot at place i: it has ended, or it stands at a slot of its own. -/
theorem Wm.at {m : LM} (h : Wm m) (i : Nat) (hi : i ≤ m.E.length) : (i < m.E.length ∧ 0 ≤ slotAt m i) ∨ (i = m.E.length ∧ slotAt m i = -1) := by
  by_cases hlt : i < m.E.length
  · refine .inl ⟨hlt, ?_⟩
    rw [slotAt_in m hlt]
    exact (h.slot_range hlt).1
  · exact .inr ⟨by omega, slotAt_out m (.inr (by omega))⟩
theorem valuesM_at (m : LM) {i : Nat} (hi : i < m.E.length) : (valuesM m).getD i 0 = (m.E.getD i (0, 0)).2 := by
  unfold valuesM
  rw [getD_lt m.E i (0, 0) hi, getD_lt (m.E.map (·.2)) i 0 (by simpa using hi), List.getElem_map]
/-- A slot that is in the list: its place. -/
theorem mem_place {m : LM} (h : Wm m) {s v : Int} (hs : (s, v) ∈ m.E) : ∃ i, i < m.E.length ∧ placeM m s = (i : Int) ∧ valueM m s = (v, true) := by
  obtain ⟨i, hi, he⟩ := List.getElem_of_mem hs
  have hg : m.E.getD i (0, 0) = (s, v) := by rw [getD_lt m.E i (0, 0) hi, he]
  have hp := h.place hi
  have hv := h.value hi
  rw [hg] at hp hv
  exact ⟨i, hi, hp, hv⟩
/-- A slot stays in the list, with its value, when another one is taken out or put to the back, or a new one is put in. -/
theorem mem_pushF {m : LM} (v : Int) {x : Int × Int} (hx : x ∈ m.E) : x ∈ (pushF m v).1.E := by
  unfold pushF
  rw [takeM_E]
  exact List.mem_cons_of_mem _ hx
theorem mem_move {m : LM} (s : Int) {x : Int × Int} (hx : x ∈ m.E) : x ∈ (moveM m s).1.E := by
  unfold moveM
  split
  · exact hx
  · rename_i hp
    have hr := placeM_range m s
    obtain ⟨i, hi⟩ := Int.eq_ofNat_of_zero_le (show 0 ≤ placeM m s by omega)
    rw [hi, Int.toNat_natCast]
    have hlt : i < m.E.length := by omega
    rw [split_at m.E i hlt] at hx
    simp only [without, List.mem_append, List.mem_cons, List.not_mem_nil, or_false] at hx ⊢
    rcases hx with hx | hx | hx
    · exact .inl (.inl hx)
    · exact .inr hx
    · exact .inl (.inr hx)
theorem mem_remove {m : LM} (s : Int) {x : Int × Int} (hx : x ∈ m.E) (hne : x.1 ≠ s) : x ∈ (removeM m s).1.E := by
  unfold removeM
  split
  · exact hx
  · rename_i hp
    have hr := placeM_range m s
    obtain ⟨i, hi⟩ := Int.eq_ofNat_of_zero_le (show 0 ≤ placeM m s by omega)
    have hat := place_at hi
    rw [hi, Int.toNat_natCast]
    rw [split_at m.E i hat.1] at hx
    simp only [without, List.mem_append, List.mem_cons] at hx ⊢
    rcases hx with hx | rfl | hx
    · exact .inl hx
    · exact absurd hat.2 hne
    · exact .inr hx
end Go.Proofs.Ytjblfpifhbmfoaa
