/-
  What a list's slots answer when they are its own: places, values, neighbours. (For the walks there and back, and for kept slots.)
-/
import Derived.Test.YtefinpapkjgpoaaLN
namespace Go.Proofs.Ytefinpapkjgpoaa
open Go.RowKit

theorem placeG_mem (s : Int) : ∀ (l : List (Int × Int)) (k i : Nat), i < l.length → (l.map (·.1)).Nodup → (l.getD i (0, 0)).1 = s → placeG s l k = ((k + i : Nat) : Int)
  | [], k, i, h, _, _ => by simp at h
  | x :: r, k, i, h, hn, hs => by
    rw [List.map_cons, List.nodup_cons] at hn
    rw [placeG]
    cases i with
    | zero =>
      have : x.1 = s := by simpa [List.getD] using hs
      rw [if_pos this]
      rfl
    | succ i =>
      have hi : i < r.length := by simpa using h
      have hs2 : (r.getD i (0, 0)).1 = s := by simpa [List.getD] using hs
      have hne : x.1 ≠ s := fun e => hn.1 (by
        rw [e, ← hs2, getD_lt r i (0, 0) hi]
        exact List.mem_map.2 ⟨r[i], List.getElem_mem hi, rfl⟩)
      rw [if_neg hne, placeG_mem s r (k + 1) i hi hn.2 hs2]
      omega
theorem Wm.own {m : LM} (h : Wm m) : (m.E.map (·.1)).Nodup := (List.nodup_append.1 h.nodup).1
/-- The place of the slot at place i is i. -/
theorem Wm.place {m : LM} (h : Wm m) {i : Nat} (hi : i < m.E.length) : placeM m (m.E.getD i (0, 0)).1 = (i : Int) := by
  unfold placeM
  rw [placeG_mem _ m.E 0 i hi h.own rfl]
  omega
theorem Wm.value {m : LM} (h : Wm m) {i : Nat} (hi : i < m.E.length) : valueM m (m.E.getD i (0, 0)).1 = ((m.E.getD i (0, 0)).2, true) := by
  unfold valueM
  rw [h.place hi, if_neg (by omega), Int.toNat_natCast]
theorem Wm.next {m : LM} (h : Wm m) {i : Nat} (hi : i < m.E.length) (b : Int) : nextM m (m.E.getD i (0, 0)).1 b = slotAt m (i + b) := by
  unfold nextM
  rw [h.place hi, if_neg (by omega)]
theorem slotAt_in (m : LM) {i : Nat} (hi : i < m.E.length) : slotAt m i = (m.E.getD i (0, 0)).1 := by
  unfold slotAt
  rw [if_neg (by omega), Int.toNat_natCast]
theorem slotAt_out (m : LM) {i : Int} (hi : i < 0 ∨ (m.E.length : Int) ≤ i) : slotAt m i = -1 := by
  unfold slotAt
  rw [if_pos hi]
theorem Wm.slot_range {m : LM} (h : Wm m) {i : Nat} (hi : i < m.E.length) : 0 ≤ (m.E.getD i (0, 0)).1 ∧ (m.E.getD i (0, 0)).1 < m.U := by
  refine h.range (List.mem_append_left _ ?_)
  rw [getD_lt m.E i (0, 0) hi]
  exact List.mem_map.2 ⟨m.E[i], List.getElem_mem hi, rfl⟩
/-- A walk on from the slot at place i: it has ended, or it stands at a slot of its own. -/
theorem Wm.at {m : LM} (h : Wm m) (i : Nat) (hi : i ≤ m.E.length) : (i < m.E.length ∧ 0 ≤ slotAt m i) ∨ (i = m.E.length ∧ slotAt m i = -1) := by
  by_cases hlt : i < m.E.length
  · refine .inl ⟨hlt, ?_⟩
    rw [slotAt_in m hlt]
    exact (h.slot_range hlt).1
  · exact .inr ⟨by omega, slotAt_out m (.inr (by omega))⟩
theorem valuesM_at (m : LM) {i : Nat} (hi : i < m.E.length) : (valuesM m).getD i 0 = (m.E.getD i (0, 0)).2 := by
  unfold valuesM
  rw [getD_lt m.E i (0, 0) hi, getD_lt (m.E.map (·.2)) i 0 (by simpa using hi), List.getElem_map]
/-- A slot that is in the list: its place. -/
theorem mem_place {m : LM} (h : Wm m) {s v : Int} (hs : (s, v) ∈ m.E) : ∃ i, i < m.E.length ∧ placeM m s = (i : Int) ∧ valueM m s = (v, true) := by
  obtain ⟨i, hi, he⟩ := List.getElem_of_mem hs
  have hg : m.E.getD i (0, 0) = (s, v) := by rw [getD_lt m.E i (0, 0) hi, he]
  have hp := h.place hi
  have hv := h.value hi
  rw [hg] at hp hv
  exact ⟨i, hi, hp, hv⟩
/-- A slot stays in the list, with its value, when another one is taken out or put to the back, or a new one is put in. -/
theorem mem_pushF {m : LM} (v : Int) {x : Int × Int} (hx : x ∈ m.E) : x ∈ (pushF m v).1.E := by
  unfold pushF
  rw [takeM_E]
  exact List.mem_cons_of_mem _ hx
theorem mem_move {m : LM} (s : Int) {x : Int × Int} (hx : x ∈ m.E) : x ∈ (moveM m s).1.E := by
  unfold moveM
  split
  · exact hx
  · rename_i hp
    have hr := placeM_range m s
    obtain ⟨i, hi⟩ := Int.eq_ofNat_of_zero_le (show 0 ≤ placeM m s by omega)
    rw [hi, Int.toNat_natCast]
    have hlt : i < m.E.length := by omega
    rw [split_at m.E i hlt] at hx
    simp only [without, List.mem_append, List.mem_cons, List.not_mem_nil, or_false] at hx ⊢
    rcases hx with hx | hx | hx
    · exact .inl (.inl hx)
    · exact .inr hx
    · exact .inl (.inr hx)
theorem mem_remove {m : LM} (s : Int) {x : Int × Int} (hx : x ∈ m.E) (hne : x.1 ≠ s) : x ∈ (removeM m s).1.E := by
  unfold removeM
  split
  · exact hx
  · rename_i hp
    have hr := placeM_range m s
    obtain ⟨i, hi⟩ := Int.eq_ofNat_of_zero_le (show 0 ≤ placeM m s by omega)
    have hat := place_at hi
    rw [hi, Int.toNat_natCast]
    rw [split_at m.E i hat.1] at hx
    simp only [without, List.mem_append, List.mem_cons] at hx ⊢
    rcases hx with hx | rfl | hx
    · exact .inl hx
    · exact absurd hat.2 hne
    · exact .inr hx
end Go.Proofs.Ytefinpapkjgpoaa
