/-
  What the operations keep: the slots that are used and those that are freed are 0, 1, .. once each. What the program's functions are held to.
-/
import Derived.Test.YtefinpapkjgpoaaLK
namespace Go.Proofs.Ytefinpapkjgpoaa
open Go.RowKit
set_option linter.unusedSimpArgs false
set_option linter.unusedVariables false

def slots (m : LM) : List Int := m.E.map (·.1) ++ m.F
def upto (n : Nat) : List Int := (List.range n).map fun (k : Nat) => (k : Int)
def Wm (m : LM) : Prop := (slots m).Perm (upto m.U)
theorem upto_next (n : Nat) : upto (n + 1) = upto n ++ [(n : Int)] := by simp [upto, List.range_succ]
theorem upto_nodup (n : Nat) : (upto n).Nodup := by
  induction n with
  | zero => simp [upto]
  | succ n ih =>
    rw [upto_next, List.nodup_append]
    refine ⟨ih, by simp, fun a ha b hb => ?_⟩
    simp only [upto, List.mem_map, List.mem_range] at ha
    obtain ⟨k, hk, rfl⟩ := ha
    simp only [List.mem_singleton] at hb
    omega
theorem Wm.nodup {m : LM} (h : Wm m) : (slots m).Nodup := (List.Perm.nodup_iff h).2 (upto_nodup _)
theorem Wm.range {m : LM} (h : Wm m) {s : Int} (hs : s ∈ slots m) : 0 ≤ s ∧ s < m.U := by
  have := (List.Perm.mem_iff h).1 hs
  simp only [upto, List.mem_map, List.mem_range] at this
  obtain ⟨k, hk, rfl⟩ := this
  omega
theorem Wm.count {m : LM} (h : Wm m) : m.E.length + m.F.length = m.U := by
  have := List.Perm.length_eq h
  simpa [slots, upto] using this
theorem Wm.empty : Wm LM.empty := by simp [Wm, slots, upto, LM.empty]
theorem take_perm {m : LM} (h : Wm m) (v : Int) : Wm ⟨m.E ++ [((takeM m).2, v)], (takeM m).1.F, (takeM m).1.U⟩ := by
  unfold Wm slots at h ⊢
  unfold takeM
  by_cases h0 : m.F.length = 0
  · have hF : m.F = [] := List.eq_nil_of_length_eq_zero h0
    rw [if_pos h0]
    simp only [List.map_append, List.map_cons, List.map_nil, hF, List.append_nil, upto_next] at h ⊢
    exact h.append_right _
  · rw [if_neg h0]
    have hl : m.F = m.F.take (m.F.length - 1) ++ [m.F.getD (m.F.length - 1) 0] := by
      have h1 : m.F.length - 1 < m.F.length := by omega
      have := List.take_succ_eq_append_getElem h1
      rw [show m.F.length - 1 + 1 = m.F.length by omega, List.take_length] at this
      rw [getD_lt m.F _ 0 h1]
      exact this
    simp only [List.map_append, List.map_cons, List.map_nil]
    refine List.Perm.trans ?_ h
    generalize m.F.getD (m.F.length - 1) 0 = s at *
    generalize m.F.take (m.F.length - 1) = F0 at *
    rw [hl, List.append_assoc]
    exact (List.perm_append_comm).append_left _
theorem Wm.pushB {m : LM} (h : Wm m) (v : Int) : Wm (pushB m v).1 := by
  have := take_perm h v
  unfold Go.Proofs.Ytefinpapkjgpoaa.pushB
  rw [takeM_E]
  exact this
theorem Wm.pushF {m : LM} (h : Wm m) (v : Int) : Wm (pushF m v).1 := by
  have := take_perm h v
  unfold Go.Proofs.Ytefinpapkjgpoaa.pushF
  rw [takeM_E]
  unfold Wm slots at this ⊢
  simp only [List.map_append, List.map_cons, List.map_nil] at this ⊢
  refine List.Perm.trans ?_ this
  simp only [List.append_assoc, List.singleton_append, List.cons_append]
  exact List.perm_middle.symm
theorem placeG_at (s : Int) : ∀ (l : List (Int × Int)) (k i : Nat), placeG s l k = ((k + i : Nat) : Int) → i < l.length ∧ (l.getD i (0, 0)).1 = s
  | [], k, i, h => by rw [placeG] at h; omega
  | x :: r, k, i, h => by
    rw [placeG] at h
    by_cases hx : x.1 = s
    · rw [if_pos hx] at h
      obtain rfl : i = 0 := by omega
      exact ⟨by simp, by simpa [List.getD] using hx⟩
    · rw [if_neg hx] at h
      cases i with
      | zero =>
        rcases placeG_range s r (k + 1) with h1 | h1
        · omega
        · omega
      | succ i =>
        have := placeG_at s r (k + 1) i (by rw [h]; omega)
        exact ⟨by simp; exact this.1, by simpa [List.getD] using this.2⟩
theorem place_at {m : LM} {s : Int} {i : Nat} (h : placeM m s = (i : Int)) : i < m.E.length ∧ (m.E.getD i (0, 0)).1 = s := placeG_at s m.E 0 i (by unfold placeM at h; rw [h]; omega)
theorem split_at (E : List (Int × Int)) (i : Nat) (h : i < E.length) : E = E.take i ++ E.getD i (0, 0) :: E.drop (i + 1) := by
  conv => lhs; rw [← List.take_append_drop i E, List.drop_eq_getElem_cons h]
  rw [show E.getD i (0, 0) = E[i] by simp [List.getD, List.getElem?_eq_getElem h]]
theorem Wm.remove {m : LM} (h : Wm m) (s : Int) : Wm (removeM m s).1 := by
  unfold removeM
  split
  · exact h
  · rename_i hp
    obtain ⟨i, hi⟩ := Int.eq_ofNat_of_zero_le (show 0 ≤ placeM m s by omega)
    rw [hi, Int.toNat_natCast]
    obtain ⟨hl, hs⟩ := place_at hi
    have he := split_at m.E i hl
    unfold Wm slots at h ⊢
    refine List.Perm.trans ?_ h
    conv => rhs; rw [he]
    simp only [without, List.map_append, List.map_cons, hs, List.append_assoc, List.cons_append]
    refine List.Perm.append_left _ ?_
    rw [← List.append_assoc]
    exact (List.perm_append_comm (l₂ := [s])).trans (by simp)
theorem Wm.move {m : LM} (h : Wm m) (s : Int) : Wm (moveM m s).1 := by
  unfold moveM
  split
  · exact h
  · rename_i hp
    obtain ⟨i, hi⟩ := Int.eq_ofNat_of_zero_le (show 0 ≤ placeM m s by omega)
    rw [hi, Int.toNat_natCast]
    obtain ⟨hl, hs⟩ := place_at hi
    have he := split_at m.E i hl
    unfold Wm slots at h ⊢
    refine List.Perm.trans ?_ h
    conv => rhs; rw [he]
    simp only [without, List.map_append, List.map_cons, List.map_nil, List.append_assoc, List.cons_append]
    refine List.Perm.append_left _ ?_
    exact List.perm_middle
/-- How large a list may be. -/
def Ok (m : LM) (k : Nat) : Prop := m.E.length ≤ k ∧ m.F.length ≤ k ∧ m.U ≤ k
theorem Ok.empty (k : Nat) : Ok LM.empty k := ⟨by simp [LM.empty], by simp [LM.empty], by simp [LM.empty]⟩
theorem Ok.pushB {m : LM} {k : Nat} (h : Ok m k) (v : Int) : Ok (pushB m v).1 (k + 1) := by
  obtain ⟨h1, h2, h3⟩ := h
  have := takeM_F m
  have := takeM_U m
  refine ⟨?_, ?_, ?_⟩
  · show ((takeM m).1.E ++ _).length ≤ _; rw [takeM_E]; simp; omega
  · show (takeM m).1.F.length ≤ _; omega
  · show (takeM m).1.U ≤ _; omega
theorem Ok.pushF {m : LM} {k : Nat} (h : Ok m k) (v : Int) : Ok (pushF m v).1 (k + 1) := by
  obtain ⟨h1, h2, h3⟩ := h
  have := takeM_F m
  have := takeM_U m
  refine ⟨?_, ?_, ?_⟩
  · show (_ :: (takeM m).1.E).length ≤ _; rw [takeM_E]; simp; omega
  · show (takeM m).1.F.length ≤ _; omega
  · show (takeM m).1.U ≤ _; omega
theorem Ok.remove {m : LM} {k : Nat} (h : Ok m k) (s : Int) : Ok (removeM m s).1 (k + 1) := by
  obtain ⟨h1, h2, h3⟩ := h
  unfold removeM
  split
  · exact ⟨Nat.le_succ_of_le h1, Nat.le_succ_of_le h2, Nat.le_succ_of_le h3⟩
  · refine ⟨?_, ?_, by show m.U ≤ _; omega⟩
    · show (without _ _).length ≤ _; unfold without; rw [List.length_append, List.length_take, List.length_drop]; omega
    · show (m.F ++ [s]).length ≤ _; simp; omega
theorem Ok.move {m : LM} {k : Nat} (h : Ok m k) (s : Int) : Ok (moveM m s).1 (k + 1) := by
  obtain ⟨h1, h2, h3⟩ := h
  have hr := placeM_range m s
  unfold moveM
  split
  · exact ⟨Nat.le_succ_of_le h1, Nat.le_succ_of_le h2, Nat.le_succ_of_le h3⟩
  · refine ⟨?_, by show m.F.length ≤ _; omega, by show m.U ≤ _; omega⟩
    show (without _ _ ++ _).length ≤ _
    rw [List.length_append, without_len _ _ (by omega)]
    simp
    omega
end Go.Proofs.Ytefinpapkjgpoaa
