/-
  What the statement on slots keeps, as plain lists: the kept slot, the row of the others, the most there ever were.
-/
import Derived.Test.YtefinpapkjgpoaaLS
namespace Go.Proofs.Ytefinpapkjgpoaa
open Go.RowKit

structure SL (m : LM) (kept : Int) (L : List Int) (most : Nat) : Prop where
  wm : Wm m
  kp : (kept, 1000) ∈ m.E
  pm : (kept :: L).Perm (m.E.map (·.1))
  um : m.U ≤ most
theorem SL.len {m : LM} {kept : Int} {L : List Int} {most : Nat} (h : SL m kept L most) : m.E.length = L.length + 1 := by
  have := h.pm.length_eq
  simpa using this.symm
theorem SL.each {m : LM} {kept : Int} {L : List Int} {most : Nat} (h : SL m kept L most) {x : Int} (hx : x ∈ L) : 0 ≤ x ∧ x < most ∧ x ≠ kept := by
  have hin : x ∈ m.E.map (·.1) := h.pm.mem_iff.1 (List.mem_cons_of_mem _ hx)
  have hr := h.wm.range (List.mem_append_left _ hin)
  have hn := (h.pm.nodup_iff).2 h.wm.own
  rw [List.nodup_cons] at hn
  have := h.um
  exact ⟨hr.1, by omega, fun e => hn.1 (e ▸ hx)⟩
theorem SL.pushF {m : LM} {kept : Int} {L : List Int} {most : Nat} (h : SL m kept L most) (v : Int) : SL (pushF m v).1 kept (L ++ [(pushF m v).2]) (max most (L.length + 2)) := by
  have hl := h.len
  have hc := h.wm.count
  have hu := h.um
  refine ⟨h.wm.pushF v, mem_pushF v h.kp, ?_, ?_⟩
  · unfold Go.Proofs.Ytefinpapkjgpoaa.pushF
    rw [takeM_E]
    simp only [List.map_cons]
    have h1 : (kept :: (L ++ [(takeM m).2])).Perm ((takeM m).2 :: (kept :: L)) := by
      rw [← List.cons_append]
      exact (List.perm_append_comm).trans (by simp)
    exact h1.trans (h.pm.cons _)
  · unfold Go.Proofs.Ytefinpapkjgpoaa.pushF takeM
    by_cases h0 : m.F.length = 0
    · rw [if_pos h0]
      show m.U + 1 ≤ _
      omega
    · rw [if_neg h0]
      show m.U ≤ _
      omega
theorem map_move (m : LM) (s : Int) : (m.E.map (·.1)).Perm ((moveM m s).1.E.map (·.1)) := by
  unfold moveM
  split
  · exact List.Perm.refl _
  · rename_i hp
    have hr := placeM_range m s
    obtain ⟨i, hi⟩ := Int.eq_ofNat_of_zero_le (show 0 ≤ placeM m s by omega)
    rw [hi, Int.toNat_natCast]
    have hlt : i < m.E.length := by omega
    conv => lhs; rw [split_at m.E i hlt]
    simp only [without, List.map_append, List.map_cons, List.map_nil, List.append_assoc]
    refine List.Perm.append_left _ ?_
    exact (List.perm_append_comm (l₁ := [(m.E.getD i (0, 0)).1]))
theorem moveM_U (m : LM) (s : Int) : (moveM m s).1.U = m.U := by unfold moveM; split <;> rfl
theorem removeM_U (m : LM) (s : Int) : (removeM m s).1.U = m.U := by unfold removeM; split <;> rfl
theorem SL.move {m : LM} {kept : Int} {L : List Int} {most : Nat} (h : SL m kept L most) (s : Int) : SL (moveM m s).1 kept L most :=
  ⟨h.wm.move s, mem_move s h.kp, h.pm.trans (map_move m s), by rw [moveM_U]; exact h.um⟩
theorem split_int (L : List Int) (i : Nat) (h : i < L.length) : L = L.take i ++ L.getD i 0 :: L.drop (i + 1) := by
  conv => lhs; rw [← List.take_append_drop i L, List.drop_eq_getElem_cons h]
  rw [getD_lt L i 0 h]
theorem SL.remove {m : LM} {kept : Int} {L : List Int} {most : Nat} (h : SL m kept L most) {i : Nat} (hi : i < L.length) :
    (removeM m (L.getD i 0)).2 = true ∧ SL (removeM m (L.getD i 0)).1 kept (L.take i ++ L.drop (i + 1)) most := by
  have hx : L.getD i 0 ∈ L := by rw [getD_lt L i 0 hi]; exact List.getElem_mem hi
  have he := h.each hx
  have hsp := split_int L i hi
  generalize L.getD i 0 = s at *
  have hin : s ∈ m.E.map (·.1) := h.pm.mem_iff.1 (List.mem_cons_of_mem _ hx)
  obtain ⟨x, hxE, hx1⟩ := List.mem_map.1 hin
  obtain ⟨j, hj, hp, -⟩ := mem_place h.wm (s := s) (v := x.2) (by rw [← hx1]; exact hxE)
  have hneg : ¬ placeM m s < 0 := by omega
  have hat := place_at hp
  have hm : (removeM m s) = (⟨without m.E j, m.F ++ [s], m.U⟩, true) := by
    unfold removeM
    rw [if_neg hneg, hp, Int.toNat_natCast]
  refine ⟨by rw [hm], h.wm.remove s, mem_remove s h.kp (fun e => he.2.2 e.symm), ?_, by rw [removeM_U]; exact h.um⟩
  rw [hm]
  show (kept :: (L.take i ++ L.drop (i + 1))).Perm ((without m.E j).map (·.1))
  have h1 : (s :: (kept :: (L.take i ++ L.drop (i + 1)))).Perm (kept :: L) := by
    conv => rhs; rw [hsp]
    refine (List.Perm.swap _ _ _).trans (List.Perm.cons _ ?_)
    exact List.perm_middle.symm
  have h2 : (m.E.map (·.1)).Perm (s :: (without m.E j).map (·.1)) := by
    conv => lhs; rw [split_at m.E j hj]
    simp only [without, List.map_append, List.map_cons, hat.2]
    exact List.perm_middle
  exact ((h1.trans h.pm).trans h2).cons_inv
theorem SL.start : SL (pushB LM.empty 1000).1 (pushB LM.empty 1000).2 [] 1 :=
  ⟨Wm.empty.pushB _, by simp [pushB, takeM, LM.empty], by simp [pushB, takeM, LM.empty], by simp [pushB, takeM, LM.empty]⟩
theorem SL.kept_value {m : LM} {kept : Int} {L : List Int} {most : Nat} (h : SL m kept L most) : valueM m kept = (1000, true) := by
  obtain ⟨-, -, -, hv⟩ := mem_place h.wm h.kp
  exact hv
end Go.Proofs.Ytefinpapkjgpoaa
