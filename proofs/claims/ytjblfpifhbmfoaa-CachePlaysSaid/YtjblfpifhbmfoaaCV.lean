/-
  A cache's keys as a list in slots and a map from keys to slots: what a look-up finds, a key taken out, moved to the back, put in.
-/
import Derived.Test.YtjblfpifhbmfoaaMS
import Derived.Test.YtjblfpifhbmfoaaLX
import Derived.Test.YtjblfpifhbmfoaaCC
namespace Go.Proofs.Ytjblfpifhbmfoaa
open Go.RowKit
set_option linter.unusedSimpArgs false
set_option linter.unusedVariables false

/-- The elements of the list m stand for the keys Ks in order (kf tells an element's key), and the map holds each key's slot. -/
structure Ct (kf : Int × Int → List Int) (Ks : List (List Int)) (L : List (List Int × Int)) (m : LM) : Prop where
  ks : Ks = m.E.map kf
  mp : L.Perm (m.E.map fun e => (kf e, e.1))
  wm : Wm m
theorem Ct.empty (kf : Int × Int → List Int) : Ct kf [] [] LM.empty := ⟨rfl, List.Perm.nil, Wm.empty⟩
section
variable {kf : Int × Int → List Int} {Ks : List (List Int)} {L : List (List Int × Int)} {m : LM}
theorem Ct.len (h : Ct kf Ks L m) : Ks.length = m.E.length := by rw [h.ks, List.length_map]
theorem Ct.fst (h : Ct kf Ks L m) : (L.map (·.1)).Perm Ks := by
  have := h.mp.map (·.1)
  rw [List.map_map] at this
  rw [h.ks]
  exact this
theorem Ct.keys32 (h : Ct kf Ks L m) (hk : Kc Ks) : ∀ p ∈ L, p.1.length = 32 := fun p hp => by
  have : p.1 ∈ Ks := h.fst.subset (List.mem_map.2 ⟨p, hp, rfl⟩)
  exact hk p.1 this
theorem Ct.key (h : Ct kf Ks L m) {i : Nat} (hi : i < m.E.length) : Ks.getD i [] = kf (m.E.getD i (0, 0)) := by
  have hl := h.len
  rw [getD_lt Ks i [] (by omega), getD_lt m.E i (0, 0) hi]
  simp only [h.ks, List.getElem_map]
theorem nodup_inj {α β : Type} (f : α → β) : ∀ {l : List α}, (l.map f).Nodup → ∀ {a b : α}, a ∈ l → b ∈ l → f a = f b → a = b
  | [], _, a, b, h, _, _ => by cases h
  | x :: r, hn, a, b, ha, hb, he => by
    rw [List.map_cons, List.nodup_cons] at hn
    rcases List.mem_cons.1 ha with e1 | e1 <;> rcases List.mem_cons.1 hb with e2 | e2
    · rw [e1, e2]
    · subst e1
      exact absurd (List.mem_map.2 ⟨b, e2, he.symm⟩) hn.1
    · subst e2
      exact absurd (List.mem_map.2 ⟨a, e1, he⟩) hn.1
    · exact nodup_inj f hn.2 e1 e2 he
/-- A look-up: the key is nowhere, or at a place of the list, with its slot. -/
theorem Ct.look (h : Ct kf Ks L m) (hn : Ks.Nodup) (x : List Int) : (idxL x Ks 0 = -1 ∧ x ∉ Ks ∧ foundK x L 0 = none) ∨
    ∃ i j : Nat, idxL x Ks 0 = (i : Int) ∧ i < m.E.length ∧ x ∈ Ks ∧ kf (m.E.getD i (0, 0)) = x ∧ foundK x L 0 = some (j, (m.E.getD i (0, 0)).1) ∧ j < L.length ∧ L[j]? = some (x, (m.E.getD i (0, 0)).1) ∧ placeM m (m.E.getD i (0, 0)).1 = (i : Int) := by
  have hl := h.len
  rcases idxL_range x Ks 0 with hi | ⟨i, hi, hil, hx⟩
  · have hx : x ∉ Ks := fun hm => by
      have := (idxL_mem x Ks 0).1 hm
      omega
    refine .inl ⟨hi, hx, ?_⟩
    cases hf : foundK x L 0 with
    | none => rfl
    | some p =>
      obtain ⟨k, -, -, hg⟩ := foundK_some (show foundK x L 0 = some (p.1, p.2) from hf)
      exact absurd (h.fst.subset (List.mem_map.2 ⟨(x, p.2), List.mem_of_getElem? hg, rfl⟩)) hx
  · rw [Nat.zero_add] at hi
    have hie : i < m.E.length := by omega
    have hxk : x ∈ Ks := by
      rw [← hx, getD_lt Ks i [] hil]
      exact List.getElem_mem hil
    have hkf : kf (m.E.getD i (0, 0)) = x := by rw [← h.key hie, hx]
    have hin : (x, (m.E.getD i (0, 0)).1) ∈ L := by
      refine h.mp.symm.subset (List.mem_map.2 ⟨m.E.getD i (0, 0), ?_, by rw [hkf]⟩)
      rw [getD_lt m.E i (0, 0) hie]
      exact List.getElem_mem hie
    have hnl : (L.map (·.1)).Nodup := (List.Perm.nodup_iff h.fst).2 hn
    cases hf : foundK x L 0 with
    | none => exact absurd hin (foundK_none hf _)
    | some p =>
      obtain ⟨k, hk, hkl, hg⟩ := foundK_some (show foundK x L 0 = some (p.1, p.2) from hf)
      have he := nodup_inj (·.1) hnl hin (List.mem_of_getElem? hg) rfl
      rw [Prod.mk.injEq] at he
      refine .inr ⟨i, k, hi, hie, hxk, hkf, ?_, hkl, by rw [hg, he.2], h.wm.place hie⟩
      rw [he.2, show k = p.1 by omega]
theorem perm_erase {α : Type} {l : List α} {j : Nat} {x : α} (h : l[j]? = some x) : l.Perm (x :: l.eraseIdx j) := by
  obtain ⟨hj, hx⟩ := List.getElem?_eq_some_iff.1 h
  have : l = l.take j ++ x :: l.drop (j + 1) := by
    conv => lhs; rw [← List.take_append_drop j l, List.drop_eq_getElem_cons hj]
    rw [hx]
  rw [List.eraseIdx_eq_take_drop_succ]
  conv => lhs; rw [this]
  exact List.perm_middle
/-- The key at place i goes. -/
theorem Ct.remove (h : Ct kf Ks L m) {x : List Int} {i j : Nat} (hi : idxL x Ks 0 = (i : Int)) (hie : i < m.E.length) (hkf : kf (m.E.getD i (0, 0)) = x) (hg : L[j]? = some (x, (m.E.getD i (0, 0)).1)) (hp : placeM m (m.E.getD i (0, 0)).1 = (i : Int)) :
    Ct kf (dropM Ks x).1 (L.eraseIdx j) (removeM m (m.E.getD i (0, 0)).1).1 ∧ (removeM m (m.E.getD i (0, 0)).1).2 = true ∧ (dropM Ks x).2 = true := by
  have hd : dropM Ks x = (Ks.take i ++ Ks.drop (i + 1), true) := by
    unfold dropM
    rw [hi, if_neg (by omega), Int.toNat_natCast]
  have hr : removeM m (m.E.getD i (0, 0)).1 = (⟨without m.E i, m.F ++ [(m.E.getD i (0, 0)).1], m.U⟩, true) := by
    unfold removeM
    rw [hp, if_neg (by omega), Int.toNat_natCast]
  have hw := h.wm.remove (m.E.getD i (0, 0)).1
  rw [hr] at hw
  rw [hd, hr]
  refine ⟨⟨?_, ?_, hw⟩, rfl, rfl⟩
  · show Ks.take i ++ Ks.drop (i + 1) = (without m.E i).map kf
    rw [h.ks]
    unfold without
    rw [List.map_append, List.map_take, List.map_drop]
  · show (L.eraseIdx j).Perm ((without m.E i).map fun e => (kf e, e.1))
    have h1 := (perm_erase hg).symm.trans h.mp
    have hs := congrArg (List.map fun e : Int × Int => (kf e, e.1)) (split_at m.E i hie)
    rw [List.map_append, List.map_cons, hkf] at hs
    rw [hs] at h1
    have h2 := h1.trans List.perm_middle
    unfold without
    rw [List.map_append]
    exact List.Perm.cons_inv h2
/-- The key at place i becomes the last one. -/
theorem Ct.move (h : Ct kf Ks L m) {x : List Int} {i : Nat} (hie : i < m.E.length) (hkf : kf (m.E.getD i (0, 0)) = x) (hp : placeM m (m.E.getD i (0, 0)).1 = (i : Int)) :
    Ct kf (Ks.take i ++ Ks.drop (i + 1) ++ [x]) L (moveM m (m.E.getD i (0, 0)).1).1 ∧ (moveM m (m.E.getD i (0, 0)).1).2 = true := by
  have hr : moveM m (m.E.getD i (0, 0)).1 = (⟨without m.E i ++ [m.E.getD i (0, 0)], m.F, m.U⟩, true) := by
    unfold moveM
    rw [hp, if_neg (by omega), Int.toNat_natCast]
  have hw := h.wm.move (m.E.getD i (0, 0)).1
  rw [hr] at hw
  rw [hr]
  refine ⟨⟨?_, ?_, hw⟩, rfl⟩
  · show Ks.take i ++ Ks.drop (i + 1) ++ [x] = (without m.E i ++ [m.E.getD i (0, 0)]).map kf
    rw [h.ks]
    unfold without
    rw [List.map_append, List.map_append, List.map_take, List.map_drop, List.map_cons, List.map_nil, hkf]
  · show L.Perm ((without m.E i ++ [m.E.getD i (0, 0)]).map fun e => (kf e, e.1))
    refine h.mp.trans ?_
    conv => lhs; rw [split_at m.E i hie]
    unfold without
    rw [List.map_append, List.map_append, List.map_append, List.map_cons, List.map_cons, List.map_nil, List.append_assoc]
    exact List.Perm.append_left _ ((List.perm_append_singleton _ _).symm)
/-- A new key at the end; the elements' keys may lie elsewhere now. -/
theorem Ct.push (h : Ct kf Ks L m) {kf2 : Int × Int → List Int} (x : List Int) (v : Int) (ho : ∀ e ∈ m.E, kf2 e = kf e) (hx : kf2 ((pushB m v).2, v) = x) : Ct kf2 (Ks ++ [x]) (L ++ [(x, (pushB m v).2)]) (pushB m v).1 := by
  have h1 : (pushB m v).1.E = m.E ++ [((pushB m v).2, v)] := by
    show (takeM m).1.E ++ _ = _
    rw [takeM_E]
    rfl
  refine ⟨?_, ?_, h.wm.pushB v⟩
  · rw [h1, List.map_append, List.map_cons, List.map_nil, hx, h.ks]
    congr 1
    exact (List.map_congr_left ho).symm
  · rw [h1, List.map_append, List.map_cons, List.map_nil, hx]
    refine List.Perm.append_right _ (h.mp.trans (List.Perm.of_eq (List.map_congr_left fun e he => ?_)))
    rw [ho e he]
/-- The elements' keys may lie elsewhere. -/
theorem Ct.other (h : Ct kf Ks L m) {kf2 : Int × Int → List Int} (ho : ∀ e ∈ m.E, kf2 e = kf e) : Ct kf2 Ks L m := by
  refine ⟨?_, h.mp.trans (List.Perm.of_eq (List.map_congr_left fun e he => ?_)), h.wm⟩
  · rw [h.ks]
    exact (List.map_congr_left ho).symm
  · rw [ho e he]
end
/-- No more slots than elements at any time. -/
theorem push_u {m : LM} (h : Wm m) (v : Int) {n : Nat} (hu : m.U ≤ n) (he : m.E.length < n) : (pushB m v).1.U ≤ n := by
  have hc := h.count
  unfold pushB takeM
  split
  · show m.U + 1 ≤ n
    omega
  · exact hu
theorem remove_u (m : LM) (s : Int) : (removeM m s).1.U = m.U := by unfold removeM; split <;> rfl
theorem move_u (m : LM) (s : Int) : (moveM m s).1.U = m.U := by unfold moveM; split <;> rfl
theorem ok_u {m : LM} (h : Wm m) {n : Nat} (hu : m.U ≤ n) : Ok m n := by
  have hc := h.count
  exact ⟨by omega, by omega, hu⟩
/-- The slot that the next element gets: one of its own, below the number of slots. -/
theorem take_slot {m : LM} (h : Wm m) : 0 ≤ (takeM m).2 ∧ (takeM m).2 ≤ m.U ∧ (takeM m).2 < (takeM m).1.U ∧ ∀ e ∈ m.E, e.1 ≠ (takeM m).2 := by
  have hp := take_perm h 0
  have hn := hp.nodup
  have hin : (takeM m).2 ∈ slots ⟨m.E ++ [((takeM m).2, 0)], (takeM m).1.F, (takeM m).1.U⟩ := by simp [slots]
  have hr := hp.range hin
  have hu : (takeM m).1.U ≤ m.U + 1 := takeM_U m
  refine ⟨hr.1, by have := hr.2; simp only at this; omega, hr.2, fun e he => ?_⟩
  have hm := hp.own
  rw [List.map_append, List.nodup_append] at hm
  exact hm.2.2 e.1 (List.mem_map.2 ⟨e, he, rfl⟩) _ (by simp)
/-- The first element. -/
theorem Ct.first {kf : Int × Int → List Int} {Ks : List (List Int)} {L : List (List Int × Int)} {m : LM} (h : Ct kf Ks L m) (hn : 0 < Ks.length) : slotAt m 0 = (m.E.getD 0 (0, 0)).1 ∧ Ks.getD 0 [] = kf (m.E.getD 0 (0, 0)) ∧ valueM m (slotAt m 0) = ((m.E.getD 0 (0, 0)).2, true) := by
  have hl := h.len
  have h0 : slotAt m 0 = (m.E.getD 0 (0, 0)).1 := by
    have := slotAt_in m (show 0 < m.E.length by omega)
    simpa using this
  exact ⟨h0, h.key (by omega), by rw [h0]; exact h.wm.value (by omega)⟩
/-- The first key's place is 0, and without it the list has one key less. -/
theorem idx_first {Ks : List (List Int)} (hn : 0 < Ks.length) : idxL (Ks.getD 0 []) Ks 0 = 0 ∧ (dropM Ks (Ks.getD 0 [])).1 = Ks.drop 1 := by
  have h0 : idxL (Ks.getD 0 []) Ks 0 = 0 := by
    have := idxL_at (Ks.getD 0 []) Ks 0 hn
    rw [List.drop_zero, if_pos rfl] at this
    simpa using this
  refine ⟨h0, ?_⟩
  unfold dropM
  rw [h0, if_neg (by omega)]
  simp
end Go.Proofs.Ytjblfpifhbmfoaa
