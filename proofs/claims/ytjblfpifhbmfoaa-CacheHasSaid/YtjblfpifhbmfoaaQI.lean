/-
  What stays true of the program's cache: each key in the list has an index of its own, all other indexes are free.
-/
import Derived.Test.YtjblfpifhbmfoaaQA
namespace Go.Proofs.Ytjblfpifhbmfoaa
open Go.RowKit
set_option linter.unusedSimpArgs false
set_option linter.unusedVariables false

/-- The key of an element: its number is an index. -/
def kfA (A : List (List Int)) (e : Int × Int) : List Int := A.getD e.2.toNat []
structure Inv (z : Nat) (d : Cd) (Ks : List (List Int)) (L : List (List Int × Int)) (m : LM) : Prop where
  ct : Ct (kfA d.A) Ks L m
  ka : Kc d.A
  pm : (m.E.map (·.2) ++ d.F).Perm (upto d.A.length)
  al : d.A.length ≤ z
  ul : m.U ≤ z
  zm : z ≤ 1024
def RepC : CRep := fun w g S z Ks => ∃ d L m Sl, Mem w g z d L m Sl ∧ Inv z d Ks L m ∧ ∀ k, S k ↔ Sc g d Sl k
/-- The index that the next key gets, the keys and the free indexes then. -/
def tkI (A : List (List Int)) (F : List Int) : Int := if F.length = 0 then (A.length : Int) else F.getD (F.length - 1) 0
def tkA (A : List (List Int)) (F : List Int) (k : List Int) : List (List Int) := if F.length = 0 then A ++ [k] else A.set (F.getD (F.length - 1) 0).toNat k
def tkF (F : List Int) : List Int := F.take (F.length - 1)
theorem upto_range {n : Nat} {x : Int} (h : x ∈ upto n) : 0 ≤ x ∧ x < n := by
  unfold upto at h
  rw [List.mem_map] at h
  obtain ⟨k, hk, rfl⟩ := h
  rw [List.mem_range] at hk
  omega
theorem last_split {F : List Int} (h : F.length ≠ 0) : F = F.take (F.length - 1) ++ [F.getD (F.length - 1) 0] := by
  conv => lhs; rw [← List.take_append_drop (F.length - 1) F]
  rw [List.drop_eq_getElem_cons (by omega), getD_lt F _ 0 (by omega), List.drop_eq_nil_of_le (by omega)]
section
variable {z : Nat} {d : Cd} {Ks : List (List Int)} {L : List (List Int × Int)} {m : LM}
theorem Inv.count (h : Inv z d Ks L m) : m.E.length + d.F.length = d.A.length := by
  have := h.pm.length_eq
  simpa [upto] using this
theorem Inv.len (h : Inv z d Ks L m) : Ks.length = m.E.length := h.ct.len
theorem Inv.mlen (h : Inv z d Ks L m) : L.length = Ks.length := by
  have := h.ct.mp.length_eq
  rw [List.length_map] at this
  rw [this, h.len]
theorem Inv.nd (h : Inv z d Ks L m) : (m.E.map (·.2) ++ d.F).Nodup := (List.Perm.nodup_iff h.pm).2 (upto_nodup _)
theorem Inv.range (h : Inv z d Ks L m) {e : Int × Int} (he : e ∈ m.E) : 0 ≤ e.2 ∧ e.2 < d.A.length :=
  upto_range (h.pm.subset (List.mem_append_left _ (List.mem_map.2 ⟨e, he, rfl⟩)))
theorem Inv.rangeF (h : Inv z d Ks L m) {x : Int} (hx : x ∈ d.F) : 0 ≤ x ∧ x < d.A.length := upto_range (h.pm.subset (List.mem_append_right _ hx))
theorem Inv.ok (h : Inv z d Ks L m) : Ok m 90000 := ok_u h.ct.wm (by have := h.ul; have := h.zm; omega)
theorem Inv.at (h : Inv z d Ks L m) {i : Nat} (hi : i < m.E.length) : ∃ k : Nat, (m.E.getD i (0, 0)).2 = k ∧ k < d.A.length := by
  have := h.range (e := m.E.getD i (0, 0)) (by rw [getD_lt _ _ _ hi]; exact List.getElem_mem hi)
  obtain ⟨k, hk⟩ := Int.eq_ofNat_of_zero_le this.1
  exact ⟨k, hk, by have := this.2; omega⟩
theorem Inv.slot (h : Inv z d Ks L m) {i : Nat} (hi : i < m.E.length) : I64 (m.E.getD i (0, 0)).1 := by
  have := h.ct.wm.slot_range hi
  have := h.ul
  have := h.zm
  unfold I64
  omega
theorem Inv.value (h : Inv z d Ks L m) {i : Nat} (hi : i < m.E.length) : I64 (m.E.getD i (0, 0)).2 := by
  obtain ⟨k, hk, hl⟩ := h.at hi
  have := h.al
  have := h.zm
  unfold I64
  omega
theorem Inv.last (h : Inv z d Ks L m) (hF : d.F.length ≠ 0) : ∃ k : Nat, d.F.getD (d.F.length - 1) 0 = k ∧ k < d.A.length := by
  have := h.rangeF (x := d.F.getD (d.F.length - 1) 0) (by rw [getD_lt _ _ _ (show d.F.length - 1 < d.F.length by omega)]; exact List.getElem_mem _)
  obtain ⟨k, hk⟩ := Int.eq_ofNat_of_zero_le this.1
  exact ⟨k, hk, by have := this.2; omega⟩
theorem Inv.idx (h : Inv z d Ks L m) : 0 ≤ tkI d.A d.F ∧ tkI d.A d.F ≤ 1024 := by
  have h1 := h.al
  have h2 := h.zm
  unfold tkI
  by_cases hF : d.F.length = 0
  · rw [if_pos hF]; omega
  · rw [if_neg hF]
    obtain ⟨k, hk, hl⟩ := h.last hF
    omega
theorem Inv.empty (z : Nat) (hz : z ≤ 1024) (B gl : Nat) (ka fa : Option Addr) (kc fc : Nat) : Inv z ⟨B, gl, ka, kc, fa, fc, [], []⟩ [] [] LM.empty :=
  ⟨Ct.empty _, Kc.nil, by simp [LM.empty, upto], Nat.zero_le _, Nat.zero_le _, hz⟩
/-- The key at place i becomes the last one. -/
theorem Inv.move (h : Inv z d Ks L m) {x : List Int} {i : Nat} (hie : i < m.E.length) (hkf : kfA d.A (m.E.getD i (0, 0)) = x) (hp : placeM m (m.E.getD i (0, 0)).1 = (i : Int)) : Inv z d (Ks.take i ++ Ks.drop (i + 1) ++ [x]) L (moveM m (m.E.getD i (0, 0)).1).1 := by
  refine ⟨(h.ct.move hie hkf hp).1, h.ka, ?_, h.al, by rw [move_u]; exact h.ul, h.zm⟩
  have hr : moveM m (m.E.getD i (0, 0)).1 = (⟨without m.E i ++ [m.E.getD i (0, 0)], m.F, m.U⟩, true) := by
    unfold moveM
    rw [hp, if_neg (by omega), Int.toNat_natCast]
  rw [hr]
  refine List.Perm.trans (List.Perm.append_right _ ?_) h.pm
  refine List.Perm.map _ ?_
  conv => rhs; rw [split_at m.E i hie]
  unfold without
  rw [List.append_assoc]
  exact List.Perm.append_left _ (List.perm_append_singleton _ _)
/-- The key at place i goes; its index is free. -/
theorem Inv.remove (h : Inv z d Ks L m) {x : List Int} {i j : Nat} (hi : idxL x Ks 0 = (i : Int)) (hie : i < m.E.length) (hkf : kfA d.A (m.E.getD i (0, 0)) = x) (hg : L[j]? = some (x, (m.E.getD i (0, 0)).1)) (hp : placeM m (m.E.getD i (0, 0)).1 = (i : Int)) (fa : Option Addr) (fc : Nat) :
    Inv z { d with fa := fa, fc := fc, F := d.F ++ [(m.E.getD i (0, 0)).2] } (dropM Ks x).1 (L.eraseIdx j) (removeM m (m.E.getD i (0, 0)).1).1 := by
  refine ⟨(h.ct.remove hi hie hkf hg hp).1, h.ka, ?_, h.al, by rw [remove_u]; exact h.ul, h.zm⟩
  have hr : removeM m (m.E.getD i (0, 0)).1 = (⟨without m.E i, m.F ++ [(m.E.getD i (0, 0)).1], m.U⟩, true) := by
    unfold removeM
    rw [hp, if_neg (by omega), Int.toNat_natCast]
  rw [hr]
  show (((without m.E i).map (·.2)) ++ (d.F ++ [(m.E.getD i (0, 0)).2])).Perm _
  refine List.Perm.trans ?_ h.pm
  have hs := congrArg (List.map fun e : Int × Int => e.2) (split_at m.E i hie)
  rw [List.map_append, List.map_cons] at hs
  rw [hs]
  unfold without
  rw [List.map_append, ← List.append_assoc]
  refine (List.perm_append_singleton _ _).trans ?_
  rw [List.append_assoc, List.append_assoc]
  exact (List.perm_middle (l₁ := List.map (fun e : Int × Int => e.2) (List.take i m.E)) (a := (m.E.getD i (0, 0)).2)).symm
/-- A new key. -/
theorem Inv.push (h : Inv z d Ks L m) {x : List Int} (hx : x.length = 32) (hlen : Ks.length < z) (ka : Option Addr) (kc : Nat) : Inv z { d with ka := ka, kc := kc, A := tkA d.A d.F x, F := tkF d.F } (Ks ++ [x]) (L ++ [(x, (pushB m (tkI d.A d.F)).2)]) (pushB m (tkI d.A d.F)).1 := by
  have hc := h.count
  have hl := h.len
  have hal := h.al
  have hE : ∀ v, (pushB m v).1.E = m.E ++ [((pushB m v).2, v)] := fun v => by
    show (takeM m).1.E ++ _ = _
    rw [takeM_E]
    rfl
  have hct : (∀ e ∈ m.E, kfA (tkA d.A d.F x) e = kfA d.A e) ∧ (tkA d.A d.F x).getD (tkI d.A d.F).toNat [] = x ∧ Kc (tkA d.A d.F x) ∧ (tkA d.A d.F x).length ≤ z ∧ (m.E.map (·.2) ++ [tkI d.A d.F] ++ tkF d.F).Perm (upto (tkA d.A d.F x).length) := by
    by_cases hF : d.F.length = 0
    · have eA : tkA d.A d.F x = d.A ++ [x] := by unfold tkA; rw [if_pos hF]
      have eI : tkI d.A d.F = d.A.length := by unfold tkI; rw [if_pos hF]
      have eF : d.F = [] := List.eq_nil_of_length_eq_zero hF
      rw [eA, eI]
      refine ⟨fun e he => ?_, ?_, h.ka.app (Kc.one hx), by rw [List.length_append]; simp; omega, ?_⟩
      · have hr := h.range he
        unfold kfA
        rw [List.getD_eq_getElem?_getD, List.getD_eq_getElem?_getD, List.getElem?_append_left (by omega)]
      · rw [Int.toNat_natCast, List.getD_eq_getElem?_getD]
        simp
      · have hp := h.pm
        rw [eF, List.append_nil] at hp
        rw [show tkF d.F = [] by rw [eF]; rfl, List.append_nil, show (d.A ++ [x]).length = d.A.length + 1 by simp, upto_next]
        exact hp.append_right _
    · obtain ⟨k, hk, hkl⟩ := h.last hF
      have eA : tkA d.A d.F x = d.A.set k x := by unfold tkA; rw [if_neg hF, hk, Int.toNat_natCast]
      have eI : tkI d.A d.F = k := by unfold tkI; rw [if_neg hF, hk]
      have hsp := last_split hF
      rw [hk] at hsp
      rw [eA, eI]
      refine ⟨fun e he => ?_, ?_, ?_, by rw [List.length_set]; exact hal, ?_⟩
      · have hr := h.range he
        have hne : e.2 ≠ (k : Int) := fun e2 => by
          have hnd := h.nd
          rw [List.nodup_append] at hnd
          exact hnd.2.2 e.2 (List.mem_map.2 ⟨e, he, rfl⟩) k (by rw [hsp]; simp) e2
        unfold kfA
        rw [List.getD_eq_getElem?_getD, List.getD_eq_getElem?_getD, List.getElem?_set_ne (by omega)]
      · rw [Int.toNat_natCast, List.getD_eq_getElem?_getD, List.getElem?_set_self hkl]
        rfl
      · intro y hy
        rcases List.mem_or_eq_of_mem_set hy with hy | rfl
        · exact h.ka y hy
        · exact hx
      · rw [List.length_set]
        refine List.Perm.trans ?_ h.pm
        rw [List.append_assoc]
        refine List.Perm.append_left _ ?_
        conv => rhs; rw [hsp]
        exact (List.perm_append_singleton _ _).symm
  obtain ⟨h1, h2, h3, h4, h5⟩ := hct
  refine ⟨h.ct.push x _ h1 h2, h3, ?_, h4, push_u h.ct.wm _ h.ul (by omega), h.zm⟩
  rw [hE, List.map_append]
  exact h5
end
theorem Gt.upd {Bd g z : Nat} {d d' : Cd} {Sl Sl' : Nat → Prop} {w w' : World} {L' : List (List Int × Int)} {m' : LM} {Ks' : List (List Int)} {S : Nat → Prop} (h : Gt Bd g z d Sl w d' L' m' Sl' w') (hi : Inv z d' Ks' L' m') (hS : ∀ k, S k ↔ Sc g d Sl k) : UpdC RepC g Bd S z Ks' w w' :=
  ⟨Sc g d' Sl', ⟨d', L', m', Sl', h.mem, hi, fun _ => Iff.rfl⟩, fun k hk => (h.sub k hk).imp (hS k).2 id, h.but.1, fun k hk hn => h.but.2 k hk fun h2 => hn ((hS k).2 h2)⟩
end Go.Proofs.Ytjblfpifhbmfoaa
