/-
  Lists in slots as the reference has them: elements in order, freed slots, how many were used. And how such a list lies in memory.
-/
import Derived.Test.YtefinpapkjgpoaaRW
namespace Go.Proofs.Ytefinpapkjgpoaa
open Go.RowKit

/-- A list: its elements (slot, number) in order, the slots that were freed (the last one last), how many slots were ever used. -/
structure LM where
  E : List (Int × Int)
  F : List Int
  U : Nat
def LM.empty : LM := ⟨[], [], 0⟩
def takeM (m : LM) : LM × Int := if m.F.length = 0 then (⟨m.E, m.F, m.U + 1⟩, (m.U : Int)) else (⟨m.E, m.F.take (m.F.length - 1), m.U⟩, m.F.getD (m.F.length - 1) 0)
def pushB (m : LM) (v : Int) : LM × Int := (⟨(takeM m).1.E ++ [((takeM m).2, v)], (takeM m).1.F, (takeM m).1.U⟩, (takeM m).2)
def pushF (m : LM) (v : Int) : LM × Int := (⟨((takeM m).2, v) :: (takeM m).1.E, (takeM m).1.F, (takeM m).1.U⟩, (takeM m).2)
/-- The place of a slot from k on; none: -1. -/
def placeG (s : Int) : List (Int × Int) → Nat → Int
  | [], _ => -1
  | x :: r, k => if x.1 = s then (k : Int) else placeG s r (k + 1)
def placeM (m : LM) (s : Int) : Int := placeG s m.E 0
def without (E : List (Int × Int)) (i : Nat) : List (Int × Int) := E.take i ++ E.drop (i + 1)
def removeM (m : LM) (s : Int) : LM × Bool := if placeM m s < 0 then (m, false) else (⟨without m.E (placeM m s).toNat, m.F ++ [s], m.U⟩, true)
def moveM (m : LM) (s : Int) : LM × Bool := if placeM m s < 0 then (m, false) else (⟨without m.E (placeM m s).toNat ++ [m.E.getD (placeM m s).toNat (0, 0)], m.F, m.U⟩, true)
def slotAt (m : LM) (i : Int) : Int := if i < 0 ∨ (m.E.length : Int) ≤ i then -1 else (m.E.getD i.toNat (0, 0)).1
def nextM (m : LM) (s b : Int) : Int := if placeM m s < 0 then -1 else slotAt m (placeM m s + b)
def valuesM (m : LM) : List Int := m.E.map (·.2)

theorem placeG_range (s : Int) : ∀ (l : List (Int × Int)) (k : Nat), placeG s l k = -1 ∨ ((k : Int) ≤ placeG s l k ∧ placeG s l k < (k + l.length : Nat))
  | [], k => .inl rfl
  | x :: r, k => by
    rw [placeG]
    split
    · exact .inr ⟨Int.le_refl _, by simp; omega⟩
    · rcases placeG_range s r (k + 1) with h | ⟨h1, h2⟩
      · exact .inl h
      · exact .inr ⟨by omega, by simp; omega⟩
theorem placeM_range (m : LM) (s : Int) : placeM m s = -1 ∨ (0 ≤ placeM m s ∧ placeM m s < (m.E.length : Int)) := by
  rcases placeG_range s m.E 0 with h | ⟨h1, h2⟩
  · exact .inl h
  · exact .inr ⟨h1, by unfold placeM; omega⟩
/-- The place, one element at a time. -/
theorem placeG_drop (s : Int) (l : List (Int × Int)) (k : Nat) (h : k < l.length) : placeG s (l.drop k) k = if (l.getD k (0, 0)).1 = s then (k : Int) else placeG s (l.drop (k + 1)) (k + 1) := by
  have e : l.drop k = l.getD k (0, 0) :: l.drop (k + 1) := by
    rw [List.drop_eq_getElem_cons h]
    congr 1
    simp [List.getD, List.getElem?_eq_getElem h]
  rw [e, placeG]

/-- The cells of numbers, of elements. -/
def icells (L : List Int) : List Value := L.map (Value.int .i64)
def ecells (E : List (Int × Int)) : List Value := E.flatMap fun x => [.int .i64 x.1, .int .i64 x.2]
theorem icells_len (L : List Int) : (icells L).length = L.length := by simp [icells]
theorem ecells_len (E : List (Int × Int)) : (ecells E).length = E.length * 2 := by
  induction E with
  | nil => rfl
  | cons x r ih => simp only [ecells, List.flatMap_cons, List.length_append, List.length_cons, List.length_nil] at ih ⊢; omega
theorem ecells_app (A B : List (Int × Int)) : ecells (A ++ B) = ecells A ++ ecells B := by simp [ecells]
theorem icells_app (A B : List Int) : icells (A ++ B) = icells A ++ icells B := by simp [icells]
theorem ecells_take (E : List (Int × Int)) : ∀ k, (ecells E).take (k * 2) = ecells (E.take k) := by
  induction E with
  | nil => intro k; simp [ecells]
  | cons x r ih =>
    intro k
    cases k with
    | zero => simp [ecells]
    | succ k =>
      have := ih k
      simp only [ecells, List.flatMap_cons] at this ⊢
      rw [show (k + 1) * 2 = k * 2 + 1 + 1 by omega]
      simp [this, List.take_succ_cons]
theorem ecells_drop (E : List (Int × Int)) : ∀ k, (ecells E).drop (k * 2) = ecells (E.drop k) := by
  induction E with
  | nil => intro k; simp [ecells]
  | cons x r ih =>
    intro k
    cases k with
    | zero => simp [ecells]
    | succ k =>
      have := ih k
      simp only [ecells, List.flatMap_cons] at this ⊢
      rw [show (k + 1) * 2 = k * 2 + 1 + 1 by omega]
      simp [this, List.drop_succ_cons]
theorem ecells_at (E : List (Int × Int)) (k : Nat) (h : k < E.length) : (ecells E)[k * 2]? = some (.int .i64 (E.getD k (0, 0)).1) ∧ (ecells E)[k * 2 + 1]? = some (.int .i64 (E.getD k (0, 0)).2) := by
  have e := ecells_drop E k
  have h1 : E.drop k = E.getD k (0, 0) :: E.drop (k + 1) := by
    rw [List.drop_eq_getElem_cons h]
    congr 1
    simp [List.getD, List.getElem?_eq_getElem h]
  rw [h1] at e
  have e0 : ((ecells E).drop (k * 2))[0]? = some (.int .i64 (E.getD k (0, 0)).1) := by rw [e]; rfl
  have e1 : ((ecells E).drop (k * 2))[1]? = some (.int .i64 (E.getD k (0, 0)).2) := by rw [e]; rfl
  rw [List.getElem?_drop] at e0 e1
  exact ⟨by simpa using e0, e1⟩
theorem icells_at (L : List Int) (k : Nat) (h : k < L.length) : (icells L)[k]? = some (.int .i64 (L.getD k 0)) := by
  simp [icells, List.getD, List.getElem?_eq_getElem h]
theorem icells_one (L : List Int) : ∀ u ∈ icells L, u.oneCell' = true := fun u hu => by
  obtain ⟨x, -, rfl⟩ := List.mem_map.1 hu
  rfl
theorem ecells_one (E : List (Int × Int)) : ∀ u ∈ ecells E, u.oneCell' = true := fun u hu => by
  obtain ⟨x, -, hx⟩ := List.mem_flatMap.1 hu
  simp only [List.mem_cons, List.not_mem_nil, or_false] at hx
  rcases hx with rfl | rfl <;> rfl
theorem icells_take (L : List Int) (k : Nat) : (icells L).take (k * 1) = icells (L.take k) := by simp [icells, List.map_take]
theorem icells_drop (L : List Int) (k : Nat) : (icells L).drop (k * 1) = icells (L.drop k) := by simp [icells, List.map_drop]

/-- The list in memory: a struct by value. -/
def lv (ea fa : Option Addr) (ec fc : Nat) (m : LM) : Array Value := #[.slice ea m.E.length ec, .slice fa m.F.length fc, .int .i64 m.U]
structure LV (w : World) (ea fa : Option Addr) (ec fc : Nat) (m : LM) : Prop where
  e : Cs w ea (ecells m.E)
  ec : m.E.length ≤ ec
  f : Cs w fa (icells m.F)
  fc : m.F.length ≤ fc
  en : m.E.length ≤ 1000
  fn : m.F.length ≤ 1000
  un : m.U ≤ 1000
theorem LV.below {w w' : World} {ea fa : Option Addr} {ec fc : Nat} {m : LM} (h : LV w ea fa ec fc m) (hb : Below w.heap.size w w') : LV w' ea fa ec fc m := { h with e := h.e.below hb, f := h.f.below hb }
end Go.Proofs.Ytefinpapkjgpoaa
