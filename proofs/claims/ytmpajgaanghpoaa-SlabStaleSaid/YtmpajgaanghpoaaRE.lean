/-
 The reference's AddEntry and RemoveEntry: contracts.
-/
import Derived.Test.YtmpajgaanghpoaaRD
namespace Go.Proofs.Ytmpajgaanghpoaa
open Go.RowKit
set_option maxRecDepth 100000
set_option linter.unusedSimpArgs false
set_option linter.unusedVariables false

theorem Rm.of {w : World} {m : Sm} {L : List (Pn × Ad)} {a7 af7 : Option Addr} {B n7 c7 cf7 : Nat} (hp : L.map (·.1) = m.P) (hr : RowP w B (.slice a7 n7 c7) L) (hf : Cs w af7 (fcs m.F)) (hfc : m.F.length ≤ cf7) (hen : ∀ i, i < L.length → EnI w (L.getD i zPA).1.e (L.getD i zPA).2) : Rm w m L a7 c7 af7 cf7 ∧ n7 = L.length := by
 obtain ⟨a, c, e, h1, h2⟩ := own_cs hr
 simp only [Value.slice.injEq] at e
 obtain ⟨rfl, rfl, rfl⟩ := e
 exact ⟨⟨hp, h1, hf, h2, hfc, hen⟩, rfl⟩
theorem own_rb {w : World} {B e s n n2 c : Nat} {a : Option Addr} {xs : List Value} (h : w.ownsRow B e s (.slice a n c) n2 xs) {k : Nat} (hk : rb a xs k) : B ≤ k := by
 obtain ⟨-, x, hx, rfl⟩ := hk
 exact (h.lt x.block (by rw [hx]; rfl)).1
theorem own_rb' {w : World} {B e s n n2 c : Nat} {a : Option Addr} {xs : List Value} (h : w.ownsRow B e s (.slice a n c) n2 xs) {ys : List Value} {k : Nat} (hk : rb a ys k) : B ≤ k := by
 obtain ⟨-, x, hx, rfl⟩ := hk
 exact (h.lt x.block (by rw [hx]; rfl)).1
theorem own_nc {w : World} {B e s n n2 c : Nat} {a : Option Addr} {xs : List Value} (h : w.ownsRow B e s (.slice a n c) n2 xs) : Cs w a xs ∧ n2 ≤ c := by
 obtain ⟨a2, c2, e2, h1, h2⟩ := own_cs h
 simp only [Value.slice.injEq] at e2
 obtain ⟨rfl, -, rfl⟩ := e2
 exact ⟨h1, h2⟩
theorem set_cases {α : Type} {L : List α} {i : Nat} {y z : α} (X : α → Prop) (hi : i < L.length) (x1 : X y) (x2 : ∀ j, j < L.length → X (L.getD j z)) : ∀ j, j < (L.set i y).length → X ((L.set i y).getD j z) := fun j hj => by
 rw [List.length_set] at hj
 by_cases hij : i = j
 ·subst hij; rw [getD_set_eq _ _ _ _ hi]; exact x1
 ·rw [getD_set_ne _ _ _ _ _ hij]; exact x2 j hj
theorem app_cases {α : Type} {L : List α} {y z : α} (X : α → Prop) (x1 : X y) (x2 : ∀ j, j < L.length → X (L.getD j z)) : ∀ j, j < (L ++ [y]).length → X ((L ++ [y]).getD j z) := fun j hj => by
 rw [List.length_append, List.length_singleton] at hj
 by_cases hij : j < L.length
 ·rw [getD_app_lt _ _ _ _ hij]; exact x2 j hij
 ·obtain rfl : j = L.length := by omega
  rw [getD_app_last]; exact x1
theorem nodup_len : ∀ (n : Nat) (F : List Nat), F.Nodup → (∀ i, i ∈ F → i < n) → F.length ≤ n
 | 0, [], _, _ => Nat.le_refl 0
 | 0, i :: r, _, h => absurd (h i (by simp)) (by omega)
 | n + 1, F, hn, h => by
  by_cases hm : n ∈ F
  ·have h1 := nodup_len n (F.erase n) (hn.erase n) fun i hi => by
    have h2 := (List.Nodup.mem_erase_iff hn).1 hi
    have h3 := h i h2.2
    have h4 := h2.1
    omega
   have h2 := List.length_erase_of_mem hm
   omega
  ·have h1 := nodup_len n F hn fun i hi => by
    have h3 := h i hi
    have h4 : i ≠ n := fun e => hm (e ▸ hi)
    omega
   omega
theorem free_len {m : Sm} {u : Nat} (hm : Wm m u) : m.F.length ≤ m.P.length := nodup_len _ _ hm.nd fun i hi => (hm.fr i hi).1
theorem r_add {w : World} {m : Sm} {L : List (Pn × Ad)} {ap af : Option Addr} {cp cf u : Nat} {e : En} {d : Ad} (hR : Rm w m L ap cp af cf) (hm : Wm m u) (hu : u ≤ 1000000) (he : EnI w e d) : Calls Try.prog 29 #[.agg (rsA m.mo ap L.length cp af m.F.length cf), .agg (enA e d)] w (AdO w m L ap af e d) := by
 have CC : ∀ V, Below w.heap.size w V → Calls Try.prog 12 #[.agg (rsA m.mo ap L.length cp af m.F.length cf)] V fun e w' => e = .returned (.int .i64 (cntL m.P)) ∧ Below V.heap.size V w' := fun V hV => r_cnt (hR.below hV) hm hu
 have hlen := hR.len
 have hpl := hm.pl
 rcases add_cases m with h0 | ⟨h0, ⟨F, i, hF⟩ | hF⟩
 ·obtain ⟨e1, e2, e3⟩ := add_full e h0
  refine (radd_no CC (by omega)).mono fun r w' z => ?_
  unfold AdO
  rw [e1, e2, e3]
  exact ⟨L, ap, cp, af, cf, z.1, hR.below z.2, fun k hk => .inl hk, z.2⟩
 ·obtain ⟨e1, e2, e3⟩ := add_free e h0 hF
  have hi := hm.fr i (by rw [hF]; simp)
  have hil : i < L.length := by omega
  have hat := hR.at hil
  have hus := hm.us i hi.1
  have hnf : m.F.length = F.length + 1 := by rw [hF]; simp
  have hFl : F.length ≤ 512 := by
   have h3 := free_len hm
   omega
  have q1 : ¬ (m.mo : Int) ≤ (cntL m.P : Int) := by omega
  have q2 : L.length ≤ 512 := by omega
  have q3 : (m.P.getD i zPn).us ≤ 1000000 := by omega
  have q4 : 0 < m.F.length := by omega
  have q5 : m.F.length ≤ 512 := by have := free_len hm; omega
  refine (radd_free (nf := m.F.length) (n := L.length) CC q1 hR.pl rfl q2 (i := i) (us := (m.P.getD i zPn).us) q3 (F := m.F.map (fun i : Nat => (i : Int))) q4 q5 hR.fc hR.fl (by simp) (by rw [hnf, hF]; simp) hil (by rw [hat])).mono fun r w' z => ?_
  obtain ⟨a7, c7, af7, cf7, z1, z2, z3, z4⟩ := z
  unfold AdO
  rw [e1, e2, e3]
  have e5 : (m.F.map (fun i : Nat => (i : Int))).take (m.F.length - 1) = F.map (fun i : Nat => (i : Int)) := by rw [hnf, hF]; simp
  rw [e5] at z3
  have hEN : ∀ j, j < (L.set i (⟨true, (m.P.getD i zPn).us + 1, e⟩, d)).length → EnI w' ((L.set i (⟨true, (m.P.getD i zPn).us + 1, e⟩, d)).getD j zPA).1.e ((L.set i (⟨true, (m.P.getD i zPn).us + 1, e⟩, d)).getD j zPA).2 := set_cases (fun x => EnI w' x.1.e x.2) hil (he.below z4) fun j hj => (hR.en j hj).below z4
  have z5 := own_nc z3
  obtain ⟨h5, h6⟩ := Rm.of (m := ⟨m.mo, m.P.set i ⟨true, (m.P.getD i zPn).us + 1, e⟩, F⟩) (by rw [List.map_set, hR.pn]) z2 z5.1 (by have := z5.2; show F.length ≤ cf7; omega) hEN
  refine ⟨_, a7, c7, af7, cf7, ?_, h5, ?_, z4⟩
  ·rw [z1]
   show Ending.returned (.tuple #[.agg (rsA m.mo a7 L.length c7 af7 (m.F.length - 1) cf7), _, _]) = .returned (.tuple #[.agg (rsA m.mo a7 (L.set i _).length c7 af7 F.length cf7), _, _])
   rw [List.length_set, hnf, Nat.add_sub_cancel]
  ·rintro k (h1 | h1 | ⟨j, hj, h1⟩)
   ·exact .inr (.inr (own_rb' z2 h1))
   ·exact .inr (.inr (own_rb' z3 h1))
   ·exact set_cases (z := zPA) (fun x => ∀ k, EB x.1.e x.2 k → RmB m L ap af k ∨ EB e d k ∨ w.heap.size ≤ k) hil (fun k q => .inr (.inl q)) (fun j hj k q => .inl (.inr (.inr ⟨j, hj, q⟩))) j hj k h1
 ·obtain ⟨e1, e2, e3⟩ := add_new e h0 hF
  refine (radd_new (nf := m.F.length) (n := L.length) CC (by omega) hR.pl rfl (by omega) (i := L.length) (us := 0) (by omega) (by rw [hF]; rfl) rfl (by rw [getD_app_last]; rfl)).mono fun r w' z => ?_
  obtain ⟨a7, c7, af7, cf7, z1, z2, ⟨rfl, rfl⟩, z4⟩ := z
  unfold AdO
  rw [e1, e2, e3]
  have e5 : (L ++ [zPA]).set L.length (⟨true, 0 + 1, e⟩, d) = L ++ [(⟨true, 1, e⟩, d)] := by simp
  rw [e5] at z2
  have hEN : ∀ j, j < (L ++ [((⟨true, 1, e⟩, d) : Pn × Ad)]).length → EnI w' ((L ++ [((⟨true, 1, e⟩, d) : Pn × Ad)]).getD j zPA).1.e ((L ++ [((⟨true, 1, e⟩, d) : Pn × Ad)]).getD j zPA).2 := app_cases (fun x => EnI w' x.1.e x.2) (he.below z4) fun j hj => (hR.en j hj).below z4
  obtain ⟨h5, h6⟩ := Rm.of (m := ⟨m.mo, m.P ++ [⟨true, 1, e⟩], []⟩) (af7 := af7) (cf7 := cf7) (by rw [List.map_append, hR.pn]; rfl) z2 (Cs.nil _ _) (Nat.zero_le _) hEN
  refine ⟨_, a7, c7, af7, cf7, ?_, h5, ?_, z4⟩
  ·rw [z1]
   show Ending.returned (.tuple #[.agg (rsA m.mo a7 (L.length + 1) c7 af7 m.F.length cf7), .agg #[.int .i64 L.length, .int .i64 ((0 : Nat) : Int)], _]) = .returned (.tuple #[.agg (rsA m.mo a7 (L ++ [_]).length c7 af7 0 cf7), .agg #[.int .i64 m.P.length, .int .i64 0], _])
   rw [List.length_append, List.length_singleton, hF, hlen]
   rfl
  ·rintro k (h1 | h1 | ⟨j, hj, h1⟩)
   ·exact .inr (.inr (own_rb' z2 h1))
   ·exact (h1.1 rfl).elim
   ·exact app_cases (z := zPA) (fun x => ∀ k, EB x.1.e x.2 k → RmB m L ap af7 k ∨ EB e d k ∨ w.heap.size ≤ k) (fun k q => .inr (.inl q)) (fun j hj k q => .inl (.inr (.inr ⟨j, hj, q⟩))) j hj k h1
end Go.Proofs.Ytmpajgaanghpoaa
