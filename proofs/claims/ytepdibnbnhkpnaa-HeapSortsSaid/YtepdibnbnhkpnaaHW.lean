/-
  The program's heap meets what it is held to.
-/
import Derived.Test.YtepdibnbnhkpnaaHV
import Derived.Test.YtepdibnbnhkpnaaHC
namespace Go.Proofs.Ytepdibnbnhkpnaa
open Go.RowKit
set_option linter.unusedSimpArgs false
set_option linter.unusedVariables false

def RepH : HRep := fun w g S M => ∃ d f, Mh w g d f ∧ Px d.A f ∧ HO d.A ∧ d.A.Perm M ∧ ∀ k, S k ↔ Sh g d k
theorem RepH.in9 {w : World} {g B : Nat} {S : Nat → Prop} {M : List It} (h : RepH w g S M) (hw : Wh M) (hl : M.length ≤ 80000) (hB : ∀ j, S j → B ≤ j) (hs : B ≤ w.heap.size) : ∃ d f, In9 B g d f w ∧ d.A.Perm M ∧ ∀ k, S k ↔ Sh g d k := by
  obtain ⟨d, f, h1, h2, h3, h4, h5⟩ := h
  exact ⟨d, f, ⟨h1, h2, h3, fun k hk => hB k ((h5 k).2 hk), hs, (h4.map (·.1)).nodup_iff.2 hw.ids, by rw [h4.length_eq]; omega⟩, h4, h5⟩
theorem Ou9.upd {w V : World} {g B : Nat} {d : Hd} {S : Nat → Prop} {M : List It} (h : Ou9 B g d w M V) (hS : ∀ k, S k ↔ Sh g d k) : UpdH RepH g B S M w V := by
  obtain ⟨d', f', hG, h1, h2, h3⟩ := h
  exact ⟨Sh g d', ⟨d', f', hG.mem, h1, h2, h3, fun k => Iff.rfl⟩, fun k hk => (hG.sub k hk).imp (hS k).2 id, hG.but.1, fun k hk hn => hG.but.2 k hk fun h4 => hn ((hS k).2 h4)⟩
theorem heap_ok : HeapC RepH 13 15 17 20 19 23 21 11 where
  inn := fun h k hk => by
    obtain ⟨d, f, h1, h2, h3, h4, h5⟩ := h
    obtain ⟨i, hi⟩ := (h5 k).1 hk
    exact h1.inn i k hi
  keep := fun h hs => by
    obtain ⟨d, f, h1, h2, h3, h4, h5⟩ := h
    exact ⟨d, f, h1.same fun i k hk => hs k ((h5 k).2 ⟨i, hk⟩), h2, h3, h4, h5⟩
  new := fun w => (q_new w).mono fun e w' q => by
    obtain ⟨g, d, e1, e2, e3, e4, e5⟩ := q
    exact ⟨g, Sh g d, e1, ⟨d, _, e2, by rw [e3]; exact Px.nil, by rw [e3]; exact ho_nil, by rw [e3], fun k => Iff.rfl⟩, e4, e5⟩
  push := fun w g S M x B h hw hl hB hs => by
    obtain ⟨d, f, I, hp, hS⟩ := h.in9 hw hl hB hs
    exact (q_push I x hp (by rw [hp.length_eq]; omega)).mono fun e w' q => ⟨q.1, q.2.upd hS⟩
  pop := fun w g S M B h hw hl hB hs => by
    obtain ⟨d, f, I, hp, hS⟩ := h.in9 hw hl hB hs
    by_cases h0 : d.A.length = 0
    · have hM : M = [] := List.eq_nil_of_length_eq_zero (by rw [← hp.length_eq]; exact h0)
      subst hM
      exact (q_pop0 I h0).mono fun e w' q => ⟨q.1, q.2.upd hS⟩
    · rw [show decide (0 < M.length) = true from decide_eq_true (by rw [← hp.length_eq]; omega)]
      exact (q_pop1 I hp hw.srt (by omega)).mono fun e w' q => ⟨q.1, q.2.upd hS⟩
  remove := fun w g S M k B h hw hl hB hs => by
    obtain ⟨d, f, I, hp, hS⟩ := h.in9 hw hl hB hs
    exact (q_remove I k hp).mono fun e w' q => ⟨q.1, q.2.upd hS⟩
  peek := fun w g S M h hw hl => by
    obtain ⟨d, f, h1, h2, h3, h4, h5⟩ := h
    by_cases h0 : d.A.length = 0
    · have hM : M = [] := List.eq_nil_of_length_eq_zero (by rw [← h4.length_eq]; exact h0)
      subst hM
      exact (q_peek0 h1 h0).mono fun e w' q => ⟨q.1, q.2.1⟩
    · rw [show decide (0 < M.length) = true from decide_eq_true (by rw [← h4.length_eq]; omega), ← root_head h4 h3 hw.srt]
      exact (q_peek1 h1 (by omega)).mono fun e w' q => ⟨q.1, q.2.1⟩
  sorted := fun w g S M h hw hl => by
    obtain ⟨d, f, h1, h2, h3, h4, h5⟩ := h
    exact q_sorted h1 h4 hw.srt (by rw [h4.length_eq]; omega)
  len := fun w g S M h hw hl => by
    obtain ⟨d, f, h1, h2, h3, h4, h5⟩ := h
    rw [← h4.length_eq]
    exact (q_len h1).mono fun e w' q => ⟨q.1, by rw [← q.2]; exact Below.refl _ _⟩
  before := fun w x y => (before_it x y w).mono fun e w' q => ⟨q.1, q.2.1⟩
theorem nilh_ok : NilHC 15 17 20 19 23 21 where
  push := fun w x => (n_push w x).mono fun e w' q => ⟨q.1, q.2.1⟩
  pop := fun w => (n_pop w).mono fun e w' q => ⟨q.1, q.2.1⟩
  peek := fun w => (n_peek w).mono fun e w' q => ⟨q.1, q.2.1⟩
  remove := fun w k => (n_remove w k).mono fun e w' q => ⟨q.1, q.2.1⟩
  sorted := fun w => (n_sorted w).mono fun e w' q => by
    obtain ⟨a, c, e1, e2⟩ := q
    exact ⟨a, c, e1, by rw [← e2]; exact Below.refl _ _⟩
  len := fun w => (n_len w).mono fun e w' q => ⟨q.1, by rw [← q.2]; exact Below.refl _ _⟩
end Go.Proofs.Ytepdibnbnhkpnaa
