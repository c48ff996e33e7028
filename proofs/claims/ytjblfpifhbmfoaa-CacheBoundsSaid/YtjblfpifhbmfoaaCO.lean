/-
  The walk of the statement on bounds, over what the program's functions are held to.
-/
import Derived.Test.YtjblfpifhbmfoaaCN
namespace Go.Proofs.Ytjblfpifhbmfoaa
open Go.RowKit
set_option linter.unusedSimpArgs false
set_option linter.unusedVariables false

theorem filter_other {x : List Int} {L : List (List Int)} (h : x ∉ L) : L.filter (fun y => !(y == x)) = L := List.filter_eq_self.2 fun y hy => by
  simp only [Bool.not_eq_true', beq_eq_false_iff_ne, ne_eq]
  exact fun e => h (e ▸ hy)
theorem dropM_filter {L : List (List Int)} (h : L.Nodup) (x : List Int) : (dropM L x).1 = L.filter fun y => !(y == x) := by
  unfold dropM
  rcases idxL_range x L 0 with hi | ⟨i, hi, hil, hk⟩
  · rw [if_pos (by omega)]
    exact (filter_other fun hm => by have := (idxL_mem x L 0).1 hm; omega).symm
  · rw [Nat.zero_add] at hi
    rw [hi, if_neg (by omega), Int.toNat_natCast]
    show L.take i ++ L.drop (i + 1) = _
    have hp := (List.Perm.nodup_iff (out_perm hil)).2 h
    rw [hk, List.nodup_cons] at hp
    conv => rhs; rw [split_key hil, hk, List.filter_append, List.filter_cons]
    simp only [beq_self_eq_true, Bool.not_true, Bool.false_eq_true, if_false]
    rw [filter_other fun hm => hp.1 (List.mem_append_left _ hm), filter_other fun hm => hp.1 (List.mem_append_right _ hm)]
theorem push_rev {Ks : List (List Int)} {z : Nat} (h : Wc z Ks) (x : List Int) : (x :: (dropM Ks.reverse x).1).take z = (pushZ Ks z x).1.reverse := by
  have hle := h.le
  have hnr : Ks.reverse.Nodup := (List.Perm.nodup_iff (List.reverse_perm Ks)).2 h.nd
  rw [dropM_filter hnr, List.filter_reverse]
  unfold pushZ
  rcases idxL_range x Ks 0 with hi | ⟨i, hi, hil, hk⟩
  · have hn : x ∉ Ks := fun hm => by have := (idxL_mem x Ks 0).1 hm; omega
    rw [if_pos (by omega), filter_other hn]
    show (x :: Ks.reverse).take z = (if z < Ks.length + 1 then (Ks ++ [x]).drop 1 else Ks ++ [x]).reverse
    by_cases hc : z < Ks.length + 1
    · rw [if_pos hc, List.reverse_drop, List.reverse_append, List.length_append]
      simp only [List.reverse_cons, List.reverse_nil, List.nil_append, List.singleton_append, List.length_singleton]
      congr 1
      omega
    · rw [if_neg hc, List.reverse_append, List.take_of_length_le (by rw [List.length_cons, List.length_reverse]; omega)]
      rfl
  · have hf := dropM_filter h.nd x
    rw [Nat.zero_add] at hi
    have hdm : (dropM Ks x).1 = Ks.take i ++ Ks.drop (i + 1) := by
      unfold dropM
      rw [hi, if_neg (by omega), Int.toNat_natCast]
    rw [hdm] at hf
    rw [hi, if_neg (by omega), Int.toNat_natCast, ← hf]
    have hl := out_len hil
    rw [List.take_of_length_le (by rw [List.length_cons, List.length_reverse]; omega)]
    show _ = (Ks.take i ++ Ks.drop (i + 1) ++ [x]).reverse
    simp
theorem drop_bound (Ks : List (List Int)) (k : List Int) : (dropM Ks k).1.length ≤ Ks.length := by
  unfold dropM
  split
  · exact Nat.le_refl _
  · show (Ks.take _ ++ Ks.drop _).length ≤ _
    rw [List.length_append, List.length_take, List.length_drop]
    omega
theorem drop_kc {Ks : List (List Int)} (h : Kc Ks) (k : List Int) : Kc (dropM Ks k).1 := by
  unfold dropM
  split
  · exact h
  · exact (h.take _).app (h.drop _)
structure MB (R : CRep) (w : World) (gc : Nat) (S : Nat → Prop) (z : Nat) (Ks : List (List Int)) (V : World) : Prop where
  bel : Below w.heap.size w V
  r : R V gc S z Ks
  so : ∀ k, S k → w.heap.size ≤ k
structure RB (V : World) (S : Nat → Prop) (a : Option Addr) (L : List (List Int)) : Prop where
  cs : Cs V a (kcells L)
  ap : ∀ x, a = some x → x.block < V.heap.size ∧ ¬ S x.block
structure XC (V : World) (S : Nat → Prop) (g : Nat) (K : List Int) : Prop where
  bx : Bx V g (w8s K) 34
  ns : ¬ S g
section
variable {R : CRep} {w V V2 : World} {gc z g : Nat} {S : Nat → Prop} {Ks L : List (List Int)} {K : List Int} {b : Option Addr}
theorem RB.below (h : RB V S b L) (hb : Below V.heap.size V V2) : RB V2 S b L := ⟨h.cs.below hb, fun x hx => ⟨Nat.lt_of_lt_of_le (h.ap x hx).1 hb.size, (h.ap x hx).2⟩⟩
theorem XC.below (h : XC V S g K) (hb : Below V.heap.size V V2) : XC V2 S g K := { h with bx := h.bx.below h.bx.lt hb }
theorem MB.below (hC : CacheC R 11 17 14 21 19 20 15) (h : MB R w gc S z Ks V) (hb : Below V.heap.size V V2) : MB R w gc S z Ks V2 :=
  { h with bel := h.bel.trans (hb.mono h.bel.size), r := hC.keep h.r hb.size fun k hk => hb.block k (hC.inn h.r k hk) }
theorem MB.prog (hC : CacheC R 11 17 14 21 19 20 15) {Ks2 : List (List Int)} (h : MB R w gc S z Ks V) (hu : UpdC R gc w.heap.size S z Ks2 V V2) : ∃ S2, MB R w gc S2 z Ks2 V2 ∧ (∀ b L, RB V S b L → RB V2 S2 b L) ∧ ∀ g K, XC V S g K → XC V2 S2 g K := by
  obtain ⟨S2, hr, hs, hb⟩ := hu
  have hbs := h.bel.size
  refine ⟨S2, { bel := h.bel.trans hb.1, r := hr, so := fun k hk => ?_ }, fun b L q => ⟨q.cs.buts hb fun x hx => (q.ap x hx).2, fun x hx => ⟨Nat.lt_of_lt_of_le (q.ap x hx).1 hb.1.size, fun h2 => ?_⟩⟩, fun g K q => { bx := q.bx.buts hb q.ns, ns := fun h2 => ?_ }⟩
  · rcases hs k hk with h1 | h1
    · exact h.so k h1
    · omega
  · rcases hs _ h2 with h1 | h1
    · exact (q.ap x hx).2 h1
    · have := (q.ap x hx).1
      omega
  · rcases hs _ h2 with h1 | h1
    · exact q.ns h1
    · have := q.bx.lt
      omega
theorem MB.fr (hC : CacheC R 11 17 14 21 19 20 15) (h : MB R w gc S z Ks V) {b2 : Option Addr} {L2 : List (List Int)} (hq : RB V S b L) (hb : Below V.heap.size V V2) (hc : Cs V2 b2 (kcells L2)) (hf : Fr V V2 b b2) : RB V2 S b2 L2 := ⟨hc, fun x hx => by
  rcases hf with rfl | hf
  · exact ⟨Nat.lt_of_lt_of_le (hq.ap x hx).1 hb.size, (hq.ap x hx).2⟩
  · obtain ⟨h1, h2⟩ := hf x hx
    exact ⟨h2, fun hs => by have := hC.inn h.r _ hs; omega⟩⟩
/-- A key and a row behind it, in a new block. -/
theorem MB.cons (hC : CacheC R 11 17 14 21 19 20 15) (h : MB R w gc S z Ks V) (hq : RB V S b L) {m c : Nat} (hm : L.length = m) (hl : m ≤ 1000) (hkL : Kc L) : ∃ b2 c2 V2, (Builtin.append_ #[30, 30] 30 #[.slice (some ⟨V.heap.size, 0, none⟩) 1 1, .slice b m c]).run Try.prog (V.alloc (.cells (w8s K) 34)) = .ok (.slice b2 (m + 1) c2) V2 ∧ m + 1 ≤ c2 ∧ RB V2 S b2 (K :: L) ∧ Below V.heap.size V V2 ∨ K.length ≠ 32 := by
  by_cases hK : K.length = 32
  case neg => exact ⟨none, 0, V, .inr hK⟩
  have hb1 : Below V.heap.size V (V.alloc (.cells (w8s K) 34)) := (Below.refl _ V).alloc (Nat.le_refl _) _
  have hO : Row V (V.alloc (.cells (w8s K) 34)) (.slice (some ⟨V.heap.size, 0, none⟩) 1 1) [K] := by
    refine ⟨by rw [kcells_len [K] (Kc.one hK)], .inr ⟨V.heap.size, 1, _, rfl, Nat.le_refl _, heap_alloc_last V _, Nat.le_refl _, by simp [maxLen], by rw [size_w8s, hK], ?_⟩⟩
    rw [List.take_of_length_le (by rw [Array.length_toList, size_w8s, hK]; simp)]
    simp [kcells]
  obtain ⟨v, V2, hr, hO2, hb2, -, -⟩ := hO.app hb1.size b m c L (hq.cs.below hb1) hkL hm (by simp) (by omega)
  have hlt := hO2.lt
  obtain ⟨b2, c2, rfl, hc2, hl2⟩ := own_k hO2
  have hlen : ([K] ++ L).length = m + 1 := by simp [hm]
  rw [hlen] at hr hl2
  exact ⟨b2, c2, V2, .inl ⟨hr, hl2, ⟨hc2, fun x hx => by
    have := hlt x.block (by rw [hx]; rfl)
    exact ⟨this.2, fun hs => by have := hC.inn h.r _ hs; omega⟩⟩, hb1.trans hb2⟩⟩
end
end Go.Proofs.Ytjblfpifhbmfoaa
