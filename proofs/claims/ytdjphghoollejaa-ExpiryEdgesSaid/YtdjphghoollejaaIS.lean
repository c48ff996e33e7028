/-
  slices.Sort and slices.Compact at ints: the numbers of what they call, and that their bodies are the library's; their contracts at rows of the call's own.
-/
import Derived.Shelf.SortM.Plain
import Derived.Shelf.SortM.SortNone
import Derived.Shelf.SlicesG.CompactI
import Derived.Test.YtdjphghoollejaaPI
namespace Go.Proofs.Ytdjphghoollejaa
open Go.RowKit Go.Sort Go.Shelf
set_option linter.unusedSimpArgs false
set_option linter.unusedVariables false
def sortI_ren : Go.Shelf.Ren := ⟨fun | 5 => 24 | 8 => 33 | 7 => 32 | 19 => 46 | 20 => 47 | 10 => 37 | 11 => 38 | 12 => 39 | 13 => 40 | 14 => 41 | 15 => 42 | 16 => 43 | 17 => 44 | 18 => 45 | 30 => 51 | 31 => 52 | 32 => 53 | 33 => 54 | 34 => 55 | 35 => 50 | 40 => 57 | n => n, fun | 23 => 22 | 25 => 3 | 3 => 3 | 32 => 73 | 22 => 22 | 0 => 0 | 44 => 84 | 46 => 74 | 4 => 4 | 36 => 79 | 35 => 78 | 41 => 67 | 5 => 5 | 9 => 9 | 53 => 88 | 57 => 92 | 63 => 94 | 64 => 95 | n => n, fun | n => n⟩
theorem sortI : Go.Proofs.SlLaysM.n5 Try.prog sortI_ren := {
  mixed := by kernel_rfl
  f5 := ⟨Try.f24.name, by decide, Try.func24.trans (congrArg some (by kernel_rfl))⟩
  f7 := ⟨Try.f32.name, by decide, Try.func32.trans (congrArg some (by kernel_rfl))⟩
  f8 := Try.func33.trans (congrArg some (by kernel_rfl))
  f10 := ⟨Try.f37.name, by decide, Try.func37.trans (congrArg some (by kernel_rfl))⟩
  f11 := ⟨Try.f38.name, by decide, Try.func38.trans (congrArg some (by kernel_rfl))⟩
  f12 := ⟨Try.f39.name, by decide, Try.func39.trans (congrArg some (by kernel_rfl))⟩
  f13 := ⟨Try.f40.name, by decide, Try.func40.trans (congrArg some (by kernel_rfl))⟩
  f14 := ⟨Try.f41.name, by decide, Try.func41.trans (congrArg some (by kernel_rfl))⟩
  f15 := ⟨Try.f42.name, by decide, Try.func42.trans (congrArg some (by kernel_rfl))⟩
  f16 := ⟨Try.f43.name, by decide, Try.func43.trans (congrArg some (by kernel_rfl))⟩
  f17 := ⟨Try.f44.name, by decide, Try.func44.trans (congrArg some (by kernel_rfl))⟩
  f18 := ⟨Try.f45.name, by decide, Try.func45.trans (congrArg some (by kernel_rfl))⟩
  f19 := Try.func46.trans (congrArg some (by kernel_rfl))
  f20 := Try.func47.trans (congrArg some (by kernel_rfl))
  f30 := ⟨Try.f51.name, by decide, Try.func51.trans (congrArg some (by kernel_rfl))⟩
  f31 := Try.func52.trans (congrArg some (by kernel_rfl))
  f32 := Try.func53.trans (congrArg some (by kernel_rfl))
  f33 := ⟨Try.f54.name, by decide, Try.func54.trans (congrArg some (by kernel_rfl))⟩
  f34 := ⟨Try.f55.name, by decide, Try.func55.trans (congrArg some (by kernel_rfl))⟩
  f35 := ⟨Try.f50.name, by decide, Try.func50.trans (congrArg some (by kernel_rfl))⟩
  f40 := ⟨Try.f57.name, by decide, Try.func57.trans (congrArg some (by kernel_rfl))⟩
  t0 := Try.underlying0
  a0 := Try.isAgg0
  z0 := Try.sizeOf0
  v0 := Try.zeroValue0
  t3 := Try.underlying3
  a3 := Try.isAgg3
  z3 := Try.sizeOf3
  v3 := Try.zeroValue3
  t4 := Try.underlying4
  a4 := Try.isAgg4
  z4 := Try.sizeOf4
  v4 := Try.zeroValue4
  t5 := Try.underlying5
  a5 := Try.isAgg5
  z5 := Try.sizeOf5
  v5 := Try.zeroValue5
  t9 := Try.underlying9
  a9 := Try.isAgg9
  z9 := Try.sizeOf9
  v9 := Try.zeroValue9
  t22 := Try.underlying22
  a22 := Try.isAgg22
  z22 := Try.sizeOf22
  v22 := Try.zeroValue22
  t23 := Try.underlying22
  a23 := Try.isAgg22
  z23 := Try.sizeOf22
  v23 := Try.zeroValue22
  t25 := Try.underlying3
  a25 := Try.isAgg3
  z25 := Try.sizeOf3
  v25 := Try.zeroValue3
  t32 := Try.underlying73
  a32 := Try.isAgg73
  z32 := Try.sizeOf73
  v32 := Try.zeroValue73
  t35 := Try.underlying78
  a35 := Try.isAgg78
  z35 := Try.sizeOf78
  v35 := Try.zeroValue78
  t36 := Try.underlying79
  a36 := Try.isAgg79
  z36 := Try.sizeOf79
  v36 := Try.zeroValue79
  t41 := Try.underlying67
  a41 := Try.isAgg67
  z41 := Try.sizeOf67
  v41 := Try.zeroValue67
  t44 := Try.underlying84
  a44 := Try.isAgg84
  z44 := Try.sizeOf84
  v44 := Try.zeroValue84
  t46 := Try.underlying74
  a46 := Try.isAgg74
  z46 := Try.sizeOf74
  v46 := Try.zeroValue74
  t53 := Try.underlying88
  a53 := Try.isAgg88
  z53 := Try.sizeOf88
  v53 := Try.zeroValue88
  t57 := Try.underlying92
  a57 := Try.isAgg92
  z57 := Try.sizeOf92
  v57 := Try.zeroValue92
  t63 := Try.underlying94
  a63 := Try.isAgg94
  z63 := Try.sizeOf94
  v63 := Try.zeroValue94
  t64 := Try.underlying95
  a64 := Try.isAgg95
  z64 := Try.sizeOf95
  v64 := Try.zeroValue95 }
def compI_ren : Go.Shelf.Ren := ⟨fun | 43 => 25 | n => n, fun | 22 => 22 | 23 => 3 | 3 => 3 | 4 => 4 | 0 => 0 | n => n, fun | n => n⟩
theorem compI : Go.Proofs.SlLaysN.n43 Try.prog compI_ren := {
  mixed := by kernel_rfl
  f43 := ⟨Try.f25.name, by decide, Try.func25.trans (congrArg some (by kernel_rfl))⟩
  t0 := Try.underlying0
  a0 := Try.isAgg0
  z0 := Try.sizeOf0
  v0 := Try.zeroValue0
  t3 := Try.underlying3
  a3 := Try.isAgg3
  z3 := Try.sizeOf3
  v3 := Try.zeroValue3
  t4 := Try.underlying4
  a4 := Try.isAgg4
  z4 := Try.sizeOf4
  v4 := Try.zeroValue4
  t22 := Try.underlying22
  a22 := Try.isAgg22
  z22 := Try.sizeOf22
  v22 := Try.zeroValue22
  t23 := Try.underlying3
  a23 := Try.isAgg3
  z23 := Try.sizeOf3
  v23 := Try.zeroValue3
  i23 := by kernel_rfl }
/-- What an int row of the call's own holds, in the sort's words. -/
theorem own_holds {w : World} {B n c g : Nat} {L : List Int} (h : w.ownsRow B 3 1 (.slice (some ⟨g, 0, none⟩) n c) n (icells L)) (hn : L.length = n) : Holds (Value.int .i64) w g 0 L.toArray := by
  intro j hj
  have hj2 : j < L.length := by simpa using hj
  have h1 : (icells L)[j]? = some (.int .i64 (L.getD j 0)) := icells_at L j hj2
  rw [Nat.zero_add]
  refine ⟨?_, (own_cell h (by omega)).2⟩
  rw [own_get h h1, getElem!_pos L.toArray j hj, List.getElem_toArray, getD_lt L j 0 hj2]
theorem compact_le (L : List Int) : (Lib.compact L).length ≤ L.length := by
  unfold Lib.compact Lib.compactUpTo
  rw [List.length_map]
  exact Nat.le_trans (List.length_filter_le _ _) (by rw [List.length_range]; exact Nat.le_refl _)
/-- What is kept of a sorted list: the same numbers, each once. -/
theorem compact_asc {L : List Int} (hs : L.Pairwise (· ≤ ·)) : (Lib.compact L).Pairwise (· < ·) ∧ ∀ k, k ∈ Lib.compact L ↔ k ∈ L := by
  have key : ∀ m, m ≤ L.length → (Lib.compactUpTo L.toArray m).Pairwise (· < ·) ∧ (∀ k, k ∈ Lib.compactUpTo L.toArray m ↔ k ∈ L.take m) := by
    intro m
    induction m with
    | zero => intro _; exact ⟨List.Pairwise.nil, fun k => by simp [Lib.compactUpTo]⟩
    | succ m ih =>
      intro hm
      obtain ⟨h1, h2⟩ := ih (by omega)
      have hg : L.toArray[m]! = L[m] := by rw [getElem!_pos L.toArray m (by simp; omega)]; rfl
      have ht : L.take (m + 1) = L.take m ++ [L[m]] := by rw [List.take_add_one, List.getElem?_eq_getElem (by omega)]; rfl
      rw [Lib.compactUpTo_succ, ht, hg]
      cases hk : Lib.keeps L.toArray m with
      | true =>
        rw [if_pos rfl]
        have hlt : ∀ x ∈ L.take m, x < L[m] := by
          intro x hx
          obtain ⟨t, ht1, rfl⟩ := List.mem_take_iff_getElem.1 hx
          have ht2 : t < m := by omega
          have hk2 := of_decide_eq_true hk
          rcases hk2 with h3 | h3
          · omega
          · have hg2 : L.toArray[m - 1]! = L[m - 1]'(by omega) := by rw [getElem!_pos L.toArray (m - 1) (by simp; omega)]; rfl
            rw [hg, hg2] at h3
            have h4 : L[m - 1]'(by omega) ≤ L[m] := List.pairwise_iff_getElem.1 hs (m - 1) m (by omega) (by omega) (by omega)
            have h5 : L[t]'(by omega) ≤ L[m - 1]'(by omega) := by
              rcases Nat.lt_or_ge t (m - 1) with h6 | h6
              · exact List.pairwise_iff_getElem.1 hs t (m - 1) (by omega) (by omega) h6
              · have e6 : t = m - 1 := by omega
                subst e6; exact Int.le_refl _
            omega
        refine ⟨List.pairwise_append.2 ⟨h1, by simp, fun a ha b hb => ?_⟩, fun k => ?_⟩
        · rw [List.mem_singleton] at hb
          rw [hb]
          exact hlt a ((h2 a).1 ha)
        · rw [List.mem_append, List.mem_append, h2]
      | false =>
        rw [if_neg Bool.false_ne_true, List.append_nil]
        refine ⟨h1, fun k => ?_⟩
        rw [h2, List.mem_append, List.mem_singleton]
        refine ⟨.inl, fun h3 => h3.elim id fun h4 => ?_⟩
        have hk2 : ¬ (m = 0 ∨ L.toArray[m]! ≠ L.toArray[m - 1]!) := of_decide_eq_false hk
        have hm0 : m ≠ 0 := fun e => hk2 (.inl e)
        have hg2 : L.toArray[m - 1]! = L[m - 1]'(by omega) := by rw [getElem!_pos L.toArray (m - 1) (by simp; omega)]; rfl
        have h5 : L[m] = L[m - 1]'(by omega) := by
          rw [hg, hg2] at hk2
          by_cases h6 : L[m] = L[m - 1]'(by omega)
          · exact h6
          · exact absurd (.inr h6) hk2
        rw [h4, h5]
        exact List.mem_take_iff_getElem.2 ⟨m - 1, by omega, rfl⟩
  have h := key L.length (Nat.le_refl _)
  rw [List.take_length] at h
  exact h
/-- What is sorted and then kept. -/
theorem sort_compact (L : List Int) : (Lib.compact (L.mergeSort fun x y => decide (x ≤ y))).Pairwise (· < ·) ∧ ∀ k, k ∈ Lib.compact (L.mergeSort fun x y => decide (x ≤ y)) ↔ k ∈ L := by
  have hs : (L.mergeSort fun x y => decide (x ≤ y)).Pairwise (· ≤ ·) := by
    have h := List.pairwise_mergeSort (le := fun x y : Int => decide (x ≤ y)) (fun a b c h1 h2 => decide_eq_true (Int.le_trans (of_decide_eq_true h1) (of_decide_eq_true h2))) (fun a b => by rw [Bool.or_eq_true, decide_eq_true_iff, decide_eq_true_iff]; omega) L
    exact h.imp fun h => of_decide_eq_true h
  obtain ⟨h1, h2⟩ := compact_asc hs
  exact ⟨h1, fun k => by rw [h2, List.mem_mergeSort]⟩
theorem icells_map (L : List Int) : icells L = L.map (Value.int .i64) := by
  apply List.ext_getElem?
  intro j
  rw [List.getElem?_map]
  by_cases hj : j < L.length
  · rw [icells_at L j hj, List.getElem?_eq_getElem hj, getD_lt L j 0 hj]; rfl
  · rw [List.getElem?_eq_none (by rw [icells_len]; omega), List.getElem?_eq_none (by omega)]; rfl
/-- A row that was written over, in the words of rows of the call's own. -/
theorem own_put {w : World} {B n c g : Nat} {L L2 : List Int} (h : w.ownsRow B 3 1 (.slice (some ⟨g, 0, none⟩) n c) n (icells L)) (hn : L.length = n) (hn2 : L2.length = n) (q : Nat) (os : Array Obj) :
    (grow (putRow (Value.int .i64) (Sort.ahead w q) g 0 L2.toArray) os).ownsRow B 3 1 (.slice (some ⟨g, 0, none⟩) n c) n (icells L2) ∧ w.grownBy (grow (putRow (Value.int .i64) (Sort.ahead w q) g 0 L2.toArray) os) (some g) := by
  rcases h.2 with ⟨h0, -⟩ | ⟨g2, cap, cur, h0, hB, hg, hnc, hcm, hcs, ht⟩
  · cases h0
  · simp only [Value.slice.injEq, Option.some.injEq, Addr.mk.injEq, and_true, true_and] at h0
    obtain ⟨rfl, rfl⟩ := h0
    have hlt : g < w.heap.size := (Array.getElem?_eq_some_iff.1 hg).1
    have hsz : (w.heap.modify g (onCells (putCells (Value.int .i64) 0 L2.toArray))).size = w.heap.size := by simp
    have hg2 : (grow (putRow (Value.int .i64) (Sort.ahead w q) g 0 L2.toArray) os).heap[g]? = some (.cells (putCells (Value.int .i64) 0 L2.toArray cur) 3 (0, 0)) := by
      show ((w.heap.modify g (onCells (putCells (Value.int .i64) 0 L2.toArray))) ++ os)[g]? = _
      rw [Array.getElem?_append_left (by rw [hsz]; exact hlt), Array.getElem?_modify, if_pos rfl, hg]
      rfl
    have hz : (putCells (Value.int .i64) 0 L2.toArray cur).size = cur.size := by simp [putCells]
    refine ⟨⟨by rw [icells_len, hn2, Nat.mul_one], .inr ⟨g, c, _, rfl, hB, hg2, hnc, hcm, by rw [hz]; exact hcs, ?_⟩⟩, rfl, rfl, rfl, ?_, fun k hk hn => ?_⟩
    · apply List.ext_getElem?
      intro j
      rw [Nat.mul_one, List.getElem?_take]
      by_cases hj : j < n
      · rw [if_pos hj, icells_at L2 j (by omega), Array.getElem?_toList]
        have hjc : j < cur.size := by omega
        simp only [putCells, Array.getElem?_mapIdx, Array.getElem?_eq_getElem hjc, Option.map_some]
        have hjl : j < L2.toArray.size := by simp; omega
        rw [if_pos ⟨Nat.zero_le _, by omega⟩, Nat.sub_zero, getElem!_pos L2.toArray j hjl, List.getElem_toArray, getD_lt L2 j 0 (by omega)]
      · rw [if_neg hj, List.getElem?_eq_none (by rw [icells_len]; omega)]
    · show w.heap.size ≤ ((w.heap.modify g (onCells (putCells (Value.int .i64) 0 L2.toArray))) ++ os).size
      rw [Array.size_append, hsz]; omega
    · show ((w.heap.modify g (onCells (putCells (Value.int .i64) 0 L2.toArray))) ++ os)[k]? = _
      rw [Array.getElem?_append_left (by rw [hsz]; exact hk), Array.getElem?_modify, if_neg (fun e => hn (by rw [e]))]
/-- slices.Sort: an own row of ints is sorted where it lies. -/
theorem q_sort {w : World} {B : Nat} {v : Value} {L : List Int} (h : RowI w B v L) (hl : L.length ≤ 1000000) : Calls Try.prog 24 #[v] w fun e w' => e = .returned (.tuple #[]) ∧ RowI w' B v (L.mergeSort fun x y => decide (x ≤ y)) ∧ w.grownBy w' v.ownBlock := by
  have hp : (L.mergeSort fun x y => decide (x ≤ y)).length = L.length := List.length_mergeSort _
  rcases own_slice h with ⟨rfl, h0⟩ | ⟨b, c, rfl, -, hb, -⟩
  · have hL : L = [] := List.eq_nil_of_length_eq_zero h0
    subst hL
    have hc := AnyM.slices_Sort_int_none (P := Try.prog) sortI none 0 w
    change Calls Try.prog 24 _ _ _ at hc
    refine hc.mono fun e w' z => ⟨z.1, ?_, ?_⟩
    · rw [z.2, List.mergeSort_nil]; exact h
    · rw [z.2]; exact World.grownBy.refl w _
  · unfold RowI at h
    have hc := AnyM.slices_Sort_int (P := Try.prog) sortI b 0 c L w (own_holds h rfl) hb (by omega)
    change Calls Try.prog 24 _ _ _ at hc
    refine hc.mono ?_
    rintro e w' ⟨rfl, q, os, rfl⟩
    have h2 := own_put h rfl hp q os
    refine ⟨rfl, ?_, h2.2⟩
    unfold RowI
    rw [hp]
    exact h2.1
/-- slices.Compact: the row cut to what is kept. -/
theorem q_compact {w : World} {B : Nat} {v : Value} {L : List Int} (h : RowI w B v L) (hl : L.length ≤ 1000000) : Calls Try.prog 25 #[v] w fun e w' => ∃ v', e = .returned v' ∧ RowI w' B v' (Lib.compact L) ∧ w.grownBy w' v.ownBlock := by
  rcases own_slice h with ⟨rfl, h0⟩ | ⟨b, c, rfl, -, hb, hcc⟩
  · have hL : L = [] := List.eq_nil_of_length_eq_zero h0
    subst hL
    have hc := AnyG.slices_Compact_int_empty (P := Try.prog) compI none 0 w
    change Calls Try.prog 25 _ _ _ at hc
    refine hc.mono fun e w' z => ⟨_, z.1, ?_, ?_⟩
    · rw [z.2]; exact h
    · rw [z.2]; exact World.grownBy.refl w _
  · unfold RowI at h
    have hc := AnyG.slices_Compact_int (P := Try.prog) compI b 0 c L w (own_holds h rfl) (by omega) hcc
    change Calls Try.prog 25 _ _ _ at hc
    refine hc.mono ?_
    rintro e w' ⟨rfl, q, rfl⟩
    have hkl := compact_le L
    have hlen : (Lib.compact L ++ List.replicate (L.length - (Lib.compact L).length) 0).length = L.length := by rw [List.length_append, List.length_replicate]; omega
    have h2 := own_put h rfl hlen q #[]
    rw [grow_empty] at h2
    refine ⟨_, rfl, ?_, h2.2⟩
    have h3 := own_to (k := (Lib.compact L).length) h2.1 hkl
    rw [Nat.mul_one, icells_app, List.take_left' (icells_len _)] at h3
    exact h3
end Go.Proofs.Ytdjphghoollejaa
