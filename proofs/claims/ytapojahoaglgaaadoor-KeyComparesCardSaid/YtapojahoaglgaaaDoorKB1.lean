/-
  Slices of one key and of two keys, written out.
-/
import Derived.Test.YtapojahoaglgaaaDoorKC9
import Derived.OneCell
namespace Go.Proofs.YtapojahoaglgaaaDoor
open Go.RowKit

theorem foldl_set : ∀ (l : List Value) (s o : Nat) (cs : Array Value), ((l.zipIdx s).foldl (fun cs x => cs.setIfInBounds (o + x.2) x.1) cs).size = cs.size ∧
    ∀ i, ((l.zipIdx s).foldl (fun cs x => cs.setIfInBounds (o + x.2) x.1) cs)[i]? = if o + s ≤ i ∧ i < o + s + l.length ∧ i < cs.size then l[i - (o + s)]? else cs[i]?
  | [], s, o, cs => by
    refine ⟨rfl, fun i => ?_⟩
    simp only [List.zipIdx_nil, List.foldl_nil, List.length_nil]
    rw [if_neg (by omega)]
  | v :: l, s, o, cs => by
    obtain ⟨h1, h2⟩ := foldl_set l (s + 1) o (cs.setIfInBounds (o + s) v)
    simp only [List.zipIdx_cons, List.foldl_cons]
    refine ⟨h1.trans (by simp), fun i => ?_⟩
    rw [h2 i]
    simp only [Array.size_setIfInBounds, List.length_cons]
    by_cases hi : i = o + s
    · subst hi
      rw [if_neg (by omega)]
      by_cases hb : o + s < cs.size
      · rw [if_pos (by omega), Array.getElem?_setIfInBounds_self_of_lt hb]
        simp
      · rw [if_neg (by omega), Array.getElem?_eq_none (by simp; omega), Array.getElem?_eq_none (by omega)]
    · rw [Array.getElem?_setIfInBounds_ne (by omega)]
      by_cases hr : o + (s + 1) ≤ i ∧ i < o + (s + 1) + l.length ∧ i < cs.size
      · rw [if_pos hr, if_pos (by omega)]
        have : i - (o + s) = (i - (o + (s + 1))) + 1 := by omega
        rw [this, List.getElem?_cons_succ]
      · rw [if_neg hr, if_neg (by omega)]
theorem agg_fold (c : Array Value) (o : Nat) (cs : Array Value) : (c.zipIdx.foldl (fun cs (x, j) => cs.setIfInBounds (o + j) x) cs) = ((c.toList.zipIdx 0).foldl (fun cs x => cs.setIfInBounds (o + x.2) x.1) cs) := by
  rw [← Array.foldl_toList, Array.toList_zipIdx]
theorem size_w8s (K : List Int) : (w8s K).size = K.length := by simp
theorem get_w8s (K : List Int) (i : Nat) : (w8s K).toList[i]? = (w8s K)[i]? := by simp
/-- One key. -/
theorem fill_one (Z : Array Value) (K : List Int) (hZ : Z.size = 32) (hK : K.length = 32) : Instr.fill (fun i => some (i * 32, 32)) Z [(0, .agg (w8s K))] = some (w8s K) := by
  have hs : (Value.agg (w8s K)).cells = w8s K := rfl
  unfold Instr.fill
  simp only [hs, size_w8s, hK, hZ]
  rw [if_neg (by simp)]
  unfold Instr.fill
  congr 1
  rw [agg_fold]
  obtain ⟨h1, h2⟩ := foldl_set (w8s K).toList 0 (0 * 32) Z
  apply Array.ext_getElem?
  intro i
  rw [h2 i, get_w8s]
  have hl : (w8s K).toList.length = 32 := by rw [Array.length_toList, size_w8s, hK]
  rw [hl, hZ]
  by_cases hi : i < 32
  · rw [if_pos (by omega)]
    simp
  · rw [if_neg (by omega), Array.getElem?_eq_none (by omega), Array.getElem?_eq_none (by rw [size_w8s]; omega)]
/-- Two keys. -/
theorem fill_two (Z : Array Value) (A B : List Int) (hZ : Z.size = 64) (hA : A.length = 32) (hB : B.length = 32) : Instr.fill (fun i => some (i * 32, 32)) Z [(0, .agg (w8s A)), (1, .agg (w8s B))] = some (w8s (A ++ B)) := by
  have hs : ∀ K, (Value.agg (w8s K)).cells = w8s K := fun _ => rfl
  unfold Instr.fill
  simp only [hs, size_w8s, hA, hZ]
  rw [if_neg (by simp)]
  unfold Instr.fill
  rw [agg_fold]
  obtain ⟨h1, h2⟩ := foldl_set (w8s A).toList 0 (0 * 32) Z
  generalize (List.foldl (fun cs (x : Value × Nat) => cs.setIfInBounds (0 * 32 + x.2) x.1) Z ((w8s A).toList.zipIdx 0)) = Y at *
  simp only [hs, size_w8s, hB, h1, hZ]
  rw [if_neg (by simp)]
  unfold Instr.fill
  congr 1
  rw [agg_fold]
  obtain ⟨h3, h4⟩ := foldl_set (w8s B).toList 0 (1 * 32) Y
  apply Array.ext_getElem?
  intro i
  rw [h4 i, h2 i, get_w8s, get_w8s]
  have hl : (w8s A).toList.length = 32 := by rw [Array.length_toList, size_w8s, hA]
  have hl2 : (w8s B).toList.length = 32 := by rw [Array.length_toList, size_w8s, hB]
  rw [hl, hl2, h1, hZ]
  by_cases hi : i < 32
  · rw [if_neg (by omega), if_pos (by omega)]
    simp [List.getElem?_append, hA, hi]
  · by_cases hj : i < 64
    · rw [if_pos (by omega)]
      simp [List.getElem?_append, hA, hi]
    · rw [if_neg (by omega), if_neg (by omega), Array.getElem?_eq_none (by omega), Array.getElem?_eq_none (by rw [size_w8s, List.length_append]; omega)]
theorem info25 : (Tryd.prog.info? 25).map (fun i => (i.zero, i.size, i.bytes)) = some (some (.agg (w8s (List.replicate 32 0))), 32, 32) := by kernel_rfl
/-- A slice that is written out, at the operation. -/
theorem build_to {P : Program} {ops : Array Oper} {rest : List Oper} {o : Oper} {a : Act} {w : World} {Q : Exit → Act → World → Prop} (hgd : o.guard = none) (d : Option Tmp) (hd : o.dst = d) (t : TypeId) (len : Nat) (parts : Array (Nat × Operand)) (ho : o.op = .buildSlice t len parts)
    (vs : Array (Nat × Value)) (hp : (parts.map fun (i, x) => (i, a.eval x)) = vs) (v : Value) (w2 : World) (hr : (Instr.buildSlice t len vs).run P w = .ok v w2) (k : wpList P ops Q rest (a.put d v) w2) : wpList P ops Q (o :: rest) a w := by
  refine run_to hgd d hd v w2 ?_ k
  unfold execOp
  simp only [ho, Sem.run_bind, hp, hr, Result.andThen_ok]
  rfl
theorem build_one (K : List Int) (hK : K.length = 32) (w : World) : (Instr.buildSlice 36 1 #[(0, .agg (w8s K))]).run Tryd.prog w = .ok (.slice (some ⟨w.heap.size, 0, none⟩) 1 1) (w.alloc (.cells (w8s K) 25)) := by
  obtain ⟨i0, hi, hz0, hz1, hz2⟩ := info_parts info25
  refine run_buildSlice w 36 25 1 _ (w8s K) i0 _ (by kernel_rfl) hi hz0 (by rw [hz1]; omega) (by rw [hz1]; omega) ?_
  rw [hz1]
  exact fill_one _ K (by simp) hK
theorem build_two (A B : List Int) (hA : A.length = 32) (hB : B.length = 32) (w : World) : (Instr.buildSlice 36 2 #[(0, .agg (w8s A)), (1, .agg (w8s B))]).run Tryd.prog w = .ok (.slice (some ⟨w.heap.size, 0, none⟩) 2 2) (w.alloc (.cells (w8s (A ++ B)) 25)) := by
  obtain ⟨i0, hi, hz0, hz1, hz2⟩ := info_parts info25
  refine run_buildSlice w 36 25 2 _ (w8s (A ++ B)) i0 _ (by kernel_rfl) hi hz0 (by rw [hz1]; omega) (by rw [hz1]; omega) ?_
  rw [hz1]
  exact fill_two _ A B (by simp) hA hB
end Go.Proofs.YtapojahoaglgaaaDoor
