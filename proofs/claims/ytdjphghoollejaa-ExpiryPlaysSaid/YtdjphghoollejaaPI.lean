/-
 The library's Insert and Delete at rows of entries: contracts.
-/
import Derived.Test.YtdjphghoollejaaPB
import Derived.Test.YtdjphghoollejaaSQC
import Derived.Lib.Overlaps
import Derived.Lib.AppendZerosOnto
import Derived.Lib.SliceRun
import Derived.Laws.OwnMore
namespace Go.Proofs.Ytdjphghoollejaa
attribute [local irreducible] wpList wpQuiet
open Go.RowKit
set_option maxRecDepth 100000
set_option linter.unusedSimpArgs false
set_option linter.unusedVariables false

theorem own_up {w : World} {B e s n c g : Nat} {xs : List Value} (h : w.ownsRow B e s (.slice (some ⟨g, 0, none⟩) n c) n xs) (hc : n + 1 ≤ c) : ∃ ys : List Value, ys.length = s ∧ w.ownsRow B e s (.slice (some ⟨g, 0, none⟩) (n + 1) c) (n + 1) (xs ++ ys) := by
 rcases h.2 with ⟨h0, -⟩ | ⟨g2, cap, cur, h0, hB, hg, hnc, hcm, hcs, ht⟩
 ·cases h0
 ·simp only [Value.slice.injEq, Option.some.injEq, Addr.mk.injEq, and_true, true_and] at h0
  obtain ⟨rfl, rfl⟩ := h0
  have hl : (n + 1) * s ≤ cur.toList.length := by rw [Array.length_toList, hcs]; exact Nat.mul_le_mul_right _ hc
  have hz : (n + 1) * s = n * s + s := by rw [Nat.add_mul, Nat.one_mul]
  refine ⟨(cur.toList.drop (n * s)).take s, by rw [List.length_take, List.length_drop]; omega, ⟨?_, .inr ⟨g, c, cur, rfl, hB, hg, hc, hcm, hcs, ?_⟩⟩⟩
  ·rw [List.length_append, h.1, List.length_take, List.length_drop]; omega
  ·rw [hz, List.take_add, ht]
theorem own_to {w : World} {B e s n c g k : Nat} {xs : List Value} (h : w.ownsRow B e s (.slice (some ⟨g, 0, none⟩) n c) n xs) (hk : k ≤ n) : w.ownsRow B e s (.slice (some ⟨g, 0, none⟩) k c) k (xs.take (k * s)) := by
 rcases h.2 with ⟨h0, -⟩ | ⟨g2, cap, cur, h0, hB, hg, hnc, hcm, hcs, ht⟩
 ·cases h0
 ·simp only [Value.slice.injEq, Option.some.injEq, Addr.mk.injEq, and_true, true_and] at h0
  obtain ⟨rfl, rfl⟩ := h0
  have hm : k * s ≤ n * s := Nat.mul_le_mul_right _ hk
  refine ⟨by rw [List.length_take, h.1]; omega, .inr ⟨g, c, cur, rfl, hB, hg, by omega, hcm, hcs, ?_⟩⟩
  rw [← ht, List.take_take, Nat.min_eq_left hm]
theorem own_fresh (w : World) (e s m cap : Nat) (cur : Array Value) (h1 : cur.size = cap * s) (h2 : m ≤ cap) (h3 : cap ≤ maxLen) : (w.alloc (.cells cur e)).ownsRow w.heap.size e s (.slice (some ⟨w.heap.size, 0, none⟩) m cap) m (cur.toList.take (m * s)) :=
 ⟨by rw [List.length_take, Array.length_toList, h1]; have := Nat.mul_le_mul_right s h2; omega, .inr ⟨_, cap, cur, rfl, Nat.le_refl _, heap_alloc_last w _, h2, h3, h1, rfl⟩⟩
theorem own_cell {w : World} {B e s n c g : Nat} {xs : List Value} (h : w.ownsRow B e s (.slice (some ⟨g, 0, none⟩) n c) n xs) {j : Nat} (hj : j < n * s) : (w.cell? ⟨g, j, none⟩).isSome = true ∧ w.frozen? ⟨g, j, none⟩ = false := by
 obtain ⟨cur, hcur, hz, -, -⟩ := own_row h
 refine ⟨?_, frozen_of_row w g _ _ e hcur⟩
 rw [cell_of_row w g _ _ e (0, 0) hcur, Array.getElem?_eq_getElem (by omega)]
 rfl
theorem own_get {w : World} {B e s n c g : Nat} {xs : List Value} (h : w.ownsRow B e s (.slice (some ⟨g, 0, none⟩) n c) n xs) {j : Nat} {u : Value} (hj : xs[j]? = some u) : w.cell? ⟨g, j, none⟩ = some u := by
 obtain ⟨a, c2, e2, h1, -⟩ := own_cs h
 simp only [Value.slice.injEq] at e2
 obtain ⟨rfl, -, rfl⟩ := e2
 obtain ⟨b, off, e3, -, hc⟩ := h1 j u hj
 cases e3
 rw [Nat.zero_add] at hc
 exact hc
/-- 'copy' of cells into a row of entries. -/
theorem run_copy_en {w : World} (ty : TypeId) {g o dL dC : Nat} {A : Addr} {sL sC m : Nat} {ys : List Value} (hm : Nat.min sL dL = m) (hl : ys.length = m * 2) (hsrc : ∀ j u, ys[j]? = some u → w.cell? (A.add j) = some u) (hdst : ∀ j, j < ys.length → (w.cell? ⟨g, o + j, none⟩).isSome = true ∧ w.frozen? ⟨g, o + j, none⟩ = false) (h1 : ∀ u ∈ ys, u.oneCell' = true) :
  (Builtin.copy_ #[52, 52] ty #[.slice (some ⟨g, o, none⟩) dL dC, .slice (some A) sL sC]).run Try.prog w = .ok (goInt m) (w.setCells g o ys) := by
 obtain ⟨i0, hi0, hz0, hz1, hz2⟩ := info_parts infoEN
 have hfc := run_firstCells_some (P := Try.prog) w i0.size m A sL sC ys (by rw [hz1]; exact hl) hsrc
 have hst := run_storeCells_cells (P := Try.prog) g o ys 0 w (fun j hj => (hdst j hj).1) (fun j hj => (hdst j hj).2) h1
 rw [Nat.add_zero] at hst
 simp [Builtin.copy_, run_underlying Try.underlying52, Builtin.lenOf, sizeOf, typeInfo, hi0, hm, hfc, hst]
theorem copy_step {P : Program} {w : World} {ops : Array Oper} {rest : List Oper} {o : Oper} {a : Act} {Q : Exit → Act → World → Prop} (hgd : o.guard = none) (d : Option Tmp) (hd : o.dst = d) (ty : TypeId) (hty : o.type = ty) (s x : Operand) (t : TypeId)
  (ho : o.op = .call { callee := .builtin .copy, args := #[s, x], argTypes := #[t, t] }) (v u v' : Value) (w' : World) (hs : a.eval s = v) (hx : a.eval x = u)
  (hr : (Builtin.copy_ #[t, t] ty #[v, u]).run P w = .ok v' w') (k : wpList P ops Q rest (a.put d v') w') : wpList P ops Q (o :: rest) a w := by
 subst hd
 subst hty
 refine wpList_plain hgd fun K hK => ?_
 unfold Oper.wp execOp
 simp only [ho, resolve, invoke, builtin, Sem.run_bind, Sem.run_pure, Result.andThen_ok, List.map_toArray, List.map_cons, List.map_nil, hs, hx, hr]
 exact hK _ _ k
theorem append_step2 {P : Program} {w : World} {ops : Array Oper} {rest : List Oper} {o : Oper} {a : Act} {Q : Exit → Act → World → Prop} (hgd : o.guard = none) (d : Option Tmp) (hd : o.dst = d) (ty : TypeId) (hty : o.type = ty) (s x : Operand) (t t2 : TypeId)
  (ho : o.op = .call { callee := .builtin .append, args := #[s, x], argTypes := #[t, t2] }) (v u v' : Value) (w' : World) (hs : a.eval s = v) (hx : a.eval x = u)
  (hr : (Builtin.append_ #[t, t2] ty #[v, u]).run P w = .ok v' w') (k : wpList P ops Q rest (a.put d v') w') : wpList P ops Q (o :: rest) a w := by
 subst hd
 subst hty
 refine wpList_plain hgd fun K hK => ?_
 unfold Oper.wp execOp
 simp only [ho, resolve, invoke, builtin, Sem.run_bind, Sem.run_pure, Result.andThen_ok, List.map_toArray, List.map_cons, List.map_nil, hs, hx, hr]
 exact hK _ _ k
theorem clear_step {P : Program} {w : World} {ops : Array Oper} {rest : List Oper} {o : Oper} {a : Act} {Q : Exit → Act → World → Prop} (hgd : o.guard = none) (ty : TypeId) (hty : o.type = ty) (x : Operand) (t : TypeId)
  (ho : o.op = .call { callee := .builtin .clear, args := #[x], argTypes := #[t] }) (hd : o.dst = none) (u v' : Value) (w' : World) (hx : a.eval x = u)
  (hr : (Builtin.clear_ #[t] ty #[u]).run P w = .ok v' w') (k : wpList P ops Q rest a w') : wpList P ops Q (o :: rest) a w := by
 subst hty
 refine wpList_plain hgd fun K hK => ?_
 unfold Oper.wp execOp
 simp only [ho, resolve, invoke, builtin, Sem.run_bind, Sem.run_pure, Result.andThen_ok, List.map_toArray, List.map_cons, List.map_nil, hx, hr]
 show K (a.put o.dst v') w'
 rw [hd]
 exact hK _ _ k
theorem run_clear_en (w : World) (ty : TypeId) (b o n c : Nat) (hn : 0 < n) (hc : ∀ j, j < n * 2 → (w.cell? ⟨b, o + j, none⟩).isSome = true ∧ w.frozen? ⟨b, o + j, none⟩ = false) :
  ∃ zs : List Value, zs.length = n * 2 ∧ (Builtin.clear_ #[52] ty #[.slice (some ⟨b, o, none⟩) n c]).run Try.prog w = .ok (.tuple #[]) (w.setCells b o zs) := by
 have hz : (zeroValue 62).run Try.prog w = .ok (.agg (enA zen)) w := by kernel_rfl
 have hl : (Builtin.zeroCells (Value.agg (enA zen)).cells n).toList.length = n * 2 := by rw [Array.length_toList, size_zeroCells]; rfl
 have h1 : ∀ u ∈ (Builtin.zeroCells (Value.agg (enA zen)).cells n).toList, u.oneCell' = true := fun u hu => by
  obtain ⟨j, hj, rfl⟩ := List.mem_iff_getElem.1 hu
  rw [Array.getElem_toList]
  simp only [Builtin.zeroCells, Array.getElem_map, Array.getElem_range]
  rw [show (Value.agg (enA zen)).cells.size = 2 from rfl]
  rcases (show j % 2 = 0 ∨ j % 2 = 1 by omega) with h | h <;> rw [h] <;> rfl
 have hst := run_storeCells_cells (P := Try.prog) b o (Builtin.zeroCells (Value.agg (enA zen)).cells n).toList 0 w (fun j hj => (hc j (by rw [hl] at hj; exact hj)).1) (fun j hj => (hc j (by rw [hl] at hj; exact hj)).2) h1
 simp only [Nat.add_zero] at hst
 obtain ⟨m, rfl⟩ : ∃ m, n = m + 1 := ⟨n - 1, by omega⟩
 exact ⟨_, hl, by simp [Builtin.clear_, run_underlying Try.underlying52, hz, hst]⟩
def InO (w : World) (v : Value) (E : List Eo) (e : Ending) (w' : World) : Prop := ∃ v', e = .returned v' ∧ Rowen w' 0 v' E ∧ w.grownBy w' v.ownBlock ∧ (v'.ownBlock = v.ownBlock ∨ ∃ k, w.heap.size ≤ k ∧ v'.ownBlock = some k)
theorem fromS_some {s c k g : Nat} (h : c ≠ k) : fromS s (some ⟨g, 0, none⟩) c k = some ⟨g, k * s, none⟩ := by
 unfold fromS
 rw [if_neg h, Option.map_some, Addr.add_mid, Nat.zero_add]
theorem grown_sets {w : World} {b : Nat} (vs : List Value) (o : Nat) : w.grownBy (w.setCells b o vs) (some b) := by
 obtain ⟨⟨h1, h2, h3, h4, h5⟩, h6⟩ := but_sets (b := b) vs o w
 exact ⟨h1, h2, h3, h4, fun k hk hn => h6 k hk fun e => hn (by rw [e])⟩
theorem grown_below {w w' : World} {r : Option Nat} (h : Below w.heap.size w w') : w.grownBy w' r := by
 obtain ⟨h1, h2, h3, h4, h5⟩ := h
 exact ⟨h1, h2, h3, h4, fun k hk hn => h5 k hk⟩
theorem grown_tr {a b c : World} {r : Option Nat} (h : a.grownBy b r) (k : b.grownBy c r) : a.grownBy c r := ⟨k.1.trans h.1, k.2.trans h.2, k.3.trans h.3, Nat.le_trans h.4 k.4, fun i hi hn => (k.5 i (Nat.lt_of_lt_of_le hi h.4) hn).trans (h.5 i hi hn)⟩
theorem grown_drew {w w' : World} {r : Option Nat} (h : w.grownBy w' r) : w.grownBy w'.drew r := ⟨h.1, h.2, h.3, h.4, h.5⟩
/-- No room: a new row with the first elements and as many zeros as are wanted. -/
theorem zeros_en {w : World} {g n c i k : Nat} {E : List Eo} (h : w.ownsRow 0 62 2 (.slice (some ⟨g, 0, none⟩) n c) n (encs E)) (hn : n = E.length) (hi : i ≤ n) (hk : 0 < k) (hg : c < i + k) (hb : i + k ≤ 20000) (ty : TypeId) :
  ∃ G V ys, (Builtin.append_ #[52, 3] ty #[.slice (some ⟨g, 0, none⟩) i c, .int .i64 ((k : Nat) : Int)]).run Try.prog w = .ok (.slice (some ⟨w.heap.size, 0, none⟩) (i + k) G) V ∧ V.ownsRow w.heap.size 62 2 (.slice (some ⟨w.heap.size, 0, none⟩) (i + k) G) (i + k) (encs (E.take i) ++ ys) ∧ ys.length = k * 2 ∧ i + k ≤ G ∧ Below w.heap.size w V := by
 obtain ⟨i0, hi0, hz0, hz1, hz2⟩ := info_parts infoEN
 have hl : (encs (E.take i)).length = i * 2 := by rw [encs_len, List.length_take]; omega
 have hold : (Builtin.firstCells i0.size i (.slice (some ⟨g, 0, none⟩) i c)).run Try.prog w.drew = .ok (encs (E.take i)).toArray w.drew := by
  rw [hz1]
  exact run_firstCells_some w.drew 2 i ⟨g, 0, none⟩ i c (encs (E.take i)) hl fun j v hj => by
   rw [Addr.add_lit, Nat.zero_add]
   have h2 := own_to (k := i) h hi
   rw [encs_take] at h2
   exact own_get h2 hj
 have hr := Lib.run_append_grow_zeros w 52 3 ty 62 i0 _ .i64 .i64 Try.underlying52 Try.underlying3 hi0 hz0 (some ⟨g, 0, none⟩) i c (encs (E.take i)) hold k hk (by omega) hg (by omega) (by rw [hz2]; omega) (by rw [hz2]; exact growslice_fits hg (by omega))
 have hG1 := grownCap_ge w (i + k) c 62
 have hG2 := grownCap_le_maxLen w (i + k) c 62 (by unfold maxLen; omega)
 generalize grownCap w (i + k) c 62 = G at *
 have hzs : (Builtin.zeroCells (Value.agg (enA zen)).cells k).size = k * 2 := by rw [size_zeroCells]; rfl
 have hzs2 : (Builtin.zeroCells (Value.agg (enA zen)).cells (G - (i + k))).size = (G - (i + k)) * 2 := by rw [size_zeroCells]; rfl
 have hown := own_fresh w.drew 62 2 (i + k) G ((encs (E.take i)).toArray ++ Builtin.zeroCells (Value.agg (enA zen)).cells k ++ Builtin.zeroCells (Value.agg (enA zen)).cells (G - (i + k))) (by rw [Array.size_append, Array.size_append, List.size_toArray, hl, hzs, hzs2]; omega) hG1 hG2
 refine ⟨G, _, (Builtin.zeroCells (Value.agg (enA zen)).cells k).toList, hr, ?_, by rw [Array.length_toList, hzs], hG1, (Below.refl w.heap.size w).drew.alloc (Nat.le_refl _) _⟩
 ·have e : (((encs (E.take i)).toArray ++ Builtin.zeroCells (Value.agg (enA zen)).cells k ++ Builtin.zeroCells (Value.agg (enA zen)).cells (G - (i + k))).toList.take ((i + k) * 2)) = encs (E.take i) ++ (Builtin.zeroCells (Value.agg (enA zen)).cells k).toList := by
   rw [Array.toList_append, Array.toList_append, List.toList_toArray]
   refine List.take_left' ?_
   rw [List.length_append, hl, Array.length_toList, hzs]; omega
  rw [← e]
  exact hown
theorem ov_en {w : World} {ρ : Operand → Value} {o : Oper} {x y : Operand} (ho : o.op = .call { callee := .value (.func 48), args := #[x, y], argTypes := #[52, 52] }) {g b oo lb cb n c : Nat} {xs : List Value} {v : Eo} (hx : ρ x = .slice (some ⟨g, 0, none⟩) 1 1) (hy : ρ y = .slice (some ⟨b, oo, none⟩) lb cb) (hX : Bx w g (enA v) 62) (hb : w.ownsRow 0 62 2 (.slice (some ⟨b, 0, none⟩) n c) n xs) (hn : 0 < n) (hne : g ≠ b) (hf : ρ (.func 48) = .func (.func 48) #[] #[] := by rfl) : (execOp ρ o).run Try.prog w = .ok (.value (.bool false)) w := by
 obtain ⟨cur, hcur, hz, -, -⟩ := own_row hb
 have hov : (callFunc 48 #[.slice (some ⟨g, 0, none⟩) 1 1, .slice (some ⟨b, oo, none⟩) lb cb]).run Try.prog w = .ok (.value (.bool false)) w := by
  rw [run_callFunc_extern Try.func48 (by kernel_rfl) (by kernel_rfl) (by kernel_rfl) (e := Extern.SlicesOverlaps.overlaps #[52, 52] #[4]) (by kernel_rfl),
   Lib.run_overlaps_apart w 52 4 62 Try.underlying52 2 (fun w => by kernel_rfl) ⟨g, 0, none⟩ ⟨b, oo, none⟩ 1 1 lb cb hne 62 62 2 cur.size (by unfold World.shape?; rw [hX]; rfl) (by unfold World.shape?; rw [hcur]) (by omega) (frozen_of_row w g _ _ 62 hX) (frozen_of_row w g _ _ 62 hX)]
  rfl
 unfold execOp
 simp only [ho, resolve, invoke, Sem.run_bind, Sem.run_pure, Result.andThen_ok, List.map_toArray, List.map_cons, List.map_nil, hx, hy, hf]
 simp only [Deferred.ofValue, Sem.run_pure, Result.andThen_ok, Array.append_empty, Array.empty_append, hov]
section
variable {ρ : Operand → Value} {o : Oper} {x y z : Operand} {P : Program} {w : World} {ty : TypeId} {vx vy vz v : Value}
theorem ex_sl_to (ho : o.op = .slice ty x none (some y) none) (hs : (Instr.sliceAt ty vx none (some vy) none).run P w = .ok v w) (hx : ρ x = vx) (hy : ρ y = vy) : (execOp ρ o).run P w = .ok (.value v) w := by
 unfold execOp
 simp only [ho, hx, hy, Option.map_some, Option.map_none, Sem.run_bind]
 exact (congrArg (fun r => Result.andThen r _) hs).trans rfl
theorem ex_sl_from (ho : o.op = .slice ty x (some y) none none) (hs : (Instr.sliceAt ty vx (some vy) none none).run P w = .ok v w) (hx : ρ x = vx) (hy : ρ y = vy) : (execOp ρ o).run P w = .ok (.value v) w := by
 unfold execOp
 simp only [ho, hx, hy, Option.map_some, Option.map_none, Sem.run_bind]
 exact (congrArg (fun r => Result.andThen r _) hs).trans rfl
theorem ex_sl_mid (ho : o.op = .slice ty x (some y) (some z) none) (hs : (Instr.sliceAt ty vx (some vy) (some vz) none).run P w = .ok v w) (hx : ρ x = vx) (hy : ρ y = vy) (hz : ρ z = vz) : (execOp ρ o).run P w = .ok (.value v) w := by
 unfold execOp
 simp only [ho, hx, hy, hz, Option.map_some, Option.map_none, Sem.run_bind]
 exact (congrArg (fun r => Result.andThen r _) hs).trans rfl
theorem ex_sl_max {u : Operand} {vu : Value} (ho : o.op = .slice ty x (some y) (some z) (some u)) (hs : (Instr.sliceAt ty vx (some vy) (some vz) (some vu)).run P w = .ok v w) (hx : ρ x = vx) (hy : ρ y = vy) (hz : ρ z = vz) (hu : ρ u = vu) : (execOp ρ o).run P w = .ok (.value v) w := by
 unfold execOp
 simp only [ho, hx, hy, hz, hu, Option.map_some, Option.map_none, Sem.run_bind]
 exact (congrArg (fun r => Result.andThen r _) hs).trans rfl
end
theorem cut_en_mid (a : Option Addr) (n c i j : Nat) (w : World) (h : i ≤ j) (h2 : j ≤ c) : (Instr.slice 52 (.slice a n c) (some (.int .i64 (i : Int))) (some (.int .i64 (j : Int))) none).run Try.prog w = .ok (.slice (fromS 2 a c i) (j - i) (c - i)) w := by
 have hs : (sizeOf (Try.prog.elem 52)).run Try.prog w = .ok 2 w := by kernel_rfl
 have q := run_slice_lh (P := Try.prog) w 52 a n c (by kernel_rfl) .i64 .i64 (i : Int) (j : Int) (by omega) (by omega) (by omega)
 rw [q, hs]
 by_cases hk : c = i <;> cases a <;> simp [sliced, Result.andThen, fromS, hk]
theorem cut_en_max (a : Option Addr) (n c i j k : Nat) (w : World) (h : i ≤ j) (h2 : j ≤ k) (h3 : k ≤ c) : (Instr.slice 52 (.slice a n c) (some (.int .i64 (i : Int))) (some (.int .i64 (j : Int))) (some (.int .i64 (k : Int)))).run Try.prog w = .ok (sliced a i j k 2) w := by
 have hs : (sizeOf (Try.prog.elem 52)).run Try.prog w = .ok 2 w := by kernel_rfl
 have q := run_slice_lhm (P := Try.prog) w 52 a n c (by kernel_rfl) .i64 .i64 .i64 (i : Int) (j : Int) (k : Int) (by omega) (by omega) (by omega) (by omega)
 rw [q, hs]
 rfl
theorem own_drew {w : World} {B e s n : Nat} {v : Value} {xs : List Value} (h : w.ownsRow B e s v n xs) : w.drew.ownsRow B e s v n xs := h
set_option maxRecDepth 100000 in
set_option maxHeartbeats 8000000 in
theorem ins_end {w : World} {v : Value} {E : List Eo} (h : Rowen w 0 v E) (hl : E.length ≤ 10000) (x : Eo) {g : Nat} (hx : Bx w g (enA x) 62) : Calls Try.prog 34 #[v, .int .i64 E.length, .slice (some ⟨g, 0, none⟩) 1 1] w (InO w v (E.take E.length ++ x :: E.drop E.length)) := by
 obtain ⟨v6, W6, hap, hrow, hb6, hg6, hat6⟩ := app_en h (Nat.zero_le _) (some ⟨g, 0, none⟩) 1 1 [x] (Cs.block (cs := enl x) hx) rfl (by omega) (by omega)
 have HE : Hid (InO w v (E.take E.length ++ x :: E.drop E.length) (.returned v6) W6) := Lib.hid ⟨v6, rfl, by rw [List.take_length, List.drop_length]; exact hrow, hg6, hat6.imp id fun h => ⟨_, Nat.le_refl _, h⟩⟩
 obtain ⟨PO, hPO⟩ : ∃ PO, InO w v (E.take E.length ++ x :: E.drop E.length) = PO := ⟨_, rfl⟩
 rw [hPO] at HE ⊢
 obtain ⟨a, c, rfl, -, hnc⟩ := h.cs
 obtain ⟨n, hn⟩ : ∃ n, E.length = n := ⟨_, rfl⟩
 rw [hn] at hap hnc ⊢
 clear hPO hrow hb6 hg6 hat6 h hl hx hn
 go_enter Try.func34, Try.ntmps34
 go_upto_region 1 with fail
 refine wl <| gz2 (.slice a n c) (.int .i64 n) <| gzv (.slice (fromS 2 a c n) (n - n) (c - n)) (ex_sl_from rfl (cut_en_from a n c n _ (Nat.le_refl n)) (by kernel_rfl) (by kernel_rfl)) <| wn ?_
 simp only [pu]
 go_upto_region 2 with fail
 refine wl <| gz3 (.slice (some ⟨g, 0, none⟩) 1 1) (.int .i64 1) (.int .i64 1) <| wn ?_
 simp only [pu]
 go_upto_region 3 with fail
 refine wl <| gz1 (.int .i64 1) <| gzb (eql_nn rfl 1 0 dF) <| wn ?_
 simp only [pu]
 go_upto_region 5 with fail
 refine wl <| gz3 (.slice a n c) (.int .i64 n) (.int .i64 n) <| wn ?_
 simp only [pu]
 go_upto_region 6 with fail
 refine wl <| gz2 (.int .i64 n) (.int .i64 n) <| gzb (eql_nn rfl n n (decide_eq_true rfl)) <| wn ?_
 simp only [pu]
 go_upto_region 7 with fail
 refine wl <| gz2 (.slice a n c) (.slice (some ⟨g, 0, none⟩) 1 1) ?_
 simp only [pu]
 refine append_step rfl (some 25) rfl 52 rfl (.tmp 23) (.tmp 24) 52 rfl (.slice a n c) (.slice (some ⟨g, 0, none⟩) 1 1) (v6) W6 (by kernel_rfl) (by kernel_rfl) hap ?_
 simp only [pu]
 refine gz1 (v6) <| wn ?_
 simp only [pu]
 go_wp2_with fail
 exact HE.out
set_option maxRecDepth 100000 in
set_option maxHeartbeats 8000000 in
theorem ins_grow {w : World} {b n c : Nat} {E : List Eo} (h : w.ownsRow 0 62 2 (.slice (some ⟨b, 0, none⟩) n c) n (encs E)) (hn : E.length = n) {i : Nat} (hi : i < n) (hl : n ≤ 10000) (x : Eo) {g : Nat} (hx : Bx w g (enA x) 62) (hgb : g ≠ b) (hcc : c < n + 1) : Calls Try.prog 34 #[.slice (some ⟨b, 0, none⟩) n c, .int .i64 i, .slice (some ⟨g, 0, none⟩) 1 1] w (InO w (.slice (some ⟨b, 0, none⟩) n c) (E.take i ++ x :: E.drop i)) := by
 have hnc : n ≤ c := (own_nc h).2
 have hel : (encs (E.drop i)).length = (n - i) * 2 := by rw [encs_len, List.length_drop, hn]
 have hel1 : (encs (E.take i)).length = i * 2 := by rw [encs_len, List.length_take]; omega
 have hNL : (E.take i ++ x :: E.drop i).length = n + 1 := by rw [List.length_append, List.length_cons, List.length_take, List.length_drop]; omega
 have hNE : encs (E.take i ++ x :: E.drop i) = encs (E.take i) ++ enl x ++ encs (E.drop i) := by
  rw [encs_app, List.append_assoc]; rfl
 obtain ⟨G, V1, ys, hz1, hO1, hyl, hG, hb1⟩ := zeros_en (i := i) (k := n + 1 - i) h hn.symm (by omega) (by omega) (by omega) (by omega) 52
 rw [show i + (n + 1 - i) = n + 1 by omega] at hz1 hO1 hG
 have hgl : g < w.heap.size := hx.lt
 obtain ⟨q, hq⟩ : ∃ q, w.heap.size = q := ⟨_, rfl⟩
 rw [hq] at hz1 hO1 hgl
 have hx1 : Bx V1 g (enA x) 62 := hx.below hx.lt hb1
 have hc1 := run_copy_en (w := V1) 3 (g := q) (o := i * 2) (dL := n + 1 - i) (dC := G - i) (A := ⟨g, 0, none⟩) (sL := 1) (sC := 1) (m := 1) (ys := enl x) (by simp only [Nat.min_def]; split <;> omega) rfl (fun j u hj => by rw [Addr.add_lit, Nat.zero_add]; exact (bx_range (cs := enl x) hx1 j u hj |> fun h => by rwa [Nat.zero_add] at h)) (fun j hj => own_cell hO1 (by have : j < 2 := hj; omega)) (en_one x)
 have hO2 := own_sets (enl x) (i * 2) V1 _ hO1 (by rw [List.length_append, hel1, hyl]; show i * 2 + 2 ≤ _; omega)
 obtain ⟨V2, hV2⟩ : ∃ V2, V1.setCells q (i * 2) (enl x) = V2 := ⟨_, rfl⟩
 rw [hV2] at hc1 hO2
 have hb2 : Below q V1 V2 := by rw [← hV2]; exact below_sets (Nat.le_refl q) _ _ _
 have hb12 : Below w.heap.size w V2 := hb1.trans (by rw [hq]; exact hb2)
 have hsrc := own_below h hb12
 have hc2 := run_copy_en (w := V2.drew) 3 (g := q) (o := (i + 1) * 2) (dL := n + 1 - (i + 1)) (dC := G - (i + 1)) (A := ⟨b, i * 2, none⟩) (sL := n - i) (sC := c - i) (m := n - i) (ys := encs (E.drop i)) (by simp only [Nat.min_def]; split <;> omega) hel (fun j u hj => by
  rw [← encs_drop, List.getElem?_drop] at hj
  rw [Addr.add_lit]
  exact own_get hsrc hj) (fun j hj => own_cell (own_drew hO2) (by rw [hel] at hj; omega)) (encs_one _)
 have hO3 := own_sets (encs (E.drop i)) ((i + 1) * 2) V2.drew _ (own_drew hO2) (by
  rw [hel, List.length_append, List.length_append, List.length_take, List.length_drop, List.length_append, hel1, hyl]
  show (i + 1) * 2 + (n - i) * 2 ≤ min (i * 2) _ + 2 + (_ - (i * 2 + 2)); omega)
 have eL : (((encs (E.take i) ++ ys).take (i * 2) ++ enl x ++ (encs (E.take i) ++ ys).drop (i * 2 + (enl x).length)).take ((i + 1) * 2) ++ encs (E.drop i) ++ ((encs (E.take i) ++ ys).take (i * 2) ++ enl x ++ (encs (E.take i) ++ ys).drop (i * 2 + (enl x).length)).drop ((i + 1) * 2 + (encs (E.drop i)).length)) = encs (E.take i ++ x :: E.drop i) := by
  rw [List.take_left' hel1, hNE]
  have h1 : (encs (E.take i) ++ enl x).length = (i + 1) * 2 := by rw [List.length_append, hel1]; show i * 2 + 2 = _; omega
  have h2 : ((encs (E.take i) ++ enl x) ++ (encs (E.take i) ++ ys).drop (i * 2 + (enl x).length)).drop ((i + 1) * 2 + (encs (E.drop i)).length) = [] := List.drop_of_length_le (by
   rw [List.length_append, h1, List.length_drop, List.length_append, hel1, hyl, hel]
   show (i + 1) * 2 + (i * 2 + (n + 1 - i) * 2 - (i * 2 + 2)) ≤ _
   omega)
  rw [h2, List.take_left' h1, List.append_nil]
 rw [eL] at hO3
 obtain ⟨V3, hV3⟩ : ∃ V3, V2.drew.setCells q ((i + 1) * 2) (encs (E.drop i)) = V3 := ⟨_, rfl⟩
 rw [hV3] at hc2 hO3
 have hb3 : Below q V2 V3 := by rw [← hV3]; exact (Below.refl q V2).drew.trans (below_sets (Nat.le_refl q) _ _ _)
 have hb13 : Below w.heap.size w V3 := hb12.trans (by rw [hq]; exact hb3)
 have HE : Hid (InO w (.slice (some ⟨b, 0, none⟩) n c) (E.take i ++ x :: E.drop i) (.returned (.slice (some ⟨q, 0, none⟩) (n + 1) G)) V3) := Lib.hid ⟨_, rfl, by unfold Rowen; rw [hNL]; exact own_base hO3 (Nat.zero_le _), grown_below hb13, .inr ⟨q, by omega, rfl⟩⟩
 obtain ⟨PO, hPO⟩ : ∃ PO, InO w (.slice (some ⟨b, 0, none⟩) n c) (E.take i ++ x :: E.drop i) = PO := ⟨_, rfl⟩
 rw [hPO] at HE ⊢
 have hz2 : (Builtin.append_ #[52, 3] 52 #[.slice (some ⟨b, 0, none⟩) i c, .int .i64 ((n : Int) + 1 - i)]).run Try.prog w = .ok (.slice (some ⟨q, 0, none⟩) (n + 1) G) V1 := by
  rw [show (n : Int) + 1 - i = ((n + 1 - i : Nat) : Int) by omega]; exact hz1
 clear hPO hb13 hb3 hV3 hO3 eL hsrc hb12 hb2 hV2 hO2 hx1 hb1 hO1 hyl hNE hNL hel hel1 h hn hx hz1 hgl hq
 go_enter Try.func34, Try.ntmps34
 go_upto_region 1 with fail
 refine wl <| gz2 (.slice (some ⟨b, 0, none⟩) n c) (.int .i64 i) <| gzv (.slice (fromS 2 (some ⟨b, 0, none⟩) c i) (n - i) (c - i)) (ex_sl_from rfl (cut_en_from (some ⟨b, 0, none⟩) n c i _ (by omega)) (by kernel_rfl) (by kernel_rfl)) <| wn ?_
 simp only [pu]
 go_upto_region 2 with fail
 refine wl <| gz3 (.slice (some ⟨g, 0, none⟩) 1 1) (.int .i64 1) (.int .i64 1) <| wn ?_
 simp only [pu]
 go_upto_region 3 with fail
 refine wl <| gz1 (.int .i64 1) <| gzb (eql_nn rfl 1 0 dF) <| wn ?_
 simp only [pu]
 go_upto_region 5 with fail
 refine wl <| gz3 (.slice (some ⟨b, 0, none⟩) n c) (.int .i64 n) (.int .i64 n) <| wn ?_
 simp only [pu]
 go_upto_region 6 with fail
 refine wl <| gz2 (.int .i64 i) (.int .i64 n) <| gzb (eql_nn rfl i n dF) <| wn ?_
 simp only [pu]
 go_upto_region 8 with fail
 refine wl <| gz2 (.int .i64 n) (.int .i64 1) <| gzw (.int .i64 (n + 1 : Nat)) (add_nat rfl n 1 (by omega)) <| gz2 (.slice (some ⟨b, 0, none⟩) n c) (.int .i64 c) <|
  gzb (gtr_n rfl (n + 1 : Nat) c dT) <| wn ?_
 simp only [pu]
 go_upto_region 9 with fail
 refine wl <| gz2 (.slice (some ⟨b, 0, none⟩) n c) (.int .i64 i) <| gzv (.slice (some ⟨b, 0, none⟩) i c) (ex_sl_to rfl (cut_en_to (some ⟨b, 0, none⟩) n c i _ (by omega)) (by kernel_rfl) (by kernel_rfl)) <| gz2 (.int .i64 n) (.int .i64 1) <|
  gzw (.int .i64 ((n : Int) + 1)) (add_i rfl n 1 (by omega)) <| gz1 (.int .i64 i) <| gzw (.int .i64 ((n : Int) + 1 - i)) (sub_i rfl ((n : Int) + 1) i (by omega)) ?_
 simp only [pu]
 refine append_step2 rfl (some 40) rfl 52 rfl (.tmp 34) (.tmp 39) 52 3 rfl (.slice (some ⟨b, 0, none⟩) i c) (.int .i64 ((n : Int) + 1 - i)) (.slice (some ⟨q, 0, none⟩) (n + 1) G) V1 (by kernel_rfl) (by kernel_rfl) hz2 ?_
 simp only [pu]
 refine gz1 (.slice (some ⟨q, 0, none⟩) (n + 1) G) <| wn ?_
 simp only [pu]
 clear hz2
 go_upto_region 10 with fail
 refine wl <| gz2 (.slice (some ⟨q, 0, none⟩) (n + 1) G) (.int .i64 i) <|
  gzv (.slice (some ⟨q, i * 2, none⟩) (n + 1 - i) (G - i)) (by rw [← fromS_some (s := 2) (c := G) (k := i) (g := q) (by omega)]; exact ex_sl_from rfl (cut_en_from (some ⟨q, 0, none⟩) (n + 1) G i _ (by omega)) (by kernel_rfl) (by kernel_rfl)) <| gz1 (.slice (some ⟨g, 0, none⟩) 1 1) ?_
 simp only [pu]
 refine copy_step rfl (some 45) rfl 3 rfl (.tmp 43) (.tmp 44) 52 rfl (.slice (some ⟨q, i * 2, none⟩) (n + 1 - i) (G - i)) (.slice (some ⟨g, 0, none⟩) 1 1) (goInt 1) V2 (by kernel_rfl) (by kernel_rfl) hc1 ?_
 simp only [pu]
 apply wpList_nil
 clear hc1
 go_upto_region 11 with fail
 refine wp_region_class_tail (C := fun U => U = V2.drew) 8 (by kernel_rfl) (by kernel_rfl) (rfl) ?_
 simp only [List.take_succ_cons, List.take_zero, List.drop_succ_cons, List.drop_zero]
 refine gy (.slice (some ⟨q, 0, none⟩) (n + 1) G) <| gy (.int .i64 i) <| gy (.int .i64 1) <| gyv (.int .i64 (i + 1 : Nat)) (fun U hU => add_nat rfl i 1 (by omega) (by kernel_rfl) (by kernel_rfl) _) <|
   gyv (.slice (some ⟨q, (i + 1) * 2, none⟩) (n + 1 - (i + 1)) (G - (i + 1))) (fun U hU => by rw [← fromS_some (s := 2) (c := G) (k := i + 1) (g := q) (by omega)]; exact ex_sl_from rfl (cut_en_from (some ⟨q, 0, none⟩) (n + 1) G (i + 1) _ (by omega)) (by kernel_rfl) (by kernel_rfl)) <|
   gy (.slice (some ⟨b, 0, none⟩) n c) <| gy (.int .i64 i) <|
   gyv (.slice (some ⟨b, i * 2, none⟩) (n - i) (c - i)) (fun U hU => by rw [← fromS_some (s := 2) (c := c) (k := i) (g := b) (by omega)]; exact ex_sl_from rfl (cut_en_from (some ⟨b, 0, none⟩) n c i _ (by omega)) (by kernel_rfl) (by kernel_rfl)) ?_
 simp only [pu]
 apply wpQuiet_nil
 intro U hU
 subst hU
 refine copy_step rfl (some 54) rfl 3 rfl (.tmp 50) (.tmp 53) 52 rfl (.slice (some ⟨q, (i + 1) * 2, none⟩) (n + 1 - (i + 1)) (G - (i + 1))) (.slice (some ⟨b, i * 2, none⟩) (n - i) (c - i)) (goInt (n - i : Nat)) V3 (by kernel_rfl) (by kernel_rfl) hc2 ?_
 simp only [pu]
 apply wpList_nil
 clear hc2
 go_upto_region 12 with fail
 refine wl <| gz2 (.slice (some ⟨q, 0, none⟩) (n + 1) G) (.slice (some ⟨q, 0, none⟩) (n + 1) G) <| wn ?_
 simp only [pu]
 go_wp2_with fail
 exact HE.out
set_option maxRecDepth 100000 in
set_option maxHeartbeats 8000000 in
theorem ins_room {w : World} {b n c : Nat} {E : List Eo} (h : w.ownsRow 0 62 2 (.slice (some ⟨b, 0, none⟩) n c) n (encs E)) (hn : E.length = n) {i : Nat} (hi : i < n) (hl : n ≤ 10000) (x : Eo) {g : Nat} (hx : Bx w g (enA x) 62) (hgb : g ≠ b) (hcc : n + 1 ≤ c) : Calls Try.prog 34 #[.slice (some ⟨b, 0, none⟩) n c, .int .i64 i, .slice (some ⟨g, 0, none⟩) 1 1] w (InO w (.slice (some ⟨b, 0, none⟩) n c) (E.take i ++ x :: E.drop i)) := by
 have hnc : n ≤ c := (own_nc h).2
 have hel : (encs (E.drop i)).length = (n - i) * 2 := by rw [encs_len, List.length_drop, hn]
 have hel1 : (encs (E.take i)).length = i * 2 := by rw [encs_len, List.length_take]; omega
 have hNL : (E.take i ++ x :: E.drop i).length = n + 1 := by rw [List.length_append, List.length_cons, List.length_take, List.length_drop]; omega
 have hNE : encs (E.take i ++ x :: E.drop i) = encs (E.take i) ++ enl x ++ encs (E.drop i) := by
  rw [encs_app, List.append_assoc]; rfl
 obtain ⟨ys, hyl, hO1⟩ := own_up h hcc
 have hc63 : c ≤ 9223372036854775807 := by
  rcases h.2 with ⟨h0, -⟩ | ⟨g2, cap, cur, h0, -, -, -, hcm, -⟩
  ·cases h0
  ·simp only [Value.slice.injEq] at h0
   obtain ⟨-, -, rfl⟩ := h0
   unfold maxLen at hcm; omega
 have hsl : (encs E).length = n * 2 := by rw [encs_len, hn]
 have hc1 := run_copy_en (w := w.drew) 3 (g := b) (o := (i + 1) * 2) (dL := n + 1 - (i + 1)) (dC := c - (i + 1)) (A := ⟨b, i * 2, none⟩) (sL := n + 1 - i) (sC := c - i) (m := n - i) (ys := encs (E.drop i)) (by simp only [Nat.min_def]; split <;> omega) hel (fun j u hj => by
  rw [← encs_drop, List.getElem?_drop] at hj
  rw [Addr.add_lit]
  exact own_get (own_drew h) hj) (fun j hj => own_cell (own_drew hO1) (by rw [hel] at hj; omega)) (encs_one _)
 have hO2 := own_sets (encs (E.drop i)) ((i + 1) * 2) w.drew _ (own_drew hO1) (by rw [hel, List.length_append, hsl, hyl]; omega)
 obtain ⟨V2, hV2⟩ : ∃ V2, w.drew.setCells b ((i + 1) * 2) (encs (E.drop i)) = V2 := ⟨_, rfl⟩
 rw [hV2] at hc1 hO2
 have hg2 : w.grownBy V2 (some b) := by rw [← hV2]; exact grown_tr (grown_drew (World.grownBy.refl w _)) (grown_sets _ _)
 have hx2 : Bx V2 g (enA x) 62 := (hg2.5 g hx.lt (by simpa using hgb)).trans hx
 have hc2 := run_copy_en (w := V2) 3 (g := b) (o := i * 2) (dL := n + 1 - i) (dC := c - i) (A := ⟨g, 0, none⟩) (sL := 1) (sC := 1) (m := 1) (ys := enl x) (by simp only [Nat.min_def]; split <;> omega) rfl (fun j u hj => by rw [Addr.add_lit, Nat.zero_add]; exact (bx_range (cs := enl x) hx2 j u hj |> fun h => by rwa [Nat.zero_add] at h)) (fun j hj => own_cell hO2 (by have : j < 2 := hj; omega)) (en_one x)
 have hO3 := own_sets (enl x) (i * 2) V2 _ hO2 (by
  rw [List.length_append, List.length_append, List.length_take, List.length_drop, List.length_append, hsl, hyl, hel]
  show i * 2 + 2 ≤ _; omega)
 have eL : (((encs E ++ ys).take ((i + 1) * 2) ++ encs (E.drop i) ++ (encs E ++ ys).drop ((i + 1) * 2 + (encs (E.drop i)).length)).take (i * 2) ++ enl x ++ ((encs E ++ ys).take ((i + 1) * 2) ++ encs (E.drop i) ++ (encs E ++ ys).drop ((i + 1) * 2 + (encs (E.drop i)).length)).drop (i * 2 + (enl x).length)) = encs (E.take i ++ x :: E.drop i) := by
  have h1 : ((encs E ++ ys).take ((i + 1) * 2)).length = (i + 1) * 2 := by rw [List.length_take, List.length_append, hsl, hyl]; omega
  have h2 : (encs E ++ ys).drop ((i + 1) * 2 + (encs (E.drop i)).length) = [] := List.drop_of_length_le (by rw [List.length_append, hsl, hyl, hel]; omega)
  rw [h2, List.append_nil, hNE, List.take_append_of_le_length (by omega), List.take_take, Nat.min_eq_left (by omega), List.take_append_of_le_length (by omega), encs_take]
  rw [show i * 2 + (enl x).length = (i + 1) * 2 by show i * 2 + 2 = _; omega, List.drop_left' h1]
 rw [eL] at hO3
 obtain ⟨V3, hV3⟩ : ∃ V3, V2.setCells b (i * 2) (enl x) = V3 := ⟨_, rfl⟩
 rw [hV3] at hc2 hO3
 have hg3 : w.grownBy V3 (some b) := by rw [← hV3]; exact grown_tr hg2 (grown_sets _ _)
 have HE : Hid (InO w (.slice (some ⟨b, 0, none⟩) n c) (E.take i ++ x :: E.drop i) (.returned (.slice (some ⟨b, 0, none⟩) (n + 1) c)) V3) := Lib.hid ⟨_, rfl, by unfold Rowen; rw [hNL]; exact hO3, hg3, .inl rfl⟩
 obtain ⟨PO, hPO⟩ : ∃ PO, InO w (.slice (some ⟨b, 0, none⟩) n c) (E.take i ++ x :: E.drop i) = PO := ⟨_, rfl⟩
 rw [hPO] at HE ⊢
 have HOV : Hid (∀ (ρ : Operand → Value) (o : Oper) (y z : Operand) (oo lb cb : Nat), o.op = .call { callee := .value (.func 48), args := #[y, z], argTypes := #[52, 52] } → ρ y = .slice (some ⟨g, 0, none⟩) 1 1 → ρ z = .slice (some ⟨b, oo, none⟩) lb cb → ρ (.func 48) = .func (.func 48) #[] #[] → (execOp ρ o).run Try.prog w = .ok (.value (.bool false)) w) := Lib.hid fun ρ o y z oo lb cb ho hy hz hf => ov_en ho hy hz hx h (by omega) hgb hf
 clear hPO hg3 hV3 hO3 eL hx2 hg2 hV2 hO2 hO1 hyl ys hNE hNL hel hel1 h hn hx hsl
 go_enter Try.func34, Try.ntmps34
 go_upto_region 1 with fail
 refine wl <| gz2 (.slice (some ⟨b, 0, none⟩) n c) (.int .i64 i) <| gzv (.slice (fromS 2 (some ⟨b, 0, none⟩) c i) (n - i) (c - i)) (ex_sl_from rfl (cut_en_from (some ⟨b, 0, none⟩) n c i _ (by omega)) (by kernel_rfl) (by kernel_rfl)) <| wn ?_
 simp only [pu]
 go_upto_region 2 with fail
 refine wl <| gz3 (.slice (some ⟨g, 0, none⟩) 1 1) (.int .i64 1) (.int .i64 1) <| wn ?_
 simp only [pu]
 go_upto_region 3 with fail
 refine wl <| gz1 (.int .i64 1) <| gzb (eql_nn rfl 1 0 dF) <| wn ?_
 simp only [pu]
 go_upto_region 5 with fail
 refine wl <| gz3 (.slice (some ⟨b, 0, none⟩) n c) (.int .i64 n) (.int .i64 n) <| wn ?_
 simp only [pu]
 go_upto_region 6 with fail
 refine wl <| gz2 (.int .i64 i) (.int .i64 n) <| gzb (eql_nn rfl i n dF) <| wn ?_
 simp only [pu]
 go_upto_region 8 with fail
 refine wl <| gz2 (.int .i64 n) (.int .i64 1) <| gzw (.int .i64 (n + 1 : Nat)) (add_nat rfl n 1 (by omega)) <| gz2 (.slice (some ⟨b, 0, none⟩) n c) (.int .i64 c) <|
  gzb (gtr_n rfl (n + 1 : Nat) c dF) <| wn ?_
 simp only [pu]
 go_upto_region 13 with fail
 refine wl <| gz3 (.slice (some ⟨b, 0, none⟩) n c) (.int .i64 n) (.int .i64 1) <| gzw (.int .i64 (n + 1 : Nat)) (add_nat rfl n 1 (by omega)) <|
  gzv (.slice (some ⟨b, 0, none⟩) (n + 1) c) (ex_sl_to rfl (cut_en_to (some ⟨b, 0, none⟩) n c (n + 1) _ (by omega)) (by kernel_rfl) (by kernel_rfl)) <| gz1 (.slice (some ⟨b, 0, none⟩) (n + 1) c) <| wn ?_
 simp only [pu]
 go_upto_region 14 with fail
 refine wl <| gz4 (.slice (some ⟨g, 0, none⟩) 1 1) (.slice (some ⟨b, 0, none⟩) (n + 1) c) (.int .i64 i) (.int .i64 1) <| gzw (.int .i64 (i + 1 : Nat)) (add_nat rfl i 1 (by omega)) <|
  gzv (.slice (some ⟨b, (i + 1) * 2, none⟩) (n + 1 - (i + 1)) (c - (i + 1))) (by rw [← fromS_some (s := 2) (c := c) (k := i + 1) (g := b) (by omega)]; exact ex_sl_from rfl (cut_en_from (some ⟨b, 0, none⟩) (n + 1) c (i + 1) _ (by omega)) (by kernel_rfl) (by kernel_rfl)) <|
  gzv (.bool false) (HOV.out _ _ _ _ ((i + 1) * 2) (n + 1 - (i + 1)) (c - (i + 1)) rfl (by kernel_rfl) (by kernel_rfl) (by kernel_rfl)) <| gz1 (.bool true) <| wn ?_
 simp only [pu]
 clear HOV
 go_upto_region 15 with fail
 refine wp_region_class_tail (C := fun U => U = w.drew) 8 (by kernel_rfl) (by kernel_rfl) (rfl) ?_
 simp only [List.take_succ_cons, List.take_zero, List.drop_succ_cons, List.drop_zero]
 refine gy (.slice (some ⟨b, 0, none⟩) (n + 1) c) <| gy (.int .i64 i) <| gy (.int .i64 1) <| gyv (.int .i64 (i + 1 : Nat)) (fun U hU => add_nat rfl i 1 (by omega) (by kernel_rfl) (by kernel_rfl) _) <|
   gyv (.slice (some ⟨b, (i + 1) * 2, none⟩) (n + 1 - (i + 1)) (c - (i + 1))) (fun U hU => by rw [← fromS_some (s := 2) (c := c) (k := i + 1) (g := b) (by omega)]; exact ex_sl_from rfl (cut_en_from (some ⟨b, 0, none⟩) (n + 1) c (i + 1) _ (by omega)) (by kernel_rfl) (by kernel_rfl)) <|
   gy (.slice (some ⟨b, 0, none⟩) (n + 1) c) <| gy (.int .i64 i) <|
   gyv (.slice (some ⟨b, i * 2, none⟩) (n + 1 - i) (c - i)) (fun U hU => by rw [← fromS_some (s := 2) (c := c) (k := i) (g := b) (by omega)]; exact ex_sl_from rfl (cut_en_from (some ⟨b, 0, none⟩) (n + 1) c (i) _ (by omega)) (by kernel_rfl) (by kernel_rfl)) ?_
 simp only [pu]
 apply wpQuiet_nil
 intro U hU
 subst hU
 refine copy_step rfl (some 77) rfl 3 rfl (.tmp 73) (.tmp 76) 52 rfl (.slice (some ⟨b, (i + 1) * 2, none⟩) (n + 1 - (i + 1)) (c - (i + 1))) (.slice (some ⟨b, i * 2, none⟩) (n + 1 - i) (c - i)) (goInt (n - i : Nat)) V2 (by kernel_rfl) (by kernel_rfl) hc1 ?_
 simp only [pu]
 apply wpList_nil
 clear hc1
 go_upto_region 16 with fail
 refine wl <| gz2 (.slice (some ⟨b, 0, none⟩) (n + 1) c) (.int .i64 i) <|
  gzv (.slice (some ⟨b, i * 2, none⟩) (n + 1 - i) (c - i)) (by rw [← fromS_some (s := 2) (c := c) (k := i) (g := b) (by omega)]; exact ex_sl_from rfl (cut_en_from (some ⟨b, 0, none⟩) (n + 1) c (i) _ (by omega)) (by kernel_rfl) (by kernel_rfl)) <| gz1 (.slice (some ⟨g, 0, none⟩) 1 1) ?_
 simp only [pu]
 refine copy_step rfl (some 82) rfl 3 rfl (.tmp 80) (.tmp 81) 52 rfl (.slice (some ⟨b, i * 2, none⟩) (n + 1 - i) (c - i)) (.slice (some ⟨g, 0, none⟩) 1 1) (goInt 1) V3 (by kernel_rfl) (by kernel_rfl) hc2 ?_
 simp only [pu]
 apply wpList_nil
 clear hc2
 go_upto_region 17 with fail
 refine wl <| gz2 (.slice (some ⟨b, 0, none⟩) (n + 1) c) (.slice (some ⟨b, 0, none⟩) (n + 1) c) <| wn ?_
 simp only [pu]
 go_wp2_with fail
 exact HE.out
theorem q_ins {w : World} {v : Value} {E : List Eo} (h : Rowen w 0 v E) {i : Nat} (hi : i ≤ E.length) (hl : E.length ≤ 10000) (x : Eo) {g : Nat} (hx : Bx w g (enA x) 62) (hg : v.ownBlock ≠ some g) : Calls Try.prog 34 #[v, .int .i64 i, .slice (some ⟨g, 0, none⟩) 1 1] w (InO w v (E.take i ++ x :: E.drop i)) := by
 by_cases he : i = E.length
 ·subst he
  exact ins_end h hl x hx
 ·rcases own_slice h with ⟨rfl, h0⟩ | ⟨b, c, rfl, -, -, hnc⟩
  ·omega
  ·have hgb : g ≠ b := fun e => hg (by rw [e]; rfl)
   by_cases hr : c < E.length + 1
   ·exact ins_grow h rfl (by omega) hl x hx hgb hr
   ·exact ins_room h rfl (by omega) hl x hx hgb (by omega)
theorem cut_last (b k c : Nat) (w : World) (h : k + 1 ≤ c) : (Instr.slice 52 (.slice (some ⟨b, 0, none⟩) k c) (some (.int .i64 (k : Int))) (some (.int .i64 ((k + 1 : Nat) : Int))) none).run Try.prog w = .ok (.slice (some ⟨b, k * 2, none⟩) 1 (c - k)) w := by
 have h2 := cut_en_mid (some ⟨b, 0, none⟩) k c k (k + 1) w (by omega) h
 rw [fromS_some (by omega), Nat.add_sub_cancel_left] at h2
 exact h2
theorem fromS_ex (b c k : Nat) : ∃ A : Addr, fromS 2 (some ⟨b, 0, none⟩) c k = some A ∧ (c ≠ k → A = ⟨b, k * 2, none⟩) := by
 unfold fromS
 by_cases h : c = k
 ·rw [if_pos h]; exact ⟨_, rfl, fun h2 => absurd h h2⟩
 ·rw [if_neg h, Option.map_some, Addr.add_mid, Nat.zero_add]; exact ⟨_, rfl, fun _ => rfl⟩
set_option maxRecDepth 100000 in
set_option maxHeartbeats 8000000 in
theorem del_at {w : World} {b k c : Nat} {E : List Eo} (h : w.ownsRow 0 62 2 (.slice (some ⟨b, 0, none⟩) (k + 1) c) (k + 1) (encs E)) (hn : E.length = k + 1) {i : Nat} (hi : i ≤ k) (hl : k ≤ 10000) : Calls Try.prog 30 #[.slice (some ⟨b, 0, none⟩) (k + 1) c, .int .i64 i, .int .i64 (i + 1 : Nat)] w (InO w (.slice (some ⟨b, 0, none⟩) (k + 1) c) (E.take i ++ E.drop (i + 1))) := by
 have hnc : k + 1 ≤ c := (own_nc h).2
 have hel : (encs (E.drop (i + 1))).length = (k - i) * 2 := by rw [encs_len, List.length_drop, hn]; omega
 have hel1 : (encs (E.take i)).length = i * 2 := by rw [encs_len, List.length_take]; omega
 have hNL : (E.take i ++ E.drop (i + 1)).length = k := by rw [List.length_append, List.length_take, List.length_drop]; omega
 obtain ⟨i0, hi0, hz0, hz1, hz2⟩ := info_parts infoEN
 obtain ⟨A, hA, hA2⟩ := fromS_ex b c (i + 1)
 have h1 := own_to (k := i) h (by omega)
 rw [encs_take] at h1
 obtain ⟨V1, ha1, hO1, hg1⟩ := run_append_fits (P := Try.prog) w.drew 0 52 52 62 i0 2 Try.underlying52 hi0 hz1 b i c (encs (E.take i)) (own_drew h1) A (k - i) (c - (i + 1)) (encs (E.drop (i + 1))) hel (fun j u hj => by
  have hlt := (List.getElem?_eq_some_iff.1 hj).1
  rw [hel] at hlt
  rw [hA2 (by omega), Addr.add_lit]
  rw [← encs_drop, List.getElem?_drop] at hj
  exact own_get (own_drew h) hj) (encs_one _) (by omega)
 rw [show i + (k - i) = k by omega] at ha1 hO1
 obtain ⟨ys, hyl, hO2⟩ := own_up hO1 (by omega)
 obtain ⟨zs, hzl, hc1⟩ := run_clear_en V1 0 b (k * 2) 1 (c - k) (by omega) (fun j hj => own_cell hO2 (by omega))
 have hxl : (encs (E.take i) ++ encs (E.drop (i + 1))).length = k * 2 := by rw [List.length_append, hel1, hel]; omega
 have hO3 := own_sets zs (k * 2) V1 _ hO2 (by rw [List.length_append, hxl, hyl, hzl]; omega)
 obtain ⟨V2, hV2⟩ : ∃ V2, V1.setCells b (k * 2) zs = V2 := ⟨_, rfl⟩
 rw [hV2] at hc1 hO3
 have hO4 := own_to (k := k) hO3 (by omega)
 have eL : ((((encs (E.take i) ++ encs (E.drop (i + 1))) ++ ys).take (k * 2) ++ zs ++ ((encs (E.take i) ++ encs (E.drop (i + 1))) ++ ys).drop (k * 2 + zs.length))).take (k * 2) = encs (E.take i ++ E.drop (i + 1)) := by
  rw [List.take_left' hxl, List.append_assoc, List.take_left' hxl, encs_app]
 rw [eL] at hO4
 have hg2 : w.grownBy V2 (some b) := by rw [← hV2]; exact grown_tr (grown_tr (grown_drew (World.grownBy.refl w _)) hg1) (grown_sets _ _)
 have HE : Hid (InO w (.slice (some ⟨b, 0, none⟩) (k + 1) c) (E.take i ++ E.drop (i + 1)) (.returned (.slice (some ⟨b, 0, none⟩) k c)) V2) := Lib.hid ⟨_, rfl, by unfold Rowen; rw [hNL]; exact hO4, hg2, .inl rfl⟩
 obtain ⟨PO, hPO⟩ : ∃ PO, InO w (.slice (some ⟨b, 0, none⟩) (k + 1) c) (E.take i ++ E.drop (i + 1)) = PO := ⟨_, rfl⟩
 rw [hPO] at HE ⊢
 have HA := Lib.hid hA
 clear hPO hg2 eL hO4 hO3 hV2 hxl hzl hO2 hyl hg1 hO1 h1 hA hA2 hNL hel hel1 h hn hi0 hz0 hz1 hz2 ys zs
 go_enter Try.func30, Try.ntmps30
 go_upto_region 1 with fail
 refine wl <| gz5 (.slice (some ⟨b, 0, none⟩) (k + 1) c) (.int .i64 i) (.int .i64 (i + 1 : Nat)) (.slice (some ⟨b, 0, none⟩) (k + 1) c) (.int .i64 (k + 1 : Nat)) <|
  gzv (sliced (some ⟨b, 0, none⟩) i (i + 1) (k + 1) 2) (ex_sl_max rfl (cut_en_max (some ⟨b, 0, none⟩) (k + 1) c i (i + 1) (k + 1) _ (by omega) (by omega) (by omega)) (by kernel_rfl) (by kernel_rfl) (by kernel_rfl) (by kernel_rfl)) <| wn ?_
 simp only [pu]
 go_upto_region 2 with fail
 refine wl <| gz2 (.int .i64 i) (.int .i64 (i + 1 : Nat)) <| gzb (eql_nn rfl i (i + 1) dF) <| wn ?_
 simp only [pu]
 go_upto_region 4 with fail
 refine wl <| gz3 (.slice (some ⟨b, 0, none⟩) (k + 1) c) (.int .i64 (k + 1 : Nat)) (.int .i64 (k + 1 : Nat)) <| wn ?_
 simp only [pu]
 go_upto_region 5 with fail
 refine wp_region_class_tail (C := fun U => U = w.drew) 6 (by kernel_rfl) (by kernel_rfl) (rfl) ?_
 simp only [List.take_succ_cons, List.take_zero, List.drop_succ_cons, List.drop_zero]
 refine gy (.slice (some ⟨b, 0, none⟩) (k + 1) c) <| gy (.int .i64 i) <| gyv (.slice (some ⟨b, 0, none⟩) i c) (fun U hU => ex_sl_to rfl (cut_en_to (some ⟨b, 0, none⟩) (k + 1) c i _ (by omega)) (by kernel_rfl) (by kernel_rfl)) <| gy (.slice (some ⟨b, 0, none⟩) (k + 1) c) <|
   gy (.int .i64 (i + 1 : Nat)) <| gyv (.slice (some A) (k - i) (c - (i + 1))) (fun U hU => by rw [← HA.out, show k - i = k + 1 - (i + 1) by omega]; exact ex_sl_from rfl (cut_en_from (some ⟨b, 0, none⟩) (k + 1) c (i + 1) _ (by omega)) (by kernel_rfl) (by kernel_rfl)) ?_
 simp only [pu]
 apply wpQuiet_nil
 intro U hU
 subst hU
 refine append_step rfl (some 26) rfl 52 rfl (.tmp 22) (.tmp 25) 52 rfl (.slice (some ⟨b, 0, none⟩) i c) (.slice (some A) (k - i) (c - (i + 1))) (.slice (some ⟨b, 0, none⟩) k c) V1 (by kernel_rfl) (by kernel_rfl) ha1 ?_
 simp only [pu]
 refine gz1 (.slice (some ⟨b, 0, none⟩) k c) <| wn ?_
 simp only [pu]
 clear ha1 HA
 go_upto_region 6 with fail
 refine wl <| gz4 (.slice (some ⟨b, 0, none⟩) k c) (.slice (some ⟨b, 0, none⟩) k c) (.int .i64 k) (.int .i64 (k + 1 : Nat)) <| gzv (.slice (some ⟨b, k * 2, none⟩) 1 (c - k)) (ex_sl_mid rfl (cut_last b k c _ (by omega)) (by kernel_rfl) (by kernel_rfl) (by kernel_rfl)) ?_
 simp only [pu]
 refine clear_step rfl 0 rfl (.tmp 31) 52 rfl rfl (.slice (some ⟨b, k * 2, none⟩) 1 (c - k)) (.tuple #[]) V2 (by kernel_rfl) hc1 ?_
 apply wpList_nil
 clear hc1
 go_upto_region 7 with fail
 refine wl <| gz2 (.slice (some ⟨b, 0, none⟩) k c) (.slice (some ⟨b, 0, none⟩) k c) <| wn ?_
 simp only [pu]
 go_wp2_with fail
 exact HE.out
theorem q_del {w : World} {v : Value} {E : List Eo} (h : Rowen w 0 v E) {i : Nat} (hi : i < E.length) (hl : E.length ≤ 10000) : Calls Try.prog 30 #[v, .int .i64 i, .int .i64 (i + 1 : Nat)] w (InO w v (E.take i ++ E.drop (i + 1))) := by
 rcases own_slice h with ⟨rfl, h0⟩ | ⟨b, c, rfl, -, -, hnc⟩
 ·omega
 ·obtain ⟨k, hk⟩ : ∃ k, E.length = k + 1 := ⟨E.length - 1, by omega⟩
  unfold Rowen at h
  rw [hk] at h ⊢
  exact del_at h hk (by omega) (by omega)
end Go.Proofs.Ytdjphghoollejaa
