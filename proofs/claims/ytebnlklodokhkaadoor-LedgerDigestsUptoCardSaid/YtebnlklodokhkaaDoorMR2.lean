/-
  The contract of the reference's Inner.
-/
import Derived.Test.YtebnlklodokhkaaDoorMR1
namespace Go.Proofs.YtebnlklodokhkaaDoor
open Go.RowKit

/-- A whole array is stored, inside a region that draws its order. -/
theorem step_store_at {P : Program} {ops : Array Oper} {op : Oper} {a : Act} {w : World} {K : Act → World → Prop} {Q : Exit → Act → World → Prop} {E : Prop} (hgd : op.guard = none) (ty : TypeId) (x y : Operand) (ho : op.op = .store ty x y)
    (g : Nat) (c c' : Array Value) (hx : a.eval x = .pointer (some ⟨g, 0, none⟩)) (hy : a.eval y = .agg c') (hg : w.heap[g]? = some (.cells c ty (0, 0)))
    (hi : (P.info? ty).map (·.size) = some c'.size) (hz : c.size = c'.size) (h1 : c'.all (·.oneCell') = true)
    (h : K (a.put op.dst undef) (w.setRow g c')) : if Region.wanted op (yielded ops a.tmps) = true then Oper.wp P op a w K Q else E := by
  have hw : Region.wanted op (yielded ops a.tmps) = true := by simp [Region.wanted, hgd]
  rw [if_pos hw]
  unfold Oper.wp execOp
  simp only [ho, hx, hy, Instr.storeAt, Instr.sureAddr, Sem.run_bind, Sem.run_pure, Result.andThen_ok, run_storeVar_row w g ty ty c c' hg hi hz h1]
  exact h

/-- The three blocks of Inner: its keys, and the result. -/
def P3 (w : World) (A B Z : List Int) (V : World) : Prop := Ab V w.heap.size 32 A ∧ Ab V (w.heap.size + 1) 32 B ∧ Ab V (w.heap.size + 2) 32 Z ∧ Below w.heap.size w V ∧ w.heap.size + 3 ≤ V.heap.size
theorem P3.below {w V V' : World} {A B Z : List Int} {g : Nat} (h : P3 w A B Z V) (hb : Below g V V') (hg : w.heap.size + 3 ≤ g) : P3 w A B Z V' :=
  ⟨h.1.below (by omega) hb, h.2.1.below (by omega) hb, h.2.2.1.below (by omega) hb, h.2.2.2.1.trans (hb.mono (by omega)), Nat.le_trans h.2.2.2.2 hb.size⟩
theorem P3.grown {w V V' : World} {A B Z : List Int} {g n : Nat} {v : Value} {xs : List Value} (h : P3 w A B Z V) (ho : V.ownsRow g 5 1 v n xs) (hg : V.grownBy V' v.ownBlock) (hw : w.heap.size + 3 ≤ g) (hV : g ≤ V.heap.size) : P3 w A B Z V' :=
  h.below ((Below.refl g V).grown hg hV (fun j hj => (ho.lt j hj).1)) hw
theorem Ab.cells_on {g t : Nat} : ∀ (S P Q : List Int) (w : World), Ab w g t (P ++ Q) → Q.length = S.length → Ab (w.setCells g P.length (S.map (Value.int .u8))) g t (P ++ S)
  | [], P, Q, w, h, hl => by
    obtain rfl := List.eq_nil_of_length_eq_zero (by simpa using hl)
    exact h
  | x :: S, P, Q, w, h, hl => by
    cases Q with
    | nil => simp at hl
    | cons q Q =>
      have h2 := h.set P.length x
      rw [mid_set P Q q x P.length rfl] at h2
      have e : P ++ x :: Q = (P ++ [x]) ++ Q := by simp
      rw [e] at h2
      have ih := Ab.cells_on S (P ++ [x]) Q _ h2 (by simpa using hl)
      have e2 : P ++ x :: S = (P ++ [x]) ++ S := by simp
      have e3 : (P ++ [x]).length = P.length + 1 := by simp
      rw [e3] at ih
      rw [e2]
      exact ih
theorem Ab.all {w : World} {g t : Nat} {L : List Int} (h : Ab w g t L) (S : List Int) (hl : L.length = S.length) : Ab (w.setCells g 0 (S.map (Value.int .u8))) g t S := by
  have := Ab.cells_on S [] L w (by simpa using h) hl
  simpa using this
theorem Ab.there {w : World} {g t : Nat} {L : List Int} (h : Ab w g t L) (n : Nat) (hn : n ≤ L.length) : w.there g 0 n := by
  intro j hj
  refine ⟨?_, h.frozen _⟩
  rw [Nat.zero_add, h.cell j (by omega)]
  rfl
theorem one_cells (S : List Int) : ∀ v : Value, v ∈ S.map (Value.int .u8) → v.oneCell' = true := ints_oneCell _ _
theorem own_65 {V : World} {g : Nat} {v : Value} {A B : List Int} (hA : A.length = 32) (hB : B.length = 32) (h : V.ownsRow g 5 1 v (33 + 32) (([1].map (Value.int .u8) ++ A.map (Value.int .u8)) ++ B.map (Value.int .u8))) : ∃ a c, v = .slice a 65 c ∧ Sl V a c (1 :: (A ++ B)) := by
  have e : (([1].map (Value.int .u8) ++ A.map (Value.int .u8)) ++ B.map (Value.int .u8)) = (1 :: (A ++ B)).map (Value.int .u8) := by simp
  rw [e] at h
  obtain ⟨a, c, rfl, hs, -, -⟩ := sl_own h
  have hl : (1 :: (A ++ B)).length = 65 := by simp [hA, hB]
  exact ⟨a, c, by rw [hl], hs⟩

set_option maxRecDepth 100000 in
set_option maxHeartbeats 4000000 in
theorem inner_any (A B : List Int) (w : World) (hA : A.length = 32) (hB : B.length = 32) (hA8 : ∀ x, x ∈ A → W8 x) (hB8 : ∀ x, x ∈ B → W8 x) :
    Calls Tryd.prog 46 #[.agg (w8s A), .agg (w8s B)] w fun e w' => e = .returned (.agg (w8s (innerL A B))) ∧ Below w.heap.size w w' := by
  obtain ⟨i0, hi, hz0, hz1, hz2⟩ := info_parts info5
  have HI := Lib.hid hi
  have HZ0 := Lib.hid hz0
  have HZ1 := Lib.hid hz1
  have HZ2 := Lib.hid hz2
  clear hi hz0 hz1 hz2
  have h1 : Ab (w.alloc (.cells (w8s A) 32)) w.heap.size 32 A := heap_alloc_last w _
  have h2 : Ab ((w.alloc (.cells (w8s A) 32)).alloc (.cells (w8s B) 32)) (w.heap.size + 1) 32 B := by
    have := heap_alloc_last (w.alloc (.cells (w8s A) 32)) (.cells (w8s B) 32)
    simpa [Ab] using this
  have h3 : Ab (((w.alloc (.cells (w8s A) 32)).alloc (.cells (w8s B) 32)).alloc (.cells (w8s (List.replicate 32 0)) 32)) (w.heap.size + 2) 32 (List.replicate 32 0) := by
    have := heap_alloc_last ((w.alloc (.cells (w8s A) 32)).alloc (.cells (w8s B) 32)) (.cells (w8s (List.replicate 32 0)) 32)
    simpa [Ab] using this
  have hA1 := (h1.alloc (.cells (w8s B) 32)).alloc (.cells (w8s (List.replicate 32 0)) 32)
  have hB1 := h2.alloc (.cells (w8s (List.replicate 32 0)) 32)
  have hb1 : Below w.heap.size w (((w.alloc (.cells (w8s A) 32)).alloc (.cells (w8s B) 32)).alloc (.cells (w8s (List.replicate 32 0)) 32)) := (((Below.refl _ w).alloc (by simp) _).alloc (by simp) _).alloc (by simp; omega) _
  have hs1 : (((w.alloc (.cells (w8s A) 32)).alloc (.cells (w8s B) 32)).alloc (.cells (w8s (List.replicate 32 0)) 32)).heap.size = w.heap.size + 3 := by simp
  obtain ⟨S, hSS⟩ : ∃ S, S = innerL A B := ⟨_, rfl⟩
  have hq : S.length = 32 := by rw [hSS]; exact shaL_len _
  have CS := fun (a2 : Option Addr) (c2 : Nat) (V : World) (h : Sl V a2 c2 (1 :: (A ++ B))) => ref_sha a2 c2 (1 :: (A ++ B)) V h (fun x hx => by
    rcases List.mem_cons.1 hx with rfl | hx
    · exact ⟨by omega, by omega⟩
    · rcases List.mem_append.1 hx with hx | hx
      · exact hA8 x hx
      · exact hB8 x hx) (by simp; omega)
  rw [show shaL (1 :: (A ++ B)) = S from hSS.symm, show (1 :: (A ++ B)).length = 65 by simp [hA, hB]] at CS
  rw [← hSS]
  have hsS : (w8s S).size = 32 := by rw [size_w8s, hq]
  clear hSS h1 h2 hA8 hB8
  go_enter Tryd.func46, Tryd.ntmps46
  go_upto_region 1 with fail
  change Code.wp _ _ _ _ (((w.alloc (.cells (w8s A) 32)).alloc (.cells (w8s B) 32)).alloc (.cells (w8s (List.replicate 32 0)) 32))
  generalize ((w.alloc (.cells (w8s A) 32)).alloc (.cells (w8s B) 32)).alloc (.cells (w8s (List.replicate 32 0)) 32) = W at *
  have hP : P3 w A B (List.replicate 32 0) W := ⟨hA1, hB1, h3, hb1, by omega⟩
  have hWs : w.heap.size + 3 ≤ W.heap.size := by omega
  have hP0 : P3 w A B (List.replicate 32 0) ((W.alloc (.cells #[.int .u8 1] 5)).drew) := hP.below ((Below.refl W.heap.size W).alloc (Nat.le_refl _) (.cells #[.int .u8 1] 5)).drew hWs
  have ho0 : ((W.alloc (.cells #[.int .u8 1] 5)).drew).ownsRow W.heap.size 5 1 (.slice (some ⟨W.heap.size, 0, none⟩) 1 1) 1 ([1].map (Value.int .u8)) := own_byte W 1
  have hz : W.heap.size ≤ ((W.alloc (.cells #[.int .u8 1] 5)).drew).heap.size := ((Below.refl W.heap.size W).alloc (Nat.le_refl _) (.cells #[.int .u8 1] 5)).drew.size
  have hsl0 := slice_key w.heap.size
  have hsl1 := slice_key (w.heap.size + 1)
  have HA := Lib.hid hA
  have HB := Lib.hid hB
  have HP0 := Lib.hid hP0
  have HO0 := Lib.hid ho0
  have HWS := Lib.hid hWs
  have h33 : 1 + 32 ≤ 140737488355328 := by omega
  have h65 : 33 + 32 ≤ 140737488355328 := by omega
  have hi9 : (Tryd.prog.info? 32).map (·.size) = some (w8s S).size := by rw [hsS]; kernel_rfl
  have hz9 : (w8s (List.replicate 32 0)).size = (w8s S).size := by rw [hsS]; rfl
  have HI9 := Lib.hid hi9
  have HZ9 := Lib.hid hz9
  clear hA hB hs1 hA1 hB1 hb1 h3 hP hP0 ho0 hWs hi9 hz9 hsS
  have hone := one_cells S
  go_region_held3 (fun _ => True) (trivial) (first
    | (go_at_call 43; refine (CS a2 c2 w2 hS2).mono ?_; rintro e w3 ⟨rfl, hb3⟩; have hP3 := hP2.below hb3 hP2.2.2.2.2; have hth : w3.there (w.heap.size + 1 + 1) 0 (List.map (Value.int .u8) S).length := hP3.2.2.1.there _ (by rw [List.length_map, hq]; simp))
    | (refine step_append_srcK (w := w1) rfl _ _ 53 rfl W.heap.size i0 Tryd.underlying53 HI.out HZ0.out HZ1.out HZ2.out v1 33 _ rfl ho1 (some ⟨w.heap.size + 1, 0, none⟩) 32 32 B rfl HB.out hP1.2.1.sl h65 hz1 ?_; intro v2 w2 ho2 hg2; obtain ⟨a2, c2, rfl, hS2⟩ := own_65 HA.out HB.out ho2; have hP2 := hP1.grown ho1 hg2 HWS.out hz1)
    | (refine step_append_srcK (w := (W.alloc (.cells #[.int .u8 1] 5)).drew) rfl _ _ 53 rfl W.heap.size i0 Tryd.underlying53 HI.out HZ0.out HZ1.out HZ2.out (.slice (some ⟨W.heap.size, 0, none⟩) 1 1) 1 _ rfl HO0.out (some ⟨w.heap.size, 0, none⟩) 32 32 A rfl HA.out HP0.out.1.sl h33 hz ?_; intro v1 w1 ho1 hg1; have hP1 := HP0.out.grown HO0.out hg1 HWS.out hz; have hz1 := Nat.le_trans hz hg1.size))
  have hA9 := hP3.2.2.1.all S (by rw [hq]; rfl)
  have hb9 : Below w.heap.size w (w3.setCells (w.heap.size + 2) 0 (S.map (Value.int .u8))) := hP3.2.2.2.1.trans ((But.setCells _ _ _).below (by omega))
  have HA9 := Lib.hid hA9
  have HB9 := Lib.hid hb9
  clear hA9 hb9 hP3 hP2 hP1 hth hone ho1 ho2 hg1 hg2 hz1 hS2 hb3 CS HP0 HO0
  generalize w3.setCells (w.heap.size + 1 + 1) 0 (S.map (Value.int .u8)) = V9 at *
  go_wp2_with fail
  refine bodyPost_ret (v := .agg (w8s S)) ?_ rfl ⟨rfl, HB9.out⟩
  refine results_cell_row (fn := Tryd.f46) (p := 4) (ty := 32) rfl _ _ (w.heap.size + 2) 32 (w8s S) (0, 0) (.array 32 5) rfl HA9.out ?_ rfl ?_
  · kernel_rfl
  · exact HI9.out
end Go.Proofs.YtebnlklodokhkaaDoor
