/-
  Leaves in memory; the contract of the reference's Root.
-/
import Derived.Test.YtebnlklodokhkaaDoorMR2
namespace Go.Proofs.YtebnlklodokhkaaDoor
open Go.RowKit

/-- Leaves lie in a row: at each place a slice of its bytes. -/
def RB (w : World) (al : Option Addr) (ls : List (List Int)) : Prop :=
  ∀ i, i < ls.length → ∃ b off ai ci, al = some ⟨b, off, none⟩ ∧ b < w.heap.size ∧ w.cell? ⟨b, off + i, none⟩ = some (.slice ai (ls.getD i []).length ci) ∧ Sl w ai ci (ls.getD i []) ∧ (ls.getD i []).length ≤ ci ∧ (∀ x, x ∈ ls.getD i [] → W8 x) ∧ (ls.getD i []).length ≤ 300000
theorem RB.below {w w' : World} {al : Option Addr} {ls : List (List Int)} (h : RB w al ls) (hb : Below w.heap.size w w') : RB w' al ls := fun i hi => by
  obtain ⟨b, off, ai, ci, e, hlt, hc, hs, hl, h8, h3⟩ := h i hi
  exact ⟨b, off, ai, ci, e, by have := hb.size; omega, (hb.cell (p := ⟨b, off + i, none⟩) hlt).trans hc, sl_below hs hb, hl, h8, h3⟩
theorem RB.take {w : World} {al : Option Addr} {ls : List (List Int)} (h : RB w al ls) (n : Nat) : RB w al (ls.take n) := fun i hi => by
  have hi' : i < ls.length := by simp at hi; omega
  have q : (ls.take n).getD i [] = ls.getD i [] := by
    simp only [List.getD]
    rw [List.getElem?_take_of_lt (by simp at hi; omega)]
  rw [q]
  exact h i hi'
theorem RB.from {w : World} {al : Option Addr} {ls : List (List Int)} (h : RB w al ls) (c k : Nat) (hc : ls.length ≤ c) : RB w (fromA al c k) (ls.drop k) := fun i hi => by
  have hi' : k + i < ls.length := by simp at hi; omega
  have q : (ls.drop k).getD i [] = ls.getD (k + i) [] := by
    simp only [List.getD, List.getElem?_drop]
  rw [q]
  obtain ⟨b, off, ai, ci, rfl, hlt, hcl, hs, hl, h8, h3⟩ := h (k + i) hi'
  refine ⟨b, off + k, ai, ci, ?_, hlt, by rw [Nat.add_assoc]; exact hcl, hs, hl, h8, h3⟩
  unfold fromA
  rw [if_neg (by omega)]
  simp only [Option.map_some]
  rw [Addr.add_mid]
theorem rows_to (a : Option Addr) (n c k : Nat) (w : World) (h : k ≤ c) : (Instr.slice 52 (.slice a n c) none (some (.int .i64 (k : Int))) none).run Tryd.prog w = .ok (.slice a k c) w := by
  have hs : (sizeOf (Tryd.prog.elem 52)).run Tryd.prog w = .ok 1 w := by kernel_rfl
  have e := run_slice_h (P := Tryd.prog) w 52 a n c (by kernel_rfl) .i64 (k : Int) (by omega) (by omega)
  rw [e, hs]
  cases a <;> simp [sliced, Result.andThen, Addr.add]
theorem rows_from (a : Option Addr) (n c k : Nat) (w : World) (h : k ≤ n) : (Instr.slice 52 (.slice a n c) (some (.int .i64 (k : Int))) none none).run Tryd.prog w = .ok (.slice (fromA a c k) (n - k) (c - k)) w := by
  have hs : (sizeOf (Tryd.prog.elem 52)).run Tryd.prog w = .ok 1 w := by kernel_rfl
  have e := run_slice_l (P := Tryd.prog) w 52 a n c (by kernel_rfl) .i64 (k : Int) (by omega) (by omega)
  rw [e, hs]
  by_cases hk : c = k <;> cases a <;> simp [sliced, Result.andThen, fromA, hk]
/-- 'l[k:]' yields v. -/
theorem wpQ_slice_lo {P : Program} {C : World → Prop} {ops : Array Oper} {Q : Act → Prop} {a : Act} {op : Oper} {rest : List Oper} (hgd : op.guard = none) (ty : TypeId) (x l : Operand) (ho : op.op = .slice ty x (some l) none none)
    (vx vl v : Value) (hx : a.eval x = vx) (hh : a.eval l = vl) (hs : ∀ w, C w → (Instr.sliceAt ty vx (some vl) none none).run P w = .ok v w)
    (hK : wpQuiet P ops C Q rest (a.put op.dst v)) : wpQuiet P ops C Q (op :: rest) a := by
  refine wpQ_val hgd v (fun w hC => ?_) hK
  unfold execOp
  simp only [ho, hx, hh, Option.map_some, Option.map_none, Sem.run_bind, hs w hC]
  rfl
theorem root_byte (ls : List (List Int)) : (rootL ls).length = 32 ∧ ∀ x, x ∈ rootL ls → W8 x := by
  by_cases h0 : ls.length = 0
  · rw [rootL_nil ls h0]
    exact ⟨shaL_len _, shaL_byte _⟩
  · by_cases h1 : ls.length = 1
    · rw [rootL_one ls h1]
      exact ⟨shaL_len _, shaL_byte _⟩
    · rw [rootL_two ls (by omega)]
      exact ⟨shaL_len _, shaL_byte _⟩

theorem load_one {w : World} {t : TypeId} {a : Addr} {v : Value} (h : w.cell? a = some v) (hag : (isAgg t).run Tryd.prog w = .ok false w) : (Instr.loadAt t (.pointer (some a))).run Tryd.prog w = .ok v w := by
  simp [Instr.loadAt, Instr.sureAddr, loadVar, hag, run_load, h, Result.andThen]
/-- What a call of Root keeps. -/
def RC (w : World) (al : Option Addr) (ls : List (List Int)) (V : World) : Prop := Ab V w.heap.size 32 (List.replicate 32 0) ∧ RB V al ls ∧ Below w.heap.size w V
theorem RC.below {w V V' : World} {al : Option Addr} {ls : List (List Int)} (h : RC w al ls V) (hb : Below V.heap.size V V') : RC w al ls V' := ⟨h.1.below h.1.lt hb, h.2.1.below hb, h.2.2.trans (hb.mono h.2.2.size)⟩

set_option maxRecDepth 100000 in
set_option maxHeartbeats 4000000 in
theorem refroot_step (ls : List (List Int)) (al : Option Addr) (c : Nat) (w : World) (hn : ls.length ≤ 1000) (hc : ls.length ≤ c) (hR : RB w al ls)
    (ih : ∀ (ls2 : List (List Int)) (al2 : Option Addr) (c2 : Nat) (w2 : World), ls2.length < ls.length → ls2.length ≤ c2 → RB w2 al2 ls2 → Calls Tryd.prog 24 #[.slice al2 ls2.length c2] w2 fun e w' => e = .returned (.agg (w8s (rootL ls2))) ∧ Below w2.heap.size w2 w') :
    Calls Tryd.prog 24 #[.slice al ls.length c] w fun e w' => e = .returned (.agg (w8s (rootL ls))) ∧ Below w.heap.size w w' := by
  have hb0 : Below w.heap.size w (w.alloc (.cells (w8s (List.replicate 32 0)) 32)) := (Below.refl _ w).alloc (by simp) _
  have hC : RC w al ls (w.alloc (.cells (w8s (List.replicate 32 0)) 32)) := ⟨heap_alloc_last w _, hR.below hb0, hb0⟩
  have hbytes := root_byte ls
  obtain ⟨S, hSS⟩ : ∃ S, S = rootL ls := ⟨_, rfl⟩
  have hsS : (w8s S).size = 32 := by rw [size_w8s, hSS]; exact hbytes.1
  rw [← hSS]
  rcases (show ls.length = 0 ∨ ls.length = 1 ∨ 2 ≤ ls.length by omega) with h0 | h1 | h2
  · have hS0 : S = shaL [] := hSS.trans (rootL_nil ls h0)
    rw [h0]
    have CS := fun V => ref_sha none 0 [] V (.inl ⟨rfl, rfl, rfl⟩) (by simp) (by simp)
    rw [← hS0] at CS
    clear hS0 hSS h0 ih hR hn hc hbytes
    go_enter Tryd.func24, Tryd.ntmps24
    go_upto_region 3 with fail
    change Code.wp _ _ _ _ (w.alloc (.cells (w8s (List.replicate 32 0)) 32))
    generalize w.alloc (.cells (w8s (List.replicate 32 0)) 32) = W at *
    apply wp_region_lit
    refine gw_call (by kernel_rfl) (some 8) rfl 43 #[.slice none 0 0] (.agg (w8s S)) (Below W.heap.size W) (by kernel_rfl) (CS W) (fun V1 hb1 => ?_)
    have hC1 := hC.below hb1
    clear hC hb1 hb0 CS
    simp only [Act.put, List.setIfInBounds_toArray, List.set_cons_succ, List.set_cons_zero]
    apply wpList_store_at (ty := 32) (x := .tmp 2) (y := .tmp 8) (g := w.heap.size) (c := w8s (List.replicate 32 0)) (c' := w8s S)
    case hgd => rfl
    case ho => rfl
    case hx => kernel_rfl
    case hy => kernel_rfl
    case hg => exact hC1.1
    case hi => rw [hsS]; kernel_rfl
    case hz => rw [hsS]; rfl
    case h1 => exact one_w8s _
    apply wpList_nil
    have hA9 : Ab (V1.setRow w.heap.size (w8s S)) w.heap.size 32 S := setRow_heap _ _ _ _ _ _ hC1.1
    have hb9 := belowRow hC1.2.2 (Nat.le_refl w.heap.size) (w8s S)
    generalize V1.setRow w.heap.size (w8s S) = V9 at *
    simp only [Act.put]
    go_wp2_with fail
    refine bodyPost_ret (v := .agg (w8s S)) ?_ rfl ⟨rfl, hb9⟩
    refine results_cell_row (fn := Tryd.f24) (p := 2) (ty := 32) rfl _ _ w.heap.size 32 (w8s S) (0, 0) (.array 32 5) rfl hA9 ?_ rfl ?_
    · kernel_rfl
    · rw [hsS]; kernel_rfl
  · have hS1 : S = leafL (ls.getD 0 []) := hSS.trans (rootL_one ls h1)
    obtain ⟨b, off, ai, ci, rfl, hlt, hcl, hs, hl, h8, h3⟩ := hC.2.1 0 (by omega)
    have CL := fun V (h : Sl V ai ci (ls.getD 0 [])) => leaf_any ai ci (ls.getD 0 []) V h h8 h3
    rw [← hS1] at CL
    rw [h1]
    generalize ls.getD 0 [] = B at *
    clear hS1 hSS ih hR hn hc hbytes h8 h3 hl h1
    go_enter Tryd.func24, Tryd.ntmps24
    go_upto_region 5 with fail
    change Code.wp _ _ _ _ (w.alloc (.cells (w8s (List.replicate 32 0)) 32))
    generalize w.alloc (.cells (w8s (List.replicate 32 0)) 32) = W at *
    apply wp_region_lit
    refine gw_val (by kernel_rfl) (some 11) rfl (.slice (some ⟨b, off, none⟩) 1 c) (by kernel_rfl) ?_
    simp only [Act.put, List.setIfInBounds_toArray, List.set_cons_succ, List.set_cons_zero]
    refine gw_val (by kernel_rfl) (some 12) rfl (.pointer (some ⟨b, off, none⟩)) (by kernel_rfl) ?_
    simp only [Act.put, List.setIfInBounds_toArray, List.set_cons_succ, List.set_cons_zero]
    refine gw_load (by kernel_rfl) (some 13) rfl 53 (.tmp 12) rfl ⟨b, off, none⟩ (.slice ai B.length ci) (by kernel_rfl) (load_one (by rw [Nat.add_zero] at hcl; exact hcl) (by kernel_rfl)) ?_
    simp only [Act.put, List.setIfInBounds_toArray, List.set_cons_succ, List.set_cons_zero]
    refine gw_call (by kernel_rfl) (some 14) rfl 44 #[.slice ai B.length ci] (.agg (w8s S)) (Below W.heap.size W) (by kernel_rfl) (CL W hs) (fun V1 hb1 => ?_)
    have hC1 := hC.below hb1
    clear hC hb1 hb0 CL hs hcl hlt
    simp only [Act.put, List.setIfInBounds_toArray, List.set_cons_succ, List.set_cons_zero]
    apply wpList_store_at (ty := 32) (x := .tmp 2) (y := .tmp 14) (g := w.heap.size) (c := w8s (List.replicate 32 0)) (c' := w8s S)
    case hgd => rfl
    case ho => rfl
    case hx => kernel_rfl
    case hy => kernel_rfl
    case hg => exact hC1.1
    case hi => rw [hsS]; kernel_rfl
    case hz => rw [hsS]; rfl
    case h1 => exact one_w8s _
    apply wpList_nil
    have hA9 : Ab (V1.setRow w.heap.size (w8s S)) w.heap.size 32 S := setRow_heap _ _ _ _ _ _ hC1.1
    have hb9 := belowRow hC1.2.2 (Nat.le_refl w.heap.size) (w8s S)
    generalize V1.setRow w.heap.size (w8s S) = V9 at *
    simp only [Act.put]
    go_wp2_with fail
    refine bodyPost_ret (v := .agg (w8s S)) ?_ rfl ⟨rfl, hb9⟩
    refine results_cell_row (fn := Tryd.f24) (p := 2) (ty := 32) rfl _ _ w.heap.size 32 (w8s S) (0, 0) (.array 32 5) rfl hA9 ?_ rfl ?_
    · kernel_rfl
    · rw [hsS]; kernel_rfl
  · obtain ⟨k1, k2, k3⟩ := halfN_spec ls.length h2
    have hS2 : S = innerL (rootL (ls.take (halfN ls.length))) (rootL (ls.drop (halfN ls.length))) := hSS.trans (rootL_two ls h2)
    have hX := root_byte (ls.take (halfN ls.length))
    have hY := root_byte (ls.drop (halfN ls.length))
    have htl : (ls.take (halfN ls.length)).length = halfN ls.length := by rw [List.length_take]; omega
    have hdl : (ls.drop (halfN ls.length)).length = ls.length - halfN ls.length := by rw [List.length_drop]
    have CX := fun (V : World) (h : RC w al ls V) => (ih (ls.take (halfN ls.length)) al c V (by omega) (by omega) (h.2.1.take _)).mono fun e w' (q : e = .returned (.agg (w8s (rootL (ls.take (halfN ls.length))))) ∧ Below V.heap.size V w') => (⟨q.1, h.below q.2⟩ : e = .returned (.agg (w8s (rootL (ls.take (halfN ls.length))))) ∧ RC w al ls w')
    have CY := fun (V : World) (h : RC w al ls V) => (ih (ls.drop (halfN ls.length)) (fromA al c (halfN ls.length)) (c - halfN ls.length) V (by omega) (by omega) (h.2.1.from c _ hc)).mono fun e w' (q : e = .returned (.agg (w8s (rootL (ls.drop (halfN ls.length))))) ∧ Below V.heap.size V w') => (⟨q.1, h.below q.2⟩ : e = .returned (.agg (w8s (rootL (ls.drop (halfN ls.length))))) ∧ RC w al ls w')
    have CI := fun (V : World) (h : RC w al ls V) => (inner_any (rootL (ls.take (halfN ls.length))) (rootL (ls.drop (halfN ls.length))) V hX.1 hY.1 hX.2 hY.2).mono fun e w' (q : e = .returned (.agg (w8s (innerL (rootL (ls.take (halfN ls.length))) (rootL (ls.drop (halfN ls.length)))))) ∧ Below V.heap.size V w') => (⟨q.1, h.below q.2⟩ : e = .returned (.agg (w8s (innerL (rootL (ls.take (halfN ls.length))) (rootL (ls.drop (halfN ls.length)))))) ∧ RC w al ls w')
    have CH := fun V => half_any ls.length V (by omega)
    have e1 := fun V => rows_to al ls.length c (halfN ls.length) V (by omega)
    have e2 := fun V => rows_from al ls.length c (halfN ls.length) V (by omega)
    rw [← hS2] at CI
    rw [htl] at CX
    rw [hdl] at CY
    generalize rootL (ls.take (halfN ls.length)) = X at *
    generalize rootL (ls.drop (halfN ls.length)) = Y at *
    generalize halfN ls.length = k at *
    generalize hl : ls.length = n at *
    have hd0 : ((n : Int) == 0) = false := by simp; omega
    have hd1 : ((n : Int) == 1) = false := by simp; omega
    clear hl hS2 hSS ih hR hbytes hX hY htl hdl
    go_enter Tryd.func24, Tryd.ntmps24
    go_upto_region 6 with fail
    change Code.wp _ _ _ _ (w.alloc (.cells (w8s (List.replicate 32 0)) 32))
    generalize w.alloc (.cells (w8s (List.replicate 32 0)) 32) = W at *
    go_upto_region 7 with (go_at_call 45; refine (CH _).mono ?_; rintro e w1 ⟨rfl, rfl⟩)
    refine wp_region_class_tail (RC w al ls) 9 (by kernel_rfl) (by kernel_rfl) (hC.below (Below.refl _ W).drew) ?_
    refine gq_val (by kernel_rfl) (some 18) rfl (.slice al n c) (fun w' _ => by kernel_rfl) ?_
    simp only [Act.put, List.setIfInBounds_toArray, List.set_cons_succ, List.set_cons_zero]
    refine gq_val (by kernel_rfl) (some 19) rfl (.int .i64 k) (fun w' _ => by kernel_rfl) ?_
    simp only [Act.put, List.setIfInBounds_toArray, List.set_cons_succ, List.set_cons_zero]
    refine wpQ_slice_to rfl 52 (.tmp 18) (.tmp 19) rfl (.slice al n c) (.int .i64 k) (.slice al k c) (by kernel_rfl) (by kernel_rfl) (fun w' _ => e1 w') ?_
    simp only [Act.put, List.setIfInBounds_toArray, List.set_cons_succ, List.set_cons_zero]
    refine gq_call (by kernel_rfl) (some 21) rfl 24 #[.slice al k c] (.agg (w8s X)) (fun w' _ => by kernel_rfl) (fun w' hC => CX w' hC) ?_
    simp only [Act.put, List.setIfInBounds_toArray, List.set_cons_succ, List.set_cons_zero]
    refine gq_val (by kernel_rfl) (some 22) rfl (.slice al n c) (fun w' _ => by kernel_rfl) ?_
    simp only [Act.put, List.setIfInBounds_toArray, List.set_cons_succ, List.set_cons_zero]
    refine gq_val (by kernel_rfl) (some 23) rfl (.int .i64 k) (fun w' _ => by kernel_rfl) ?_
    simp only [Act.put, List.setIfInBounds_toArray, List.set_cons_succ, List.set_cons_zero]
    refine wpQ_slice_lo rfl 52 (.tmp 22) (.tmp 23) rfl (.slice al n c) (.int .i64 k) (.slice (fromA al c k) (n - k) (c - k)) (by kernel_rfl) (by kernel_rfl) (fun w' _ => e2 w') ?_
    simp only [Act.put, List.setIfInBounds_toArray, List.set_cons_succ, List.set_cons_zero]
    refine gq_call (by kernel_rfl) (some 25) rfl 24 #[.slice (fromA al c k) (n - k) (c - k)] (.agg (w8s Y)) (fun w' _ => by kernel_rfl) (fun w' hC => CY w' hC) ?_
    simp only [Act.put, List.setIfInBounds_toArray, List.set_cons_succ, List.set_cons_zero]
    refine gq_call (by kernel_rfl) (some 26) rfl 46 #[.agg (w8s X), .agg (w8s Y)] (.agg (w8s S)) (fun w' _ => by kernel_rfl) (fun w' hC => CI w' hC) ?_
    simp only [Act.put, List.setIfInBounds_toArray, List.set_cons_succ, List.set_cons_zero]
    refine wpQuiet_nil ?_
    intro V1 hC1
    clear hC hb0 CX CY CI CH e1 e2
    apply wpList_store_at (ty := 32) (x := .tmp 2) (y := .tmp 26) (g := w.heap.size) (c := w8s (List.replicate 32 0)) (c' := w8s S)
    case hgd => rfl
    case ho => rfl
    case hx => kernel_rfl
    case hy => kernel_rfl
    case hg => exact hC1.1
    case hi => rw [hsS]; kernel_rfl
    case hz => rw [hsS]; rfl
    case h1 => exact one_w8s _
    apply wpList_nil
    have hA9 : Ab (V1.setRow w.heap.size (w8s S)) w.heap.size 32 S := setRow_heap _ _ _ _ _ _ hC1.1
    have hb9 := belowRow hC1.2.2 (Nat.le_refl w.heap.size) (w8s S)
    generalize V1.setRow w.heap.size (w8s S) = V9 at *
    simp only [Act.put]
    go_wp2_with fail
    refine bodyPost_ret (v := .agg (w8s S)) ?_ rfl ⟨rfl, hb9⟩
    refine results_cell_row (fn := Tryd.f24) (p := 2) (ty := 32) rfl _ _ w.heap.size 32 (w8s S) (0, 0) (.array 32 5) rfl hA9 ?_ rfl ?_
    · kernel_rfl
    · rw [hsS]; kernel_rfl

theorem refroot_any (ls : List (List Int)) (al : Option Addr) (c : Nat) (w : World) (hn : ls.length ≤ 1000) (hc : ls.length ≤ c) (hR : RB w al ls) :
    Calls Tryd.prog 24 #[.slice al ls.length c] w fun e w' => e = .returned (.agg (w8s (rootL ls))) ∧ Below w.heap.size w w' := by
  have h : ∀ m, ∀ (ls : List (List Int)) (al : Option Addr) (c : Nat) (w : World), ls.length ≤ m → ls.length ≤ 1000 → ls.length ≤ c → RB w al ls →
      Calls Tryd.prog 24 #[.slice al ls.length c] w fun e w' => e = .returned (.agg (w8s (rootL ls))) ∧ Below w.heap.size w w' := by
    intro m
    induction m with
    | zero => exact fun ls al c w hm hn hc hR => refroot_step ls al c w hn hc hR (fun ls2 _ _ _ hl _ _ => by omega)
    | succ m ih => exact fun ls al c w hm hn hc hR => refroot_step ls al c w hn hc hR (fun ls2 al2 c2 w2 hl hc2 hR2 => ih ls2 al2 c2 w2 (by omega) (by omega) hc2 hR2)
  exact h ls.length ls al c w (Nat.le_refl _) hn hc hR
theorem leaf_32 (B : List Int) : (leafL B).length = 32 := shaL_len _
theorem leaf_8 (B : List Int) : ∀ x, x ∈ leafL B → W8 x := shaL_byte _
theorem inner_32 (A B : List Int) : (innerL A B).length = 32 := shaL_len _
theorem inner_8 (A B : List Int) : ∀ x, x ∈ innerL A B → W8 x := shaL_byte _
end Go.Proofs.YtebnlklodokhkaaDoor
