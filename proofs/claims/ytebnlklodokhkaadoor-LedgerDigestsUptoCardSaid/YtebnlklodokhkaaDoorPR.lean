/-
  The contract of the program's Root.
-/
import Derived.Test.YtebnlklodokhkaaDoorPL
namespace Go.Proofs.YtebnlklodokhkaaDoor
open Go.RowKit
set_option linter.unusedSimpArgs false

/-- What a call of the program's Root keeps. -/
def PRC (w : World) (al : Option Addr) (ls : List (List Int)) (V : World) : Prop := Ab V w.heap.size 32 (List.replicate 32 0) ∧ RB V al ls ∧ Below w.heap.size w V ∧ Glob V
theorem PRC.below {w V V' : World} {al : Option Addr} {ls : List (List Int)} (h : PRC w al ls V) (hb : Below V.heap.size V V') : PRC w al ls V' := ⟨h.1.below h.1.lt hb, h.2.1.below hb, h.2.2.1.trans (hb.mono h.2.2.1.size), h.2.2.2.below h.2.2.2.size hb⟩

set_option maxRecDepth 100000 in
set_option maxHeartbeats 4000000 in
theorem proot_step (ls : List (List Int)) (al : Option Addr) (c : Nat) (w : World) (hG : Glob w) (hn : ls.length ≤ 1000) (hc : ls.length ≤ c) (hR : RB w al ls)
    (ih : ∀ (ls2 : List (List Int)) (al2 : Option Addr) (c2 : Nat) (w2 : World), ls2.length < ls.length → ls2.length ≤ c2 → RB w2 al2 ls2 → Glob w2 → Calls Tryd.prog 22 #[.slice al2 ls2.length c2] w2 fun e w' => e = .returned (.agg (w8s (rootL ls2))) ∧ Below w2.heap.size w2 w') :
    Calls Tryd.prog 22 #[.slice al ls.length c] w fun e w' => e = .returned (.agg (w8s (rootL ls))) ∧ Below w.heap.size w w' := by
  have hb0 : Below w.heap.size w (w.alloc (.cells (w8s (List.replicate 32 0)) 32)) := (Below.refl _ w).alloc (by simp) _
  have hC : PRC w al ls (w.alloc (.cells (w8s (List.replicate 32 0)) 32)) := ⟨heap_alloc_last w _, hR.below hb0, hb0, hG.below hG.size hb0⟩
  have hbytes := root_byte ls
  obtain ⟨S, hSS⟩ : ∃ S, S = rootL ls := ⟨_, rfl⟩
  have hsS : (w8s S).size = 32 := by rw [size_w8s, hSS]; exact hbytes.1
  rw [← hSS]
  rcases (show ls.length = 0 ∨ ls.length = 1 ∨ 2 ≤ ls.length by omega) with h0 | h1 | h2
  · have hS0 : S = shaL [] := hSS.trans (rootL_nil ls h0)
    rw [h0]
    have CS := fun V (h : Glob V) => fsum_any [] none 0 V h (.inl ⟨rfl, rfl, rfl⟩) (fun h => absurd rfl h) (by simp) (by simp) (by simp)
    rw [← hS0] at CS
    clear hS0 hSS h0 ih hR hn hc hbytes
    go_enter Tryd.func22, Tryd.ntmps22
    go_upto_region 3 with fail
    change Code.wp _ _ _ _ (w.alloc (.cells (w8s (List.replicate 32 0)) 32))
    generalize w.alloc (.cells (w8s (List.replicate 32 0)) 32) = W at *
    apply wp_region_lit
    refine gw_call (by kernel_rfl) (some 8) rfl 38 #[.slice none 0 0] (.agg (w8s S)) (Below W.heap.size W) (by kernel_rfl) (CS W hC.2.2.2) (fun V1 hb1 => ?_)
    have hC1 := hC.below hb1
    clear hC hb1 hb0 CS
    simp only [Act.put, List.setIfInBounds_toArray, List.set_cons_succ, List.set_cons_zero]
    apply wpList_store_at (ty := 32) (x := .tmp 2) (y := .tmp 8) (g := w.heap.size) (c := w8s (List.replicate 32 0)) (c' := w8s S)
    case hgd => rfl
    case ho => rfl
    case hx => kernel_rfl
    case hy => kernel_rfl
    case hg => exact hC1.1
    case hi => rw [hsS]; kernel_rfl
    case hz => rw [hsS]; rfl
    case h1 => exact one_w8s _
    apply wpList_nil
    have hA9 : Ab (V1.setRow w.heap.size (w8s S)) w.heap.size 32 S := setRow_heap _ _ _ _ _ _ hC1.1
    have hb9 := belowRow hC1.2.2.1 (Nat.le_refl w.heap.size) (w8s S)
    generalize V1.setRow w.heap.size (w8s S) = V9 at *
    simp only [Act.put]
    go_wp2_with fail
    refine bodyPost_ret (v := .agg (w8s S)) ?_ rfl ⟨rfl, hb9⟩
    refine results_cell_row (fn := Tryd.f22) (p := 2) (ty := 32) rfl _ _ w.heap.size 32 (w8s S) (0, 0) (.array 32 5) rfl hA9 ?_ rfl ?_
    · kernel_rfl
    · rw [hsS]; kernel_rfl
  · have hS1 : S = leafL (ls.getD 0 []) := hSS.trans (rootL_one ls h1)
    obtain ⟨b, off, ai, ci, rfl, hlt, hcl, hs, hl, h8, h3⟩ := hC.2.1 0 (by omega)
    have CL := fun V (h : Sl V ai ci (ls.getD 0 [])) (hV : Glob V) => pleaf_any (ls.getD 0 []) ai ci V hV h hl h8 h3
    rw [← hS1] at CL
    rw [h1]
    generalize ls.getD 0 [] = B at *
    clear hS1 hSS ih hR hn hc hbytes h8 h3 hl h1
    go_enter Tryd.func22, Tryd.ntmps22
    go_upto_region 5 with fail
    change Code.wp _ _ _ _ (w.alloc (.cells (w8s (List.replicate 32 0)) 32))
    generalize w.alloc (.cells (w8s (List.replicate 32 0)) 32) = W at *
    apply wp_region_lit
    refine gw_val (by kernel_rfl) (some 11) rfl (.slice (some ⟨b, off, none⟩) 1 c) (by kernel_rfl) ?_
    simp only [Act.put, List.setIfInBounds_toArray, List.set_cons_succ, List.set_cons_zero]
    refine gw_val (by kernel_rfl) (some 12) rfl (.pointer (some ⟨b, off, none⟩)) (by kernel_rfl) ?_
    simp only [Act.put, List.setIfInBounds_toArray, List.set_cons_succ, List.set_cons_zero]
    refine gw_load (by kernel_rfl) (some 13) rfl 53 (.tmp 12) rfl ⟨b, off, none⟩ (.slice ai B.length ci) (by kernel_rfl) (load_one (by rw [Nat.add_zero] at hcl; exact hcl) (by kernel_rfl)) ?_
    simp only [Act.put, List.setIfInBounds_toArray, List.set_cons_succ, List.set_cons_zero]
    refine gw_call (by kernel_rfl) (some 14) rfl 39 #[.slice ai B.length ci] (.agg (w8s S)) (Below W.heap.size W) (by kernel_rfl) (CL W hs hC.2.2.2) (fun V1 hb1 => ?_)
    have hC1 := hC.below hb1
    clear hC hb1 hb0 CL hs hcl hlt
    simp only [Act.put, List.setIfInBounds_toArray, List.set_cons_succ, List.set_cons_zero]
    apply wpList_store_at (ty := 32) (x := .tmp 2) (y := .tmp 14) (g := w.heap.size) (c := w8s (List.replicate 32 0)) (c' := w8s S)
    case hgd => rfl
    case ho => rfl
    case hx => kernel_rfl
    case hy => kernel_rfl
    case hg => exact hC1.1
    case hi => rw [hsS]; kernel_rfl
    case hz => rw [hsS]; rfl
    case h1 => exact one_w8s _
    apply wpList_nil
    have hA9 : Ab (V1.setRow w.heap.size (w8s S)) w.heap.size 32 S := setRow_heap _ _ _ _ _ _ hC1.1
    have hb9 := belowRow hC1.2.2.1 (Nat.le_refl w.heap.size) (w8s S)
    generalize V1.setRow w.heap.size (w8s S) = V9 at *
    simp only [Act.put]
    go_wp2_with fail
    refine bodyPost_ret (v := .agg (w8s S)) ?_ rfl ⟨rfl, hb9⟩
    refine results_cell_row (fn := Tryd.f22) (p := 2) (ty := 32) rfl _ _ w.heap.size 32 (w8s S) (0, 0) (.array 32 5) rfl hA9 ?_ rfl ?_
    · kernel_rfl
    · rw [hsS]; kernel_rfl
  · obtain ⟨k1, k2, k3⟩ := halfN_spec ls.length h2
    have hS2 : S = innerL (rootL (ls.take (halfN ls.length))) (rootL (ls.drop (halfN ls.length))) := hSS.trans (rootL_two ls h2)
    have hX := root_byte (ls.take (halfN ls.length))
    have hY := root_byte (ls.drop (halfN ls.length))
    have htl : (ls.take (halfN ls.length)).length = halfN ls.length := by rw [List.length_take]; omega
    have hdl : (ls.drop (halfN ls.length)).length = ls.length - halfN ls.length := by rw [List.length_drop]
    have CX := fun (V : World) (h : PRC w al ls V) => (ih (ls.take (halfN ls.length)) al c V (by omega) (by omega) (h.2.1.take _) h.2.2.2).mono fun e w' (q : e = .returned (.agg (w8s (rootL (ls.take (halfN ls.length))))) ∧ Below V.heap.size V w') => (⟨q.1, h.below q.2⟩ : e = .returned (.agg (w8s (rootL (ls.take (halfN ls.length))))) ∧ PRC w al ls w')
    have CY := fun (V : World) (h : PRC w al ls V) => (ih (ls.drop (halfN ls.length)) (fromA al c (halfN ls.length)) (c - halfN ls.length) V (by omega) (by omega) (h.2.1.from c _ hc) h.2.2.2).mono fun e w' (q : e = .returned (.agg (w8s (rootL (ls.drop (halfN ls.length))))) ∧ Below V.heap.size V w') => (⟨q.1, h.below q.2⟩ : e = .returned (.agg (w8s (rootL (ls.drop (halfN ls.length))))) ∧ PRC w al ls w')
    have CI := fun (V : World) (h : PRC w al ls V) => (pinner_any (rootL (ls.take (halfN ls.length))) (rootL (ls.drop (halfN ls.length))) V h.2.2.2 hX.1 hY.1 hX.2 hY.2).mono fun e w' (q : e = .returned (.agg (w8s (innerL (rootL (ls.take (halfN ls.length))) (rootL (ls.drop (halfN ls.length)))))) ∧ Below V.heap.size V w') => (⟨q.1, h.below q.2⟩ : e = .returned (.agg (w8s (innerL (rootL (ls.take (halfN ls.length))) (rootL (ls.drop (halfN ls.length)))))) ∧ PRC w al ls w')
    have CH := fun V => phalf_any ls.length V h2 (by omega)
    have e1 := fun V => rows_to al ls.length c (halfN ls.length) V (by omega)
    have e2 := fun V => rows_from al ls.length c (halfN ls.length) V (by omega)
    rw [← hS2] at CI
    rw [htl] at CX
    rw [hdl] at CY
    generalize rootL (ls.take (halfN ls.length)) = X at *
    generalize rootL (ls.drop (halfN ls.length)) = Y at *
    generalize halfN ls.length = k at *
    generalize hl : ls.length = n at *
    have hd0 : ((n : Int) == 0) = false := by simp; omega
    have hd1 : ((n : Int) == 1) = false := by simp; omega
    clear hl hS2 hSS ih hR hbytes hX hY htl hdl
    go_enter Tryd.func22, Tryd.ntmps22
    go_upto_region 6 with fail
    change Code.wp _ _ _ _ (w.alloc (.cells (w8s (List.replicate 32 0)) 32))
    generalize w.alloc (.cells (w8s (List.replicate 32 0)) 32) = W at *
    go_upto_region 7 with (go_at_call 40; refine (CH _).mono ?_; rintro e w1 ⟨rfl, rfl⟩)
    refine wp_region_class_tail (PRC w al ls) 9 (by kernel_rfl) (by kernel_rfl) (hC.below (Below.refl _ W).drew) ?_
    refine gq_val (by kernel_rfl) (some 18) rfl (.slice al n c) (fun w' _ => by kernel_rfl) ?_
    simp only [Act.put, List.setIfInBounds_toArray, List.set_cons_succ, List.set_cons_zero]
    refine gq_val (by kernel_rfl) (some 19) rfl (.int .i64 k) (fun w' _ => by kernel_rfl) ?_
    simp only [Act.put, List.setIfInBounds_toArray, List.set_cons_succ, List.set_cons_zero]
    refine wpQ_slice_to rfl 52 (.tmp 18) (.tmp 19) rfl (.slice al n c) (.int .i64 k) (.slice al k c) (by kernel_rfl) (by kernel_rfl) (fun w' _ => e1 w') ?_
    simp only [Act.put, List.setIfInBounds_toArray, List.set_cons_succ, List.set_cons_zero]
    refine gq_call (by kernel_rfl) (some 21) rfl 22 #[.slice al k c] (.agg (w8s X)) (fun w' _ => by kernel_rfl) (fun w' hC => CX w' hC) ?_
    simp only [Act.put, List.setIfInBounds_toArray, List.set_cons_succ, List.set_cons_zero]
    refine gq_val (by kernel_rfl) (some 22) rfl (.slice al n c) (fun w' _ => by kernel_rfl) ?_
    simp only [Act.put, List.setIfInBounds_toArray, List.set_cons_succ, List.set_cons_zero]
    refine gq_val (by kernel_rfl) (some 23) rfl (.int .i64 k) (fun w' _ => by kernel_rfl) ?_
    simp only [Act.put, List.setIfInBounds_toArray, List.set_cons_succ, List.set_cons_zero]
    refine wpQ_slice_lo rfl 52 (.tmp 22) (.tmp 23) rfl (.slice al n c) (.int .i64 k) (.slice (fromA al c k) (n - k) (c - k)) (by kernel_rfl) (by kernel_rfl) (fun w' _ => e2 w') ?_
    simp only [Act.put, List.setIfInBounds_toArray, List.set_cons_succ, List.set_cons_zero]
    refine gq_call (by kernel_rfl) (some 25) rfl 22 #[.slice (fromA al c k) (n - k) (c - k)] (.agg (w8s Y)) (fun w' _ => by kernel_rfl) (fun w' hC => CY w' hC) ?_
    simp only [Act.put, List.setIfInBounds_toArray, List.set_cons_succ, List.set_cons_zero]
    refine gq_call (by kernel_rfl) (some 26) rfl 41 #[.agg (w8s X), .agg (w8s Y)] (.agg (w8s S)) (fun w' _ => by kernel_rfl) (fun w' hC => CI w' hC) ?_
    simp only [Act.put, List.setIfInBounds_toArray, List.set_cons_succ, List.set_cons_zero]
    refine wpQuiet_nil ?_
    intro V1 hC1
    clear hC hb0 CX CY CI CH e1 e2
    apply wpList_store_at (ty := 32) (x := .tmp 2) (y := .tmp 26) (g := w.heap.size) (c := w8s (List.replicate 32 0)) (c' := w8s S)
    case hgd => rfl
    case ho => rfl
    case hx => kernel_rfl
    case hy => kernel_rfl
    case hg => exact hC1.1
    case hi => rw [hsS]; kernel_rfl
    case hz => rw [hsS]; rfl
    case h1 => exact one_w8s _
    apply wpList_nil
    have hA9 : Ab (V1.setRow w.heap.size (w8s S)) w.heap.size 32 S := setRow_heap _ _ _ _ _ _ hC1.1
    have hb9 := belowRow hC1.2.2.1 (Nat.le_refl w.heap.size) (w8s S)
    generalize V1.setRow w.heap.size (w8s S) = V9 at *
    simp only [Act.put]
    go_wp2_with fail
    refine bodyPost_ret (v := .agg (w8s S)) ?_ rfl ⟨rfl, hb9⟩
    refine results_cell_row (fn := Tryd.f22) (p := 2) (ty := 32) rfl _ _ w.heap.size 32 (w8s S) (0, 0) (.array 32 5) rfl hA9 ?_ rfl ?_
    · kernel_rfl
    · rw [hsS]; kernel_rfl

theorem proot_any (ls : List (List Int)) (al : Option Addr) (c : Nat) (w : World) (hG : Glob w) (hn : ls.length ≤ 1000) (hc : ls.length ≤ c) (hR : RB w al ls) :
    Calls Tryd.prog 22 #[.slice al ls.length c] w fun e w' => e = .returned (.agg (w8s (rootL ls))) ∧ Below w.heap.size w w' := by
  have h : ∀ m, ∀ (ls : List (List Int)) (al : Option Addr) (c : Nat) (w : World), ls.length ≤ m → ls.length ≤ 1000 → ls.length ≤ c → RB w al ls → Glob w →
      Calls Tryd.prog 22 #[.slice al ls.length c] w fun e w' => e = .returned (.agg (w8s (rootL ls))) ∧ Below w.heap.size w w' := by
    intro m
    induction m with
    | zero => exact fun ls al c w hm hn hc hR hG => proot_step ls al c w hG hn hc hR (fun ls2 _ _ _ hl _ _ _ => by omega)
    | succ m ih => exact fun ls al c w hm hn hc hR hG => proot_step ls al c w hG hn hc hR (fun ls2 al2 c2 w2 hl hc2 hR2 hG2 => ih ls2 al2 c2 w2 (by omega) (by omega) hc2 hR2 hG2)
  exact h ls.length ls al c w (Nat.le_refl _) hn hc hR hG
end Go.Proofs.YtebnlklodokhkaaDoor
