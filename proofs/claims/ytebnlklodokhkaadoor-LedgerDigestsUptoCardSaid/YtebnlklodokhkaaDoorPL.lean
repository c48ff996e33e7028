/-
  The contracts of the program's Leaf and Inner.
-/
import Derived.Test.YtebnlklodokhkaaDoorPD
namespace Go.Proofs.YtebnlklodokhkaaDoor
open Go.RowKit
set_option linter.unusedSimpArgs false

theorem rb_row {V : World} {g : Nat} {vs : Array Value} {fr : Nat × Nat} {ls : List (List Int)} (h : V.heap[g]? = some (.cells vs 53 fr))
    (hv : ∀ i, i < ls.length → ∃ ai ci, vs[i]? = some (.slice ai (ls.getD i []).length ci) ∧ Sl V ai ci (ls.getD i []) ∧ (ls.getD i []).length ≤ ci ∧ (∀ x, x ∈ ls.getD i [] → W8 x) ∧ (ls.getD i []).length ≤ 300000) : RB V (some ⟨g, 0, none⟩) ls := fun i hi => by
  obtain ⟨ai, ci, e, r⟩ := hv i hi
  refine ⟨g, 0, ai, ci, rfl, (Array.getElem?_eq_some_iff.1 h).1, ?_, r⟩
  rw [Nat.zero_add, cell_of_row _ g i _ 53 fr h]
  exact e
theorem build_parts2 (a b : Option Addr) (n1 c1 n2 c2 : Nat) (w : World) : (Instr.buildSlice 52 2 #[(0, .slice a n1 c1), (1, .slice b n2 c2)]).run Tryd.prog w = .ok (.slice (some ⟨w.heap.size, 0, none⟩) 2 2) (w.alloc (.cells #[.slice a n1 c1, .slice b n2 c2] 53)) := by
  obtain ⟨i0, hi, hz0, hz1, hz2⟩ := info_parts info22
  refine run_buildSlice w 52 53 2 _ #[.slice a n1 c1, .slice b n2 c2] i0 _ (by kernel_rfl) hi hz0 (by rw [hz1]; omega) (by rw [hz1]; omega) ?_
  rw [hz1]
  kernel_rfl
theorem build_parts3 (a b d : Option Addr) (n1 c1 n2 c2 n3 c3 : Nat) (w : World) : (Instr.buildSlice 52 3 #[(0, .slice a n1 c1), (1, .slice b n2 c2), (2, .slice d n3 c3)]).run Tryd.prog w = .ok (.slice (some ⟨w.heap.size, 0, none⟩) 3 3) (w.alloc (.cells #[.slice a n1 c1, .slice b n2 c2, .slice d n3 c3] 53)) := by
  obtain ⟨i0, hi, hz0, hz1, hz2⟩ := info_parts info22
  refine run_buildSlice w 52 53 3 _ #[.slice a n1 c1, .slice b n2 c2, .slice d n3 c3] i0 _ (by kernel_rfl) hi hz0 (by rw [hz1]; omega) (by rw [hz1]; omega) ?_
  rw [hz1]
  kernel_rfl

set_option maxRecDepth 100000 in
set_option maxHeartbeats 4000000 in
theorem pleaf_any (B : List Int) (a : Option Addr) (c : Nat) (w : World) (hG : Glob w) (hS : Sl w a c B) (hc : B.length ≤ c) (h8 : ∀ x, x ∈ B → W8 x) (hn : B.length ≤ 300000) :
    Calls Tryd.prog 39 #[.slice a B.length c] w fun e w' => e = .returned (.agg (w8s (leafL B))) ∧ Below w.heap.size w w' := by
  have hg2 := hG.size
  have hb0 : Below w.heap.size w (w.alloc (.cells (w8s (List.replicate 32 0)) 32)) := (Below.refl _ _).alloc (by simp) _
  have hA0 : Ab (w.alloc (.cells (w8s (List.replicate 32 0)) 32)) w.heap.size 32 (List.replicate 32 0) := heap_alloc_last _ _
  have hs0 : (w.alloc (.cells (w8s (List.replicate 32 0)) 32)).heap.size = w.heap.size + 1 := by simp
  obtain ⟨S, hSS⟩ : ∃ S, S = leafL B := ⟨_, rfl⟩
  have hsS : (w8s S).size = 32 := by rw [hSS, size_w8s]; exact leaf_32 _
  have CD := fun (V : World) (al : Option Addr) (h : RB V al [[0], B]) (hV : Glob V) => digest_any [[0], B] al 2 V hV (by simp) h (by simp; omega)
  rw [show shaL [[0], B].flatten = S by rw [hSS]; simp [leafL]] at CD
  rw [← hSS]
  clear hSS
  go_enter Tryd.func39, Tryd.ntmps39
  go_upto_region 1 with fail
  change Code.wp _ _ _ _ (w.alloc (.cells (w8s (List.replicate 32 0)) 32))
  generalize w.alloc (.cells (w8s (List.replicate 32 0)) 32) = W at *
  have hb1 : Below W.heap.size W (W.alloc (.cells #[.int .u8 0] 5)) := (Below.refl _ _).alloc (Nat.le_refl _) _
  have h01 : Sl (W.alloc (.cells #[.int .u8 0] 5)) (some ⟨W.heap.size, 0, none⟩) 1 [0] := sl_one W 0 5
  have hs1 : (W.alloc (.cells #[.int .u8 0] 5)).heap.size = W.heap.size + 1 := by simp
  obtain ⟨V, hV⟩ : ∃ V, V = (W.alloc (.cells #[.int .u8 0] 5)).alloc (.cells #[.slice (some ⟨W.heap.size, 0, none⟩) 1 1, .slice a B.length c] 53) := ⟨_, rfl⟩
  have hb2 : Below (W.heap.size + 1) (W.alloc (.cells #[.int .u8 0] 5)) V := by rw [hV]; exact (Below.refl _ _).alloc (by omega) _
  have hl2 : V.heap[W.heap.size + 1]? = some (.cells #[.slice (some ⟨W.heap.size, 0, none⟩) 1 1, .slice a B.length c] 53 (0, 0)) := by rw [hV, ← hs1]; exact heap_alloc_last _ _
  have hb12 : Below W.heap.size W V := hb1.trans (hb2.mono (by omega))
  have hSV : Sl V a c B := sl_below hS (hb0.trans (hb12.mono (by omega)))
  have hS1V : Sl V (some ⟨W.heap.size, 0, none⟩) 1 [0] := sl_below h01 (hb2.mono (by omega))
  have hRB : RB V (some ⟨W.heap.size + 1, 0, none⟩) [[0], B] := rb_row hl2 fun i hi => by
    have hi2 : i = 0 ∨ i = 1 := by simp at hi; omega
    rcases hi2 with rfl | rfl
    · exact ⟨_, _, rfl, hS1V, Nat.le_refl _, fun x hx => by rw [List.mem_singleton.1 hx]; exact ⟨by omega, by omega⟩, by simp⟩
    · exact ⟨_, _, rfl, hSV, hc, h8, hn⟩
  have hGV : Glob V := hG.below hg2 (hb0.trans (hb12.mono (by omega)))
  have hZV := hA0.below (by omega) (hb12.mono (Nat.le_refl _))
  have hBV : Below w.heap.size w V := hb0.trans (hb12.mono (by omega))
  have C := CD V _ hRB hGV
  have HBS := build_parts2 (some ⟨W.heap.size, 0, none⟩) a 1 1 B.length c (W.alloc (.cells #[.int .u8 0] 5))
  rw [hs1, ← hV] at HBS
  clear CD hRB hSV hS1V hl2 hV h01
  apply wp_region_lit
  refine gw_build (by kernel_rfl) (some 3) rfl 53 1 #[(0, .const (.int .u8 0))] rfl #[(0, .int .u8 0)] (by kernel_rfl) (.slice (some ⟨W.heap.size, 0, none⟩) 1 1) (W.alloc (.cells #[.int .u8 0] 5)) (by kernel_rfl) ?_
  simp only [Act.put, List.setIfInBounds_toArray, List.set_cons_succ, List.set_cons_zero]
  refine gw_val (by kernel_rfl) (some 4) rfl (.slice a B.length c) (by kernel_rfl) ?_
  simp only [Act.put, List.setIfInBounds_toArray, List.set_cons_succ, List.set_cons_zero]
  refine gw_build (by kernel_rfl) (some 5) rfl 52 2 #[(0, .tmp 3), (1, .tmp 4)] rfl #[(0, .slice (some ⟨W.heap.size, 0, none⟩) 1 1), (1, .slice a B.length c)] (by kernel_rfl) _ _ HBS ?_
  simp only [Act.put, List.setIfInBounds_toArray, List.set_cons_succ, List.set_cons_zero]
  refine gw_call (by kernel_rfl) (some 6) rfl 61 #[.slice (some ⟨W.heap.size + 1, 0, none⟩) 2 2] (.agg (w8s S)) (Below V.heap.size V) (by kernel_rfl) C (fun V1 hbx => ?_)
  simp only [Act.put, List.setIfInBounds_toArray, List.set_cons_succ, List.set_cons_zero]
  have hZ1 := hZV.below hZV.lt hbx
  have hB1 := hBV.trans (hbx.mono hBV.size)
  clear hZV hBV hbx C HBS hGV hb12 hb2 hb1 hb0 hA0
  obtain ⟨G0, hG0⟩ : ∃ G0, G0 = w.heap.size := ⟨_, rfl⟩
  have HG0 : w.heap.size ≤ G0 := by omega
  rw [← hG0] at hZ1
  rw [← hG0]
  apply wpList_store_at (ty := 32) (x := .tmp 2) (y := .tmp 6) (g := G0) (c := w8s (List.replicate 32 0)) (c' := w8s S)
  case hgd => rfl
  case ho => rfl
  case hx => kernel_rfl
  case hy => kernel_rfl
  case hg => exact hZ1
  case hi => rw [hsS]; kernel_rfl
  case hz => rw [hsS]; rfl
  case h1 => exact one_w8s _
  apply wpList_nil
  have hA9 : Ab (V1.setRow G0 (w8s S)) G0 32 S := setRow_heap _ _ _ _ _ _ hZ1
  have hb9 := belowRow hB1 HG0 (w8s S)
  generalize V1.setRow G0 (w8s S) = V9 at *
  simp only [Act.put]
  clear hZ1 hB1
  go_wp2_with fail
  refine bodyPost_ret (v := .agg (w8s S)) ?_ rfl ⟨rfl, hb9⟩
  refine results_cell_row (fn := Tryd.f39) (p := 2) (ty := 32) rfl _ _ G0 32 (w8s S) (0, 0) (.array 32 5) rfl hA9 ?_ rfl ?_
  · kernel_rfl
  · rw [hsS]; kernel_rfl

set_option maxRecDepth 100000 in
set_option maxHeartbeats 4000000 in
theorem pinner_any (A B : List Int) (w : World) (hG : Glob w) (hA : A.length = 32) (hB : B.length = 32) (hA8 : ∀ x, x ∈ A → W8 x) (hB8 : ∀ x, x ∈ B → W8 x) :
    Calls Tryd.prog 41 #[.agg (w8s A), .agg (w8s B)] w fun e w' => e = .returned (.agg (w8s (innerL A B))) ∧ Below w.heap.size w w' := by
  have hg2 := hG.size
  have h1 : Ab (w.alloc (.cells (w8s A) 32)) w.heap.size 32 A := heap_alloc_last w _
  have h2 : Ab ((w.alloc (.cells (w8s A) 32)).alloc (.cells (w8s B) 32)) (w.heap.size + 1) 32 B := by
    have := heap_alloc_last (w.alloc (.cells (w8s A) 32)) (.cells (w8s B) 32)
    simpa [Ab] using this
  have h3 : Ab (((w.alloc (.cells (w8s A) 32)).alloc (.cells (w8s B) 32)).alloc (.cells (w8s (List.replicate 32 0)) 32)) (w.heap.size + 2) 32 (List.replicate 32 0) := by
    have := heap_alloc_last ((w.alloc (.cells (w8s A) 32)).alloc (.cells (w8s B) 32)) (.cells (w8s (List.replicate 32 0)) 32)
    simpa [Ab] using this
  have hA1 := (h1.alloc (.cells (w8s B) 32)).alloc (.cells (w8s (List.replicate 32 0)) 32)
  have hB1 := h2.alloc (.cells (w8s (List.replicate 32 0)) 32)
  have hb1 : Below w.heap.size w (((w.alloc (.cells (w8s A) 32)).alloc (.cells (w8s B) 32)).alloc (.cells (w8s (List.replicate 32 0)) 32)) := (((Below.refl _ w).alloc (by simp) _).alloc (by simp) _).alloc (by simp; omega) _
  have hs1 : (((w.alloc (.cells (w8s A) 32)).alloc (.cells (w8s B) 32)).alloc (.cells (w8s (List.replicate 32 0)) 32)).heap.size = w.heap.size + 3 := by simp
  obtain ⟨S, hSS⟩ : ∃ S, S = innerL A B := ⟨_, rfl⟩
  have hsS : (w8s S).size = 32 := by rw [hSS, size_w8s]; exact inner_32 _ _
  have CD := fun (V : World) (al : Option Addr) (h : RB V al [[1], A, B]) (hV : Glob V) => digest_any [[1], A, B] al 3 V hV (by simp) h (by simp [hA, hB])
  rw [show shaL [[1], A, B].flatten = S by rw [hSS]; simp [innerL]] at CD
  rw [← hSS]
  clear hSS h1 h2
  go_enter Tryd.func41, Tryd.ntmps41
  go_upto_region 1 with fail
  change Code.wp _ _ _ _ (((w.alloc (.cells (w8s A) 32)).alloc (.cells (w8s B) 32)).alloc (.cells (w8s (List.replicate 32 0)) 32))
  generalize ((w.alloc (.cells (w8s A) 32)).alloc (.cells (w8s B) 32)).alloc (.cells (w8s (List.replicate 32 0)) 32) = W at *
  have hP : P3 w A B (List.replicate 32 0) W := ⟨hA1, hB1, h3, hb1, by omega⟩
  have hsl0 := slice_key w.heap.size
  have hsl1 := slice_key (w.heap.size + 1)
  have hbs := fun V => build_parts3 (some ⟨W.heap.size, 0, none⟩) (some ⟨w.heap.size, 0, none⟩) (some ⟨w.heap.size + 1, 0, none⟩) 1 1 32 32 32 32 V
  obtain ⟨V, hV⟩ : ∃ V, V = ((W.alloc (.cells #[.int .u8 1] 5)).alloc (.cells #[.slice (some ⟨W.heap.size, 0, none⟩) 1 1, .slice (some ⟨w.heap.size, 0, none⟩) 32 32, .slice (some ⟨w.heap.size + 1, 0, none⟩) 32 32] 53)).drew := ⟨_, rfl⟩
  have hs1' : (W.alloc (.cells #[.int .u8 1] 5)).heap.size = W.heap.size + 1 := by simp
  have hbV1 : Below W.heap.size W (W.alloc (.cells #[.int .u8 1] 5)) := (Below.refl _ _).alloc (Nat.le_refl _) _
  have hbV2 : Below (W.heap.size + 1) (W.alloc (.cells #[.int .u8 1] 5)) V := by rw [hV]; exact ((Below.refl _ _).alloc (by omega) _).drew
  have hbV : Below W.heap.size W V := hbV1.trans (hbV2.mono (by omega))
  have h01 : Sl V (some ⟨W.heap.size, 0, none⟩) 1 [1] := sl_below (sl_one W 1 5) (hbV2.mono (by omega))
  have hl2 : V.heap[W.heap.size + 1]? = some (.cells #[.slice (some ⟨W.heap.size, 0, none⟩) 1 1, .slice (some ⟨w.heap.size, 0, none⟩) 32 32, .slice (some ⟨w.heap.size + 1, 0, none⟩) 32 32] 53 (0, 0)) := by
    rw [hV, ← hs1']
    exact heap_alloc_last _ _
  have hPV : P3 w A B (List.replicate 32 0) V := hP.below hbV (by omega)
  have hRB : RB V (some ⟨W.heap.size + 1, 0, none⟩) [[1], A, B] := rb_row hl2 fun i hi => by
    have hi2 : i = 0 ∨ i = 1 ∨ i = 2 := by simp at hi; omega
    rcases hi2 with rfl | rfl | rfl
    · exact ⟨_, _, rfl, h01, Nat.le_refl _, fun x hx => by rw [List.mem_singleton.1 hx]; exact ⟨by omega, by omega⟩, by simp⟩
    · exact ⟨_, 32, by simp [hA], hPV.1.sl, by simp [hA], hA8, by simp [hA]⟩
    · exact ⟨_, 32, by simp [hB], hPV.2.1.sl, by simp [hB], hB8, by simp [hB]⟩
  have C := CD V _ hRB (hG.below hg2 hPV.2.2.2.1)
  rw [hV] at C
  have HPV := Lib.hid hPV
  rw [hV] at HPV
  have hq : S.length = 32 := by simpa using hsS
  have hi9 : (Tryd.prog.info? 32).map (·.size) = some (w8s S).size := by rw [hsS]; kernel_rfl
  have HI9 := Lib.hid hi9
  have HSS := Lib.hid hsS
  have HQ := Lib.hid hq
  have hone := one_cells S
  clear hA1 hB1 hb1 h3 hV hbV1 hbV2 hbV h01 hl2 hPV hRB hP CD hs1' hs1 hA hB hA8 hB8 hi9 hsS hq
  go_region_held3 (fun _ => True) (trivial) (first
    | (go_at_call 61; refine C.mono ?_; rintro e w3 ⟨rfl, hb3⟩; have hP3 := HPV.out.below hb3 HPV.out.2.2.2.2; have hth : w3.there (w.heap.size + 1 + 1) 0 (List.map (Value.int .u8) S).length := hP3.2.2.1.there _ (by rw [List.length_map, HQ.out]; simp)))
  have hA9 := hP3.2.2.1.all S (by rw [HQ.out]; rfl)
  have hb9 : Below w.heap.size w (w3.setCells (w.heap.size + 2) 0 (S.map (Value.int .u8))) := hP3.2.2.2.1.trans ((But.setCells _ _ _).below (by omega))
  have HA9 := Lib.hid hA9
  have HB9 := Lib.hid hb9
  clear hA9 hb9 hP3 hth hone hb3 C HPV
  generalize w3.setCells (w.heap.size + 1 + 1) 0 (S.map (Value.int .u8)) = V9 at *
  go_wp2_with fail
  refine bodyPost_ret (v := .agg (w8s S)) ?_ rfl ⟨rfl, HB9.out⟩
  refine results_cell_row (fn := Tryd.f41) (p := 4) (ty := 32) rfl _ _ (w.heap.size + 2) 32 (w8s S) (0, 0) (.array 32 5) rfl HA9.out ?_ rfl ?_
  · kernel_rfl
  · exact HI9.out
end Go.Proofs.YtebnlklodokhkaaDoor
