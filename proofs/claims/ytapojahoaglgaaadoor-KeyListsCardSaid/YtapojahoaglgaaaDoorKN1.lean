/-
  The fixed example of stage 5 returns true.
-/
import Derived.Test.YtapojahoaglgaaaDoorKQ
namespace Go.Proofs.YtapojahoaglgaaaDoor
open Go.RowKit

/-- What a step of the example knows of its world: the key and the key that was read. -/
def KW (w : World) (g1 g3 : Nat) (A : List Int) (wx : World) : Prop := Ab wx g1 25 A ∧ Ab wx g3 25 A ∧ Below w.heap.size w wx
theorem KW.below {w wx w' : World} {g1 g3 : Nat} {A : List Int} (h : KW w g1 g3 A wx) (hb : Below wx.heap.size wx w') : KW w g1 g3 A w' :=
  ⟨h.1.below h.1.lt hb, h.2.1.below h.2.1.lt hb, h.2.2.trans (hb.mono h.2.2.size)⟩
theorem outs_byte (h : List Int) (n : Nat) : ∀ x, x ∈ outs h n → W8 x := by
  induction n with
  | zero => intro x hx; cases hx
  | succ n ih =>
    intro x hx
    rw [outs] at hx
    rcases List.mem_append.1 hx with hx | hx
    · exact ih x hx
    · rw [List.mem_singleton.1 hx]
      unfold outByte
      exact ⟨by omega, by omega⟩
theorem shaL_byte (L : List Int) : ∀ x, x ∈ shaL L → W8 x := outs_byte _ _
theorem hexL_byte (A : List Int) (h : ∀ x, x ∈ A → W8 x) : ∀ x, x ∈ hexL A → W8 x := by
  intro x hx
  obtain ⟨y, hy, hxy⟩ := List.mem_flatMap.1 hx
  obtain ⟨h0, h1⟩ := h y hy
  have hd : ∀ n : Int, 0 ≤ n → n < 16 → W8 (hexd n) := fun n a b => by
    unfold hexd W8
    split <;> omega
  simp only [List.mem_cons, List.not_mem_nil, or_false] at hxy
  rcases hxy with rfl | rfl
  · exact hd _ (by omega) (by omega)
  · exact hd _ (by omega) (by omega)
theorem hex_take (A : List Int) (n : Nat) : (hexL A).take (2 * n) = hexL (A.take n) := by
  induction A generalizing n with
  | nil => simp [hexL]
  | cons x A ih =>
    cases n with
    | zero => simp [hexL]
    | succ n =>
      have e : hexL (x :: A) = hexd (x / 16) :: hexd (x % 16) :: hexL A := rfl
      have e2 : hexL ((x :: A).take (n + 1)) = hexd (x / 16) :: hexd (x % 16) :: hexL (A.take n) := rfl
      rw [e, e2, show 2 * (n + 1) = 2 * n + 1 + 1 by omega, List.take_succ_cons, List.take_succ_cons, ih]
theorem str_take (L : List Int) (n : Nat) : (strOfNums L).extract 0 n = strOfNums (L.take n) := by
  apply ByteArray.ext
  apply Array.toList_inj.1
  rw [strOfNums_data]
  simp [strOfNums, List.map_take]
theorem str_slice8 (L : List Int) (h : 8 ≤ L.length) (w : World) : (Instr.slice 9 (.string (strOfNums L)) none (some (.int .i64 8)) none).run Tryd.prog w = .ok (.string (strOfNums (L.take 8))) w := by
  rw [← str_take L 8]
  have hs := strOfNums_size L
  have h1 : (8 : Int) ≤ ((strOfNums L).size : Int) := by rw [hs]; omega
  simp [Instr.slice, run_underlying Tryd.underlying9, Instr.sliceBounds, Instr.sliceBound, asIntOf, h1, go_sem]

theorem rk_two (A B : List Int) (hA : A.length = 32) (hB : B.length = 32) (w : World) : Rk (w.alloc (.cells (w8s (A ++ B)) 25)) (some ⟨w.heap.size, 0, none⟩) [A, B] := by
  intro i hi
  have hs2 : (w.alloc (.cells (w8s (A ++ B)) 25)).heap.size = w.heap.size + 1 := by simp
  have hi2 : i = 0 ∨ i = 1 := by simp at hi; omega
  refine ⟨w.heap.size, 0, rfl, by omega, fun j v hv => ?_, ?_⟩
  · rw [cell_of_row _ w.heap.size _ _ 25 (0, 0) (heap_alloc_last w _)]
    rcases hi2 with rfl | rfl
    · have hj : j < A.length := by
        rcases Nat.lt_or_ge j A.length with h | h
        · exact h
        · rw [List.getElem?_eq_none (by simpa using h)] at hv; cases hv
      simp only [List.getD_cons_zero] at hv
      rw [show 0 + 0 * 32 + j = j by omega, List.getElem?_toArray, List.map_append, List.getElem?_append_left (by simpa using hj)]
      exact hv
    · simp only [List.getD_cons_succ, List.getD_cons_zero] at hv
      rw [show 0 + 1 * 32 + j = 32 + j by omega, List.getElem?_toArray, List.map_append, List.getElem?_append_right (by rw [List.length_map]; omega), List.length_map, hA, show 32 + j - 32 = j by omega]
      exact hv
  · rcases hi2 with rfl | rfl
    · exact hA
    · exact hB

set_option maxRecDepth 100000 in
set_option maxHeartbeats 4000000 in
theorem known_true (w : World) (hG : Glob w) : Calls Tryd.prog 7 #[] w fun e w' => e = .returned (.bool true) ∧ Below w.heap.size w w' := by
  have C1 := of_any [] none 0 w hG (.inl ⟨rfl, rfl, rfl⟩) (by simp) (by simp) (by simp)
  obtain ⟨A, hA⟩ : ∃ A, A = shaL [] := ⟨_, rfl⟩
  rw [← hA] at C1
  have hAl : A.length = 32 := by rw [hA]; exact shaL_len _
  have hA4 : A.take 4 = [227, 176, 196, 66] := by rw [hA]; exact sha_empty
  have hA8 : ∀ x, x ∈ A → W8 x := by rw [hA]; exact shaL_byte _
  clear hA hG
  have hT8 : (hexL A).take 8 = [101, 51, 98, 48, 99, 52, 52, 50] := by rw [show 8 = 2 * 4 from rfl, hex_take, hA4]; decide
  have hTl : (hexL A).length = 64 := by rw [hexL_len, hAl]
  have hTs : (strOfNums (hexL A)).size = 64 := by rw [strOfNums_size, hTl]
  have hTn : nums (strOfNums (hexL A)) = hexL A := nums_str _ (hexL_byte A hA8)
  have hP := par_hex A hA8 hAl
  have CF := fun w => fmt_any A w hAl hA8
  have CP := fun w => par_any (strOfNums (hexL A)) w
  unfold ParB at CP
  rw [hTn, hP.1, hP.2] at CP
  obtain ⟨T, hT⟩ : ∃ T, T = strOfNums (hexL A) := ⟨_, rfl⟩
  have hT8' := fun w => str_slice8 (hexL A) (by omega) w
  rw [hT8] at hT8'
  rw [← hT] at CF CP hTs hT8'
  have CC := fun w => cmp_any A A w hAl hAl hA8 hA8
  rw [cmpL_self] at CC
  have hZl : (List.replicate 32 (0 : Int)).length = 32 := rfl
  have hRk : ∀ w : World, Rk (w.alloc (.cells (w8s (List.replicate 32 0 ++ A)) 25)) (some ⟨w.heap.size, 0, none⟩) [List.replicate 32 0, A] := fun w => by
    exact rk_two _ A rfl hAl w
  have hhas : hasL A [List.replicate 32 0, A] = true := by simp [hasL]
  have CH := fun (w : World) (g : Nat) (hR : Rk w (some ⟨g, 0, none⟩) [List.replicate 32 0, A]) => has_any (some ⟨g, 0, none⟩) 2 [List.replicate 32 0, A] A w hAl hR (by simp)
  rw [hhas] at CH
  have CD : ∀ w : World, Calls Tryd.prog 19 #[.slice none 0 0] w fun e w' => e = .returned (.bool true) ∧ Below w.heap.size w w' := fun w => dist_any none 0 [] w (fun i hi => by simp at hi) (by simp)
  have hbs := fun w => build_two (List.replicate 32 0) A hZl hAl w
  have hTz : (T.size : Int) = 64 := by omega
  have hsA : (w8s A).size = 32 := by rw [size_w8s, hAl]
  have HAL := Lib.hid hAl
  have HTZ := Lib.hid hTz
  clear hP hA8 hA4 hT8 hTl hTs hTn hT hTz
  go_enter Tryd.func7, Tryd.ntmps7
  go_upto_region 1 with fail
  apply wp_region_lit
  refine gw_call (by kernel_rfl) (some 5) rfl 8 #[.slice none 0 0] (.agg (w8s A)) (Below w.heap.size w) (by kernel_rfl) C1 (fun w1 hb1 => ?_)
  refine run_to rfl (some 1) rfl (.pointer (some ⟨w1.heap.size, 0, none⟩)) (w1.alloc (.cells (w8s (List.replicate 32 0)) 25)) (by kernel_rfl) ?_
  apply wpList_store_new (w := w1) (ty := 25) (x := .tmp 1) (y := .tmp 5) (c := w8s (List.replicate 32 0)) (c' := w8s A)
  case hgd => rfl
  case ho => rfl
  case hx => kernel_rfl
  case hy => kernel_rfl
  case hi => rw [hsA]; kernel_rfl
  case hz => rw [hsA]; rfl
  case h1 => exact one_w8s _
  apply wpList_nil
  have hA1 : Ab (w1.alloc (.cells (w8s A) 25)) w1.heap.size 25 A := heap_alloc_last _ _
  have hW1 := hb1.alloc hb1.size (.cells (w8s A) 25)
  generalize w1.alloc (.cells (w8s A) 25) = V1 at *
  have hg1 : w.heap.size ≤ w1.heap.size := hb1.size
  generalize w1.heap.size = g1 at *
  clear hb1 w1 C1
  simp only [Act.put, List.setIfInBounds_toArray, List.set_cons_succ, List.set_cons_zero]
  go_upto_region 2 with fail
  apply wp_region_lit
  refine gw_load (by kernel_rfl) (some 6) rfl 25 (.tmp 1) rfl ⟨g1, 0, none⟩ (.agg (w8s A)) (by kernel_rfl) (load_key hA1 HAL.out) ?_
  refine gw_call (by kernel_rfl) (some 7) rfl 12 #[.agg (w8s A)] (.string T) (Below V1.heap.size V1) (by kernel_rfl) (CF V1) (fun V2 hb2 => ?_)
  have hA2 := hA1.below hA1.lt hb2
  have hW2 := hW1.trans (hb2.mono hW1.size)
  clear hA1 hW1 hb2 CF
  simp only [Act.put, List.setIfInBounds_toArray, List.set_cons_succ, List.set_cons_zero]
  go_upto_region 3 with fail
  clear V1
  apply wp_region_lit
  refine gw_val (by kernel_rfl) (some 9) rfl (.string T) (by kernel_rfl) ?_
  refine gw_call (by kernel_rfl) (some 10) rfl 14 #[.string T] (.tuple #[.agg (w8s A), .int .i64 0]) (Below V2.heap.size V2) (by kernel_rfl) (CP V2) (fun V3 hb3 => ?_)
  have hA3 := hA2.below hA2.lt hb3
  have hW3 := hW2.trans (hb3.mono hW2.size)
  clear hA2 hW2 hb3 CP
  refine gw_val (by kernel_rfl) (some 8) rfl (.tuple #[.agg (w8s A), .int .i64 0]) (by kernel_rfl) ?_
  refine gw_val (by kernel_rfl) (some 11) rfl (.agg (w8s A)) (by kernel_rfl) ?_
  refine gw_val (by kernel_rfl) (some 12) rfl (.int .i64 0) (by kernel_rfl) ?_
  refine run_to rfl (some 3) rfl (.pointer (some ⟨V3.heap.size, 0, none⟩)) (V3.alloc (.cells (w8s (List.replicate 32 0)) 25)) (by kernel_rfl) ?_
  apply wpList_store_new (w := V3) (ty := 25) (x := .tmp 3) (y := .tmp 11) (c := w8s (List.replicate 32 0)) (c' := w8s A)
  case hgd => rfl
  case ho => rfl
  case hx => kernel_rfl
  case hy => kernel_rfl
  case hi => rw [hsA]; kernel_rfl
  case hz => rw [hsA]; rfl
  case h1 => exact one_w8s _
  refine gw_val (by kernel_rfl) (some 4) rfl (.int .i64 0) (by kernel_rfl) ?_
  apply wpList_nil
  have hK : KW w g1 V3.heap.size A (V3.alloc (.cells (w8s A) 25)) := ⟨hA3.alloc _, heap_alloc_last _ _, hW3.alloc hW3.size _⟩
  generalize V3.alloc (.cells (w8s A) 25) = V4 at *
  generalize V3.heap.size = g3 at *
  clear hA3 hW3
  simp only [Act.put, List.setIfInBounds_toArray, List.set_cons_succ, List.set_cons_zero]
  go_upto_region 4 with fail
  apply wp_region_lit
  refine gw_val (by kernel_rfl) (some 13) rfl (.string T) (by kernel_rfl) ?_
  simp only [Act.put, List.setIfInBounds_toArray, List.set_cons_succ, List.set_cons_zero]
  refine gw_val (by kernel_rfl) (some 14) rfl (.int .i64 (T.size : Int)) (by kernel_rfl) ?_
  simp only [Act.put, List.setIfInBounds_toArray, List.set_cons_succ, List.set_cons_zero]
  rw [HTZ.out]
  refine gw_val (by kernel_rfl) (some 15) rfl (.bool true) (by kernel_rfl) ?_
  simp only [Act.put, List.setIfInBounds_toArray, List.set_cons_succ, List.set_cons_zero]
  refine gw_val (by kernel_rfl) (some 16) rfl (.bool true) (by kernel_rfl) ?_
  simp only [Act.put, List.setIfInBounds_toArray, List.set_cons_succ, List.set_cons_zero]
  refine gw_val (by kernel_rfl) (some 17) rfl (.string T) (by kernel_rfl) ?_
  simp only [Act.put, List.setIfInBounds_toArray, List.set_cons_succ, List.set_cons_zero]
  refine gw_slice_to (by kernel_rfl) (some 18) rfl 9 (.tmp 17) (.const (.int .i64 8)) rfl (.string T) (.int .i64 8) (.string (strOfNums [101, 51, 98, 48, 99, 52, 52, 50])) (by kernel_rfl) (by kernel_rfl) (hT8' _) ?_
  simp only [Act.put, List.setIfInBounds_toArray, List.set_cons_succ, List.set_cons_zero]
  refine gw_val (by kernel_rfl) (some 19) rfl (.bool true) (by kernel_rfl) ?_
  simp only [Act.put, List.setIfInBounds_toArray, List.set_cons_succ, List.set_cons_zero]
  refine gw_val (by kernel_rfl) (some 20) rfl (.bool true) (by kernel_rfl) ?_
  simp only [Act.put, List.setIfInBounds_toArray, List.set_cons_succ, List.set_cons_zero]
  refine gw_val (by kernel_rfl) (some 21) rfl (.bool true) (by kernel_rfl) ?_
  simp only [Act.put, List.setIfInBounds_toArray, List.set_cons_succ, List.set_cons_zero]
  refine gw_val (by kernel_rfl) (some 22) rfl (.int .i64 0) (by kernel_rfl) ?_
  simp only [Act.put, List.setIfInBounds_toArray, List.set_cons_succ, List.set_cons_zero]
  refine gw_val (by kernel_rfl) (some 23) rfl (.bool true) (by kernel_rfl) ?_
  simp only [Act.put, List.setIfInBounds_toArray, List.set_cons_succ, List.set_cons_zero]
  refine gw_val (by kernel_rfl) (some 24) rfl (.bool true) (by kernel_rfl) ?_
  simp only [Act.put, List.setIfInBounds_toArray, List.set_cons_succ, List.set_cons_zero]
  refine gw_val (by kernel_rfl) (some 25) rfl (.bool true) (by kernel_rfl) ?_
  simp only [Act.put, List.setIfInBounds_toArray, List.set_cons_succ, List.set_cons_zero]
  refine gw_load (by kernel_rfl) (some 26) rfl 25 (.tmp 3) rfl ⟨g3, 0, none⟩ (.agg (w8s A)) (by kernel_rfl) (load_key hK.2.1 HAL.out) ?_
  simp only [Act.put, List.setIfInBounds_toArray, List.set_cons_succ, List.set_cons_zero]
  refine gw_load (by kernel_rfl) (some 27) rfl 25 (.tmp 1) rfl ⟨g1, 0, none⟩ (.agg (w8s A)) (by kernel_rfl) (load_key hK.1 HAL.out) ?_
  simp only [Act.put, List.setIfInBounds_toArray, List.set_cons_succ, List.set_cons_zero]
  refine gw_val (by kernel_rfl) (some 28) rfl (.bool (A == A)) (eq_key rfl A A HAL.out HAL.out (by kernel_rfl) (by kernel_rfl) _) ?_
  simp only [Act.put, List.setIfInBounds_toArray, List.set_cons_succ, List.set_cons_zero]
  rw [beq_self_eq_true]
  refine gw_val (by kernel_rfl) (some 29) rfl (.bool true) (by kernel_rfl) ?_
  simp only [Act.put, List.setIfInBounds_toArray, List.set_cons_succ, List.set_cons_zero]
  refine gw_val (by kernel_rfl) (some 30) rfl (.bool true) (by kernel_rfl) ?_
  simp only [Act.put, List.setIfInBounds_toArray, List.set_cons_succ, List.set_cons_zero]
  refine gw_load (by kernel_rfl) (some 31) rfl 25 (.tmp 1) rfl ⟨g1, 0, none⟩ (.agg (w8s A)) (by kernel_rfl) (load_key hK.1 HAL.out) ?_
  simp only [Act.put, List.setIfInBounds_toArray, List.set_cons_succ, List.set_cons_zero]
  refine gw_load (by kernel_rfl) (some 32) rfl 25 (.tmp 1) rfl ⟨g1, 0, none⟩ (.agg (w8s A)) (by kernel_rfl) (load_key hK.1 HAL.out) ?_
  simp only [Act.put, List.setIfInBounds_toArray, List.set_cons_succ, List.set_cons_zero]
  refine gw_call (by kernel_rfl) (some 33) rfl 10 #[.agg (w8s A), .agg (w8s A)] (.int .i64 0) (Below V4.heap.size V4) (by kernel_rfl) (CC V4) (fun V5 hb5 => ?_)
  simp only [Act.put, List.setIfInBounds_toArray, List.set_cons_succ, List.set_cons_zero]
  have hK5 := hK.below hb5
  clear hK hb5
  refine gw_val (by kernel_rfl) (some 34) rfl (.bool true) (by kernel_rfl) ?_
  simp only [Act.put, List.setIfInBounds_toArray, List.set_cons_succ, List.set_cons_zero]
  refine gw_val (by kernel_rfl) (some 35) rfl (.bool true) (by kernel_rfl) ?_
  simp only [Act.put, List.setIfInBounds_toArray, List.set_cons_succ, List.set_cons_zero]
  refine gw_val (by kernel_rfl) (some 36) rfl (.bool true) (by kernel_rfl) ?_
  simp only [Act.put, List.setIfInBounds_toArray, List.set_cons_succ, List.set_cons_zero]
  refine gw_val (by kernel_rfl) (some 37) rfl (.agg (w8s (List.replicate 32 0))) (by kernel_rfl) ?_
  simp only [Act.put, List.setIfInBounds_toArray, List.set_cons_succ, List.set_cons_zero]
  refine gw_load (by kernel_rfl) (some 38) rfl 25 (.tmp 1) rfl ⟨g1, 0, none⟩ (.agg (w8s A)) (by kernel_rfl) (load_key hK5.1 HAL.out) ?_
  simp only [Act.put, List.setIfInBounds_toArray, List.set_cons_succ, List.set_cons_zero]
  refine gw_build (by kernel_rfl) (some 39) rfl 36 2 #[(0, .tmp 37), (1, .tmp 38)] rfl #[(0, .agg (w8s (List.replicate 32 0))), (1, .agg (w8s A))] (by kernel_rfl) (.slice (some ⟨V5.heap.size, 0, none⟩) 2 2) (V5.alloc (.cells (w8s (List.replicate 32 0 ++ A)) 25)) (hbs V5) ?_
  simp only [Act.put, List.setIfInBounds_toArray, List.set_cons_succ, List.set_cons_zero]
  have hK6 := hK5.below ((Below.refl _ V5).alloc (Nat.le_refl _) (.cells (w8s (List.replicate 32 0 ++ A)) 25))
  have hR6 := hRk V5
  clear hK5 hRk
  generalize V5.alloc (.cells (w8s (List.replicate 32 0 ++ A)) 25) = V6 at *
  generalize V5.heap.size = g5 at *
  refine gw_load (by kernel_rfl) (some 40) rfl 25 (.tmp 1) rfl ⟨g1, 0, none⟩ (.agg (w8s A)) (by kernel_rfl) (load_key hK6.1 HAL.out) ?_
  simp only [Act.put, List.setIfInBounds_toArray, List.set_cons_succ, List.set_cons_zero]
  refine gw_call (by kernel_rfl) (some 41) rfl 17 #[.slice (some ⟨g5, 0, none⟩) 2 2, .agg (w8s A)] (.bool true) (Below V6.heap.size V6) (by kernel_rfl) (CH V6 g5 hR6) (fun V7 hb7 => ?_)
  simp only [Act.put, List.setIfInBounds_toArray, List.set_cons_succ, List.set_cons_zero]
  have hK7 := hK6.below hb7
  clear hK6 hb7 hR6 CH
  refine gw_val (by kernel_rfl) (some 42) rfl (.bool true) (by kernel_rfl) ?_
  simp only [Act.put, List.setIfInBounds_toArray, List.set_cons_succ, List.set_cons_zero]
  refine gw_val (by kernel_rfl) (some 43) rfl (.bool true) (by kernel_rfl) ?_
  simp only [Act.put, List.setIfInBounds_toArray, List.set_cons_succ, List.set_cons_zero]
  refine gw_call (by kernel_rfl) (some 44) rfl 19 #[.slice none 0 0] (.bool true) (Below V7.heap.size V7) (by kernel_rfl) (CD V7) (fun V8 hb8 => ?_)
  simp only [Act.put, List.setIfInBounds_toArray, List.set_cons_succ, List.set_cons_zero]
  have hK8 := hK7.below hb8
  clear hK7 hb8 CD
  refine gw_val (by kernel_rfl) (some 45) rfl (.bool true) (by kernel_rfl) ?_
  simp only [Act.put, List.setIfInBounds_toArray, List.set_cons_succ, List.set_cons_zero]
  refine gw_val (by kernel_rfl) (some 0) rfl (.bool true) (by kernel_rfl) ?_
  apply wpList_nil
  simp only [Act.put, List.setIfInBounds_toArray, List.set_cons_zero]
  have HW := Lib.hid hK8.2.2
  clear hK8
  go_wp2_with fail
  go_ret
  exact ⟨rfl, HW.out⟩
end Go.Proofs.YtapojahoaglgaaaDoor
