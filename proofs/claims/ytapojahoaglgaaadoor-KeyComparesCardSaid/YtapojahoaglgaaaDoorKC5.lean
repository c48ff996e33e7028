/-
  The contract of the code's Parse.
-/
import Derived.Test.YtapojahoaglgaaaDoorKC4
namespace Go.Proofs.YtapojahoaglgaaaDoor
open Go.RowKit

/-- What Parse returns. -/
def ParB (s : ByteArray) (w : World) (e : Ending) (w' : World) : Prop := e = .returned (.tuple #[.agg (w8s (parK (nums s))), .int .i64 (parE (nums s))]) ∧ Below w.heap.size w w'

/-- The two blocks of Parse: the result, and the key that is read. -/
def Two (w : World) (B : List Int) (wx : World) : Prop := Ab wx w.heap.size 25 (List.replicate 32 0) ∧ Ab wx (w.heap.size + 1) 25 B ∧ Below w.heap.size w wx ∧ wx.heap.size = w.heap.size + 2
theorem Two.drewN {w wx : World} {B : List Int} (h : Two w B wx) (n : Nat) : Two w B (wx.drewN n) := ⟨h.1, h.2.1, Below.drewN' h.2.2.1 n, h.2.2.2⟩
theorem two_start (w : World) : Two w (List.replicate 32 0) ((w.alloc (.cells (w8s (List.replicate 32 0)) 25)).alloc (.cells (w8s (List.replicate 32 0)) 25)) := by
  refine ⟨Ab.alloc (heap_alloc_last w _) _, ?_, ((Below.refl _ w).alloc (by simp) _).alloc (by simp) _, by simp⟩
  have := heap_alloc_last (w.alloc (.cells (w8s (List.replicate 32 0)) 25)) (.cells (w8s (List.replicate 32 0)) 25)
  simpa [Ab] using this
theorem Two.set {w wx : World} {B : List Int} (h : Two w B wx) (i : Nat) (x : Int) : Two w (B.set i x) (wx.setCell ⟨w.heap.size + 1, i, none⟩ (.int .u8 x)) :=
  ⟨h.1.far _ (by simp) _, h.2.1.set i x, h.2.2.1.setCell (by simp) _, by rw [← h.2.2.2]; simp⟩
theorem digs_join (p q : Int) (h0 : 0 ≤ p) (h1 : p ≤ 15) (h2 : 0 ≤ q) (h3 : q ≤ 15) : bits .or .i64 (p * 16) q = 16 * p + q := by
  obtain ⟨a, rfl⟩ := Int.eq_ofNat_of_zero_le h0
  obtain ⟨b, rfl⟩ := Int.eq_ofNat_of_zero_le h2
  have e : ∀ a : Nat, a < 16 → ∀ b : Nat, b < 16 → bits .or .i64 ((a : Int) * 16) (b : Int) = 16 * (a : Int) + b := by decide +kernel
  exact e a (by omega) b (by omega)

set_option maxRecDepth 100000 in
set_option maxHeartbeats 4000000 in
theorem par_any (s : ByteArray) (w : World) : Calls Tryd.prog 14 #[.string s] w (ParB s w) := by
  have HL : Hid ((nums s).length = s.size) := Lib.hid (nums_len s)
  have HT := Lib.hid (two_start w)
  have hs0 : (w.alloc (.cells (w8s (List.replicate 32 0)) 25)).heap.size = w.heap.size + 1 := by simp
  by_cases h64 : s.size = 64
  · have hz : (s.size : Int) = 64 := by omega
    have H64 := Lib.hid h64
    clear h64
    go_enter Tryd.func14, Tryd.ntmps14
    go_upto_region 1 with fail
    change Code.wp _ _ _ _ (w.alloc (.cells (w8s (List.replicate 32 0)) 25))
    generalize w.alloc (.cells (w8s (List.replicate 32 0)) 25) = W1 at *
    apply wp_region_lit
    refine run_to rfl (some 4) rfl (.pointer (some ⟨W1.heap.size, 0, none⟩)) (W1.alloc (.cells (w8s (List.replicate 32 0)) 25)) (by kernel_rfl) ?_
    apply wpList_nil
    generalize W1.alloc (.cells (w8s (List.replicate 32 0)) 25) = W at *
    rw [hs0]
    clear hs0 W1
    simp only [Act.put, List.setIfInBounds_toArray, List.set_cons_succ, List.set_cons_zero]
    go_wp2_with fail
    go_loopg [12] 32 (fun g s12 wx => ∃ (i : Nat) (B : List Int), i ≤ 32 ∧ s12 = .int .i64 i ∧ B.length = i ∧ (∀ x, x ∈ B → W8 x) ∧ Two w (B ++ List.replicate (32 - i) 0) wx ∧ Hid (unhexL (nums s) = (unhexL ((nums s).drop (2 * i))).map (B ++ ·)) ∧ 32 - i = g)
    case atStart => exact ⟨0, [], by omega, by go_num, rfl, (fun x hx => by cases hx), HT.out, Lib.hid (by simp), rfl⟩
    case round =>
      clear HT W
      obtain ⟨i, B, hi, rfl, hBl, hB8, hT, hU, hgk⟩ := hrel
      by_cases hlt : i < 32
      · have h1 : 2 * i < s.size := by rw [H64.out]; omega
        have h2 : 2 * i + 1 < s.size := by rw [H64.out]; omega
        have e1 := fun w => str_index s (2 * i) h1 w
        have e2 := fun w => str_index s (2 * i + 1) h2 w
        have x8 := W8.getD (nums_byte s) (2 * i) (by rw [HL.out]; exact h1)
        have y8 := W8.getD (nums_byte s) (2 * i + 1) (by rw [HL.out]; exact h2)
        have hn : 2 * i + 1 < (nums s).length := by rw [HL.out]; exact h2
        have HNX := Lib.hid (unhexL_next (nums s) B i hn hU.out)
        have HBD := Lib.hid (unhexL_bad (nums s) B i hn hU.out)
        have HBL := Lib.hid hBl
        have HB8 := Lib.hid hB8
        have HT := Lib.hid hT
        have cx := fun w => hexi_any ((nums s).getD (2 * i) 0) w x8
        have cy := fun w => hexi_any ((nums s).getD (2 * i + 1) 0) w y8
        have hp := digL_range ((nums s).getD (2 * i) 0)
        have hq := digL_range ((nums s).getD (2 * i + 1) 0)
        clear h1 h2 hn hBl hB8 hT hU x8 y8
        generalize (nums s).getD (2 * i) 0 = x at *
        generalize (nums s).getD (2 * i + 1) 0 = y at *
        generalize digL x = p at *
        generalize digL y = q at *
        have hw1 : Hid (IntKind.i64.wrap (2 * (i : Int)) = ((2 * i : Nat) : Int)) := Lib.hid (by rw [IntKind.wrap_i64]; omega)
        have hw2 : Hid (IntKind.i64.wrap (IntKind.i64.wrap (2 * (i : Int)) + 1) = ((2 * i + 1 : Nat) : Int)) := Lib.hid (by rw [hw1.out, IntKind.wrap_i64]; omega)
        go_upto_region 7 with fail
        refine wp_region_class (C := fun w' => ∃ n, w' = wr.drewN n) (by kernel_rfl) (by kernel_rfl) ⟨1, rfl⟩ ?_
        refine wpQ_val rfl (.string s) (fun w' _ => by kernel_rfl) ?_
        refine wpQ_val rfl (.int .i64 i) (fun w' _ => by kernel_rfl) ?_
        refine wpQ_val rfl (.int .i64 (IntKind.i64.wrap (2 * (i : Int)))) (fun w' _ => by kernel_rfl) ?_
        refine wpQ_index rfl 9 (.tmp 15) (.tmp 17) rfl (.string s) (.int .i64 (IntKind.i64.wrap (2 * (i : Int)))) (.int .u8 x) (by kernel_rfl) (by kernel_rfl) (fun w' _ => by rw [hw1.out]; exact e1 w') ?_
        refine wpQ_call rfl 25 #[.string hexB, .int .u8 x] (.int .i64 p) (fun w' _ => by kernel_rfl) (fun w' hC => (cx w').mono fun e w'' ⟨he, hw⟩ => by subst hw; exact ⟨he, hC⟩) ?_
        refine wpQ_val rfl (.string s) (fun w' _ => by kernel_rfl) ?_
        refine wpQ_val rfl (.int .i64 i) (fun w' _ => by kernel_rfl) ?_
        refine wpQ_val rfl (.int .i64 (IntKind.i64.wrap (2 * (i : Int)))) (fun w' _ => by kernel_rfl) ?_
        refine wpQ_val rfl (.int .i64 (IntKind.i64.wrap (IntKind.i64.wrap (2 * (i : Int)) + 1))) (fun w' _ => by kernel_rfl) ?_
        refine wpQ_index rfl 9 (.tmp 20) (.tmp 23) rfl (.string s) (.int .i64 (IntKind.i64.wrap (IntKind.i64.wrap (2 * (i : Int)) + 1))) (.int .u8 y) (by kernel_rfl) (by kernel_rfl) (fun w' _ => by rw [hw2.out]; exact e2 w') ?_
        refine wpQ_call rfl 25 #[.string hexB, .int .u8 y] (.int .i64 q) (fun w' _ => by kernel_rfl) (fun w' hC => (cy w').mono fun e w'' ⟨he, hw⟩ => by subst hw; exact ⟨he, hC⟩) ?_
        refine wpQ_val rfl (.int .i64 p) (fun w' _ => by kernel_rfl) ?_
        refine wpQ_val rfl (.int .i64 q) (fun w' _ => by kernel_rfl) ?_
        refine wpQuiet_nil ?_
        rintro _ ⟨nq, rfl⟩
        simp only [Act.put, List.setIfInBounds_toArray, List.set_cons_succ, List.set_cons_zero]
        have HT2 := Lib.hid (HT.out.drewN nq)
        clear HT cx cy e1 e2 hw1 hw2
        generalize wr.drewN nq = V at *
        by_cases hp0 : p < 0
        · have hd : decide (p < 0) = true := decide_eq_true hp0
          have hN := par_none (nums s) (HBD.out (.inl hp0))
          have HN := Lib.hid hN
          clear hN HNX HBD
          go_upto_region 9 with fail
          apply wp_region_lit
          refine run_to rfl (some 32) rfl (.agg (w8s (List.replicate 32 0))) V (by kernel_rfl) ?_
          apply wpList_store_at (ty := 25) (x := .tmp 2) (y := .tmp 32) (g := w.heap.size) (c := w8s (List.replicate 32 0)) (c' := w8s (List.replicate 32 0))
          case hgd => rfl
          case ho => rfl
          case hx => kernel_rfl
          case hy => kernel_rfl
          case hg => exact HT2.out.1
          case hi => kernel_rfl
          case hz => rfl
          case h1 => exact one_w8s _
          have hA9 : Ab (V.setRow w.heap.size (w8s (List.replicate 32 0))) w.heap.size 25 (List.replicate 32 0) := setRow_heap _ _ _ _ _ _ HT2.out.1
          have hb9 := belowRow HT2.out.2.2.1 (Nat.le_refl w.heap.size) (w8s (List.replicate 32 0))
          generalize V.setRow w.heap.size (w8s (List.replicate 32 0)) = V9 at *
          simp only [Act.put, List.setIfInBounds_toArray, List.set_cons_succ, List.set_cons_zero]
          go_wp2_with fail
          exact bodyPost_ret (results_key (e := 5) (by kernel_rfl) (by kernel_rfl) (by kernel_rfl) hA9 (by kernel_rfl) (by kernel_rfl)) rfl ⟨by rw [HN.out.1, HN.out.2], hb9⟩
        · by_cases hq0 : q < 0
          · have hd0 : decide (p < 0) = false := decide_eq_false hp0
            have hd : decide (q < 0) = true := decide_eq_true hq0
            have hN := par_none (nums s) (HBD.out (.inr hq0))
            have HN := Lib.hid hN
            clear hN HNX HBD
            go_upto_region 9 with fail
            apply wp_region_lit
            refine run_to rfl (some 32) rfl (.agg (w8s (List.replicate 32 0))) V (by kernel_rfl) ?_
            apply wpList_store_at (ty := 25) (x := .tmp 2) (y := .tmp 32) (g := w.heap.size) (c := w8s (List.replicate 32 0)) (c' := w8s (List.replicate 32 0))
            case hgd => rfl
            case ho => rfl
            case hx => kernel_rfl
            case hy => kernel_rfl
            case hg => exact HT2.out.1
            case hi => kernel_rfl
            case hz => rfl
            case h1 => exact one_w8s _
            have hA9 : Ab (V.setRow w.heap.size (w8s (List.replicate 32 0))) w.heap.size 25 (List.replicate 32 0) := setRow_heap _ _ _ _ _ _ HT2.out.1
            have hb9 := belowRow HT2.out.2.2.1 (Nat.le_refl w.heap.size) (w8s (List.replicate 32 0))
            generalize V.setRow w.heap.size (w8s (List.replicate 32 0)) = V9 at *
            simp only [Act.put, List.setIfInBounds_toArray, List.set_cons_succ, List.set_cons_zero]
            go_wp2_with fail
            exact bodyPost_ret (results_key (e := 5) (by kernel_rfl) (by kernel_rfl) (by kernel_rfl) hA9 (by kernel_rfl) (by kernel_rfl)) rfl ⟨by rw [HN.out.1, HN.out.2], hb9⟩
          · have hd0 : decide (p < 0) = false := decide_eq_false hp0
            have hd : decide (q < 0) = false := decide_eq_false hq0
            have hj := digs_join p q (by omega) hp.2 (by omega) hq.2
            have HX := Lib.hid (HNX.out (by omega) (by omega))
            clear HNX HBD
            have xc := HT2.out.2.1.cell i (by rw [List.length_append, HBL.out, List.length_replicate]; omega)
            have xf := HT2.out.2.1.frozen i
            have hT3 := HT2.out.set i (16 * p + q)
            have hfill := fill_next B (16 * p + q) (32 - i) (32 - (i + 1)) (by omega)
            rw [HBL.out] at hfill
            rw [hfill] at hT3
            have HT3 := Lib.hid hT3
            have hB2 : Hid ((B ++ [16 * p + q]).length = i + 1) := Lib.hid (by rw [List.length_append, HBL.out]; rfl)
            have hB3 : Hid (∀ x, x ∈ B ++ [16 * p + q] → W8 x) := Lib.hid (by
              intro z hz
              rcases List.mem_append.1 hz with h | h
              · exact HB8.out z h
              · rw [List.mem_singleton.1 h]
                exact ⟨by omega, by omega⟩)
            clear hT3 hfill
            generalize (B ++ List.replicate (32 - i) 0).getD i 0 = z0 at *
            go_wp2_with fail
            go_roundg (32 - (i + 1))
            case measure => omega
            case rel => exact ⟨i + 1, B ++ [16 * p + q], by omega, by go_num, hB2.out, hB3.out, HT3.out, HX, rfl⟩
      · obtain rfl : i = 32 := by omega
        have hu := hU.out
        rw [unhexL_end (nums s) 32 (by rw [HL.out, H64.out])] at hu
        have hP := par_some (nums s) B (by rw [hu]; simp) (by rw [HL.out, H64.out])
        have HP := Lib.hid hP
        have hTB : Two w B wr := by simpa using hT
        have hsB : (w8s B).size = 32 := by simp [hBl]
        have HT := Lib.hid hTB
        have HBL := Lib.hid hBl
        clear hu hP hTB hT hU hBl hB8
        go_upto_region 12 with fail
        apply wp_region_lit
        apply wpList_load_row (ty := 25) (x := .tmp 4) (g := w.heap.size + 1) (t := 25) (cs := w8s B) (fr := (0, 0)) (d := .array 32 5)
        case hgd => rfl
        case ho => rfl
        case hx => kernel_rfl
        case hg => exact HT.out.2.1
        case hu => kernel_rfl
        case hd => rfl
        case hi => rw [hsB]; kernel_rfl
        apply wpList_store_at (ty := 25) (x := .tmp 2) (y := .tmp 41) (g := w.heap.size) (c := w8s (List.replicate 32 0)) (c' := w8s B)
        case hgd => rfl
        case ho => rfl
        case hx => kernel_rfl
        case hy => kernel_rfl
        case hg => exact HT.out.1
        case hi => rw [hsB]; kernel_rfl
        case hz => rw [hsB]; rfl
        case h1 => exact one_w8s _
        have hA9 : Ab (wr.setRow w.heap.size (w8s B)) w.heap.size 25 B := setRow_heap _ _ _ _ _ _ HT.out.1
        have hb9 := belowRow HT.out.2.2.1 (Nat.le_refl w.heap.size) (w8s B)
        generalize wr.setRow w.heap.size (w8s B) = V9 at *
        simp only [Act.put, List.setIfInBounds_toArray, List.set_cons_succ, List.set_cons_zero]
        go_wp2_with fail
        exact bodyPost_ret (results_key (e := 5) (by kernel_rfl) (by kernel_rfl) (by kernel_rfl) hA9 (by kernel_rfl) (by rw [HBL.out]; kernel_rfl)) rfl ⟨by rw [HP.out.1, HP.out.2], hb9⟩
  · have hz : ¬ (s.size : Int) = 64 := by omega
    have hp := par_len (nums s) (by rw [HL.out]; exact h64)
    have HP := Lib.hid hp
    clear hp
    go_enter Tryd.func14, Tryd.ntmps14
    go_upto_region 1 with fail
    generalize hV : (w.alloc (.cells (w8s (List.replicate 32 0)) 25)).alloc (.cells (w8s (List.replicate 32 0)) 25) = V at *
    change Code.wp _ _ _ _ (w.alloc (.cells (w8s (List.replicate 32 0)) 25))
    generalize w.alloc (.cells (w8s (List.replicate 32 0)) 25) = W1 at *
    have HV := Lib.hid hV
    clear hV
    go_upto_region 1 with fail
    apply wp_region_lit
    refine run_to rfl (some 4) rfl (.pointer (some ⟨W1.heap.size, 0, none⟩)) (W1.alloc (.cells (w8s (List.replicate 32 0)) 25)) (by kernel_rfl) ?_
    apply wpList_nil
    rw [HV.out]
    simp only [Act.put, List.setIfInBounds_toArray, List.set_cons_succ, List.set_cons_zero]
    clear HV
    rw [hs0]
    clear hs0 W1
    go_upto_region 3 with fail
    apply wp_region_lit
    refine run_to rfl (some 11) rfl (.agg (w8s (List.replicate 32 0))) V (by kernel_rfl) ?_
    apply wpList_store_at (ty := 25) (x := .tmp 2) (y := .tmp 11) (g := w.heap.size) (c := w8s (List.replicate 32 0)) (c' := w8s (List.replicate 32 0))
    case hgd => rfl
    case ho => rfl
    case hx => kernel_rfl
    case hy => kernel_rfl
    case hg => exact HT.out.1
    case hi => kernel_rfl
    case hz => rfl
    case h1 => exact one_w8s _
    have hA9 : Ab (V.setRow w.heap.size (w8s (List.replicate 32 0))) w.heap.size 25 (List.replicate 32 0) := setRow_heap _ _ _ _ _ _ HT.out.1
    have hb9 := belowRow HT.out.2.2.1 (Nat.le_refl w.heap.size) (w8s (List.replicate 32 0))
    generalize V.setRow w.heap.size (w8s (List.replicate 32 0)) = V9 at *
    simp only [Act.put, List.setIfInBounds_toArray, List.set_cons_succ, List.set_cons_zero]
    go_wp2_with fail
    exact bodyPost_ret (results_key (e := 5) (by kernel_rfl) (by kernel_rfl) (by kernel_rfl) hA9 (by kernel_rfl) (by kernel_rfl)) rfl ⟨by rw [HP.out.1, HP.out.2], hb9⟩
end Go.Proofs.YtapojahoaglgaaaDoor
