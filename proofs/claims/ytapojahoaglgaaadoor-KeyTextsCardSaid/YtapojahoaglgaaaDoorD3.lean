/-
  The walk of KeyTexts.
-/
import Derived.Test.YtapojahoaglgaaaDoorKN1
import Derived.BigRegion
namespace Go.Proofs.YtapojahoaglgaaaDoor
open Go.RowKit

/-- Parts of a string. -/
theorem str_to (T : ByteArray) (h : Nat) (hh : h ≤ T.size) (w : World) : (Instr.slice 9 (.string T) none (some (.int .i64 (h : Int))) none).run Tryd.prog w = .ok (.string (T.extract 0 h)) w := by
  simp [Instr.slice, run_underlying Tryd.underlying9, Instr.sliceBounds, Instr.sliceBound, asIntOf, go_sem]
  intro h'
  omega
theorem str_from (T : ByteArray) (l : Nat) (hl : l ≤ T.size) (w : World) : (Instr.slice 9 (.string T) (some (.int .i64 (l : Int))) none none).run Tryd.prog w = .ok (.string (T.extract l T.size)) w := by
  simp [Instr.slice, run_underlying Tryd.underlying9, Instr.sliceBounds, Instr.sliceBound, asIntOf, go_sem]
  intro h'
  omega

set_option maxRecDepth 100000 in
set_option maxHeartbeats 8000000 in
theorem text_core (K : List Int) (s : ByteArray) (x b c : Int) (w : World) (hK : K.length = 32) (hK8 : ∀ x, x ∈ K → W8 x) (hx : W8 x) (hb : W8 b) (hc : W8 c) (hG : Glob w) :
    Calls Tryd.prog 5 #[.agg (w8s K), .string s, .int .u8 x, .int .u8 b, .int .u8 c] w fun e w' => e = .returned (.bool true) ∧ Below w.heap.size w w' := by
  have hg2 := hG.size
  have hb0 : Below w.heap.size w (w.alloc (.cells (w8s K) 25)) := (Below.refl _ w).alloc (by simp) _
  have hA0 : Ab (w.alloc (.cells (w8s K) 25)) w.heap.size 25 K := heap_alloc_last w _
  have CK := fun (V : World) (hb : Below w.heap.size w V) => (known_true V (hG.below hg2 hb)).mono fun e w' (hx : e = .returned (.bool true) ∧ Below V.heap.size V w') => (⟨hx.1, hb.trans (hx.2.mono hb.size)⟩ : e = .returned (.bool true) ∧ Below w.heap.size w w')
  have CF := fun (V : World) => fmt_any K V hK hK8
  have CG := fun (V : World) => reffmt_any K V hK hK8
  have CP := fun (s : ByteArray) (V : World) => par_any s V
  have CR := fun (s : ByteArray) (V : World) (h : s.size ≤ 1000) => refpar_any s V h
  obtain ⟨T, hT⟩ : ∃ T, T = strOfNums (hexL K) := ⟨_, rfl⟩
  have hTs : T.size = 64 := by rw [hT, strOfNums_size, hexL_len, hK]
  simp only [← hT] at CF CG
  have HK := Lib.hid hK
  have HTs := Lib.hid hTs
  clear hT hK hK8 hG hTs
  obtain ⟨x0, x1⟩ := hx
  obtain ⟨b0, b1⟩ := hb
  obtain ⟨c0, c1⟩ := hc
  by_cases hbig : 200 < s.size
  · have hd : decide (200 < (s.size : Int)) = true := decide_eq_true (by omega)
    have CK1 := CK _ hb0
    go_enter Tryd.func5, Tryd.ntmps5
    go_upto_region 1 with fail
    change Code.wp _ _ _ _ (w.alloc (.cells (w8s K) 25))
    generalize w.alloc (.cells (w8s K) 25) = W at *
    go_wp2_with (go_at_call 7; refine CK1.mono ?_; rintro e w1 ⟨rfl, hb1⟩)
    go_ret
    exact ⟨rfl, hb1⟩
  · have hd : decide (200 < (s.size : Int)) = false := decide_eq_false (by omega)
    have hs9 : s.size ≤ 200 := by omega
    go_enter Tryd.func5, Tryd.ntmps5
    go_upto_region 1 with fail
    change Code.wp _ _ _ _ (w.alloc (.cells (w8s K) 25))
    generalize w.alloc (.cells (w8s K) 25) = W at *
    have HB0 := Lib.hid hb0
    have HA0 := Lib.hid hA0
    clear hb0 hA0
    go_upto_region 3 with fail
    apply wp_region_lit
    refine gw_load (by kernel_rfl) (some 23) rfl 25 (.tmp 5) rfl ⟨w.heap.size, 0, none⟩ (.agg (w8s K)) (by kernel_rfl) (load_key HA0.out HK.out) ?_
    refine gw_call (by kernel_rfl) (some 24) rfl 12 #[.agg (w8s K)] (.string T) (Below W.heap.size W) (by kernel_rfl) (CF W) (fun V1 hb1 => ?_)
    have hA1 := HA0.out.below HA0.out.lt hb1
    have hB1 := HB0.out.trans (hb1.mono HB0.out.size)
    refine gw_val (by kernel_rfl) (some 11) rfl (.string T) (by kernel_rfl) ?_
    apply wpList_nil
    clear HA0 HB0 hb1
    simp only [Act.put, List.setIfInBounds_toArray, List.set_cons_succ, List.set_cons_zero]
    go_upto_region 4 with fail
    apply wp_region_lit
    refine gw_val (by kernel_rfl) (some 25) rfl (.string T) (by kernel_rfl) ?_
    refine gw_load (by kernel_rfl) (some 26) rfl 25 (.tmp 5) rfl ⟨w.heap.size, 0, none⟩ (.agg (w8s K)) (by kernel_rfl) (load_key hA1 HK.out) ?_
    refine gw_call (by kernel_rfl) (some 27) rfl 13 #[.agg (w8s K)] (.string T) (Below V1.heap.size V1) (by kernel_rfl) (CG V1) (fun V2 hb2 => ?_)
    have hB2 := hB1.trans (hb2.mono hB1.size)
    clear hA1 hB1 hb2 W V1
    simp only [Act.put, List.setIfInBounds_toArray, List.set_cons_succ, List.set_cons_zero]
    refine gw_val (by kernel_rfl) (some 28) rfl (.bool (!(T.toList == T.toList))) (by kernel_rfl) ?_
    rw [beq_self_eq_true, Bool.not_true]
    simp only [Act.put, List.setIfInBounds_toArray, List.set_cons_succ, List.set_cons_zero]
    refine gw_val (by kernel_rfl) (some 29) rfl (.bool false) (by kernel_rfl) ?_
    refine gw_val (by kernel_rfl) (some 30) rfl (.string T) (by kernel_rfl) ?_
    simp only [Act.put, List.setIfInBounds_toArray, List.set_cons_succ, List.set_cons_zero]
    refine gw_val (by kernel_rfl) (some 31) rfl (.int .i64 (T.size : Int)) (by kernel_rfl) ?_
    rw [HTs.out]
    simp only [Act.put, List.setIfInBounds_toArray, List.set_cons_succ, List.set_cons_zero]
    refine gw_val (by kernel_rfl) (some 32) rfl (.bool false) (by kernel_rfl) ?_
    refine gw_val (by kernel_rfl) (some 33) rfl (.bool false) (by kernel_rfl) ?_
    apply wpList_nil
    simp only [Act.put, List.setIfInBounds_toArray, List.set_cons_succ, List.set_cons_zero]
    obtain ⟨q, hq⟩ := Int.eq_ofNat_of_zero_le (show 0 ≤ x % 64 by omega)
    have hq64 : q < 64 := by omega
    go_upto_region 7 with fail
    rw [hq]
    obtain ⟨r, hr⟩ := Int.eq_ofNat_of_zero_le (show 0 ≤ c % 65 by omega)
    have hr65 : r ≤ 64 := by omega
    have e1 := fun w => str_to T q (by rw [HTs.out]; omega) w
    have e2 := fun w => str_from T (q + 1) (by rw [HTs.out]; omega) w
    simp only [Int.natCast_add, Int.natCast_one] at e2
    have e3 := fun w => str_to T r (by rw [HTs.out]; omega) w
    have z1 : (T.extract 0 q).size ≤ 64 := by rw [ByteArray.size_extract]; omega
    have z2 : (T.extract (q + 1) T.size).size ≤ 64 := by rw [ByteArray.size_extract, HTs.out]; omega
    have z3 : (T.extract 0 r).size ≤ 64 := by rw [ByteArray.size_extract]; omega
    generalize T.extract 0 q = T1 at *
    generalize T.extract (q + 1) T.size = T2 at *
    generalize T.extract 0 r = T3 at *
    have cv := conv_sl (w := (V2.alloc (.cells #[.int .u8 b] 5)).drew) (sl_one V2 b 5)
    simp only [List.length_singleton] at cv
    have zb : (strOfNums [b]).size = 1 := rfl
    have zT := HTs.out
    generalize strOfNums [b] = B1 at *
    have k1 : ¬ 9223372036854775807 < T1.size + B1.size := by omega
    have k2 : ¬ 9223372036854775807 < (T1 ++ B1).size + T2.size := by rw [ByteArray.size_append]; omega
    have k3 : ¬ 9223372036854775807 < T1.size + B1.size + T2.size := by omega
    have k4 : ¬ 9223372036854775807 < T.size + 1 := by omega
    have w1 : IntKind.i64.wrap ((q : Int) + 1) = (q : Int) + 1 := by rw [IntKind.wrap_i64]; omega
    have w2 : c.tmod 65 = (r : Int) := by rw [Int.tmod_eq_emod_of_nonneg c0]; exact hr
    have hB3 := hB2.alloc hB2.size (.cells #[.int .u8 b] 5)
    have w3 : IntKind.i64.wrap c = c := by rw [IntKind.wrap_i64]; omega
    have w4 : IntKind.i64.wrap (c.tmod 65) = (r : Int) := by rw [w2, IntKind.wrap_i64]; omega
    have w5 : IntKind.i64.wrap (c % 65) = (r : Int) := by rw [hr, IntKind.wrap_i64]; omega
    have HZZ := Lib.hid (And.intro z1 (And.intro z2 (And.intro z3 (And.intro zb (And.intro zT hs9)))))
    clear hq x0 x1 b0 b1 hd z1 z2 z3 zb hs9
    go_region
    obtain ⟨z1, z2, z3, zb, -, hs9⟩ := HZZ.out
    clear HZZ
    have hcell : ∀ i, i < 5 → (((V2.alloc (.cells #[.int .u8 b] 5)).alloc (.cells #[.string s, .string T, .string (T1 ++ B1 ++ T2), .string T3, .string (T ++ { data := #[48] })] 9)).drew).cell? ⟨V2.heap.size + 1, i, none⟩ = some (.string ([s, T, T1 ++ B1 ++ T2, T3, T ++ { data := #[48] }].getD i ByteArray.empty)) := by
      intro i hi
      have hr : ((V2.alloc (.cells #[.int .u8 b] 5)).alloc (.cells #[.string s, .string T, .string (T1 ++ B1 ++ T2), .string T3, .string (T ++ { data := #[48] })] 9)).heap[V2.heap.size + 1]? = some (.cells #[.string s, .string T, .string (T1 ++ B1 ++ T2), .string T3, .string (T ++ { data := #[48] })] 9 (0, 0)) := by
        have := heap_alloc_last (V2.alloc (.cells #[.int .u8 b] 5)) (.cells #[.string s, .string T, .string (T1 ++ B1 ++ T2), .string T3, .string (T ++ { data := #[48] })] 9)
        simpa using this
      show ((V2.alloc (.cells #[.int .u8 b] 5)).alloc (.cells #[.string s, .string T, .string (T1 ++ B1 ++ T2), .string T3, .string (T ++ { data := #[48] })] 9)).cell? _ = _
      rw [cell_of_row _ _ i _ 9 (0, 0) hr]
      have : i = 0 ∨ i = 1 ∨ i = 2 ∨ i = 3 ∨ i = 4 := by omega
      rcases this with rfl | rfl | rfl | rfl | rfl <;> rfl
    have hsizes : ∀ X ∈ [s, T, T1 ++ B1 ++ T2, T3, T ++ { data := #[48] }], X.size ≤ 1000 := by
      intro X hX
      simp only [List.mem_cons, List.not_mem_nil, or_false] at hX
      rcases hX with rfl | rfl | rfl | rfl | rfl
      · omega
      · omega
      · rw [ByteArray.size_append, ByteArray.size_append]; omega
      · omega
      · rw [ByteArray.size_append, zT]; decide
    have hb5 : Below w.heap.size w (((V2.alloc (.cells #[.int .u8 b] 5)).alloc (.cells #[.string s, .string T, .string (T1 ++ B1 ++ T2), .string T3, .string (T ++ { data := #[48] })] 9)).drew) := (hB3.alloc hB3.size _).drew
    have hgs : V2.heap.size + 1 < (((V2.alloc (.cells #[.int .u8 b] 5)).alloc (.cells #[.string s, .string T, .string (T1 ++ B1 ++ T2), .string T3, .string (T ++ { data := #[48] })] 9)).drew).heap.size := by
      show _ < ((V2.alloc (.cells #[.int .u8 b] 5)).alloc (.cells #[.string s, .string T, .string (T1 ++ B1 ++ T2), .string T3, .string (T ++ { data := #[48] })] 9)).heap.size
      simp
    have HC := Lib.hid hcell
    have HZ := Lib.hid hsizes
    have HB := Lib.hid hb5
    have HGS := Lib.hid hgs
    have HPL := Lib.hid parK_len
    clear hcell hsizes hb5 hgs hB3 cv k1 k2 k3 k4 w1 w2 w3 w4 w5 hr hr65 hq64 e1 e2 e3 zT hB2 z1 z2 z3 zb hs9
    generalize [s, T, T1 ++ B1 ++ T2, T3, T ++ { data := #[48] }] = Ls at *
    generalize ((V2.alloc (.cells #[.int .u8 b] 5)).alloc (.cells #[.string s, .string T, .string (T1 ++ B1 ++ T2), .string T3, .string (T ++ { data := #[48] })] 9)).drew = W3 at *
    generalize V2.heap.size + 1 = gs at *
    go_wp2_with fail
    go_loopg [60] 5 (fun g s60 wx => ∃ i : Nat, i ≤ 5 ∧ s60 = .int .i64 i ∧ Below W3.heap.size W3 wx ∧ 5 - i = g)
    case atStart => exact ⟨0, by omega, by go_num, Below.refl _ _, rfl⟩
    case round =>
      obtain ⟨i, hi, rfl, hW, hgk⟩ := hrel
      by_cases hlt : i < 5
      · have xc : wr.cell? ⟨gs, i, none⟩ = some (.string (Ls.getD i ByteArray.empty)) := (hW.cell (p := ⟨gs, i, none⟩) HGS.out).trans (HC.out i hlt)
        have hXs : (Ls.getD i ByteArray.empty).size ≤ 1000 := by
          by_cases hl : i < Ls.length
          · have : Ls.getD i ByteArray.empty = Ls[i] := by simp [List.getD, List.getElem?_eq_getElem hl]
            rw [this]
            exact HZ.out _ (List.getElem_mem hl)
          · have : Ls.getD i ByteArray.empty = ByteArray.empty := by simp [List.getD, List.getElem?_eq_none (Nat.le_of_not_lt hl)]
            rw [this]
            decide
        have hi5 : (i : Int) < 5 := by omega
        have HW := Lib.hid hW
        clear hW
        generalize Ls.getD i ByteArray.empty = X at *
        have cp := fun V => CP X V
        have cr := fun V => CR X V hXs
        have hPl := HPL.out (nums X)
        unfold ParB at cp cr
        generalize parK (nums X) = P at *
        generalize parE (nums X) = E at *
        have hsP : (w8s P).size = 32 := by rw [size_w8s, hPl]
        have HP := Lib.hid hPl
        clear hXs hPl
        go_upto_region 10 with fail
        apply wp_region_lit
        refine gw_val (by kernel_rfl) (some 65) rfl (.string X) (by kernel_rfl) ?_
        simp only [Act.put, List.setIfInBounds_toArray, List.set_cons_succ, List.set_cons_zero]
        refine gw_call (by kernel_rfl) (some 66) rfl 14 #[.string X] (.tuple #[.agg (w8s P), .int .i64 E]) (Below wr.heap.size wr) (by kernel_rfl) (cp wr) (fun V3 hb1 => ?_)
        simp only [Act.put, List.setIfInBounds_toArray, List.set_cons_succ, List.set_cons_zero]
        refine gw_val (by kernel_rfl) (some 64) rfl (.tuple #[.agg (w8s P), .int .i64 E]) (by kernel_rfl) ?_
        simp only [Act.put, List.setIfInBounds_toArray, List.set_cons_succ, List.set_cons_zero]
        refine gw_val (by kernel_rfl) (some 67) rfl (.agg (w8s P)) (by kernel_rfl) ?_
        simp only [Act.put, List.setIfInBounds_toArray, List.set_cons_succ, List.set_cons_zero]
        refine gw_val (by kernel_rfl) (some 68) rfl (.int .i64 E) (by kernel_rfl) ?_
        simp only [Act.put, List.setIfInBounds_toArray, List.set_cons_succ, List.set_cons_zero]
        refine run_to rfl (some 15) rfl (.pointer (some ⟨V3.heap.size, 0, none⟩)) (V3.alloc (.cells (w8s (List.replicate 32 0)) 25)) (by kernel_rfl) ?_
        simp only [Act.put, List.setIfInBounds_toArray, List.set_cons_succ, List.set_cons_zero]
        apply wpList_store_new (w := V3) (ty := 25) (x := .tmp 15) (y := .tmp 67) (c := w8s (List.replicate 32 0)) (c' := w8s P)
        case hgd => rfl
        case ho => rfl
        case hx => kernel_rfl
        case hy => kernel_rfl
        case hi => rw [hsP]; kernel_rfl
        case hz => rw [hsP]; rfl
        case h1 => exact one_w8s _
        refine gw_val (by kernel_rfl) (some 16) rfl (.int .i64 E) (by kernel_rfl) ?_
        simp only [Act.put, List.setIfInBounds_toArray, List.set_cons_succ, List.set_cons_zero]
        apply wpList_nil
        have hA4 : Ab (V3.alloc (.cells (w8s P) 25)) V3.heap.size 25 P := heap_alloc_last _ _
        have hB4 := (HW.out.trans (hb1.mono HW.out.size)).alloc ((HW.out.trans (hb1.mono HW.out.size)).size) (.cells (w8s P) 25)
        generalize V3.alloc (.cells (w8s P) 25) = V4 at *
        generalize V3.heap.size = g3 at *
        clear hb1
        go_upto_region 11 with fail
        apply wp_region_lit
        refine gw_val (by kernel_rfl) (some 70) rfl (.string X) (by kernel_rfl) ?_
        simp only [Act.put, List.setIfInBounds_toArray, List.set_cons_succ, List.set_cons_zero]
        refine gw_call (by kernel_rfl) (some 71) rfl 15 #[.string X] (.tuple #[.agg (w8s P), .int .i64 E]) (Below V4.heap.size V4) (by kernel_rfl) (cr V4) (fun V5 hb1 => ?_)
        simp only [Act.put, List.setIfInBounds_toArray, List.set_cons_succ, List.set_cons_zero]
        refine gw_val (by kernel_rfl) (some 69) rfl (.tuple #[.agg (w8s P), .int .i64 E]) (by kernel_rfl) ?_
        simp only [Act.put, List.setIfInBounds_toArray, List.set_cons_succ, List.set_cons_zero]
        refine gw_val (by kernel_rfl) (some 72) rfl (.agg (w8s P)) (by kernel_rfl) ?_
        simp only [Act.put, List.setIfInBounds_toArray, List.set_cons_succ, List.set_cons_zero]
        refine gw_val (by kernel_rfl) (some 73) rfl (.int .i64 E) (by kernel_rfl) ?_
        simp only [Act.put, List.setIfInBounds_toArray, List.set_cons_succ, List.set_cons_zero]
        refine run_to rfl (some 17) rfl (.pointer (some ⟨V5.heap.size, 0, none⟩)) (V5.alloc (.cells (w8s (List.replicate 32 0)) 25)) (by kernel_rfl) ?_
        simp only [Act.put, List.setIfInBounds_toArray, List.set_cons_succ, List.set_cons_zero]
        apply wpList_store_new (w := V5) (ty := 25) (x := .tmp 17) (y := .tmp 72) (c := w8s (List.replicate 32 0)) (c' := w8s P)
        case hgd => rfl
        case ho => rfl
        case hx => kernel_rfl
        case hy => kernel_rfl
        case hi => rw [hsP]; kernel_rfl
        case hz => rw [hsP]; rfl
        case h1 => exact one_w8s _
        refine gw_val (by kernel_rfl) (some 18) rfl (.int .i64 E) (by kernel_rfl) ?_
        simp only [Act.put, List.setIfInBounds_toArray, List.set_cons_succ, List.set_cons_zero]
        apply wpList_nil
        have hA5 := (hA4.below hA4.lt hb1).alloc (.cells (w8s P) 25)
        have hC5 : Ab (V5.alloc (.cells (w8s P) 25)) V5.heap.size 25 P := heap_alloc_last _ _
        have hB5 := (hB4.trans (hb1.mono hB4.size)).alloc ((hB4.trans (hb1.mono hB4.size)).size) (.cells (w8s P) 25)
        generalize V5.alloc (.cells (w8s P) 25) = V6 at *
        generalize V5.heap.size = g5 at *
        clear hb1 hA4 hB4
        go_upto_region 12 with fail
        apply wp_region_lit
        refine gw_load (by kernel_rfl) (some 74) rfl 25 (.tmp 15) rfl ⟨g3, 0, none⟩ (.agg (w8s P)) (by kernel_rfl) (load_key hA5 HP.out) ?_
        simp only [Act.put, List.setIfInBounds_toArray, List.set_cons_succ, List.set_cons_zero]
        refine gw_load (by kernel_rfl) (some 75) rfl 25 (.tmp 17) rfl ⟨g5, 0, none⟩ (.agg (w8s P)) (by kernel_rfl) (load_key hC5 HP.out) ?_
        simp only [Act.put, List.setIfInBounds_toArray, List.set_cons_succ, List.set_cons_zero]
        refine gw_val (by kernel_rfl) (some 76) rfl (.bool (!(P == P))) (ne_key rfl P P HP.out HP.out (by kernel_rfl) (by kernel_rfl) _) ?_
        rw [beq_self_eq_true, Bool.not_true]
        simp only [Act.put, List.setIfInBounds_toArray, List.set_cons_succ, List.set_cons_zero]
        refine gw_val (by kernel_rfl) (some 77) rfl (.bool false) (by kernel_rfl) ?_
        simp only [Act.put, List.setIfInBounds_toArray, List.set_cons_succ, List.set_cons_zero]
        refine gw_val (by kernel_rfl) (some 78) rfl (.int .i64 E) (by kernel_rfl) ?_
        simp only [Act.put, List.setIfInBounds_toArray, List.set_cons_succ, List.set_cons_zero]
        refine gw_val (by kernel_rfl) (some 79) rfl (.int .i64 E) (by kernel_rfl) ?_
        simp only [Act.put, List.setIfInBounds_toArray, List.set_cons_succ, List.set_cons_zero]
        refine gw_val (by kernel_rfl) (some 80) rfl (.bool (!(decide (E = E)))) (by kernel_rfl) ?_
        rw [decide_eq_true (rfl : E = E), Bool.not_true]
        simp only [Act.put, List.setIfInBounds_toArray, List.set_cons_succ, List.set_cons_zero]
        refine gw_val (by kernel_rfl) (some 81) rfl (.bool false) (by kernel_rfl) ?_
        simp only [Act.put, List.setIfInBounds_toArray, List.set_cons_succ, List.set_cons_zero]
        apply wpList_nil
        have HB6 := Lib.hid hB5
        clear hA5 hC5 hB5
        go_wp2_with fail
        go_roundg (5 - (i + 1))
        case measure => omega
        case rel => exact ⟨i + 1, by omega, by go_num, HB6.out, rfl⟩
      · have hi5 : ¬ (i : Int) < 5 := by omega
        have CK2 := CK wr (HB.out.trans (hW.mono HB.out.size))
        clear hW CK CP CR
        go_wp2_with (go_at_call 7; refine CK2.mono ?_; rintro e w1 ⟨rfl, hb1⟩)
        go_ret
        exact ⟨rfl, hb1⟩
end Go.Proofs.YtapojahoaglgaaaDoor
