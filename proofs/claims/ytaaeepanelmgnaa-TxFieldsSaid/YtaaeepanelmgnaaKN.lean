/-
  The fixed example: it is true.
-/
import Derived.Test.YtaaeepanelmgnaaRS
namespace Go.Proofs.Ytaaeepanelmgnaa
open Go.RowKit
set_option linter.unusedSimpArgs false
set_option linter.unusedVariables false

def annS : ByteArray := ⟨#[97, 110, 110]⟩
def bobS : ByteArray := ⟨#[98, 111, 98]⟩
def eacS : ByteArray := ⟨#[195, 169]⟩
def badS : ByteArray := ⟨#[255]⟩
def xS : ByteArray := ⟨#[120, 45, 49]⟩
def bigS : ByteArray := ⟨#[88]⟩
def kT : Txd := ⟨annS, 0, 300, 0, eacS, [(bobS, 5)]⟩
def kV : Txd := ⟨annS, 0, 1, 0, mtS, []⟩
theorem k_ann : isName (nums annS) = true := by decide +kernel
theorem k_bob : isName (nums bobS) = true := by decide +kernel
theorem k_x : isName (nums xS) = true := by decide +kernel
theorem k_big : isName (nums bigS) = false := by decide +kernel
theorem k_eac : isMemo (nums eacS) = true := by
  have hl : (nums eacS).length = 2 := by decide +kernel
  have h0 : runK (nums eacS) 0 = 2 := by decide +kernel
  have r : runs (nums eacS) 0 = some 1 := by
    rw [runs_step (by rw [hl]; decide) (by rw [h0]; decide), h0, runs_end (by rw [hl]; decide)]
    rfl
  exact memo_ok r (by decide)
theorem k_bad : isMemo (nums badS) = false := by
  have hl : (nums badS).length = 1 := by decide +kernel
  have h0 : runK (nums badS) 0 = 0 := by decide +kernel
  exact memo_bad (runs_bad (by rw [hl]; decide) h0)
theorem k_mt : isMemo (nums mtS) = true := memo_ok (runs_end (by decide +kernel)) (by decide)
theorem k_val : valX kT = 0 := by
  unfold valX kT
  simp only [k_ann, k_eac, valT, k_bob]
  decide
theorem k_val2 : valX kV = 3 := by
  unfold valX kV
  simp only [k_ann, k_mt]
  decide
theorem k_w (n : Int) (h : 0 ≤ n ∧ n ≤ 1000) : W64 n := ⟨h.1, by omega⟩
theorem k_ok : OkX kT := (val_ok k_val (k_w 0 (by decide)) (k_w 300 (by decide)) (k_w 0 (by decide)) (fun x hx => by
  have e : x = (bobS, 5) := by simpa [kT] using hx
  rw [e]; exact k_w 5 (by decide))).1
theorem k_len : (form kT).length = 21 := by decide +kernel
theorem k_enc : encX kT = (form kT, 0) := by unfold encX; rw [if_neg (by rw [k_val]; decide), if_neg (by rw [k_len]; decide)]
theorem k_dec : decX (form kT) = (kT, 0) := dec_enc k_ok k_val (by rw [k_len]; decide) (by decide)
set_option maxRecDepth 100000 in
set_option maxHeartbeats 8000000 in
theorem known_true (w : World) : Calls Try.prog 9 #[] w fun e w' => e = .returned (.bool true) ∧ Below w.heap.size w w' := by
  go_enter Try.func9, Try.ntmps9
  go_upto_region 1 with fail
  obtain ⟨V2, hst, hb2, hbx⟩ := new_txv (w.alloc (.cells (tfA (bobS, 5)) 58)) kT (some ⟨w.heap.size, 0, none⟩) 1
  have hb1 : Below w.heap.size w (w.alloc (.cells (tfA (bobS, 5)) 58)) := (Below.refl _ w).alloc (Nat.le_refl _) _
  have hc1 : Cs (w.alloc (.cells (tfA (bobS, 5)) 58)) (some ⟨w.heap.size, 0, none⟩) (tfc [(bobS, 5)]) := Cs.block (t := 58) (fr := (0, 0)) (heap_alloc_last w _)
  have hbt := build_tf (bobS, 5) w
  obtain ⟨W1, hW1⟩ : ∃ W1, w.alloc (.cells (tfA (bobS, 5)) 58) = W1 := ⟨_, rfl⟩
  rw [hW1] at hst hb2 hbx hb1 hc1 hbt
  apply wp_region_lit
  refine gw_val (by kernel_rfl) (some 6) rfl (.agg (tfA (bobS, 5))) (by kernel_rfl) ?_
  simp only [pu1, pu2, pu3, pu4]
  refine gw_build (by kernel_rfl) (some 7) rfl 27 1 #[(0, .tmp 6)] rfl #[(0, .agg (tfA (bobS, 5)))] (by kernel_rfl) (.slice (some ⟨w.heap.size, 0, none⟩) 1 1) _ hbt ?_
  simp only [pu1, pu2, pu3, pu4]
  refine gw_val (by kernel_rfl) (some 8) rfl (.agg (txA kT (some ⟨w.heap.size, 0, none⟩) 1)) (by kernel_rfl) ?_
  simp only [pu1, pu2, pu3, pu4]
  refine run_to rfl (some 1) rfl (.pointer (some ⟨W1.heap.size, 0, none⟩)) (W1.alloc (.cells (txA zX none 0) 29)) (by kernel_rfl) ?_
  simp only [pu1, pu2, pu3, pu4]
  refine gw_store (by kernel_rfl) rfl 29 (.tmp 1) (.tmp 8) rfl (.pointer (some ⟨W1.heap.size, 0, none⟩)) (.agg (txA kT (some ⟨w.heap.size, 0, none⟩) 1)) (by kernel_rfl) (by kernel_rfl) (V2) (hst) ?_
  apply wpList_nil
  obtain ⟨g0, hg0⟩ : ∃ g0, w.heap.size = g0 := ⟨_, rfl⟩
  obtain ⟨g1, hg1⟩ : ∃ g1, W1.heap.size = g1 := ⟨_, rfl⟩
  have HB := Lib.hid (hb1.trans (hb2.mono hb1.size))
  have HC := Lib.hid (hc1.below hb2)
  have HX := Lib.hid hbx
  rw [hg1] at HX ⊢
  rw [hg0] at HC HX ⊢
  clear hst hb2 hbx hb1 hc1 hbt hW1 hg0 hg1
  have CE := q_encode kT (some ⟨g0, 0, none⟩) 1 V2 HC.out k_ok.b
  go_upto_region 2 with fail
  apply wp_region_lit
  refine gw_load (by kernel_rfl) (some 10) rfl 29 (.tmp 1) rfl ⟨g1, 0, none⟩ (.agg (txA kT (some ⟨g0, 0, none⟩) 1)) (by kernel_rfl) (load_txb HX.out) ?_
  simp only [pu1, pu2, pu3, pu4]
  refine gw_callE (by kernel_rfl) (some 11) rfl 19 #[.agg (txA kT (some ⟨g0, 0, none⟩) 1)] (fun v w' => ∃ u, v = .tuple #[u, .int .i64 0] ∧ Own w' V2.heap.size u (form kT) ∧ Below V2.heap.size V2 w') (by kernel_rfl) (CE.mono fun e w' q => by obtain ⟨u, h1, h2, h3⟩ := q; rw [k_enc] at h1 h2; exact ⟨_, h1, u, rfl, h2, h3⟩) (fun v3 V3 hq => ?_)
  obtain ⟨u3, rfl, hO3, hb3⟩ := hq
  obtain ⟨b3, d3, rfl, hs3, hd3⟩ := hO3.sl
  have h21 := k_len
  have CD := q_decode b3 d3 (form kT) V3 hs3 hd3 (msg_bytes k_ok.vf)
  have HDE := Lib.hid k_dec
  generalize form kT = L at *
  simp only [pu1, pu2, pu3, pu4]
  refine gw_val (by kernel_rfl) (some 9) rfl (.tuple #[.slice b3 L.length d3, .int .i64 0]) (by kernel_rfl) ?_
  simp only [pu1, pu2, pu3, pu4]
  refine gw_val (by kernel_rfl) (some 12) rfl (.slice b3 L.length d3) (by kernel_rfl) ?_
  simp only [pu1, pu2, pu3, pu4]
  refine gw_val (by kernel_rfl) (some 13) rfl (.int .i64 0) (by kernel_rfl) ?_
  simp only [pu1, pu2, pu3, pu4]
  refine gw_val (by kernel_rfl) (some 2) rfl (.slice b3 L.length d3) (by kernel_rfl) ?_
  simp only [pu1, pu2, pu3, pu4]
  refine gw_val (by kernel_rfl) (some 3) rfl (.int .i64 0) (by kernel_rfl) ?_
  simp only [pu1, pu2, pu3, pu4]
  apply wpList_nil
  have HB3 := Lib.hid (HB.out.trans (hb3.mono HB.out.size))
  have HC3 := Lib.hid (HC.out.below hb3)
  have HX3 := Lib.hid (HX.out.below HX.out.lt hb3)
  clear HB HC HX hb3 hO3 hs3 hd3 CE
  go_upto_region 3 with fail
  apply wp_region_lit
  refine gw_val (by kernel_rfl) (some 15) rfl (.slice b3 L.length d3) (by kernel_rfl) ?_
  simp only [pu1, pu2, pu3, pu4]
  refine gw_callE (by kernel_rfl) (some 16) rfl 22 #[.slice b3 L.length d3] (fun v w' => ∃ a c, v = .tuple #[.agg (txA kT a c), .int .i64 0] ∧ RowT w' V3.heap.size (.slice a kT.tr.length c) kT.tr ∧ Below V3.heap.size V3 w') (by kernel_rfl) (CD.mono fun e w' q => by obtain ⟨a, c, h1, h2, h3⟩ := q; rw [HDE.out] at h1 h2; exact ⟨_, h1, a, c, rfl, h2, h3⟩) (fun v5 V5 hq => ?_)
  obtain ⟨a5, c5, rfl, hR5, hb5⟩ := hq
  obtain ⟨V6, hst6, hb6, hbx6⟩ := new_txv V5 kT a5 c5
  simp only [pu1, pu2, pu3, pu4]
  refine gw_val (by kernel_rfl) (some 14) rfl (.tuple #[.agg (txA kT a5 c5), .int .i64 0]) (by kernel_rfl) ?_
  simp only [pu1, pu2, pu3, pu4]
  refine gw_val (by kernel_rfl) (some 17) rfl (.agg (txA kT a5 c5)) (by kernel_rfl) ?_
  simp only [pu1, pu2, pu3, pu4]
  refine gw_val (by kernel_rfl) (some 18) rfl (.int .i64 0) (by kernel_rfl) ?_
  simp only [pu1, pu2, pu3, pu4]
  refine run_to rfl (some 4) rfl (.pointer (some ⟨V5.heap.size, 0, none⟩)) (V5.alloc (.cells (txA zX none 0) 29)) (by kernel_rfl) ?_
  simp only [pu1, pu2, pu3, pu4]
  refine gw_store (by kernel_rfl) rfl 29 (.tmp 4) (.tmp 17) rfl (.pointer (some ⟨V5.heap.size, 0, none⟩)) (.agg (txA kT a5 c5)) (by kernel_rfl) (by kernel_rfl) (V6) (hst6) ?_
  refine gw_val (by kernel_rfl) (some 5) rfl (.int .i64 0) (by kernel_rfl) ?_
  simp only [pu1, pu2, pu3, pu4]
  apply wpList_nil
  obtain ⟨g5, hg5⟩ : ∃ g5, V5.heap.size = g5 := ⟨_, rfl⟩
  have hb56 := hb5.trans (hb6.mono hb5.size)
  obtain ⟨ar, cr, er, hcr, -⟩ := (hR5.below hb6).cs
  simp only [Value.slice.injEq, true_and] at er
  obtain ⟨rfl, rfl⟩ := er
  have HB6 := Lib.hid (HB3.out.trans (hb56.mono HB3.out.size))
  have HC6 := HC3.out.below hb56
  have HX6 := Lib.hid (HX3.out.below HX3.out.lt hb56)
  have HX5 := Lib.hid hbx6
  rw [hg5] at HX5 ⊢
  have C1 := ref_sametx kT (some ⟨g0, 0, none⟩) a5 1 c5 V6 HC6 hcr (by decide)
  have H1 := Lib.hid (fun V => q_ismemo eacS V (by decide))
  have H2 := Lib.hid (fun V => q_ismemo badS V (by decide))
  have H3 := Lib.hid (fun V => q_isname xS V)
  have H4 := Lib.hid (fun V => q_isname bigS V)
  have H5 := Lib.hid (fun V => q_validate kV none 0 V (Cs.nil _ _) (by decide))
  rw [k_eac] at H1
  rw [k_bad] at H2
  rw [k_x] at H3
  rw [k_big] at H4
  rw [k_val2] at H5
  clear hst6 hb6 hb56 hb5 hbx6 hR5 hcr HB3 HC3 HC6 HX3 hg5 CD HDE
  go_upto_region 4 with fail
  apply wp_region_lit
  refine gw_val (by kernel_rfl) (some 19) rfl (.int .i64 0) (by kernel_rfl) ?_
  simp only [pu1, pu2, pu3, pu4]
  refine gw_val (by kernel_rfl) (some 20) rfl (.bool true) (eql_e rfl (0) (0) (decide_eq_true (rfl)) (by kernel_rfl) (by kernel_rfl) _) ?_
  simp only [pu1, pu2, pu3, pu4]
  refine gw_val (by kernel_rfl) (some 21) rfl (.bool true) (by kernel_rfl) ?_
  simp only [pu1, pu2, pu3, pu4]
  refine gw_val (by kernel_rfl) (some 22) rfl (.slice b3 L.length d3) (by kernel_rfl) ?_
  simp only [pu1, pu2, pu3, pu4]
  refine gw_val (by kernel_rfl) (some 23) rfl (.int .i64 L.length) (by kernel_rfl) ?_
  simp only [pu1, pu2, pu3, pu4]
  refine gw_val (by kernel_rfl) (some 24) rfl (.bool true) (eql_n rfl L.length 21 (decide_eq_true (by omega)) (by kernel_rfl) (by kernel_rfl) _) ?_
  simp only [pu1, pu2, pu3, pu4]
  refine gw_val (by kernel_rfl) (some 25) rfl (.bool true) (by kernel_rfl) ?_
  simp only [pu1, pu2, pu3, pu4]
  refine gw_val (by kernel_rfl) (some 26) rfl (.bool true) (by kernel_rfl) ?_
  simp only [pu1, pu2, pu3, pu4]
  refine gw_val (by kernel_rfl) (some 27) rfl (.int .i64 0) (by kernel_rfl) ?_
  simp only [pu1, pu2, pu3, pu4]
  refine gw_val (by kernel_rfl) (some 28) rfl (.bool true) (eql_e rfl (0) (0) (decide_eq_true (rfl)) (by kernel_rfl) (by kernel_rfl) _) ?_
  simp only [pu1, pu2, pu3, pu4]
  refine gw_val (by kernel_rfl) (some 29) rfl (.bool true) (by kernel_rfl) ?_
  simp only [pu1, pu2, pu3, pu4]
  refine gw_val (by kernel_rfl) (some 30) rfl (.bool true) (by kernel_rfl) ?_
  simp only [pu1, pu2, pu3, pu4]
  refine gw_load (by kernel_rfl) (some 31) rfl 29 (.tmp 1) rfl ⟨g1, 0, none⟩ (.agg (txA kT (some ⟨g0, 0, none⟩) 1)) (by kernel_rfl) (load_txb HX6.out) ?_
  simp only [pu1, pu2, pu3, pu4]
  refine gw_load (by kernel_rfl) (some 32) rfl 29 (.tmp 4) rfl ⟨g5, 0, none⟩ (.agg (txA kT a5 c5)) (by kernel_rfl) (load_txb HX5.out) ?_
  simp only [pu1, pu2, pu3, pu4]
  refine gw_call (by kernel_rfl) (some 33) rfl 23 #[.agg (txA kT (some ⟨g0, 0, none⟩) 1), .agg (txA kT a5 c5)] (.bool true) (fun w' => Below V6.heap.size V6 w') (by kernel_rfl) (C1) (fun Y1 hY1 => ?_)
  simp only [pu1, pu2, pu3, pu4]
  refine gw_val (by kernel_rfl) (some 34) rfl (.bool true) (by kernel_rfl) ?_
  simp only [pu1, pu2, pu3, pu4]
  refine gw_val (by kernel_rfl) (some 35) rfl (.bool true) (by kernel_rfl) ?_
  simp only [pu1, pu2, pu3, pu4]
  refine gw_call (by kernel_rfl) (some 36) rfl 12 #[.string eacS] (.bool true) (fun w' => Below Y1.heap.size Y1 w') (by kernel_rfl) (H1.out Y1) (fun Y2 hY2 => ?_)
  simp only [pu1, pu2, pu3, pu4]
  refine gw_val (by kernel_rfl) (some 37) rfl (.bool true) (by kernel_rfl) ?_
  simp only [pu1, pu2, pu3, pu4]
  refine gw_val (by kernel_rfl) (some 38) rfl (.bool true) (by kernel_rfl) ?_
  simp only [pu1, pu2, pu3, pu4]
  refine gw_call (by kernel_rfl) (some 39) rfl 12 #[.string badS] (.bool false) (fun w' => Below Y2.heap.size Y2 w') (by kernel_rfl) (H2.out Y2) (fun Y3 hY3 => ?_)
  simp only [pu1, pu2, pu3, pu4]
  refine gw_val (by kernel_rfl) (some 40) rfl (.bool true) (by kernel_rfl) ?_
  simp only [pu1, pu2, pu3, pu4]
  refine gw_val (by kernel_rfl) (some 41) rfl (.bool true) (by kernel_rfl) ?_
  simp only [pu1, pu2, pu3, pu4]
  refine gw_val (by kernel_rfl) (some 42) rfl (.bool true) (by kernel_rfl) ?_
  simp only [pu1, pu2, pu3, pu4]
  refine gw_call (by kernel_rfl) (some 43) rfl 10 #[.string xS] (.bool true) (fun w' => Below Y3.heap.size Y3 w') (by kernel_rfl) (H3.out Y3) (fun Y4 hY4 => ?_)
  simp only [pu1, pu2, pu3, pu4]
  refine gw_val (by kernel_rfl) (some 44) rfl (.bool true) (by kernel_rfl) ?_
  simp only [pu1, pu2, pu3, pu4]
  refine gw_val (by kernel_rfl) (some 45) rfl (.bool true) (by kernel_rfl) ?_
  simp only [pu1, pu2, pu3, pu4]
  refine gw_call (by kernel_rfl) (some 46) rfl 10 #[.string bigS] (.bool false) (fun w' => Below Y4.heap.size Y4 w') (by kernel_rfl) (H4.out Y4) (fun Y5 hY5 => ?_)
  simp only [pu1, pu2, pu3, pu4]
  refine gw_val (by kernel_rfl) (some 47) rfl (.bool true) (by kernel_rfl) ?_
  simp only [pu1, pu2, pu3, pu4]
  refine gw_val (by kernel_rfl) (some 48) rfl (.bool true) (by kernel_rfl) ?_
  simp only [pu1, pu2, pu3, pu4]
  refine gw_val (by kernel_rfl) (some 49) rfl (.bool true) (by kernel_rfl) ?_
  simp only [pu1, pu2, pu3, pu4]
  refine gw_val (by kernel_rfl) (some 50) rfl (.agg (txA kV none 0)) (by kernel_rfl) ?_
  simp only [pu1, pu2, pu3, pu4]
  refine gw_call (by kernel_rfl) (some 51) rfl 17 #[.agg (txA kV none 0)] (.int .i64 3) (fun w' => Below Y5.heap.size Y5 w') (by kernel_rfl) (H5.out Y5) (fun Y6 hY6 => ?_)
  simp only [pu1, pu2, pu3, pu4]
  refine gw_val (by kernel_rfl) (some 52) rfl (.bool true) (eql_e rfl (3) (3) (decide_eq_true (rfl)) (by kernel_rfl) (by kernel_rfl) _) ?_
  simp only [pu1, pu2, pu3, pu4]
  refine gw_val (by kernel_rfl) (some 53) rfl (.bool true) (by kernel_rfl) ?_
  simp only [pu1, pu2, pu3, pu4]
  refine gw_val (by kernel_rfl) (some 0) rfl (.bool true) (by kernel_rfl) ?_
  simp only [pu1, pu2, pu3, pu4]
  apply wpList_nil
  have s6 := HB6.out.size
  have HE := Lib.hid (HB6.out.trans ((hY1.trans ((hY2.trans ((hY3.trans ((hY4.trans ((hY5.trans (hY6.mono hY5.size)).mono hY4.size)).mono hY3.size)).mono hY2.size)).mono hY1.size)).mono s6))
  clear hY1 hY2 hY3 hY4 hY5 hY6 HB6
  go_wp2_with fail
  go_ret
  exact ⟨rfl, HE.out⟩
end Go.Proofs.Ytaaeepanelmgnaa
