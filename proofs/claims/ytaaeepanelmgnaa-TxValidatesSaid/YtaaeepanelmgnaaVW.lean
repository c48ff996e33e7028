/-
  The walk of TxValidates.
-/
import Derived.Test.YtaaeepanelmgnaaOL
namespace Go.Proofs.Ytaaeepanelmgnaa
open Go.RowKit
set_option linter.unusedSimpArgs false
set_option linter.unusedVariables false

set_option maxRecDepth 100000 in
set_option maxHeartbeats 8000000 in
theorem validates_core (t : Txd) (a : Option Addr) (c : Nat) (ak : Option Addr) (ck : Nat) (L : List Int) (w : World) (hz : t.tr.length * 24 ≤ 140737488351232) (hR : Cs w a (tfc t.tr)) (hB : TxB t) (hl : L.length ≤ 9223372036854775807) (hk : Cs w ak (icells L)) :
    Calls Try.prog 4 #[.agg (txA t a c), .slice ak L.length ck] w fun e w' => e = .returned (.bool true) ∧ Below w.heap.size w w' := by
  have HK := Lib.hid (fun (V : World) (h : Below w.heap.size w V) => (known_true V).mono fun e w' (q : e = .returned (.bool true) ∧ Below V.heap.size V w') => (⟨q.1, h.trans (q.2.mono h.size)⟩ : e = .returned (.bool true) ∧ Below w.heap.size w w'))
  have HTB := Lib.hid hB
  have HTZ := Lib.hid hz
  have HNL := Lib.hid hl
  have hb1 : Below w.heap.size w (w.alloc (.cells (txA t a c) 29)) := (Below.refl _ w).alloc (Nat.le_refl _) _
  have hX1 : Bx (w.alloc (.cells (txA t a c) 29)) w.heap.size (txA t a c) 29 := heap_alloc_last w _
  have HCT := hR.below hb1
  have HCK := hk.below hb1
  clear hB hz hl hR hk
  go_enter Try.func4, Try.ntmps4
  go_upto_region 1 with fail
  change Code.wp _ _ _ _ (w.alloc (.cells (txA t a c) 29))
  generalize w.alloc (.cells (txA t a c) 29) = W at *
  obtain ⟨g2, hg2⟩ : ∃ g2, w.heap.size = g2 := ⟨_, rfl⟩
  rw [hg2] at hX1
  try rw [hg2]
  have hX2 := hX1.below hX1.lt ((Below.refl _ W).alloc (Nat.le_refl _) (.cells #[.slice ak L.length ck] 30))
  have hbl : Below w.heap.size w (W.alloc (.cells #[.slice ak L.length ck] 30)) := hb1.alloc hb1.size _
  have HCT2 := HCT.below ((Below.refl _ W).alloc (Nat.le_refl _) (.cells #[.slice ak L.length ck] 30))
  have HCK2 := HCK.below ((Below.refl _ W).alloc (Nat.le_refl _) (.cells #[.slice ak L.length ck] 30))
  have CLn := long_one W.heap.size ak L.length ck (W.alloc (.cells #[.slice ak L.length ck] 30)) (heap_alloc_last W _) HNL.out
  have hor := one_row ak L.length ck W
  generalize W.alloc (.cells #[.slice ak L.length ck] 30) = W1 at *
  have CB := big_any t a c W1 HCT2 (by have := HTZ.out; omega)
  clear HCT HCK hX1 hb1 hg2
  by_cases hL : 160 < L.length
  · skip
    rw [decide_eq_true (by omega)] at CLn
    apply wp_region_lit
    refine gw_val (by kernel_rfl) (some 7) rfl (.slice ak L.length ck) (by kernel_rfl) ?_
    simp only [pu1, pu2, pu3, pu4]
    refine gw_build (by kernel_rfl) (some 8) rfl 64 1 #[(0, .tmp 7)] rfl #[(0, .slice ak L.length ck)] (by kernel_rfl) (.slice (some ⟨W.heap.size, 0, none⟩) 1 1) _ hor ?_
    simp only [pu1, pu2, pu3, pu4]
    refine gw_call (by kernel_rfl) (some 9) rfl 14 #[.slice (some ⟨W.heap.size, 0, none⟩) 1 1] (.bool true) (fun w' => W1 = w') (by kernel_rfl) CLn (fun W2 hW => ?_)
    subst hW
    simp only [pu1, pu2, pu3, pu4]
    refine gw_val (by kernel_rfl) (some 10) rfl (.bool true) (by kernel_rfl) ?_
    simp only [pu1, pu2, pu3, pu4]
    with_reducible refine gw_not (by kernel_rfl) (some 11) rfl ?_
    simp only [pu1, pu2, pu3, pu4]
    with_reducible refine gw_not (by kernel_rfl) (some 12) rfl ?_
    simp only [pu1, pu2, pu3, pu4]
    refine gw_val (by kernel_rfl) (some 13) rfl (.bool true) (by kernel_rfl) ?_
    simp only [pu1, pu2, pu3, pu4]
    apply wpList_nil
    clear CLn CB hor hX2 HCT2 HCK2
    go_upto_region 2 with fail
    apply wp_region_lit
    refine gw_call (by kernel_rfl) (some 14) rfl 9 #[] (.bool true) (fun w' => Below w.heap.size w w') (by kernel_rfl) (HK.out W1 (hbl)) (fun V9 hV9 => ?_)
    simp only [pu1, pu2, pu3, pu4]
    refine gw_val (by kernel_rfl) (some 4) rfl (.bool true) (by kernel_rfl) ?_
    simp only [pu1, pu2, pu3, pu4]
    apply wpList_nil
    have HE := Lib.hid hV9
    clear hV9
    go_wp2_with fail
    go_ret
    exact ⟨rfl, HE.out⟩
  · skip
    rw [decide_eq_false (by omega)] at CLn
    apply wp_region_lit
    refine gw_val (by kernel_rfl) (some 7) rfl (.slice ak L.length ck) (by kernel_rfl) ?_
    simp only [pu1, pu2, pu3, pu4]
    refine gw_build (by kernel_rfl) (some 8) rfl 64 1 #[(0, .tmp 7)] rfl #[(0, .slice ak L.length ck)] (by kernel_rfl) (.slice (some ⟨W.heap.size, 0, none⟩) 1 1) _ hor ?_
    simp only [pu1, pu2, pu3, pu4]
    refine gw_call (by kernel_rfl) (some 9) rfl 14 #[.slice (some ⟨W.heap.size, 0, none⟩) 1 1] (.bool false) (fun w' => W1 = w') (by kernel_rfl) CLn (fun W2 hW => ?_)
    subst hW
    simp only [pu1, pu2, pu3, pu4]
    refine gw_val (by kernel_rfl) (some 10) rfl (.bool false) (by kernel_rfl) ?_
    simp only [pu1, pu2, pu3, pu4]
    refine gw_load (by kernel_rfl) (some 11) rfl 29 (.tmp 2) rfl ⟨g2, 0, none⟩ (.agg (txA t a c)) (by kernel_rfl) (load_txb hX2) ?_
    simp only [pu1, pu2, pu3, pu4]
    refine gw_callE (by kernel_rfl) (some 12) rfl 15 #[.agg (txA t a c)] (fun v w' => ∃ b, v = .bool b ∧ Below W1.heap.size W1 w') (by kernel_rfl) (CB.mono fun e w' q => by obtain ⟨⟨b, h1⟩, h2⟩ := q; exact ⟨_, h1, b, rfl, h2⟩) (fun vv W3 hq => ?_)
    obtain ⟨bb, rfl, hbb⟩ := hq
    simp only [pu1, pu2, pu3, pu4]
    refine gw_val (by kernel_rfl) (some 13) rfl (.bool bb) (by kernel_rfl) ?_
    simp only [pu1, pu2, pu3, pu4]
    apply wpList_nil
    have hX3 := hX2.below hX2.lt hbb
    have hb3 := hbl.trans (hbb.mono hbl.size)
    have CM := made_any ak ck L t a c W3 (HCK2.below hbb) (by omega) (HCT2.below hbb) HTB.out HTZ.out
    have HCT3 := HCT2.below hbb
    clear CLn CB hor hX2 HCT2 HCK2 hbb hbl
    cases bb
    · skip
      go_upto_region 3 with fail
      apply wp_region_lit
      refine gw_val (by kernel_rfl) (some 16) rfl (.slice ak L.length ck) (by kernel_rfl) ?_
      simp only [pu1, pu2, pu3, pu4]
      refine gw_load (by kernel_rfl) (some 17) rfl 29 (.tmp 2) rfl ⟨g2, 0, none⟩ (.agg (txA t a c)) (by kernel_rfl) (load_txb hX3) ?_
      simp only [pu1, pu2, pu3, pu4]
      refine gw_callE (by kernel_rfl) (some 18) rfl 16 #[.slice ak L.length ck, .agg (txA t a c)] (fun v w' => ∃ xa xb a1 c1 a2 c2, v = .tuple #[.agg (txA xa a1 c1), .agg (txA xb a2 c2)] ∧ Cs w' a1 (tfc xa.tr) ∧ Cs w' a2 (tfc xb.tr) ∧ GQ xa ∧ 1 ≤ xa.tr.length ∧ xa.tr.length ≤ 3 ∧ TxB xb ∧ wtX xb ≤ 1000 + wtX t ∧ Below W3.heap.size W3 w') (by kernel_rfl) (CM.mono fun e w' q => by obtain ⟨xa, xb, a1, c1, a2, c2, h1, h2⟩ := q; exact ⟨_, h1, xa, xb, a1, c1, a2, c2, rfl, h2⟩) (fun vv V4 hq => ?_)
      obtain ⟨xa, xb, a1, c1, a2, c2, rfl, hca, hcb, hgq, hm1, hm3, htb, hwt, hbm⟩ := hq
      obtain ⟨Va, V5, V6, hVa, hlt, hst5, hst6, hbn, hx5, hx6⟩ := new_two V4 xa xb a1 a2 c1 c2
      simp only [pu1, pu2, pu3, pu4]
      refine gw_val (by kernel_rfl) (some 15) rfl (.tuple #[.agg (txA xa a1 c1), .agg (txA xb a2 c2)]) (by kernel_rfl) ?_
      simp only [pu1, pu2, pu3, pu4]
      refine gw_val (by kernel_rfl) (some 19) rfl (.agg (txA xa a1 c1)) (by kernel_rfl) ?_
      simp only [pu1, pu2, pu3, pu4]
      refine gw_val (by kernel_rfl) (some 20) rfl (.agg (txA xb a2 c2)) (by kernel_rfl) ?_
      simp only [pu1, pu2, pu3, pu4]
      refine run_to rfl (some 5) rfl (.pointer (some ⟨V4.heap.size, 0, none⟩)) (V4.alloc (.cells (txA zX none 0) 29)) (by kernel_rfl) ?_
      simp only [pu1, pu2, pu3, pu4]
      rw [hVa]
      refine run_to rfl (some 6) rfl (.pointer (some ⟨Va.heap.size, 0, none⟩)) (Va.alloc (.cells (txA zX none 0) 29)) (by kernel_rfl) ?_
      simp only [pu1, pu2, pu3, pu4]
      refine gw_store (by kernel_rfl) rfl 29 (.tmp 5) (.tmp 19) rfl (.pointer (some ⟨V4.heap.size, 0, none⟩)) (.agg (txA xa a1 c1)) (by kernel_rfl) (by kernel_rfl) (V5) (hst5) ?_
      refine gw_store (by kernel_rfl) rfl 29 (.tmp 6) (.tmp 20) rfl (.pointer (some ⟨Va.heap.size, 0, none⟩)) (.agg (txA xb a2 c2)) (by kernel_rfl) (by kernel_rfl) (V6) (hst6) ?_
      apply wpList_nil
      obtain ⟨g5, hg5⟩ : ∃ g5, V4.heap.size = g5 := ⟨_, rfl⟩
      obtain ⟨g6, hg6⟩ : ∃ g6, Va.heap.size = g6 := ⟨_, rfl⟩
      have hb4 := hb3.trans (hbm.mono hb3.size)
      have hX4 := hX3.below hX3.lt hbm
      have HV : Hid (Vd w g2 g5 g6 t a c xa a1 c1 xb a2 c2 V6) := Lib.hid ⟨hb4.trans (hbn.mono hb4.size), hX4.below hX4.lt hbn, by rw [← hg5]; exact hx5, by rw [← hg6]; exact hx6, (HCT3.below hbm).below hbn, hca.below hbn, hcb.below hbn⟩
      have HGQ := Lib.hid hgq
      have HM13 : Hid (1 ≤ xa.tr.length ∧ xa.tr.length ≤ 3) := Lib.hid ⟨hm1, hm3⟩
      have HXB := Lib.hid htb
      have HWT := Lib.hid hwt
      rw [hg5, hg6]
      clear hVa hlt hst5 hst6 hbn hx5 hx6 hg5 hg6 hb4 hX4 hX3 hb3 CM HCT3 hbm hca hcb hgq hm1 hm3 htb hwt hL
      have hva := HGQ.out.val HM13.out.1 (by have := HM13.out.2; omega)
      have CT := Lib.hid (fun V h => q_validate t a c V h HTB.out.s2)
      have CR := Lib.hid (fun V h => ref_validate t a c V h HTB.out.s1 HTB.out.s2 HTB.out.s3)
      have CA := Lib.hid (fun V h => q_validate xa a1 c1 V h HGQ.out.b.s2)
      have CX := Lib.hid (fun V h => q_validate xb a2 c2 V h HXB.out.s2)
      have CY := Lib.hid (fun V h => ref_validate xb a2 c2 V h HXB.out.s1 HXB.out.s2 HXB.out.s3)
      rw [hva] at CA
      generalize valX t = et at *
      generalize valX xb = eb at *
      have h0 := HV.out.drew
      clear hva HV HGQ HM13 HXB HWT HTB HTZ HNL
      go_upto_region 4 with fail
      refine wp_region_inv (fun listed act9 V => ∃ b0 b1 b2 b3 b4 b5 b6 b7 b8 b9 b10 b11 b12 b13 b14 b15 b16 b17 b18 b19 b20 : Bool, listed = #[b0, b1, b2, b3, b4, b5, b6, b7, b8, b9, b10, b11, b12, b13, b14, b15, b16, b17, b18, b19, b20] ∧ act9 = { tmps := #[.agg (txA t a c), .slice ak L.length ck, .pointer (some ⟨g2, 0, none⟩), undef, (cond b20 (.bool true) (.bool false)), .pointer (some ⟨g5, 0, none⟩), .pointer (some ⟨g6, 0, none⟩), .slice ak L.length ck, .slice (some ⟨W.heap.size, 0, none⟩) 1 1, .bool false, .bool false, .agg (txA t a c), .bool false, .bool false, undef, .tuple #[.agg (txA xa a1 c1), .agg (txA xb a2 c2)], .slice ak L.length ck, .agg (txA t a c), .tuple #[.agg (txA xa a1 c1), .agg (txA xb a2 c2)], .agg (txA xa a1 c1), .agg (txA xb a2 c2), (cond b0 (.agg (txA t a c)) undef), (cond b1 (.int .i64 et) undef), (cond b2 (.agg (txA t a c)) undef), (cond b3 (.int .i64 et) undef), (cond b4 (.bool true) undef), (cond b5 (.bool true) undef), (cond b6 (.agg (txA xa a1 c1)) undef), (cond b7 (.int .i64 0) undef), (cond b8 (.bool true) undef), (cond b9 (.bool true) undef), (cond b10 (.bool true) undef), (cond b11 (.agg (txA xb a2 c2)) undef), (cond b12 (.int .i64 eb) undef), (cond b13 (.agg (txA xb a2 c2)) undef), (cond b14 (.int .i64 eb) undef), (cond b15 (.bool true) undef), (cond b16 (.bool true) undef), (cond b17 (.bool true) undef), (cond b18 (.bool true) undef), (cond b19 (.bool true) undef)], defers := [] } ∧ Vd w g2 g5 g6 t a c xa a1 c1 xb a2 c2 V) (by kernel_rfl) (by kernel_rfl) ?_ ?_ ?_
      · exact ⟨false, false, false, false, false, false, false, false, false, false, false, false, false, false, false, false, false, false, false, false, false, rfl, rfl, h0⟩
      · intro i9 listed act9 V hi9 hr hJ
        obtain ⟨b0, b1, b2, b3, b4, b5, b6, b7, b8, b9, b10, b11, b12, b13, b14, b15, b16, b17, b18, b19, b20, rfl, rfl, hF⟩ := hJ
        have hi2 : i9 < 21 := hi9
        have hi3 : i9 = 0 ∨ i9 = 1 ∨ i9 = 2 ∨ i9 = 3 ∨ i9 = 4 ∨ i9 = 5 ∨ i9 = 6 ∨ i9 = 7 ∨ i9 = 8 ∨ i9 = 9 ∨ i9 = 10 ∨ i9 = 11 ∨ i9 = 12 ∨ i9 = 13 ∨ i9 = 14 ∨ i9 = 15 ∨ i9 = 16 ∨ i9 = 17 ∨ i9 = 18 ∨ i9 = 19 ∨ i9 = 20 := by omega
        rcases hi3 with rfl | rfl | rfl | rfl | rfl | rfl | rfl | rfl | rfl | rfl | rfl | rfl | rfl | rfl | rfl | rfl | rfl | rfl | rfl | rfl | rfl
        · obtain rfl : b0 = false := ready_self hr
          refine st_load rfl (by kernel_rfl) (some 21) rfl 29 (.tmp 2) rfl ⟨g2, 0, none⟩ (.agg (txA t a c)) (by kernel_rfl) (load_txb hF.b2) ?_
          exact ⟨true, b1, b2, b3, b4, b5, b6, b7, b8, b9, b10, b11, b12, b13, b14, b15, b16, b17, b18, b19, b20, rfl, rfl, hF⟩
        · obtain rfl : b1 = false := ready_self hr
          obtain rfl : b0 = true := ready_dep hr 0 (by kernel_rfl)
          refine st_call rfl (by kernel_rfl) (some 22) rfl 17 #[.agg (txA t a c)] (by kernel_rfl) ((CT.out V hF.r2).mono ?_)
          rintro e V2 ⟨rfl, hb⟩
          exact ⟨_, rfl, true, true, b2, b3, b4, b5, b6, b7, b8, b9, b10, b11, b12, b13, b14, b15, b16, b17, b18, b19, b20, rfl, rfl, hF.below hb⟩
        · obtain rfl : b2 = false := ready_self hr
          refine st_load rfl (by kernel_rfl) (some 23) rfl 29 (.tmp 2) rfl ⟨g2, 0, none⟩ (.agg (txA t a c)) (by kernel_rfl) (load_txb hF.b2) ?_
          exact ⟨b0, b1, true, b3, b4, b5, b6, b7, b8, b9, b10, b11, b12, b13, b14, b15, b16, b17, b18, b19, b20, rfl, rfl, hF⟩
        · obtain rfl : b3 = false := ready_self hr
          obtain rfl : b2 = true := ready_dep hr 2 (by kernel_rfl)
          refine st_call rfl (by kernel_rfl) (some 24) rfl 18 #[.agg (txA t a c)] (by kernel_rfl) ((CR.out V hF.r2).mono ?_)
          rintro e V2 ⟨rfl, hb⟩
          exact ⟨_, rfl, b0, b1, true, true, b4, b5, b6, b7, b8, b9, b10, b11, b12, b13, b14, b15, b16, b17, b18, b19, b20, rfl, rfl, hF.below hb⟩
        · obtain rfl : b4 = false := ready_self hr
          obtain rfl : b1 = true := ready_dep hr 1 (by kernel_rfl)
          obtain rfl : b3 = true := ready_dep hr 3 (by kernel_rfl)
          refine st_val rfl (by kernel_rfl) (some 25) rfl (.bool true) V (eql_e rfl et et (decide_eq_true rfl) (by kernel_rfl) (by kernel_rfl) _) ?_
          exact ⟨b0, true, b2, true, true, b5, b6, b7, b8, b9, b10, b11, b12, b13, b14, b15, b16, b17, b18, b19, b20, rfl, rfl, hF⟩
        · obtain rfl : b5 = false := ready_self hr
          obtain rfl : b4 = true := ready_dep hr 4 (by kernel_rfl)
          refine st_val rfl (by kernel_rfl) (some 26) rfl (.bool true) V (by kernel_rfl) ?_
          exact ⟨b0, b1, b2, b3, true, true, b6, b7, b8, b9, b10, b11, b12, b13, b14, b15, b16, b17, b18, b19, b20, rfl, rfl, hF⟩
        · obtain rfl : b6 = false := ready_self hr
          obtain rfl : b5 = true := ready_dep hr 5 (by kernel_rfl)
          refine st_load rfl (by kernel_rfl) (some 27) rfl 29 (.tmp 5) rfl ⟨g5, 0, none⟩ (.agg (txA xa a1 c1)) (by kernel_rfl) (load_txb hF.b5) ?_
          exact ⟨b0, b1, b2, b3, b4, true, true, b7, b8, b9, b10, b11, b12, b13, b14, b15, b16, b17, b18, b19, b20, rfl, rfl, hF⟩
        · obtain rfl : b7 = false := ready_self hr
          obtain rfl : b5 = true := ready_dep hr 5 (by kernel_rfl)
          obtain rfl : b6 = true := ready_dep hr 6 (by kernel_rfl)
          refine st_call rfl (by kernel_rfl) (some 28) rfl 17 #[.agg (txA xa a1 c1)] (by kernel_rfl) ((CA.out V hF.r5).mono ?_)
          rintro e V2 ⟨rfl, hb⟩
          exact ⟨_, rfl, b0, b1, b2, b3, b4, true, true, true, b8, b9, b10, b11, b12, b13, b14, b15, b16, b17, b18, b19, b20, rfl, rfl, hF.below hb⟩
        · obtain rfl : b8 = false := ready_self hr
          obtain rfl : b5 = true := ready_dep hr 5 (by kernel_rfl)
          obtain rfl : b7 = true := ready_dep hr 7 (by kernel_rfl)
          refine st_val rfl (by kernel_rfl) (some 29) rfl (.bool true) V (eql_e rfl 0 0 (decide_eq_true rfl) (by kernel_rfl) (by kernel_rfl) _) ?_
          exact ⟨b0, b1, b2, b3, b4, true, b6, true, true, b9, b10, b11, b12, b13, b14, b15, b16, b17, b18, b19, b20, rfl, rfl, hF⟩
        · obtain rfl : b9 = false := ready_self hr
          obtain rfl : b5 = true := ready_dep hr 5 (by kernel_rfl)
          obtain rfl : b8 = true := ready_dep hr 8 (by kernel_rfl)
          refine st_val rfl (by kernel_rfl) (some 30) rfl (.bool true) V (by kernel_rfl) ?_
          exact ⟨b0, b1, b2, b3, b4, true, b6, b7, true, true, b10, b11, b12, b13, b14, b15, b16, b17, b18, b19, b20, rfl, rfl, hF⟩
        · obtain rfl : b10 = false := ready_self hr
          obtain rfl : b9 = true := ready_dep hr 9 (by kernel_rfl)
          refine st_val rfl (by kernel_rfl) (some 31) rfl (.bool true) V (by kernel_rfl) ?_
          exact ⟨b0, b1, b2, b3, b4, b5, b6, b7, b8, true, true, b11, b12, b13, b14, b15, b16, b17, b18, b19, b20, rfl, rfl, hF⟩
        · obtain rfl : b11 = false := ready_self hr
          obtain rfl : b10 = true := ready_dep hr 10 (by kernel_rfl)
          refine st_load rfl (by kernel_rfl) (some 32) rfl 29 (.tmp 6) rfl ⟨g6, 0, none⟩ (.agg (txA xb a2 c2)) (by kernel_rfl) (load_txb hF.b6) ?_
          exact ⟨b0, b1, b2, b3, b4, b5, b6, b7, b8, b9, true, true, b12, b13, b14, b15, b16, b17, b18, b19, b20, rfl, rfl, hF⟩
        · obtain rfl : b12 = false := ready_self hr
          obtain rfl : b10 = true := ready_dep hr 10 (by kernel_rfl)
          obtain rfl : b11 = true := ready_dep hr 11 (by kernel_rfl)
          refine st_call rfl (by kernel_rfl) (some 33) rfl 17 #[.agg (txA xb a2 c2)] (by kernel_rfl) ((CX.out V hF.r6).mono ?_)
          rintro e V2 ⟨rfl, hb⟩
          exact ⟨_, rfl, b0, b1, b2, b3, b4, b5, b6, b7, b8, b9, true, true, true, b13, b14, b15, b16, b17, b18, b19, b20, rfl, rfl, hF.below hb⟩
        · obtain rfl : b13 = false := ready_self hr
          obtain rfl : b10 = true := ready_dep hr 10 (by kernel_rfl)
          refine st_load rfl (by kernel_rfl) (some 34) rfl 29 (.tmp 6) rfl ⟨g6, 0, none⟩ (.agg (txA xb a2 c2)) (by kernel_rfl) (load_txb hF.b6) ?_
          exact ⟨b0, b1, b2, b3, b4, b5, b6, b7, b8, b9, true, b11, b12, true, b14, b15, b16, b17, b18, b19, b20, rfl, rfl, hF⟩
        · obtain rfl : b14 = false := ready_self hr
          obtain rfl : b10 = true := ready_dep hr 10 (by kernel_rfl)
          obtain rfl : b13 = true := ready_dep hr 13 (by kernel_rfl)
          refine st_call rfl (by kernel_rfl) (some 35) rfl 18 #[.agg (txA xb a2 c2)] (by kernel_rfl) ((CY.out V hF.r6).mono ?_)
          rintro e V2 ⟨rfl, hb⟩
          exact ⟨_, rfl, b0, b1, b2, b3, b4, b5, b6, b7, b8, b9, true, b11, b12, true, true, b15, b16, b17, b18, b19, b20, rfl, rfl, hF.below hb⟩
        · obtain rfl : b15 = false := ready_self hr
          obtain rfl : b10 = true := ready_dep hr 10 (by kernel_rfl)
          obtain rfl : b12 = true := ready_dep hr 12 (by kernel_rfl)
          obtain rfl : b14 = true := ready_dep hr 14 (by kernel_rfl)
          refine st_val rfl (by kernel_rfl) (some 36) rfl (.bool true) V (eql_e rfl eb eb (decide_eq_true rfl) (by kernel_rfl) (by kernel_rfl) _) ?_
          exact ⟨b0, b1, b2, b3, b4, b5, b6, b7, b8, b9, true, b11, true, b13, true, true, b16, b17, b18, b19, b20, rfl, rfl, hF⟩
        · obtain rfl : b16 = false := ready_self hr
          obtain rfl : b10 = true := ready_dep hr 10 (by kernel_rfl)
          obtain rfl : b15 = true := ready_dep hr 15 (by kernel_rfl)
          refine st_val rfl (by kernel_rfl) (some 37) rfl (.bool true) V (by kernel_rfl) ?_
          exact ⟨b0, b1, b2, b3, b4, b5, b6, b7, b8, b9, true, b11, b12, b13, b14, true, true, b17, b18, b19, b20, rfl, rfl, hF⟩
        · obtain rfl : b17 = false := ready_self hr
          obtain rfl : b16 = true := ready_dep hr 16 (by kernel_rfl)
          refine st_val rfl (by kernel_rfl) (some 38) rfl (.bool true) V (by kernel_rfl) ?_
          exact ⟨b0, b1, b2, b3, b4, b5, b6, b7, b8, b9, b10, b11, b12, b13, b14, b15, true, true, b18, b19, b20, rfl, rfl, hF⟩
        · obtain rfl : b18 = false := ready_self hr
          obtain rfl : b17 = true := ready_dep hr 17 (by kernel_rfl)
          refine st_call rfl (by kernel_rfl) (some 39) rfl 9 #[] (by kernel_rfl) ((known_true V).mono ?_)
          rintro e V2 ⟨rfl, hb⟩
          exact ⟨_, rfl, b0, b1, b2, b3, b4, b5, b6, b7, b8, b9, b10, b11, b12, b13, b14, b15, b16, true, true, b19, b20, rfl, rfl, hF.below hb⟩
        · obtain rfl : b19 = false := ready_self hr
          obtain rfl : b17 = true := ready_dep hr 17 (by kernel_rfl)
          obtain rfl : b18 = true := ready_dep hr 18 (by kernel_rfl)
          refine st_val rfl (by kernel_rfl) (some 40) rfl (.bool true) V (by kernel_rfl) ?_
          exact ⟨b0, b1, b2, b3, b4, b5, b6, b7, b8, b9, b10, b11, b12, b13, b14, b15, b16, true, true, true, b20, rfl, rfl, hF⟩
        · obtain rfl : b20 = false := ready_self hr
          obtain rfl : b19 = true := ready_dep hr 19 (by kernel_rfl)
          refine st_val rfl (by kernel_rfl) (some 4) rfl (.bool true) V (by kernel_rfl) ?_
          exact ⟨b0, b1, b2, b3, b4, b5, b6, b7, b8, b9, b10, b11, b12, b13, b14, b15, b16, b17, b18, true, true, rfl, rfl, hF⟩
      · intro act9 V hJ
        obtain ⟨b0, b1, b2, b3, b4, b5, b6, b7, b8, b9, b10, b11, b12, b13, b14, b15, b16, b17, b18, b19, b20, he, rfl, hF⟩ := hJ
        have he : (#[true, true, true, true, true, true, true, true, true, true, true, true, true, true, true, true, true, true, true, true, true] : Array Bool) = #[b0, b1, b2, b3, b4, b5, b6, b7, b8, b9, b10, b11, b12, b13, b14, b15, b16, b17, b18, b19, b20] := he
        simp only [Array.mk.injEq, List.cons.injEq, and_true] at he
        obtain ⟨rfl, rfl, rfl, rfl, rfl, rfl, rfl, rfl, rfl, rfl, rfl, rfl, rfl, rfl, rfl, rfl, rfl, rfl, rfl, rfl, rfl⟩ := he
        simp only [cond_true]
        have HE := Lib.hid hF.bel
        clear hF h0 CT CR CA CX CY
        go_wp2_with fail
        go_ret
        exact ⟨rfl, HE.out⟩
    · skip
      clear CM HCT3 hX3
      go_upto_region 2 with fail
      apply wp_region_lit
      refine gw_call (by kernel_rfl) (some 14) rfl 9 #[] (.bool true) (fun w' => Below w.heap.size w w') (by kernel_rfl) (HK.out W3 (hb3)) (fun V9 hV9 => ?_)
      simp only [pu1, pu2, pu3, pu4]
      refine gw_val (by kernel_rfl) (some 4) rfl (.bool true) (by kernel_rfl) ?_
      simp only [pu1, pu2, pu3, pu4]
      apply wpList_nil
      have HE := Lib.hid hV9
      clear hV9
      go_wp2_with fail
      go_ret
      exact ⟨rfl, HE.out⟩
end Go.Proofs.Ytaaeepanelmgnaa
