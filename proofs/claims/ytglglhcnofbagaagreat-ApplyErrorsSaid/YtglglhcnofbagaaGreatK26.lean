/-
  The reference's Tx: contract. The statements' Raw: contract. The statements' Raw: contract. What a transaction that is carried out keeps: a valid ledger, the total, the sequences.
-/
import Derived.Test.YtglglhcnofbagaaGreatK25
namespace Go.Proofs.YtglglhcnofbagaaGreat.Lg
attribute [local irreducible] wpList wpQuiet
set_option maxRecDepth 100000
open Mo (usedV prioV mulB mulV)
open Go.RowKit
set_option linter.unusedSimpArgs false
set_option linter.unusedVariables false

set_option maxRecDepth 100000 in
set_option maxHeartbeats 8000000 in
theorem ref_tx (A : List Ac) (c price : Int) (L : List Int) (la ra : Option Addr) (lk rc : Nat) (w : World) (hL : Cs w la (acc A)) (hlk : A.length ≤ lk) (hn : A.length ≤ 4398046511104) (hc : W64 c) (hw : AcW A) (hz : ∀ x, x ∈ A → x.1.size ≤ 140737488355328) (hp : W64 price) (hR : Sl w ra rc L) (hrc : L.length ≤ rc) (h8 : ∀ y, y ∈ L → W8 y) :
  Calls Tryz.prog 12 #[.agg (lgA la A.length lk c), .int .u64 price, .slice ra L.length rc] w (TxO w la A (txX A c price L)) := by
 obtain ⟨hb0, hX3, hX6, hX7⟩ := three_boxes w (lgA la A.length lk c) (lgA none 0 0 0) (resA (zRes 0)) 25 25 39
 have hA := hL.below hb0
 have HLW := Lib.hid hL
 have HRW := Lib.hid hR
 obtain ⟨X, hX⟩ : ∃ X, txX A c price L = X := ⟨_, rfl⟩
 have H1 := Lib.hid (fun h => hX.symm.trans (tx_1 (price := price) (L := L) (A := A) (c := c) h))
 have H2 := Lib.hid (fun h h2 => hX.symm.trans (tx_2 (price := price) (L := L) (A := A) (c := c) h h2))
 have H3 := Lib.hid (fun h h2 h3 => hX.symm.trans (tx_3 (price := price) (L := L) (A := A) (c := c) h h2 h3))
 have H4 := Lib.hid (fun h h2 h3 => hX.symm.trans (tx_4 (price := price) (L := L) (A := A) (c := c) h h2 h3))
 have HFQ := Lib.hid (fun h h2 => fa_q h8 h hw hc hp h2 (A := A) (L := L))
 have CV := fun V h => ref_validate la lk A c V h hn hc hw hz
 have CD := Lib.hid (fun V (h : Sl V ra rc L) => ref_decode ra rc L V h hrc h8)
 rw [hX]
 generalize valE A c = ve at *
 clear hL hR hz h8 hX
 go_enter Tryz.func12, Tryz.ntmps12
 go_upto_region 1 with fail
 change Code.wp _ _ _ _ (((w.alloc (.cells (lgA la A.length lk c) 25)).alloc (.cells (lgA none 0 0 0) 25)).alloc (.cells (resA (zRes 0)) 39))
 generalize ((w.alloc (.cells (lgA la A.length lk c) 25)).alloc (.cells (lgA none 0 0 0) 25)).alloc (.cells (resA (zRes 0)) 39) = W at *
 obtain ⟨g3, hg3⟩ : ∃ g3, w.heap.size = g3 := ⟨_, rfl⟩
 obtain ⟨g6, hg6⟩ : ∃ g6, g3 + 1 = g6 := ⟨_, rfl⟩
 obtain ⟨g7, hg7⟩ : ∃ g7, g6 + 1 = g7 := ⟨_, rfl⟩
 have HB0 := Lib.hid hb0
 rw [show w.heap.size + 2 = g7 by omega] at hX7
 rw [show w.heap.size + 1 = g6 by omega] at hX6
 have HG : Hid (w.heap.size ≤ g6 ∧ w.heap.size ≤ g7 ∧ g7 ≠ g6 ∧ g3 ≠ g6 ∧ g3 ≠ g7 ∧ g6 < W.heap.size ∧ g7 < W.heap.size) := Lib.hid ⟨by omega, by omega, by omega, by omega, by omega, hX6.lt, hX7.lt⟩
 rw [hg3] at hX3
 simp only [hg3]
 simp only [hg6]
 simp only [hg7]
 have HX3 := Lib.hid hX3
 have HX6 := Lib.hid hX6
 have HX7 := Lib.hid hX7
 have CVW := CV W hA
 clear hb0 hX3 hX6 hX7 hA hg3 hg6 hg7 CV
 refine wl <| gzl rfl ⟨g3, 0, none⟩ (.agg (lgA la A.length lk c)) (load_lg HX3.out) <| gzc (.int .i64 ve) (fun w' => Below W.heap.size W w') (CVW) (fun W1 hW1 => ?_)
 simp only [pu]
 have HB1 := Lib.hid (HB0.out.trans (hW1.mono HB0.out.size))
 have HS1 : Hid (W.heap.size ≤ W1.heap.size) := Lib.hid hW1.size
 have HX3 := Lib.hid (HX3.out.below HX3.out.lt hW1)
 have HX6 := Lib.hid (HX6.out.below HX6.out.lt hW1)
 have HX7 := Lib.hid (HX7.out.below HX7.out.lt hW1)
 clear CVW hW1
 by_cases hv : ve = 0
 ·skip
  subst hv
  refine gzb (neq_e rfl 0 0 (decide_eq_true rfl)) <| wn ?_
  simp only [pu]
  have CDW := CD.out W1 (sl_below HRW.out HB1.out)
  obtain ⟨D, hD⟩ : ∃ D, decX L = D := ⟨_, rfl⟩
  rw [hD] at CDW H2 H3 H4 HFQ
  clear hD CD H1
  go_upto_region 3 with fail
  refine wl <| gz1 (.slice ra L.length rc) <| gze (fun v w' => ∃ a c, v = .tuple #[.agg (txA D.1 a c), .int .i64 D.2] ∧ RowT w' W1.heap.size (.slice a D.1.tr.length c) D.1.tr ∧ Below W1.heap.size W1 w') (CDW.mono fun e w' q => by obtain ⟨a, c, h1, h2⟩ := q; exact ⟨_, h1, a, c, rfl, h2⟩) (fun vv W2 hq => ?_)
  obtain ⟨ta, tk, rfl, hrt, hb2⟩ := hq
  obtain ⟨V3, hst3, hb3, hbx3⟩ := new_txv W2 D.1 ta tk
  simp only [pu]
  refine gz3 (.tuple #[.agg (txA D.1 ta tk), .int .i64 D.2]) (.agg (txA D.1 ta tk)) (.int .i64 D.2) ?_
  simp only [pu]
  refine run_to rfl (some 8) rfl (.pointer (some ⟨W2.heap.size, 0, none⟩)) (W2.alloc (.cells (txA zX none 0) 46)) (by kernel_rfl) ?_
  simp only [pu]
  refine gzs rfl (hst3) <| gz1 (.int .i64 D.2) <| wn ?_
  simp only [pu]
  have hb4 := hb2.trans (hb3.mono hb2.size)
  obtain ⟨g8, hg8⟩ : ∃ g8, W2.heap.size = g8 := ⟨_, rfl⟩
  have HG8 : Hid (g8 ≠ g6 ∧ g8 ≠ g7 ∧ W.heap.size ≤ g8) := Lib.hid (by have := HG.out.2.2.2.2.2; have := HS1.out; have := hb2.size; omega)
  rw [hg8] at hbx3 hst3 ⊢
  have HRT := Lib.hid (own_base (own_below hrt hb3) HS1.out)
  have HX3 := Lib.hid (HX3.out.below HX3.out.lt hb4)
  have HX6 := Lib.hid (HX6.out.below HX6.out.lt hb4)
  have HX7 := Lib.hid (HX7.out.below HX7.out.lt hb4)
  have HX8 := Lib.hid hbx3
  have HBV := Lib.hid (HB1.out.trans (hb4.mono HB1.out.size))
  have HSV : Hid (W.heap.size ≤ V3.heap.size) := Lib.hid (Nat.le_trans HS1.out hb4.size)
  clear CDW hst3 hb2 hb3 hb4 hg8 hbx3 hrt HB1
  by_cases hd : D.2 = 0
  ·skip
   go_upto_region 4 with fail
   refine wl <| gz1 (.int .i64 D.2) <| gzb (neq_e rfl D.2 0 (decide_eq_true hd)) <| wn ?_
   simp only [pu]
   have hfq := HFQ.out rfl hd
   have H3 := Lib.hid (H3.out rfl hd)
   have H4 := Lib.hid (H4.out rfl hd)
   obtain ⟨t, hdt⟩ : ∃ t, D.1 = t := ⟨_, rfl⟩
   rw [hdt] at hfq H3 H4 HRT HX8
   simp only [hdt]
   have HQ := Lib.hid hfq
   have HF0 := Lib.hid (fun h0 => fault_0 (size := L.length) hfq h0)
   have CF := Lib.hid (fun V (hl : Cs V la (acc A)) (ht : Cs V ta (tfc t.tr)) => ref_fault A c price L.length t la ta lk tk V hl hlk ht hfq)
   have CP := fun V => Mo.ref_prio t.fee t.gas V hfq.f hfq.gas
   generalize prioV t.fee t.gas = pr at *
   obtain ⟨fx, hfx⟩ : ∃ fx, faultX A price t L.length = fx := ⟨_, rfl⟩
   rw [hfx] at H3 H4 HF0 CF
   clear hfq hdt hd H2 HFQ hfx
   go_upto_region 6 with fail
   have h0 := KT.start V3 ⟨fx, t.snd, t.sq, t.gas, pr⟩
   refine wp_region_inv (fun listed act9 V => ∃ b0 b1 b2 b3 b4 b5 b6 b7 b8 b9 b10 b11 b12 b13 b14 b15 b16 b17 b18 b19 : Bool, ∃ x10 : Value, listed = #[b0, b1, b2, b3, b4, b5, b6, b7, b8, b9, b10, b11, b12, b13, b14, b15, b16, b17, b18, b19] ∧ act9 = { tmps := #[.agg (lgA la A.length lk c), .int .u64 price, .slice ra L.length rc, .pointer (some ⟨g3, 0, none⟩), undef, undef, .pointer (some ⟨g6, 0, none⟩), .pointer (some ⟨g7, 0, none⟩), .pointer (some ⟨g8, 0, none⟩), .int .i64 D.2, x10, undef, undef, .agg (lgA la A.length lk c), .int .i64 0, .bool false, undef, undef, .tuple #[.agg (txA t ta tk), .int .i64 D.2], .slice ra L.length rc, .tuple #[.agg (txA t ta tk), .int .i64 D.2], .agg (txA t ta tk), .int .i64 D.2, .int .i64 D.2, .bool false, undef, undef, undef, (cond b0 (.agg (lgA la A.length lk c)) undef), (cond b1 (.int .u64 price) undef), (cond b2 (.agg (txA t ta tk)) undef), (cond b3 (.slice ra L.length rc) undef), (cond b4 (.int .i64 L.length) undef), (cond b5 (.int .i64 fx) undef), (cond b6 (.pointer (some ⟨g8, 0, none⟩)) undef), (cond b7 (.string t.snd) undef), (cond b8 (.pointer (some ⟨g8, 1, none⟩)) undef), (cond b9 (.int .u64 t.sq) undef), (cond b10 (.pointer (some ⟨g8, 2, none⟩)) undef), (cond b11 (.int .u64 t.gas) undef), (cond b12 (.pointer (some ⟨g8, 3, none⟩)) undef), (cond b13 (.int .u64 t.fee) undef), (cond b14 (.pointer (some ⟨g8, 2, none⟩)) undef), (cond b15 (.int .u64 t.gas) undef), (cond b16 (.int .u64 pr) undef), (cond b17 (.agg (resA ⟨fx, t.snd, t.sq, t.gas, pr⟩)) undef), undef, undef, undef, undef, undef, undef, undef, undef, undef, undef, undef, undef, undef, undef, undef], defers := [] } ∧ KT V3 ⟨fx, t.snd, t.sq, t.gas, pr⟩ b18 b19 x10 V) (by kernel_rfl) (by kernel_rfl) ?_ ?_ ?_
   ·exact ⟨false, false, false, false, false, false, false, false, false, false, false, false, false, false, false, false, false, false, false, false, undef, rfl, rfl, h0⟩
   ·intro i9 listed act9 V hi9 hr hJ
    obtain ⟨b0, b1, b2, b3, b4, b5, b6, b7, b8, b9, b10, b11, b12, b13, b14, b15, b16, b17, b18, b19, x10, rfl, rfl, hF⟩ := hJ
    have hi2 : i9 < 20 := hi9
    have hi3 : i9 = 0 ∨ i9 = 1 ∨ i9 = 2 ∨ i9 = 3 ∨ i9 = 4 ∨ i9 = 5 ∨ i9 = 6 ∨ i9 = 7 ∨ i9 = 8 ∨ i9 = 9 ∨ i9 = 10 ∨ i9 = 11 ∨ i9 = 12 ∨ i9 = 13 ∨ i9 = 14 ∨ i9 = 15 ∨ i9 = 16 ∨ i9 = 17 ∨ i9 = 18 ∨ i9 = 19 := by omega
    rcases hi3 with rfl | rfl | rfl | rfl | rfl | rfl | rfl | rfl | rfl | rfl | rfl | rfl | rfl | rfl | rfl | rfl | rfl | rfl | rfl | rfl
    ·obtain rfl : b0 = false := ready_self hr
     refine st_load rfl (by kernel_rfl) (some 28) rfl 25 (.tmp 3) rfl ⟨g3, 0, none⟩ (.agg (lgA la A.length lk c)) (by kernel_rfl) (load_lg (HX3.out.below HX3.out.lt hF.bel)) ?_
     exact ⟨true, b1, b2, b3, b4, b5, b6, b7, b8, b9, b10, b11, b12, b13, b14, b15, b16, b17, b18, b19, x10, rfl, rfl, hF⟩
    ·obtain rfl : b1 = false := ready_self hr
     refine st_val rfl (by kernel_rfl) (some 29) rfl (.int .u64 price) V (by kernel_rfl) ?_
     exact ⟨b0, true, b2, b3, b4, b5, b6, b7, b8, b9, b10, b11, b12, b13, b14, b15, b16, b17, b18, b19, x10, rfl, rfl, hF⟩
    ·obtain rfl : b2 = false := ready_self hr
     refine st_load rfl (by kernel_rfl) (some 30) rfl 46 (.tmp 8) rfl ⟨g8, 0, none⟩ (.agg (txA t ta tk)) (by kernel_rfl) (load_txb (HX8.out.below HX8.out.lt hF.bel)) ?_
     exact ⟨b0, b1, true, b3, b4, b5, b6, b7, b8, b9, b10, b11, b12, b13, b14, b15, b16, b17, b18, b19, x10, rfl, rfl, hF⟩
    ·obtain rfl : b3 = false := ready_self hr
     refine st_val rfl (by kernel_rfl) (some 31) rfl (.slice ra L.length rc) V (by kernel_rfl) ?_
     exact ⟨b0, b1, b2, true, b4, b5, b6, b7, b8, b9, b10, b11, b12, b13, b14, b15, b16, b17, b18, b19, x10, rfl, rfl, hF⟩
    ·obtain rfl : b4 = false := ready_self hr
     obtain rfl : b3 = true := ready_dep hr 3 (by kernel_rfl)
     refine st_val rfl (by kernel_rfl) (some 32) rfl (.int .i64 L.length) V (by kernel_rfl) ?_
     exact ⟨b0, b1, b2, true, true, b5, b6, b7, b8, b9, b10, b11, b12, b13, b14, b15, b16, b17, b18, b19, x10, rfl, rfl, hF⟩
    ·obtain rfl : b5 = false := ready_self hr
     obtain rfl : b0 = true := ready_dep hr 0 (by kernel_rfl)
     obtain rfl : b1 = true := ready_dep hr 1 (by kernel_rfl)
     obtain rfl : b2 = true := ready_dep hr 2 (by kernel_rfl)
     obtain rfl : b4 = true := ready_dep hr 4 (by kernel_rfl)
     refine st_call rfl (by kernel_rfl) (some 33) rfl 32 #[.agg (lgA la A.length lk c), .int .u64 price, .agg (txA t ta tk), .int .i64 L.length] (by kernel_rfl) ((CF.out V (HLW.out.below (HBV.out.trans (hF.bel.mono HBV.out.size))) (by obtain ⟨a9, c9, e9, h9, -⟩ := own_cs (own_below HRT.out hF.bel); simp only [Value.slice.injEq, true_and] at e9; obtain ⟨rfl, rfl⟩ := e9; exact h9)).mono fun e w' z => ?_)
     obtain ⟨rfl, hb⟩ := z
     exact ⟨_, rfl, true, true, true, b3, true, true, b6, b7, b8, b9, b10, b11, b12, b13, b14, b15, b16, b17, b18, b19, x10, rfl, rfl, hF.more hb⟩
    ·obtain rfl : b6 = false := ready_self hr
     refine st_val rfl (by kernel_rfl) (some 34) rfl (.pointer (some ⟨g8, 0, none⟩)) V (by kernel_rfl) ?_
     exact ⟨b0, b1, b2, b3, b4, b5, true, b7, b8, b9, b10, b11, b12, b13, b14, b15, b16, b17, b18, b19, x10, rfl, rfl, hF⟩
    ·obtain rfl : b7 = false := ready_self hr
     obtain rfl : b6 = true := ready_dep hr 6 (by kernel_rfl)
     refine st_load rfl (by kernel_rfl) (some 35) rfl 9 (.tmp 34) rfl ⟨g8, 0, none⟩ (.string t.snd) (by kernel_rfl) ((HX8.out.below HX8.out.lt hF.bel).load (i := 0) rfl (by kernel_rfl)) ?_
     exact ⟨b0, b1, b2, b3, b4, b5, true, true, b8, b9, b10, b11, b12, b13, b14, b15, b16, b17, b18, b19, x10, rfl, rfl, hF⟩
    ·obtain rfl : b8 = false := ready_self hr
     refine st_val rfl (by kernel_rfl) (some 36) rfl (.pointer (some ⟨g8, 1, none⟩)) V (by kernel_rfl) ?_
     exact ⟨b0, b1, b2, b3, b4, b5, b6, b7, true, b9, b10, b11, b12, b13, b14, b15, b16, b17, b18, b19, x10, rfl, rfl, hF⟩
    ·obtain rfl : b9 = false := ready_self hr
     obtain rfl : b8 = true := ready_dep hr 8 (by kernel_rfl)
     refine st_load rfl (by kernel_rfl) (some 37) rfl 23 (.tmp 36) rfl ⟨g8, 1, none⟩ (.int .u64 t.sq) (by kernel_rfl) ((HX8.out.below HX8.out.lt hF.bel).load (i := 1) rfl (by kernel_rfl)) ?_
     exact ⟨b0, b1, b2, b3, b4, b5, b6, b7, true, true, b10, b11, b12, b13, b14, b15, b16, b17, b18, b19, x10, rfl, rfl, hF⟩
    ·obtain rfl : b10 = false := ready_self hr
     refine st_val rfl (by kernel_rfl) (some 38) rfl (.pointer (some ⟨g8, 2, none⟩)) V (by kernel_rfl) ?_
     exact ⟨b0, b1, b2, b3, b4, b5, b6, b7, b8, b9, true, b11, b12, b13, b14, b15, b16, b17, b18, b19, x10, rfl, rfl, hF⟩
    ·obtain rfl : b11 = false := ready_self hr
     obtain rfl : b10 = true := ready_dep hr 10 (by kernel_rfl)
     refine st_load rfl (by kernel_rfl) (some 39) rfl 23 (.tmp 38) rfl ⟨g8, 2, none⟩ (.int .u64 t.gas) (by kernel_rfl) ((HX8.out.below HX8.out.lt hF.bel).load (i := 2) rfl (by kernel_rfl)) ?_
     exact ⟨b0, b1, b2, b3, b4, b5, b6, b7, b8, b9, true, true, b12, b13, b14, b15, b16, b17, b18, b19, x10, rfl, rfl, hF⟩
    ·obtain rfl : b12 = false := ready_self hr
     refine st_val rfl (by kernel_rfl) (some 40) rfl (.pointer (some ⟨g8, 3, none⟩)) V (by kernel_rfl) ?_
     exact ⟨b0, b1, b2, b3, b4, b5, b6, b7, b8, b9, b10, b11, true, b13, b14, b15, b16, b17, b18, b19, x10, rfl, rfl, hF⟩
    ·obtain rfl : b13 = false := ready_self hr
     obtain rfl : b12 = true := ready_dep hr 12 (by kernel_rfl)
     refine st_load rfl (by kernel_rfl) (some 41) rfl 23 (.tmp 40) rfl ⟨g8, 3, none⟩ (.int .u64 t.fee) (by kernel_rfl) ((HX8.out.below HX8.out.lt hF.bel).load (i := 3) rfl (by kernel_rfl)) ?_
     exact ⟨b0, b1, b2, b3, b4, b5, b6, b7, b8, b9, b10, b11, true, true, b14, b15, b16, b17, b18, b19, x10, rfl, rfl, hF⟩
    ·obtain rfl : b14 = false := ready_self hr
     refine st_val rfl (by kernel_rfl) (some 42) rfl (.pointer (some ⟨g8, 2, none⟩)) V (by kernel_rfl) ?_
     exact ⟨b0, b1, b2, b3, b4, b5, b6, b7, b8, b9, b10, b11, b12, b13, true, b15, b16, b17, b18, b19, x10, rfl, rfl, hF⟩
    ·obtain rfl : b15 = false := ready_self hr
     obtain rfl : b14 = true := ready_dep hr 14 (by kernel_rfl)
     refine st_load rfl (by kernel_rfl) (some 43) rfl 23 (.tmp 42) rfl ⟨g8, 2, none⟩ (.int .u64 t.gas) (by kernel_rfl) ((HX8.out.below HX8.out.lt hF.bel).load (i := 2) rfl (by kernel_rfl)) ?_
     exact ⟨b0, b1, b2, b3, b4, b5, b6, b7, b8, b9, b10, b11, b12, b13, true, true, b16, b17, b18, b19, x10, rfl, rfl, hF⟩
    ·obtain rfl : b16 = false := ready_self hr
     obtain rfl : b13 = true := ready_dep hr 13 (by kernel_rfl)
     obtain rfl : b15 = true := ready_dep hr 15 (by kernel_rfl)
     refine st_call rfl (by kernel_rfl) (some 44) rfl 33 #[.int .u64 t.fee, .int .u64 t.gas] (by kernel_rfl) ((CP V).mono fun e w' z => ?_)
     obtain ⟨rfl, rfl⟩ := z
     exact ⟨_, rfl, b0, b1, b2, b3, b4, b5, b6, b7, b8, b9, b10, b11, b12, true, b14, true, true, b17, b18, b19, x10, rfl, rfl, hF⟩
    ·obtain rfl : b17 = false := ready_self hr
     obtain rfl : b5 = true := ready_dep hr 5 (by kernel_rfl)
     obtain rfl : b7 = true := ready_dep hr 7 (by kernel_rfl)
     obtain rfl : b9 = true := ready_dep hr 9 (by kernel_rfl)
     obtain rfl : b11 = true := ready_dep hr 11 (by kernel_rfl)
     obtain rfl : b16 = true := ready_dep hr 16 (by kernel_rfl)
     refine st_val rfl (by kernel_rfl) (some 45) rfl (.agg (resA ⟨fx, t.snd, t.sq, t.gas, pr⟩)) V (by kernel_rfl) ?_
     exact ⟨b0, b1, b2, b3, b4, true, b6, true, b8, true, b10, true, b12, b13, b14, b15, true, true, b18, b19, x10, rfl, rfl, hF⟩
    ·obtain rfl : b18 = false := ready_self hr
     refine st_val rfl (by kernel_rfl) (some 10) rfl (.pointer (some ⟨V.heap.size, 0, none⟩)) (V.alloc (.cells (resA (zRes 0)) 39)) (by kernel_rfl) ?_
     exact ⟨b0, b1, b2, b3, b4, b5, b6, b7, b8, b9, b10, b11, b12, b13, b14, b15, b16, b17, true, b19, _, rfl, rfl, hF.alloc⟩
    ·obtain rfl : b19 = false := ready_self hr
     obtain rfl : b17 = true := ready_dep hr 17 (by kernel_rfl)
     obtain rfl : b18 = true := ready_dep hr 18 (by kernel_rfl)
     obtain ⟨g9, V2, rfl, hst, hF2⟩ := hF.store
     refine st_storeA rfl (by kernel_rfl) rfl 39 (.tmp 10) (.tmp 45) rfl (.pointer (some ⟨g9, 0, none⟩)) (.agg (resA ⟨fx, t.snd, t.sq, t.gas, pr⟩)) (by kernel_rfl) (by kernel_rfl) _ hst ?_
     exact ⟨b0, b1, b2, b3, b4, b5, b6, b7, b8, b9, b10, b11, b12, b13, b14, b15, b16, true, true, true, _, rfl, rfl, hF2⟩
   ·intro act9 V hJ
    obtain ⟨b0, b1, b2, b3, b4, b5, b6, b7, b8, b9, b10, b11, b12, b13, b14, b15, b16, b17, b18, b19, x10, he, rfl, hF⟩ := hJ
    have he : (#[true, true, true, true, true, true, true, true, true, true, true, true, true, true, true, true, true, true, true, true] : Array Bool) = #[b0, b1, b2, b3, b4, b5, b6, b7, b8, b9, b10, b11, b12, b13, b14, b15, b16, b17, b18, b19] := he
    simp only [Array.mk.injEq, List.cons.injEq, and_true] at he
    obtain ⟨rfl, rfl, rfl, rfl, rfl, rfl, rfl, rfl, rfl, rfl, rfl, rfl, rfl, rfl, rfl, rfl, rfl, rfl, rfl, rfl⟩ := he
    simp only [cond_true]
    obtain ⟨g10, rfl, hg10, -, hbx⟩ := hF.box rfl
    have HX10 := Lib.hid (hbx rfl)
    have hbv := hF.bel
    have HB4 := Lib.hid (HBV.out.trans (hbv.mono HBV.out.size))
    have HX36 := Lib.hid (HX6.out.below HX6.out.lt hbv)
    have HX37 := Lib.hid (HX7.out.below HX7.out.lt hbv)
    have HG10 : Hid (g10 ≠ g6 ∧ g10 ≠ g7) := Lib.hid (by have := HG.out.2.2.2.2.2; have := HSV.out; omega)
    have HS4 : Hid (W.heap.size ≤ V.heap.size) := Lib.hid (Nat.le_trans HSV.out hbv.size)
    have HPZ : Hid (PZ g3 g8 g10 W.heap.size (lgA la A.length lk c) t ta tk ⟨fx, t.snd, t.sq, t.gas, pr⟩ V) := Lib.hid ⟨HX3.out.below HX3.out.lt hbv, HX8.out.below HX8.out.lt hbv, hbx rfl, own_below HRT.out hbv⟩
    clear hF hbx hbv hg10 HX3 HX6 HX7 HX8 HRT HBV h0
    by_cases hfx : ¬ fx = 0
    ·skip
     go_upto_region 7 with fail
     refine wl <| gz1 (.pointer (some ⟨g10, 0, none⟩)) <| gzl rfl ⟨g10, 0, none⟩ (.int .i64 fx) (HX10.out.load (i := 0) rfl (by kernel_rfl)) <| gzb (neq_e rfl fx 0 (decide_eq_false hfx)) <| wn ?_
     simp only [pu]
     obtain rfl := H3.out hfx
     go_upto_region 8 with fail
     have h0 : K8 w g6 g7 (PZ g3 g8 g10 W.heap.size (lgA la A.length lk c) t ta tk ⟨fx, t.snd, t.sq, t.gas, pr⟩) (lgA la A.length lk c) ⟨fx, t.snd, t.sq, t.gas, pr⟩ false false V.drew := K8.start HB4.out HPZ.out.drew HX36.out HX37.out
     generalize V = V4 at *
     refine wp_region_inv (fun listed act9 V => ∃ b0 b1 b2 b3 : Bool, listed = #[b0, b1, b2, b3] ∧ act9 = { tmps := #[.agg (lgA la A.length lk c), .int .u64 price, .slice ra L.length rc, .pointer (some ⟨g3, 0, none⟩), undef, undef, .pointer (some ⟨g6, 0, none⟩), .pointer (some ⟨g7, 0, none⟩), .pointer (some ⟨g8, 0, none⟩), .int .i64 D.2, .pointer (some ⟨g10, 0, none⟩), undef, undef, .agg (lgA la A.length lk c), .int .i64 0, .bool false, undef, undef, .tuple #[.agg (txA t ta tk), .int .i64 D.2], .slice ra L.length rc, .tuple #[.agg (txA t ta tk), .int .i64 D.2], .agg (txA t ta tk), .int .i64 D.2, .int .i64 D.2, .bool false, undef, undef, undef, .agg (lgA la A.length lk c), .int .u64 price, .agg (txA t ta tk), .slice ra L.length rc, .int .i64 L.length, .int .i64 fx, .pointer (some ⟨g8, 0, none⟩), .string t.snd, .pointer (some ⟨g8, 1, none⟩), .int .u64 t.sq, .pointer (some ⟨g8, 2, none⟩), .int .u64 t.gas, .pointer (some ⟨g8, 3, none⟩), .int .u64 t.fee, .pointer (some ⟨g8, 2, none⟩), .int .u64 t.gas, .int .u64 pr, .agg (resA ⟨fx, t.snd, t.sq, t.gas, pr⟩), .pointer (some ⟨g10, 0, none⟩), .int .i64 fx, .bool true, (cond b0 (.agg (lgA la A.length lk c)) undef), (cond b1 (.agg (resA ⟨fx, t.snd, t.sq, t.gas, pr⟩)) undef), undef, undef, undef, undef, undef, undef, undef, undef, undef, undef], defers := [] } ∧ K8 w g6 g7 (PZ g3 g8 g10 W.heap.size (lgA la A.length lk c) t ta tk ⟨fx, t.snd, t.sq, t.gas, pr⟩) (lgA la A.length lk c) ⟨fx, t.snd, t.sq, t.gas, pr⟩ b2 b3 V) (by kernel_rfl) (by kernel_rfl) ?_ ?_ ?_
     ·exact ⟨false, false, false, false, rfl, rfl, h0⟩
     ·intro i9 listed act9 V hi9 hr hJ
      obtain ⟨b0, b1, b2, b3, rfl, rfl, hF⟩ := hJ
      have hi2 : i9 < 4 := hi9
      have hi3 : i9 = 0 ∨ i9 = 1 ∨ i9 = 2 ∨ i9 = 3 := by omega
      rcases hi3 with rfl | rfl | rfl | rfl
      ·obtain rfl : b0 = false := ready_self hr
       refine st_load rfl (by kernel_rfl) (some 49) rfl 25 (.tmp 3) rfl ⟨g3, 0, none⟩ (.agg (lgA la A.length lk c)) (by kernel_rfl) (load_lg hF.p.x3) ?_
       exact ⟨true, b1, b2, b3, rfl, rfl, hF⟩
      ·obtain rfl : b1 = false := ready_self hr
       refine st_load rfl (by kernel_rfl) (some 50) rfl 39 (.tmp 10) rfl ⟨g10, 0, none⟩ (.agg (resA ⟨fx, t.snd, t.sq, t.gas, pr⟩)) (by kernel_rfl) (load_res hF.p.x10) ?_
       exact ⟨b0, true, b2, b3, rfl, rfl, hF⟩
      ·obtain rfl : b2 = false := ready_self hr
       obtain rfl : b0 = true := ready_dep hr 0 (by kernel_rfl)
       obtain ⟨V2, hst, hF2⟩ := hF.st6 (fun V9 hb => hF.p.but hb HG.out.2.2.2.1 HG8.out.1 HG10.out.1 HG.out.2.2.2.2.2.1) HG.out.1 HG.out.2.2.1
       refine st_storeA rfl (by kernel_rfl) rfl 25 (.tmp 6) (.tmp 49) rfl (.pointer (some ⟨g6, 0, none⟩)) (.agg (lgA la A.length lk c)) (by kernel_rfl) (by kernel_rfl) _ hst ?_
       exact ⟨true, b1, true, b3, rfl, rfl, hF2⟩
      ·obtain rfl : b3 = false := ready_self hr
       obtain rfl : b1 = true := ready_dep hr 1 (by kernel_rfl)
       obtain ⟨V2, hst, hF2⟩ := hF.st7 (fun V9 hb => hF.p.but hb HG.out.2.2.2.2.1 HG8.out.2.1 HG10.out.2 HG.out.2.2.2.2.2.2) HG.out.2.1 (fun e => HG.out.2.2.1 e.symm)
       refine st_storeA rfl (by kernel_rfl) rfl 39 (.tmp 7) (.tmp 50) rfl (.pointer (some ⟨g7, 0, none⟩)) (.agg (resA ⟨fx, t.snd, t.sq, t.gas, pr⟩)) (by kernel_rfl) (by kernel_rfl) _ hst ?_
       exact ⟨b0, true, b2, true, rfl, rfl, hF2⟩
     ·intro act9 V hJ
      obtain ⟨b0, b1, b2, b3, he, rfl, hF⟩ := hJ
      have he : (#[true, true, true, true] : Array Bool) = #[b0, b1, b2, b3] := he
      simp only [Array.mk.injEq, List.cons.injEq, and_true] at he
      obtain ⟨rfl, rfl, rfl, rfl⟩ := he
      simp only [cond_true]
      go_wp2_with fail
      exact bodyPost_ret (results_2c rfl (by kernel_rfl) (load_lg hF.x6) (by kernel_rfl) (load_res hF.x7)) rfl ⟨la, lk, rfl, HLW.out.below hF.bel, hlk, .inl ⟨rfl, rfl⟩, hF.bel⟩
    ·skip
     have hfx : fx = 0 := Decidable.of_not_not hfx
     go_upto_region 7 with fail
     refine wl <| gz1 (.pointer (some ⟨g10, 0, none⟩)) <| gzl rfl ⟨g10, 0, none⟩ (.int .i64 fx) (HX10.out.load (i := 0) rfl (by kernel_rfl)) <| gzb (neq_e rfl fx 0 (decide_eq_true hfx)) <| wn ?_
     simp only [pu]
     obtain rfl := H4.out hfx
     obtain ⟨hdq, hd256⟩ := HF0.out hfx
     have hcs4 : Cs V ta (tfc t.tr) := by obtain ⟨a9, c9, e9, h9, -⟩ := own_cs HPZ.out.row; simp only [Value.slice.injEq, true_and] at e9; obtain ⟨rfl, rfl⟩ := e9; exact h9
     have CC := ref_cost t ta tk V hcs4 (by have := hdq.m; omega) hdq.f hdq.a
     have hcb := hdq.cb
     have HDQ := Lib.hid hdq
     have HCD := Lib.hid (fun V (hl : Cs V la (acc A)) (ht : Cs V ta (tfc t.tr)) => ref_done A c t la ta lk tk V hl hlk ht hdq)
     rw [hcb] at CC
     clear hcs4 hdq hcb H3 H4 HF0 CF CP HQ
     go_upto_region 9 with fail
     refine wl <| gzl rfl ⟨g8, 0, none⟩ (.agg (txA t ta tk)) (load_txb HPZ.out.x8) <| gzc (.tuple #[.int .u64 (cosV t), .bool true]) (fun w' => Below V.heap.size V w') (CC) (fun V5 hV5 => ?_)
     simp only [pu]
     refine gz5 (.tuple #[.int .u64 (cosV t), .bool true]) (.int .u64 (cosV t)) (.bool true) (.int .u64 (cosV t)) (.bool true) <| wn ?_
     simp only [pu]
     have HPZ5 := Lib.hid (HPZ.out.more hV5)
     have h5 := HB4.out.trans (hV5.mono HB4.out.size)
     have HX66 := HX36.out.below HX36.out.lt hV5
     have HX77 := HX37.out.below HX37.out.lt hV5
     have HS5 : Hid (W.heap.size ≤ V5.heap.size) := Lib.hid (Nat.le_trans HS4.out hV5.size)
     clear CC hV5 HB4 HPZ HX36 HX37 HX10
     go_upto_region 10 with fail
     obtain ⟨DL, hDL⟩ : ∃ DL, doneL A t = DL := ⟨_, rfl⟩
     rw [hDL] at HCD
     have h0 : KS w g6 g7 W.heap.size (PZ g3 g8 g10 W.heap.size (lgA la A.length lk c) t ta tk ⟨fx, t.snd, t.sq, t.gas, pr⟩) DL (c + t.fee) ⟨fx, t.snd, t.sq, t.gas, pr⟩ false false false undef V5.drew := KS.start h5 HPZ5.out.drew HX66 HX77
     generalize V = V4 at *
     clear h5 HX66 HX77
     refine wp_region_inv (fun listed act9 V => ∃ b0 b1 b2 b3 b4 b5 b6 : Bool, ∃ x59 : Value, listed = #[b0, b1, b2, b3, b4, b5, b6] ∧ act9 = { tmps := #[.agg (lgA la A.length lk c), .int .u64 price, .slice ra L.length rc, .pointer (some ⟨g3, 0, none⟩), undef, undef, .pointer (some ⟨g6, 0, none⟩), .pointer (some ⟨g7, 0, none⟩), .pointer (some ⟨g8, 0, none⟩), .int .i64 D.2, .pointer (some ⟨g10, 0, none⟩), .int .u64 (cosV t), .bool true, .agg (lgA la A.length lk c), .int .i64 0, .bool false, undef, undef, .tuple #[.agg (txA t ta tk), .int .i64 D.2], .slice ra L.length rc, .tuple #[.agg (txA t ta tk), .int .i64 D.2], .agg (txA t ta tk), .int .i64 D.2, .int .i64 D.2, .bool false, undef, undef, undef, .agg (lgA la A.length lk c), .int .u64 price, .agg (txA t ta tk), .slice ra L.length rc, .int .i64 L.length, .int .i64 fx, .pointer (some ⟨g8, 0, none⟩), .string t.snd, .pointer (some ⟨g8, 1, none⟩), .int .u64 t.sq, .pointer (some ⟨g8, 2, none⟩), .int .u64 t.gas, .pointer (some ⟨g8, 3, none⟩), .int .u64 t.fee, .pointer (some ⟨g8, 2, none⟩), .int .u64 t.gas, .int .u64 pr, .agg (resA ⟨fx, t.snd, t.sq, t.gas, pr⟩), .pointer (some ⟨g10, 0, none⟩), .int .i64 fx, .bool false, undef, undef, .tuple #[.int .u64 (cosV t), .bool true], .agg (txA t ta tk), .tuple #[.int .u64 (cosV t), .bool true], .int .u64 (cosV t), .bool true, (cond b0 (.agg (lgA la A.length lk c)) undef), (cond b1 (.agg (txA t ta tk)) undef), (cond b2 (.int .u64 (cosV t)) undef), x59, (cond b4 (.agg (resA ⟨fx, t.snd, t.sq, t.gas, pr⟩)) undef)], defers := [] } ∧ KS w g6 g7 W.heap.size (PZ g3 g8 g10 W.heap.size (lgA la A.length lk c) t ta tk ⟨fx, t.snd, t.sq, t.gas, pr⟩) DL (c + t.fee) ⟨fx, t.snd, t.sq, t.gas, pr⟩ b3 b5 b6 x59 V) (by kernel_rfl) (by kernel_rfl) ?_ ?_ ?_
     ·exact ⟨false, false, false, false, false, false, false, undef, rfl, rfl, h0⟩
     ·intro i9 listed act9 V hi9 hr hJ
      obtain ⟨b0, b1, b2, b3, b4, b5, b6, x59, rfl, rfl, hF⟩ := hJ
      have hi2 : i9 < 7 := hi9
      have hi3 : i9 = 0 ∨ i9 = 1 ∨ i9 = 2 ∨ i9 = 3 ∨ i9 = 4 ∨ i9 = 5 ∨ i9 = 6 := by omega
      rcases hi3 with rfl | rfl | rfl | rfl | rfl | rfl | rfl
      ·obtain rfl : b0 = false := ready_self hr
       refine st_load rfl (by kernel_rfl) (some 56) rfl 25 (.tmp 3) rfl ⟨g3, 0, none⟩ (.agg (lgA la A.length lk c)) (by kernel_rfl) (load_lg hF.p.x3) ?_
       exact ⟨true, b1, b2, b3, b4, b5, b6, x59, rfl, rfl, hF⟩
      ·obtain rfl : b1 = false := ready_self hr
       refine st_load rfl (by kernel_rfl) (some 57) rfl 46 (.tmp 8) rfl ⟨g8, 0, none⟩ (.agg (txA t ta tk)) (by kernel_rfl) (load_txb hF.p.x8) ?_
       exact ⟨b0, true, b2, b3, b4, b5, b6, x59, rfl, rfl, hF⟩
      ·obtain rfl : b2 = false := ready_self hr
       refine st_val rfl (by kernel_rfl) (some 58) rfl (.int .u64 (cosV t)) V (by kernel_rfl) ?_
       exact ⟨b0, b1, true, b3, b4, b5, b6, x59, rfl, rfl, hF⟩
      ·obtain rfl : b3 = false := ready_self hr
       obtain rfl : b0 = true := ready_dep hr 0 (by kernel_rfl)
       obtain rfl : b1 = true := ready_dep hr 1 (by kernel_rfl)
       obtain rfl : b2 = true := ready_dep hr 2 (by kernel_rfl)
       obtain rfl : b5 = false := ff hF.o rfl
       refine st_call rfl (by kernel_rfl) (some 59) rfl 35 #[.agg (lgA la A.length lk c), .agg (txA t ta tk), .int .u64 (cosV t)] (by kernel_rfl) ((HCD.out V (HLW.out.below hF.bel) (by obtain ⟨a9, c9, e9, h9, -⟩ := own_cs hF.p.row; simp only [Value.slice.injEq, true_and] at e9; obtain ⟨rfl, rfl⟩ := e9; exact h9)).mono fun e w' z => ?_)
       obtain ⟨ad, k, rfl, hr, hb⟩ := z
       exact ⟨_, rfl, true, true, true, true, b4, false, b6, _, rfl, rfl, hF.call (Nat.le_of_lt (Nat.lt_of_le_of_lt HG8.out.2.2 hF.p.x8.lt)) (hF.p.more hb) hb hr⟩
      ·obtain rfl : b4 = false := ready_self hr
       refine st_load rfl (by kernel_rfl) (some 60) rfl 39 (.tmp 10) rfl ⟨g10, 0, none⟩ (.agg (resA ⟨fx, t.snd, t.sq, t.gas, pr⟩)) (by kernel_rfl) (load_res hF.p.x10) ?_
       exact ⟨b0, b1, b2, b3, true, b5, b6, x59, rfl, rfl, hF⟩
      ·obtain rfl : b5 = false := ready_self hr
       obtain rfl : b3 = true := ready_dep hr 3 (by kernel_rfl)
       obtain ⟨ad, k, V2, rfl, hst, hF2⟩ := hF.st6 (fun V9 hb => hF.p.but hb HG.out.2.2.2.1 HG8.out.1 HG10.out.1 HG.out.2.2.2.2.2.1) HG.out.1 HG.out.2.2.2.2.2.1 HG.out.2.2.1
       refine st_storeA rfl (by kernel_rfl) rfl 25 (.tmp 6) (.tmp 59) rfl (.pointer (some ⟨g6, 0, none⟩)) (.agg (lgA ad DL.length k (c + t.fee))) (by kernel_rfl) (by kernel_rfl) _ hst ?_
       exact ⟨b0, b1, b2, true, b4, true, b6, _, rfl, rfl, hF2⟩
      ·obtain rfl : b6 = false := ready_self hr
       obtain rfl : b4 = true := ready_dep hr 4 (by kernel_rfl)
       obtain ⟨V2, hst, hF2⟩ := hF.st7 (fun V9 hb => hF.p.but hb HG.out.2.2.2.2.1 HG8.out.2.1 HG10.out.2 HG.out.2.2.2.2.2.2) HG.out.2.1 HG.out.2.2.2.2.2.2 (fun e => HG.out.2.2.1 e.symm)
       refine st_storeA rfl (by kernel_rfl) rfl 39 (.tmp 7) (.tmp 60) rfl (.pointer (some ⟨g7, 0, none⟩)) (.agg (resA ⟨fx, t.snd, t.sq, t.gas, pr⟩)) (by kernel_rfl) (by kernel_rfl) _ hst ?_
       exact ⟨b0, b1, b2, b3, true, b5, true, x59, rfl, rfl, hF2⟩
     ·intro act9 V hJ
      obtain ⟨b0, b1, b2, b3, b4, b5, b6, x59, he, rfl, hF⟩ := hJ
      have he : (#[true, true, true, true, true, true, true] : Array Bool) = #[b0, b1, b2, b3, b4, b5, b6] := he
      simp only [Array.mk.injEq, List.cons.injEq, and_true] at he
      obtain ⟨rfl, rfl, rfl, rfl, rfl, rfl, rfl⟩ := he
      simp only [cond_true]
      obtain ⟨ad, k, rfl, hk, hrow⟩ := hF.row rfl
      obtain ⟨a2, k2, e2, hx6⟩ := hF.y6 rfl
      simp only [Value.agg.injEq, Array.mk.injEq, List.cons.injEq, Value.slice.injEq, true_and, and_true] at e2
      obtain ⟨rfl, rfl⟩ := e2
      obtain ⟨a9, c9, e9, h9, -⟩ := hrow.cs
      simp only [Value.slice.injEq, true_and] at e9
      obtain ⟨rfl, rfl⟩ := e9
      subst hDL
      subst hfx
      go_wp2_with fail
      exact bodyPost_ret (results_2c rfl (by kernel_rfl) (load_lg hx6) (by kernel_rfl) (load_res hF.x7)) rfl ⟨ad, k, rfl, h9, hk, .inr fun x hx => Nat.le_trans HB0.out.size (row_ge hrow x hx), hF.bel⟩
  ·skip
   go_upto_region 4 with fail
   refine wl <| gz1 (.int .i64 D.2) <| gzb (neq_e rfl D.2 0 (decide_eq_false hd)) <| wn ?_
   simp only [pu]
   obtain ⟨hsA, hYA⟩ := store_lg (a' := la) (n' := A.length) (k' := lk) (c' := c) HX6.out
   have hYB := HX7.out.but (But.setRow (g := g6) V3 (lgA la A.length lk c)) HG.out.2.2.1
   obtain ⟨hsB, hYC⟩ := store_res (q := zRes D.2) hYB
   have hYD := hYA.but (But.setRow (g := g7) (V3.setRow g6 (lgA la A.length lk c)) (resA (zRes D.2))) (fun e => HG.out.2.2.1 e.symm)
   have hbZ := belowRow (belowRow HBV.out HG.out.1 (lgA la A.length lk c)) HG.out.2.1 (resA (zRes D.2))
   have hLZ := HLW.out.below hbZ
   obtain rfl := H2.out rfl hd
   have HE : Hid (TxO w la A ((A, c), zRes D.2) (.returned (.tuple #[.agg (lgA la A.length lk c), .agg (resA (zRes D.2))])) ((V3.setRow g6 (lgA la A.length lk c)).setRow g7 (resA (zRes D.2)))) := Lib.hid ⟨la, lk, rfl, hLZ, hlk, .inl ⟨rfl, rfl⟩, hbZ⟩
   generalize (V3.setRow g6 (lgA la A.length lk c)).setRow g7 (resA (zRes D.2)) = VZ at *
   generalize V3.setRow g6 (lgA la A.length lk c) = VY at *
   clear hYA hYB hbZ hLZ
   go_upto_region 5 with fail
   refine wl <| gzl rfl ⟨g3, 0, none⟩ (.agg (lgA la A.length lk c)) (load_lg HX3.out) <| gz2 (.int .i64 D.2) (.agg (resA (zRes D.2))) <| gzs rfl (hsA) <| gzs rfl (hsB) <| wn ?_
   simp only [pu]
   go_wp2_with fail
   exact bodyPost_ret (results_2c rfl (by kernel_rfl) (load_lg hYD) (by kernel_rfl) (load_res hYC)) rfl HE.out
 ·skip
  refine gzb (neq_e rfl ve 0 (decide_eq_false hv)) <| wn ?_
  simp only [pu]
  have HBV := Lib.hid HB1.out
  obtain ⟨hsA, hYA⟩ := store_lg (a' := la) (n' := A.length) (k' := lk) (c' := c) HX6.out
  have hYB := HX7.out.but (But.setRow (g := g6) W1 (lgA la A.length lk c)) HG.out.2.2.1
  obtain ⟨hsB, hYC⟩ := store_res (q := zRes 1) hYB
  have hYD := hYA.but (But.setRow (g := g7) (W1.setRow g6 (lgA la A.length lk c)) (resA (zRes 1))) (fun e => HG.out.2.2.1 e.symm)
  have hbZ := belowRow (belowRow HBV.out HG.out.1 (lgA la A.length lk c)) HG.out.2.1 (resA (zRes 1))
  have hLZ := HLW.out.below hbZ
  obtain rfl := H1.out hv
  have HE : Hid (TxO w la A ((A, c), zRes 1) (.returned (.tuple #[.agg (lgA la A.length lk c), .agg (resA (zRes 1))])) ((W1.setRow g6 (lgA la A.length lk c)).setRow g7 (resA (zRes 1)))) := Lib.hid ⟨la, lk, rfl, hLZ, hlk, .inl ⟨rfl, rfl⟩, hbZ⟩
  generalize (W1.setRow g6 (lgA la A.length lk c)).setRow g7 (resA (zRes 1)) = VZ at *
  generalize W1.setRow g6 (lgA la A.length lk c) = VY at *
  clear hYA hYB hbZ hLZ
  go_upto_region 2 with fail
  refine wl <| gzl rfl ⟨g3, 0, none⟩ (.agg (lgA la A.length lk c)) (load_lg HX3.out) <| gz1 (.agg (resA (zRes 1))) <| gzs rfl (hsA) <| gzs rfl (hsB) <| wn ?_
  simp only [pu]
  go_wp2_with fail
  exact bodyPost_ret (results_2c rfl (by kernel_rfl) (load_lg hYD) (by kernel_rfl) (load_res hYC)) rfl HE.out
end Go.Proofs.YtglglhcnofbagaaGreat.Lg
namespace Go.Proofs.YtglglhcnofbagaaGreat.Lg
set_option maxRecDepth 100000
open Mo (usedV prioV mulB mulV)
open Go.RowKit
set_option linter.unusedSimpArgs false
set_option linter.unusedVariables false

theorem infoBy : (Tryz.prog.info? 5).map (fun i => (i.zero, i.size, i.bytes)) = some (some (.int .u8 0), 1, 1) := by kernel_rfl
theorem nil_by (w : World) : (Instr.buildSlice 26 0 #[]).run Tryz.prog w = .ok (.slice (some ⟨w.heap.size, 0, none⟩) 0 0) (w.alloc (.cells #[] 5)) := build_nil Tryz.underlying26 infoBy w
theorem nil_own (w : World) : Own (w.alloc (.cells #[] 5)) w.heap.size (.slice (some ⟨w.heap.size, 0, none⟩) 0 0) [] := own_nil w 5 1
/-- 'append' of bytes to a row that the call made. -/
theorem grow_by {w : World} {B : Nat} {v : Value} {A M : List Int} (h : Own w B v A) (hB : B ≤ w.heap.size) (pa : Option Addr) (cp : Nat) (hP : Sl w pa cp M) (hl : A.length + M.length ≤ 100000000) :
  ∃ a c V2, (Builtin.append_ #[26, 26] 26 #[v, .slice pa M.length cp]).run Tryz.prog w = .ok (.slice a (A ++ M).length c) V2 ∧ Own V2 B (.slice a (A ++ M).length c) (A ++ M) ∧ Below B w V2 := by
 obtain ⟨i0, hi, hz0, hz1, hz2⟩ := info_parts infoBy
 have fin : ∀ v2 V2, (Builtin.append_ #[26, 26] 26 #[v, .slice pa M.length cp]).run Tryz.prog w = .ok v2 V2 → Own V2 B v2 (A ++ M) → Below B w V2 → ∃ a c V2, (Builtin.append_ #[26, 26] 26 #[v, .slice pa M.length cp]).run Tryz.prog w = .ok (.slice a (A ++ M).length c) V2 ∧ Own V2 B (.slice a (A ++ M).length c) (A ++ M) ∧ Below B w V2 := fun v2 V2 hr ho hb => by
  obtain ⟨a, c, rfl, -, -⟩ := ho.sl
  exact ⟨a, c, V2, hr, ho, hb⟩
 cases pa with
 | none =>
  have hM : M = [] := by
   rcases hP with ⟨-, -, e⟩ | ⟨x, e, -⟩
   ·exact e
   ·cases e
  subst hM
  refine fin v w ?_ (by rw [List.append_nil]; exact h) (Below.refl _ _)
  unfold Own at h
  rcases h.2 with ⟨rfl, h0⟩ | ⟨g, cap, cur, rfl, _, _, hnc, _⟩
  ·simp [Builtin.append_, run_underlying Tryz.underlying26, sizeOf, typeInfo, hi, Builtin.lenOf, Builtin.firstCells]
  ·simp [Builtin.append_, run_underlying Tryz.underlying26, sizeOf, typeInfo, hi, Builtin.lenOf, Builtin.firstCells, hnc, storeCells]
 | some x =>
  have hx : ∀ j u, (M.map (Value.int .u8))[j]? = some u → w.cell? (x.add j) = some u := fun j u hu => by
   rcases hP with ⟨e, -, -⟩ | ⟨y, e, hy⟩
   ·cases e
   ·cases e
    have hj : j < M.length := by
     have := (List.getElem?_eq_some_iff.1 hu).1
     simpa using this
    obtain ⟨b, off, rfl, hc⟩ := hy j hj
    rw [Addr.add_mid, hc]
    rw [List.getElem?_map, List.getElem?_eq_getElem hj] at hu
    rw [List.getD_eq_getElem?_getD, List.getElem?_eq_getElem hj]
    exact hu
  obtain ⟨v2, V2, hr, hO2, hg, -, -⟩ := run_append_own_at (P := Tryz.prog) w B 26 26 5 i0 _ 1 1 Tryz.underlying26 hi hz0 hz1 hz2 (by kernel_rfl) (by omega) v A.length (A.map (Value.int .u8)) h x M.length cp (M.map (Value.int .u8)) (by rw [List.length_map, Nat.mul_one]) hx (fun u hu => by obtain ⟨y, -, rfl⟩ := List.mem_map.1 hu; rfl) (by unfold maxLen; omega) (by omega) hB
  refine fin v2 V2 hr (by unfold Own; rw [List.map_append, List.length_append]; exact hO2) ((Below.refl _ w).grown hg hB fun j hj => (World.ownsRow.lt h j hj).1)
theorem conv_i8 {ρ : Operand → Value} {o : Oper} {x : Operand} (ho : o.op = .convert 3 5 x) (a : Nat) (h : a ≤ 255) (hx : ρ x = .int .i64 a) (w : World) : (execOp ρ o).run Tryz.prog w = .ok (.value (.int .u8 a)) w := by
 have hw : IntKind.u8.wrap (a : Int) = a := by rw [IntKind.wrap_u8]; omega
 unfold execOp
 simp only [ho, hx]
 go_simp
theorem ns_next {w : World} {g c k : Nat} {a : Option Addr} {L : List Int} (h : NS w g a c L k) (hl : L.length ≤ 100000) (hk : k ≤ 100000) (n : Int) (hn : 0 < n) (hn2 : n ≤ 1000000) : ∃ v : Nat, (v : Int) < n ∧ Calls Tryz.prog 23 #[.pointer (some ⟨g, 0, none⟩), .int .i64 n] w fun e w' => e = .returned (.int .i64 v) ∧ NS w' g a c L (k + 1) ∧ But g w w' := by
 obtain ⟨N, hN, h3⟩ := h
 obtain ⟨v, hv, hlt⟩ := pl_nat L N n hn
 exact ⟨v, hlt, (nsn_next h3 hl (by omega) n hn hn2 hv).mono fun e w' q => ⟨q.1, NSn.ns q.2.1 (by omega), q.2.2⟩⟩
/-- A slice of bytes stays where block g is written, if it lies in new memory. -/
theorem own_butb {w w' : World} {g B : Nat} {v : Value} {L : List Int} (h : Own w B v L) (hb : But g w w') (hg : g < B) : Own w' B v L := own_but h hb hg
/-- Bytes in new memory: they read, and stay when g is written. -/
structure Rw (w : World) (B : Nat) (a : Option Addr) (c : Nat) (R : List Int) : Prop where
 sl : Sl w a c R
 le : R.length ≤ c
 b : ∀ y, y ∈ R → W8 y
 n : R.length ≤ 4096
 o : R ≠ [] → ∀ x, a = some x → B ≤ x.block
theorem Rw.below {w w' : World} {B : Nat} {a : Option Addr} {c : Nat} {R : List Int} (h : Rw w B a c R) (hb : Below w.heap.size w w') : Rw w' B a c R := ⟨sl_below h.sl hb, h.le, h.b, h.n, h.o⟩
theorem Rw.base {w : World} {B B2 : Nat} {a : Option Addr} {c : Nat} {R : List Int} (h : Rw w B2 a c R) (hB : B ≤ B2) : Rw w B a c R := ⟨h.sl, h.le, h.b, h.n, fun e x hx => Nat.le_trans hB (h.o e x hx)⟩
theorem Rw.but {w w' : World} {B g : Nat} {a : Option Addr} {c : Nat} {R : List Int} (h : Rw w B a c R) (hb : But g w w') (hg : g < B) : Rw w' B a c R := ⟨by
 rcases h.sl with h1 | ⟨x, rfl, hx⟩
 ·exact .inl h1
 ·refine .inr ⟨x, rfl, fun k hk => ?_⟩
  obtain ⟨b, off, rfl, hc⟩ := hx k hk
  have hne : R ≠ [] := fun e => by rw [e] at hk; simp at hk
  have hB := h.o hne _ rfl
  have hlt := World.block_lt_of_cell? w (⟨b, off + k, none⟩ : Addr) hc
  refine ⟨b, off, rfl, ?_⟩
  rw [← hc]
  unfold World.cell?
  rw [hb.2 b hlt (by have : B ≤ b := hB; omega)], h.le, h.b, h.n, h.o⟩
theorem Rw.of {w : World} {B : Nat} {v : Value} {R : List Int} (h : Own w B v R) (hb : ∀ y, y ∈ R → W8 y) (hn : R.length ≤ 4096) : ∃ a c, v = .slice a R.length c ∧ Rw w B a c R := by
 obtain ⟨a, c, rfl, h1, h2⟩ := h.sl
 refine ⟨a, c, rfl, h1, h2, hb, hn, fun hne x hx => ?_⟩
 rcases h.2 with ⟨e, -⟩ | ⟨g, cap, cur, e, hB, -⟩
 ·simp only [Value.slice.injEq] at e; rw [e.1] at hx; cases hx
 ·simp only [Value.slice.injEq] at e; rw [e.1] at hx; cases hx; exact hB
theorem Rw.take {w : World} {B : Nat} {a : Option Addr} {c : Nat} {R : List Int} (h : Rw w B a c R) (k : Nat) : Rw w B a c (R.take k) :=
 ⟨sl_take h.sl k, by rw [List.length_take]; have := h.le; omega, fun y hy => h.b y (List.mem_of_mem_take hy), by rw [List.length_take]; have := h.n; omega, fun hne => h.o fun e => hne (by rw [e, List.take_nil])⟩
theorem enc_by {t : Txd} (h : TxB t) : (∀ y, y ∈ (encX t).1 → W8 y) ∧ (encX t).1.length ≤ 4096 := by
 unfold encX
 split
 ·exact ⟨fun y hy => (by cases hy), by simp⟩
 ·rename_i hv
  have hv : valX t = 0 := by omega
  split
  ·exact ⟨fun y hy => (by cases hy), by simp⟩
  ·rename_i hl
   exact ⟨fun y hy => msg_bytes (val_ok hv h.sq h.gas h.fee h.am).1.vf y hy, by show (form t).length ≤ 4096; omega⟩
/-- One byte of a row of the call's own is written. -/
theorem set_by {w : World} {B g n c i : Nat} {L : List Int} (h : Own w B (.slice (some ⟨g, 0, none⟩) n c) L) (hn : n = L.length) (hi : i < L.length) (x : Int) :
  ∃ V2, (Instr.storeAt 5 (.pointer (some ⟨g, 0 + i, none⟩)) (.int .u8 x)).run Tryz.prog w = .ok () V2 ∧ Own V2 B (.slice (some ⟨g, 0, none⟩) n c) (L.set i x) ∧ But g w V2 := by
 subst hn
 obtain ⟨cur, hcur, hz, -, -⟩ := own_blk (e := 5) (s := 1) h
 have hst := run_store_cell (ty := 5) (i := 0 + i) (v := .int .u8 x) hcur (by omega) rfl (by kernel_rfl)
 refine ⟨_, hst, ?_, But.setCell _ _ _⟩
 have ho := own_set h (0 + i) (.int .u8 x) (by rw [List.length_map]; omega)
 unfold Own
 rw [List.length_set, List.map_set, Nat.zero_add] at *
 exact ho
theorem But.trans_off {g q : Nat} {w a b : World} (h : But g w a) (hb : But q a b) (h1 : w.heap.size ≤ q) (hg : g ≤ q) : But g w b := ⟨h.1.trans (hb.1.mono hg), fun k hk hn => (hb.2 k (Nat.lt_of_lt_of_le hk h.1.size) (by omega)).trans (h.2 k hk hn)⟩
def RawO (w : World) (g : Nat) (a : Option Addr) (c : Nat) (L : List Int) (k : Nat) (e : Ending) (w' : World) : Prop := ∃ b d R, e = .returned (.slice b (List.length R) d) ∧ Rw w' w.heap.size b d R ∧ NS w' g a c L (k + 45) ∧ But g w w'
end Go.Proofs.YtglglhcnofbagaaGreat.Lg
namespace Go.Proofs.YtglglhcnofbagaaGreat.Lg
attribute [local irreducible] wpList wpQuiet
set_option maxRecDepth 100000
open Mo (usedV prioV mulB mulV)
open Go.RowKit
set_option linter.unusedSimpArgs false
set_option linter.unusedVariables false

set_option maxRecDepth 100000 in
set_option maxHeartbeats 8000000 in
theorem mk_raw {w : World} {g c k rc : Nat} {a ra : Option Addr} {L : List Int} {A : List Ac} {co p : Int} (h : NS w g a c L k) (hl : L.length ≤ 100000) (hk : k ≤ 9000) (hrow : Cs w ra (acc A)) (hrg : acc A ≠ [] → ∀ x, ra = some x → x.block ≠ g) (hA : ∀ x, x ∈ A → AcQ x) (hA4 : A.length ≤ 1000) :
  Calls Tryz.prog 24 #[.pointer (some ⟨g, 0, none⟩), .agg (lgA ra A.length rc co), .int .u64 p] w (RawO w g a c L k) := by
 have hb0 : Below w.heap.size w (w.alloc (.cells (lgA ra A.length rc co) 25)) := (Below.refl _ w).alloc (Nat.le_refl _) _
 have hX0 : Bx (w.alloc (.cells (lgA ra A.length rc co) 25)) w.heap.size (lgA ra A.length rc co) 25 := heap_alloc_last w _
 have HGW := Lib.hid h.lt
 have HAB := Lib.hid (fun h1 x hx => h.ab h1 x hx)
 have CT := mk_tx (p := p) (co := co) (rc := rc) (h.below hb0) hl (by omega) (hrow.below hb0) hrg hA hA4
 go_enter Tryz.func24, Tryz.ntmps24
 go_upto_region 1 with fail
 change Code.wp _ _ _ _ (w.alloc (.cells (lgA ra A.length rc co) 25))
 generalize w.alloc (.cells (lgA ra A.length rc co) 25) = W at *
 obtain ⟨g4, hg4⟩ : ∃ g4, w.heap.size = g4 := ⟨_, rfl⟩
 have HB0 := Lib.hid hb0
 rw [hg4] at hX0
 simp only [hg4]
 clear hb0 hg4 hrow hrg hA h
 refine wl <| gz1 (.pointer (some ⟨g, 0, none⟩)) <| gzl rfl ⟨g4, 0, none⟩ (.agg (lgA ra A.length rc co)) (load_lg hX0) <| gz1 (.int .u64 p) <|
  gze (fun v w' => ∃ x a2 c2, v = .agg (txA x a2 c2) ∧ RowT w' W.heap.size (.slice a2 x.tr.length c2) x.tr ∧ GQ x ∧ NS w' g a c L (k + 40) ∧ But g W w') (CT.mono fun e w' q => by obtain ⟨x, a2, c2, h1, h2, h3, -, -, h4, h5⟩ := q; exact ⟨_, h1, x, a2, c2, rfl, h2, h3, h4, h5⟩) (fun vv W1 hq => ?_)
 obtain ⟨x, a2, c2, rfl, hrt, hgq, hns, hbt⟩ := hq
 obtain ⟨a9, c9, e9, hcs, -⟩ := own_cs hrt
 simp only [Value.slice.injEq, true_and] at e9
 obtain ⟨rfl, rfl⟩ := e9
 have CE := ref_encode x a2 c2 W1 hcs hgq.b
 obtain ⟨hby, hen⟩ := enc_by hgq.b
 obtain ⟨R, hR⟩ : ∃ R, (encX x).1 = R := ⟨_, rfl⟩
 obtain ⟨ee, hee⟩ : ∃ ee, (encX x).2 = ee := ⟨_, rfl⟩
 unfold EncO at CE
 rw [hR] at hby hen
 rw [hR, hee] at CE
 clear CT hX0 hR hee hrt hcs hgq
 simp only [pu]
 refine gze (fun v w' => ∃ b d, v = .tuple #[.slice b R.length d, .int .i64 ee] ∧ Own w' W1.heap.size (.slice b R.length d) R ∧ Below W1.heap.size W1 w') (CE.mono fun e w' q => by obtain ⟨u, h1, h2, h3⟩ := q; obtain ⟨b, d, rfl, -, -⟩ := h2.sl; exact ⟨_, h1, b, d, rfl, h2, h3⟩) (fun vv W2 hq => ?_)
 obtain ⟨b, d, rfl, hown, hb2⟩ := hq
 simp only [pu]
 refine gz5 (.tuple #[.slice b R.length d, .int .i64 ee]) (.slice b R.length d) (.int .i64 ee) (.slice b R.length d) (.int .i64 ee) <| wn ?_
 simp only [pu]
 obtain ⟨a9, c9, e9, hrw⟩ := Rw.of hown hby hen
 simp only [Value.slice.injEq, true_and] at e9
 obtain ⟨rfl, rfl⟩ := e9
 have hgw := HGW.out
 have h0W := HB0.out.size
 have hW1 := hbt.1.size
 have HBT : Hid (But g w W2) := Lib.hid ((But.of_below HB0.out (Nat.le_of_lt hgw)).trans (hbt.more (hb2.mono hbt.1.size) (by omega)))
 have hns2 := (hns.mono (by omega : k + 40 ≤ k + 41)).below hb2
 have hrw2 : Rw W2 w.heap.size b d R := hrw.base (by omega)
 have hsz2 : w.heap.size ≤ W2.heap.size := by have := hb2.size; omega
 clear CE hown hb2 hns hbt hrw hW1 h0W HB0
 by_cases h0 : 0 < R.length
 ·skip
  obtain ⟨v12, hv12, CN⟩ := ns_next hns2 hl (by omega) 12 (by decide) (by decide)
  go_upto_region 2 with fail
  refine wl <| gz2 (.slice b R.length d) (.int .i64 R.length) <| gzb (gtr_n rfl R.length 0 dT) <| gz2 (.bool true) (.pointer (some ⟨g, 0, none⟩)) <|
   gzc (.int .i64 v12) (fun w' => NS w' g a c L (k + 41 + 1) ∧ But g W2 w') CN (fun W3 hq => ?_)
  obtain ⟨hnsW3, hbtW3⟩ := hq
  simp only [pu]
  have hrw3 := hrw2.but hbtW3 HGW.out
  have HBT3 := Lib.hid (HBT.out.trans hbtW3)
  have hsz3 := Nat.le_trans hsz2 hbtW3.1.size
  clear CN hns2 hrw2 hbtW3 HBT hsz2
  by_cases h12 : v12 = 0
  ·skip
   subst h12
   refine gzb (eql_n rfl (0 : Nat) 0 (decide_eq_true rfl)) <| gz1 (.bool true) <| wn ?_
   simp only [pu]
   obtain ⟨k1, hk1, CN⟩ := ns_next hnsW3 hl (by omega) R.length (by omega) (by have := hrw3.n; omega)
   have hk1 : k1 < R.length := by omega
   go_upto_region 3 with fail
   refine wl <| gz3 (.pointer (some ⟨g, 0, none⟩)) (.slice b R.length d) (.int .i64 R.length) <| gzc (.int .i64 k1) (fun w' => NS w' g a c L (k + 41 + 1 + 1) ∧ But g W3 w') CN (fun W4 hq => ?_)
   obtain ⟨hnsW4, hbtW4⟩ := hq
   simp only [pu]
   refine gz1 (.int .i64 k1) <| wn ?_
   simp only [pu]
   have hrw4 := hrw3.but hbtW4 HGW.out
   have HBT4 := Lib.hid (HBT3.out.trans hbtW4)
   have hsz4 := Nat.le_trans hsz3 hbtW4.1.size
   obtain ⟨v2, hv2, CN2⟩ := ns_next hnsW4 hl (by omega) 2 (by decide) (by decide)
   clear CN hnsW3 hrw3 hbtW4 HBT3 hsz3
   go_upto_region 4 with fail
   refine wl <| gz1 (.pointer (some ⟨g, 0, none⟩)) <| gzc (.int .i64 v2) (fun w' => NS w' g a c L (k + 41 + 1 + 1 + 1) ∧ But g W4 w') CN2 (fun W5 hq => ?_)
   obtain ⟨hnsW5, hbtW5⟩ := hq
   simp only [pu]
   have hrw5 := hrw4.but hbtW5 HGW.out
   have HBT5 := Lib.hid (HBT4.out.trans hbtW5)
   have hsz5 := Nat.le_trans hsz4 hbtW5.1.size
   clear CN2 hnsW4 hrw4 hbtW5 HBT4 hsz4
   by_cases h2 : v2 = 0
   ·skip
    subst h2
    refine gzb (eql_n rfl (0 : Nat) 0 (decide_eq_true rfl)) <| wn ?_
    simp only [pu]
    have hcut := slice_to .i64 b R.length d k1 W5 (by have := hrw5.le; omega)
    have htk : (R.take k1).length = k1 := by rw [List.length_take]; omega
    go_upto_region 5 with fail
    refine wl <| gz2 (.slice b R.length d) (.int .i64 k1) ?_
    simp only [pu]
    refine gw_slice_to (by kernel_rfl) (some 35) rfl 26 (.tmp 33) (.tmp 34) rfl (.slice b R.length d) (.int .i64 k1) (.slice b k1 d) (by kernel_rfl) (by kernel_rfl) hcut ?_
    simp only [pu]
    refine gz1 (.slice b k1 d) <| wn ?_
    simp only [pu]
    go_wp2_with fail
    go_ret
    exact ⟨b, d, R.take k1, by rw [htk]; rfl, hrw5.take k1, hnsW5.mono (by omega), HBT5.out⟩
   ·skip
    refine gzb (eql_n rfl v2 0 dF) <| wn ?_
    simp only [pu]
    have hnl := nil_by W5
    have hb6 : Below W5.heap.size W5 (W5.alloc (.cells #[] 5)) := (Below.refl _ W5).alloc (Nat.le_refl _) _
    obtain ⟨a7, c7, W7, hap, ho7, hb7⟩ := grow_by (nil_own W5) hb6.size b d (sl_below hrw5.sl hb6) (by have := hrw5.n; simp only [List.length_nil]; omega)
    rw [List.nil_append] at hap ho7
    have hb8 := hb6.trans hb7
    obtain ⟨q, cur, e7, hq7⟩ : ∃ q cur, a7 = some ⟨q, 0, none⟩ ∧ W5.heap.size ≤ q := by
     rcases ho7.2 with ⟨e, h9⟩ | ⟨q, cap, cur, e, hB, -⟩
     ·omega
     ·simp only [Value.slice.injEq] at e
      exact ⟨q, cur, e.1, hB⟩
    subst e7
    obtain ⟨v8, hv8, CN3⟩ := ns_next (hnsW5.below hb8) hl (by omega) 256 (by decide) (by decide)
    go_upto_region 6 with fail
    apply wp_region_lit
    refine gw_build (by kernel_rfl) (some 36) rfl 26 0 #[] rfl #[] (by kernel_rfl) (.slice (some ⟨W5.heap.size, 0, none⟩) 0 0) _ hnl ?_
    simp only [pu]
    refine gz1 (.slice b R.length d) ?_
    simp only [pu]
    refine append_step rfl (some 38) rfl 26 rfl (.tmp 36) (.tmp 37) 26 rfl (.slice (some ⟨W5.heap.size, 0, none⟩) 0 0) (.slice b R.length d) (.slice (some ⟨q, 0, none⟩) R.length c7) W7 (by kernel_rfl) (by kernel_rfl) hap ?_
    simp only [pu]
    refine gz1 (.slice (some ⟨q, 0, none⟩) R.length c7) <| wn ?_
    simp only [pu]
    go_upto_region 7 with fail
    refine wl <| gz3 (.slice (some ⟨q, 0, none⟩) R.length c7) (.int .i64 k1) (.pointer (some ⟨g, 0, none⟩)) <| gzc (.int .i64 v8) (fun w' => NS w' g a c L (k + 41 + 1 + 1 + 1 + 1) ∧ But g W7 w') CN3 (fun W8 hq => ?_)
    obtain ⟨hnsW8, hbtW8⟩ := hq
    simp only [pu]
    have ho8 := own_butb ho7 hbtW8 (by have := HGW.out; omega)
    obtain ⟨W9, hst9, ho9, hbt9⟩ := set_by ho8 rfl hk1 v8
    refine gzv (.int .u8 v8) (conv_i8 rfl v8 (by omega) (by kernel_rfl) _) <| gzv (.pointer (some ⟨q, 0 + k1, none⟩)) (idx_u8 q 0 R.length c7 k1 hk1 _ _ _ rfl (by kernel_rfl) (by kernel_rfl)) <| gzs rfl (hst9) <| wn ?_
    simp only [pu]
    have hgq : g < q := by have := HGW.out; omega
    have hnn := HAB.out
    obtain ⟨a10, c10, e10, hrw9⟩ := Rw.of (R := R.set k1 v8) (by unfold Own at *; rw [List.length_set] at *; exact ho9) (fun y hy => (List.mem_or_eq_of_mem_set hy).elim (hrw5.b y) (fun e => by rw [e]; exact ⟨by omega, by omega⟩)) (by rw [List.length_set]; exact hrw5.n)
    simp only [Value.slice.injEq, true_and] at e10
    obtain ⟨rfl, e11, rfl⟩ := e10
    go_wp2_with fail
    go_ret
    exact ⟨_, _, R.set k1 v8, by rw [List.length_set]; rfl, hrw9.base hsz5, (hnsW8.but hbt9 hgq (fun h5 x hx => by have := hnn h5 x hx; omega)).mono (by omega), But.trans_off ((HBT5.out.more (hb8.mono hsz5) (Nat.le_of_lt HGW.out)).trans hbtW8) hbt9 (Nat.le_trans hsz5 hq7) (Nat.le_of_lt hgq)⟩
  ·skip
   refine gzb (eql_n rfl v12 0 dF) <| gz1 (.bool false) <| wn ?_
   simp only [pu]
   go_upto_region 8 with fail
   refine wl <| gz2 (.slice b R.length d) (.slice b R.length d) <| wn ?_
   simp only [pu]
   go_wp2_with fail
   go_ret
   exact ⟨b, d, R, rfl, hrw3, hnsW3.mono (by omega), HBT3.out⟩
 ·skip
  go_upto_region 2 with fail
  refine wl <| gz2 (.slice b R.length d) (.int .i64 R.length) <| gzb (gtr_n rfl R.length 0 dF) <| gz5 (.bool false) undef undef undef (.bool false) <| wn ?_
  simp only [pu]
  go_upto_region 8 with fail
  refine wl <| gz2 (.slice b R.length d) (.slice b R.length d) <| wn ?_
  simp only [pu]
  go_wp2_with fail
  go_ret
  exact ⟨b, d, R, rfl, hrw2, hns2.mono (by omega), HBT.out⟩
end Go.Proofs.YtglglhcnofbagaaGreat.Lg
namespace Go.Proofs.YtglglhcnofbagaaGreat.Lg
set_option maxRecDepth 100000
open Mo (usedV prioV mulB mulV)
open Go.RowKit
set_option linter.unusedSimpArgs false
set_option linter.unusedVariables false

theorem valT_names : ∀ {M : List Tf}, valT M = 0 → ∀ x, x ∈ M → isName (nums x.1) = true
 | [], _, x, hx => by cases hx
 | y :: r, h, x, hx => by
  unfold valT at h
  split at h
  ·omega
  ·rename_i h1
   split at h
   ·omega
   ·rcases List.mem_cons.1 hx with rfl | hx
    ·simpa using h1
    ·exact valT_names h x hx
theorem valX_names {t : Txd} (h : valX t = 0) : ∀ x, x ∈ t.tr → isName (nums x.1) = true := by
 unfold valX at h
 split at h
 ·omega
 split at h
 ·omega
 split at h
 ·omega
 split at h
 ·omega
 exact valT_names h
theorem giv_srt {A : List Ac} (h : Srt A) (x : Tf) : Srt (givA A x) := put_srt h
theorem giv_nmd {A : List Ac} (h : Nmd A) {x : Tf} (hx : isName (nums x.1) = true) : Nmd (givA A x) := put_nmd h (by show isName (nums (getA A x.1).1) = true; rw [getA_name]; exact hx)
theorem give_sn {A : List Ac} {c : Int} {t : Txd} (h : DnQ A c t) (hs : Srt A) (hn : Nmd A) (ht : ∀ x, x ∈ t.tr → isName (nums x.1) = true) : ∀ j, j ≤ t.tr.length → Srt (giveJ A t j) ∧ Nmd (giveJ A t j)
 | 0, _ => by
  obtain ⟨h1, h2, h3⟩ := get_name h.g
  refine ⟨put_srt hs, put_nmd hn ?_⟩
  show isName (nums (getX A t.snd).1.1) = true
  rw [h2]
  exact hn _ h1
 | j + 1, hj => by
  obtain ⟨h1, h2⟩ := give_sn h hs hn ht j (by omega)
  rw [giveJ_succ hj]
  exact ⟨giv_srt h1 _, giv_nmd h2 (ht _ (by rw [tfa_get hj]; exact List.getElem_mem hj))⟩
theorem done_ok {A : List Ac} {c : Int} {t : Txd} (h : DnQ A c t) (hv : valE A c = 0) (ht : ∀ x, x ∈ t.tr → isName (nums x.1) = true) (hl : (doneL A t).length ≤ 256) : valE (doneL A t) (c + t.fee) = 0 ∧ AcW (doneL A t) ∧ W64 (c + t.fee) ∧ (c + t.fee) + tot (bals (doneL A t)) = c + tot (bals A) := by
 obtain ⟨v1, v2, v3, v4⟩ := valE_ok hv
 have hg := done_gv h
 obtain ⟨s1, s2⟩ := give_sn h v2 v3 ht _ (Nat.le_refl _)
 have hs := hg.s
 have ha := cos_all t
 have he : (c + t.fee) + tot (bals (doneL A t)) = c + tot (bals A) := by omega
 refine ⟨valE_of hl s1 s2 ?_, hg.w, h.cf, he⟩
 refine decide_eq_true ?_
 rw [tot_cons, he]
 exact h.tt
/-- A ledger that is valid, and all in it words. -/
structure LdQ (A : List Ac) (c : Int) : Prop where
 v : valE A c = 0
 w : AcW A
 cw : W64 c
theorem LdQ.n {A : List Ac} {c : Int} (h : LdQ A c) : A.length ≤ 256 := (valE_ok h.v).1
theorem isn_20 {s : ByteArray} (h : isName (nums s) = true) : s.size ≤ 20 := by
 unfold isName at h
 rw [nums_len] at h
 simp only [Bool.and_eq_true, decide_eq_true_eq] at h
 omega
theorem LdQ.q {A : List Ac} {c : Int} (h : LdQ A c) : ∀ x, x ∈ A → AcQ x := fun x hx => by
 obtain ⟨i, hi, rfl⟩ := List.getElem_of_mem hx
 have h1 := (valE_ok h.v).2.2.1 i hi
 have h2 := h.w i hi
 rw [aca_get hi] at h1 h2
 exact ⟨⟨h1, isn_20 h1⟩, h2⟩
theorem LdQ.z {A : List Ac} {c : Int} (h : LdQ A c) : ∀ x, x ∈ A → x.1.size ≤ 140737488355328 := fun x hx => Nat.le_trans (h.q x hx).1.2 (by decide)
theorem LdQ.nil : LdQ [] 0 := ⟨by decide, acw_nil, w64_0⟩
theorem LdQ.tx {A : List Ac} {c price : Int} {L : List Int} (h : LdQ A c) (hp : W64 price) (h8 : ∀ y, y ∈ L → W8 y) : LdQ (txX A c price L).1.1 (txX A c price L).1.2 := by
 by_cases hd : (decX L).2 = 0
 ·by_cases hf : faultX A price (decX L).1 L.length = 0
  ·have hq := fa_q h8 h.v h.w h.cw hp hd
   obtain ⟨d1, d2⟩ := fault_0 hq hf
   obtain ⟨d3, -, -, -⟩ := dec_ok (t := (decX L).1) (fun x hx => h8 x hx) (by rw [← hd])
   obtain ⟨e1, e2, e3, -⟩ := done_ok d1 h.v (valX_names d3) d2
   rw [tx_4 h.v hd hf]
   exact ⟨e1, e2, e3⟩
  ·rw [tx_3 h.v hd hf]; exact h
 ·rw [tx_2 h.v hd]; exact h
end Go.Proofs.YtglglhcnofbagaaGreat.Lg
