/-
  The program's Tx: contract. Applications in memory; the reference's Init and Accept: contracts.
-/
import Derived.Test.YtglglhcnofbagaaGreatK28
import Derived.Test.YtglglhcnofbagaaGreatK26
namespace Go.Proofs.YtglglhcnofbagaaGreat.Lg
attribute [local irreducible] wpList wpQuiet
set_option maxRecDepth 100000
open Mo (usedV prioV mulB mulV)
open Go.RowKit
set_option linter.unusedSimpArgs false
set_option linter.unusedVariables false

theorem dcd_err {A : List Ac} {c price : Int} {L : List Int} (h : (dcdX A c L).2 ≠ 0) : txX A c price L = ((A, c), zRes (dcdX A c L).2) := by
 unfold dcdX at h ⊢
 by_cases h1 : valE A c ≠ 0
 ·rw [if_pos h1, tx_1 h1]
 ·rw [if_neg h1] at h ⊢
  exact tx_2 (Decidable.not_not.1 h1) h
theorem dcd_ok {A : List Ac} {c : Int} {L : List Int} (h : (dcdX A c L).2 = 0) : valE A c = 0 ∧ decX L = dcdX A c L := by
 unfold dcdX at h ⊢
 by_cases h1 : valE A c ≠ 0
 ·rw [if_pos h1] at h; exact absurd h (by decide)
 ·rw [if_neg h1]; exact ⟨Decidable.not_not.1 h1, rfl⟩
/-- What the last region reads: the ledger's box, the result's box, the row. -/
structure PT (g11 g10 B : Nat) (lc : Array Value) (r : Res) (v : Value) (Q : List Ac) (V : World) : Prop where
 x11 : Bx V g11 lc 25
 x10 : Bx V g10 (resA r) 39
 row : RowA V B v Q
theorem PT.but {g11 g10 B g : Nat} {lc : Array Value} {r : Res} {v : Value} {Q : List Ac} {V V2 : World} (h : PT g11 g10 B lc r v Q V) (hb : But g V V2) (h1 : g11 ≠ g) (h2 : g10 ≠ g) (hB : g < B) : PT g11 g10 B lc r v Q V2 := ⟨h.x11.but hb h1, h.x10.but hb h2, own_but h.row hb hB⟩
theorem PT.drew {g11 g10 B : Nat} {lc : Array Value} {r : Res} {v : Value} {Q : List Ac} {V : World} (h : PT g11 g10 B lc r v Q V) : PT g11 g10 B lc r v Q V.drew := ⟨h.x11, h.x10, h.row⟩
theorem TxO.own {w V : World} {la ad : Option Addr} {k : Nat} {A : List Ac} {X : (List Ac × Int) × Res} {Q : List Ac} {d : Int} {r : Res} {B : Nat} (h : X = ((Q, d), r)) (hr : RowA V B (.slice ad Q.length k) Q) (hB : w.heap.size ≤ B) (hb : Below w.heap.size w V) : TxO w la A X (.returned (.tuple #[.agg (lgA ad Q.length k d), .agg (resA r)])) V := by
 subst h
 obtain ⟨a9, c9, e9, h4, h5⟩ := own_cs hr
 simp only [Value.slice.injEq, true_and] at e9
 obtain ⟨rfl, rfl⟩ := e9
 exact ⟨_, _, rfl, h4, h5, .inr fun x hx => Nat.le_trans hB (row_ge hr x hx), hb⟩
set_option maxRecDepth 100000 in
set_option maxHeartbeats 8000000 in
theorem q_tx : QTx := by
 intro A c price L la ra lk rc w hL hlk hn hc hw hz hp hR hrc h8
 obtain ⟨hb0, hX3, hX6, hX7⟩ := three_boxes w (lgA la A.length lk c) (lgA none 0 0 0) (resA (zRes 0)) 25 25 39
 have hA := hL.below hb0
 have hRW := sl_below hR hb0
 have CD0 := fun V h hr => q_dcd A c L la ra lk rc V h (by omega) hc hw hz hr hrc h8
 have HCL := Lib.hid (fun V h => q_cl la lk A c V h hn)
 obtain ⟨X, hX⟩ : ∃ X, txX A c price L = X := ⟨_, rfl⟩
 obtain ⟨D, hD⟩ : ∃ D, dcdX A c L = D := ⟨_, rfl⟩
 have H1 : Hid (D.2 ≠ 0 → X = ((A, c), zRes D.2)) := Lib.hid fun h => by subst hD; rw [← hX]; exact dcd_err h
 have H2 : Hid (D.2 = 0 → FaQ A c price D.1 ∧ (∀ x, x ∈ D.1.tr → isName (nums x.1) = true) ∧ X = (if (carX A c price D.1 L.length).2.2 = 0 then ((carX A c price D.1 L.length).1, (carX A c price D.1 L.length).2.1) else (A, c), ⟨(carX A c price D.1 L.length).2.2, D.1.snd, D.1.sq, D.1.gas, prioV D.1.fee D.1.gas⟩)) := Lib.hid fun h => by
  subst hD
  obtain ⟨e1, e2⟩ := dcd_ok h
  rw [← e2] at h ⊢
  obtain ⟨d3, -, -, -⟩ := dec_ok (t := (decX L).1) (fun x hx => h8 x hx) (by rw [← h])
  exact ⟨fa_q h8 e1 hw hc hp h, valX_names d3, by rw [← hX]; exact car_tx e1 h⟩
 rw [hX]
 rw [hD] at CD0
 have HLW := Lib.hid hL
 clear hL hR h8 hX hD hz hw hc hp
 go_enter Tryz.func11, Tryz.ntmps11
 go_upto_region 1 with fail
 change Code.wp _ _ _ _ (((w.alloc (.cells (lgA la A.length lk c) 25)).alloc (.cells (lgA none 0 0 0) 25)).alloc (.cells (resA (zRes 0)) 39))
 generalize ((w.alloc (.cells (lgA la A.length lk c) 25)).alloc (.cells (lgA none 0 0 0) 25)).alloc (.cells (resA (zRes 0)) 39) = W at *
 obtain ⟨g3, hg3⟩ : ∃ g3, w.heap.size = g3 := ⟨_, rfl⟩
 obtain ⟨g6, hg6⟩ : ∃ g6, g3 + 1 = g6 := ⟨_, rfl⟩
 obtain ⟨g7, hg7⟩ : ∃ g7, g6 + 1 = g7 := ⟨_, rfl⟩
 have HB0 := Lib.hid hb0
 rw [show w.heap.size + 2 = g7 by omega] at hX7
 rw [show w.heap.size + 1 = g6 by omega] at hX6
 have HG : Hid (w.heap.size ≤ g6 ∧ w.heap.size ≤ g7 ∧ g7 ≠ g6 ∧ g6 < W.heap.size ∧ g7 < W.heap.size) := Lib.hid ⟨by omega, by omega, by omega, hX6.lt, hX7.lt⟩
 rw [hg3] at hX3
 simp only [hg3]
 simp only [hg6]
 simp only [hg7]
 have HX3 := Lib.hid hX3
 have HX6 := Lib.hid hX6
 have HX7 := Lib.hid hX7
 have HA := Lib.hid hA
 have CD := CD0 W hA hRW
 clear hb0 hX3 hX6 hX7 hA hRW hg3 hg6 hg7 CD0
 refine wl <| gzl rfl ⟨g3, 0, none⟩ (.agg (lgA la A.length lk c)) (load_lg HX3.out) <| gz1 (.slice ra L.length rc) <|
  gze (fun v w' => ∃ a c, v = .tuple #[.agg (txA D.1 a c), .int .i64 D.2] ∧ RowT w' W.heap.size (.slice a D.1.tr.length c) D.1.tr ∧ Below W.heap.size W w') (CD.mono fun e w' q => by obtain ⟨a, c, h1, h2⟩ := q; exact ⟨_, h1, a, c, rfl, h2⟩) (fun vv W2 hq => ?_)
 obtain ⟨ta, tk, rfl, hrt, hb2⟩ := hq
 obtain ⟨V3, hst3, hb3, hbx3⟩ := new_txv W2 D.1 ta tk
 simp only [pu]
 refine gz3 (.tuple #[.agg (txA D.1 ta tk), .int .i64 D.2]) (.agg (txA D.1 ta tk)) (.int .i64 D.2) ?_
 simp only [pu]
 refine run_to rfl (some 8) rfl (.pointer (some ⟨W2.heap.size, 0, none⟩)) (W2.alloc (.cells (txA zX none 0) 46)) (by kernel_rfl) ?_
 simp only [pu]
 refine gzs rfl (hst3) <| gz1 (.int .i64 D.2) <| wn ?_
 simp only [pu]
 have hb4 := hb2.trans (hb3.mono hb2.size)
 obtain ⟨g8, hg8⟩ : ∃ g8, W2.heap.size = g8 := ⟨_, rfl⟩
 rw [hg8] at hbx3 hst3 ⊢
 obtain ⟨a9, c9, e9, hct, -⟩ := own_cs (own_below hrt hb3)
 simp only [Value.slice.injEq, true_and] at e9
 obtain ⟨rfl, rfl⟩ := e9
 have HCT := Lib.hid hct
 have HX33 := Lib.hid (HX3.out.below HX3.out.lt hb4)
 have HX63 := Lib.hid (HX6.out.below HX6.out.lt hb4)
 have HX73 := Lib.hid (HX7.out.below HX7.out.lt hb4)
 have HX8 := Lib.hid hbx3
 have HBV := Lib.hid (HB0.out.trans (hb4.mono HB0.out.size))
 have HA3 := Lib.hid (HA.out.below hb4)
 have HSV : Hid (W.heap.size ≤ V3.heap.size) := Lib.hid hb4.size
 clear CD hst3 hb2 hb3 hb4 hg8 hbx3 hrt hct HX3 HX6 HX7 HA
 by_cases hd : D.2 = 0
 ·skip
  go_upto_region 2 with fail
  refine wl <| gz1 (.int .i64 D.2) <| gzb (neq_e rfl D.2 0 (decide_eq_true hd)) <| wn ?_
  simp only [pu]
  obtain ⟨hfq, hnm, heq⟩ := H2.out hd
  obtain ⟨t, hdt⟩ : ∃ t, D.1 = t := ⟨_, rfl⟩
  rw [hdt] at hfq hnm heq HX8 HCT
  simp only [hdt]
  have CP := fun V => Mo.gas_prio t.fee t.gas V hfq.f hfq.gas
  have HCA := Lib.hid (fun V (hl : Cs V la (acc A)) (ht : Cs V ta (tfc t.tr)) => q_carry A c price L.length t la ta lk tk V hl hlk ht hfq hnm)
  generalize prioV t.fee t.gas = pr at *
  generalize carX A c price t L.length = R at *
  have HEQ := Lib.hid heq
  clear hfq hnm hdt hd H2 H1 heq
  go_upto_region 4 with fail
  have h0 := KT.start V3 ⟨0, t.snd, t.sq, t.gas, pr⟩
  refine wp_region_inv (fun listed act9 V => ∃ b0 b1 b2 b3 b4 b5 b6 b7 b8 b9 b10 b11 b12 b13 : Bool, ∃ x10 : Value, listed = #[b0, b1, b2, b3, b4, b5, b6, b7, b8, b9, b10, b11, b12, b13] ∧ act9 = { tmps := #[.agg (lgA la A.length lk c), .int .u64 price, .slice ra L.length rc, .pointer (some ⟨g3, 0, none⟩), undef, undef, .pointer (some ⟨g6, 0, none⟩), .pointer (some ⟨g7, 0, none⟩), .pointer (some ⟨g8, 0, none⟩), .int .i64 D.2, x10, undef, .tuple #[.agg (txA t ta tk), .int .i64 D.2], .agg (lgA la A.length lk c), .slice ra L.length rc, .tuple #[.agg (txA t ta tk), .int .i64 D.2], .agg (txA t ta tk), .int .i64 D.2, .int .i64 D.2, .bool false, undef, undef, undef, undef, (cond b0 (.pointer (some ⟨g8, 0, none⟩)) undef), (cond b1 (.string t.snd) undef), (cond b2 (.pointer (some ⟨g8, 1, none⟩)) undef), (cond b3 (.int .u64 t.sq) undef), (cond b4 (.pointer (some ⟨g8, 2, none⟩)) undef), (cond b5 (.int .u64 t.gas) undef), (cond b6 (.pointer (some ⟨g8, 3, none⟩)) undef), (cond b7 (.int .u64 t.fee) undef), (cond b8 (.pointer (some ⟨g8, 2, none⟩)) undef), (cond b9 (.int .u64 t.gas) undef), (cond b10 (.int .u64 pr) undef), (cond b11 (.agg (resA ⟨0, t.snd, t.sq, t.gas, pr⟩)) undef), undef, undef, undef, undef, undef, undef, undef, undef, undef, undef, undef, undef, undef, undef, undef, undef, undef], defers := [] } ∧ KT V3 ⟨0, t.snd, t.sq, t.gas, pr⟩ b12 b13 x10 V) (by kernel_rfl) (by kernel_rfl) ?_ ?_ ?_
  ·exact ⟨false, false, false, false, false, false, false, false, false, false, false, false, false, false, undef, rfl, rfl, h0⟩
  ·intro i9 listed act9 V hi9 hr hJ
   obtain ⟨b0, b1, b2, b3, b4, b5, b6, b7, b8, b9, b10, b11, b12, b13, x10, rfl, rfl, hF⟩ := hJ
   have hi2 : i9 < 14 := hi9
   have hi3 : i9 = 0 ∨ i9 = 1 ∨ i9 = 2 ∨ i9 = 3 ∨ i9 = 4 ∨ i9 = 5 ∨ i9 = 6 ∨ i9 = 7 ∨ i9 = 8 ∨ i9 = 9 ∨ i9 = 10 ∨ i9 = 11 ∨ i9 = 12 ∨ i9 = 13 := by omega
   rcases hi3 with rfl | rfl | rfl | rfl | rfl | rfl | rfl | rfl | rfl | rfl | rfl | rfl | rfl | rfl
   ·obtain rfl : b0 = false := ready_self hr
    refine st_val rfl (by kernel_rfl) (some 24) rfl (.pointer (some ⟨g8, 0, none⟩)) V (by kernel_rfl) ?_
    exact ⟨true, b1, b2, b3, b4, b5, b6, b7, b8, b9, b10, b11, b12, b13, x10, rfl, rfl, hF⟩
   ·obtain rfl : b1 = false := ready_self hr
    obtain rfl : b0 = true := ready_dep hr 0 (by kernel_rfl)
    refine st_load rfl (by kernel_rfl) (some 25) rfl 9 (.tmp 24) rfl ⟨g8, 0, none⟩ (.string t.snd) (by kernel_rfl) ((HX8.out.below HX8.out.lt hF.bel).load (i := 0) rfl (by kernel_rfl)) ?_
    exact ⟨true, true, b2, b3, b4, b5, b6, b7, b8, b9, b10, b11, b12, b13, x10, rfl, rfl, hF⟩
   ·obtain rfl : b2 = false := ready_self hr
    refine st_val rfl (by kernel_rfl) (some 26) rfl (.pointer (some ⟨g8, 1, none⟩)) V (by kernel_rfl) ?_
    exact ⟨b0, b1, true, b3, b4, b5, b6, b7, b8, b9, b10, b11, b12, b13, x10, rfl, rfl, hF⟩
   ·obtain rfl : b3 = false := ready_self hr
    obtain rfl : b2 = true := ready_dep hr 2 (by kernel_rfl)
    refine st_load rfl (by kernel_rfl) (some 27) rfl 23 (.tmp 26) rfl ⟨g8, 1, none⟩ (.int .u64 t.sq) (by kernel_rfl) ((HX8.out.below HX8.out.lt hF.bel).load (i := 1) rfl (by kernel_rfl)) ?_
    exact ⟨b0, b1, true, true, b4, b5, b6, b7, b8, b9, b10, b11, b12, b13, x10, rfl, rfl, hF⟩
   ·obtain rfl : b4 = false := ready_self hr
    refine st_val rfl (by kernel_rfl) (some 28) rfl (.pointer (some ⟨g8, 2, none⟩)) V (by kernel_rfl) ?_
    exact ⟨b0, b1, b2, b3, true, b5, b6, b7, b8, b9, b10, b11, b12, b13, x10, rfl, rfl, hF⟩
   ·obtain rfl : b5 = false := ready_self hr
    obtain rfl : b4 = true := ready_dep hr 4 (by kernel_rfl)
    refine st_load rfl (by kernel_rfl) (some 29) rfl 23 (.tmp 28) rfl ⟨g8, 2, none⟩ (.int .u64 t.gas) (by kernel_rfl) ((HX8.out.below HX8.out.lt hF.bel).load (i := 2) rfl (by kernel_rfl)) ?_
    exact ⟨b0, b1, b2, b3, true, true, b6, b7, b8, b9, b10, b11, b12, b13, x10, rfl, rfl, hF⟩
   ·obtain rfl : b6 = false := ready_self hr
    refine st_val rfl (by kernel_rfl) (some 30) rfl (.pointer (some ⟨g8, 3, none⟩)) V (by kernel_rfl) ?_
    exact ⟨b0, b1, b2, b3, b4, b5, true, b7, b8, b9, b10, b11, b12, b13, x10, rfl, rfl, hF⟩
   ·obtain rfl : b7 = false := ready_self hr
    obtain rfl : b6 = true := ready_dep hr 6 (by kernel_rfl)
    refine st_load rfl (by kernel_rfl) (some 31) rfl 23 (.tmp 30) rfl ⟨g8, 3, none⟩ (.int .u64 t.fee) (by kernel_rfl) ((HX8.out.below HX8.out.lt hF.bel).load (i := 3) rfl (by kernel_rfl)) ?_
    exact ⟨b0, b1, b2, b3, b4, b5, true, true, b8, b9, b10, b11, b12, b13, x10, rfl, rfl, hF⟩
   ·obtain rfl : b8 = false := ready_self hr
    refine st_val rfl (by kernel_rfl) (some 32) rfl (.pointer (some ⟨g8, 2, none⟩)) V (by kernel_rfl) ?_
    exact ⟨b0, b1, b2, b3, b4, b5, b6, b7, true, b9, b10, b11, b12, b13, x10, rfl, rfl, hF⟩
   ·obtain rfl : b9 = false := ready_self hr
    obtain rfl : b8 = true := ready_dep hr 8 (by kernel_rfl)
    refine st_load rfl (by kernel_rfl) (some 33) rfl 23 (.tmp 32) rfl ⟨g8, 2, none⟩ (.int .u64 t.gas) (by kernel_rfl) ((HX8.out.below HX8.out.lt hF.bel).load (i := 2) rfl (by kernel_rfl)) ?_
    exact ⟨b0, b1, b2, b3, b4, b5, b6, b7, true, true, b10, b11, b12, b13, x10, rfl, rfl, hF⟩
   ·obtain rfl : b10 = false := ready_self hr
    obtain rfl : b7 = true := ready_dep hr 7 (by kernel_rfl)
    obtain rfl : b9 = true := ready_dep hr 9 (by kernel_rfl)
    refine st_call rfl (by kernel_rfl) (some 34) rfl 29 #[.int .u64 t.fee, .int .u64 t.gas] (by kernel_rfl) ((CP V).mono fun e w' z => ?_)
    obtain ⟨rfl, n9, rfl⟩ := z
    exact ⟨_, rfl, b0, b1, b2, b3, b4, b5, b6, true, b8, true, true, b11, b12, b13, x10, rfl, rfl, hF.more ⟨rfl, rfl, rfl, Nat.le_refl _, fun _ _ => rfl⟩⟩
   ·obtain rfl : b11 = false := ready_self hr
    obtain rfl : b1 = true := ready_dep hr 1 (by kernel_rfl)
    obtain rfl : b3 = true := ready_dep hr 3 (by kernel_rfl)
    obtain rfl : b5 = true := ready_dep hr 5 (by kernel_rfl)
    obtain rfl : b10 = true := ready_dep hr 10 (by kernel_rfl)
    refine st_val rfl (by kernel_rfl) (some 35) rfl (.agg (resA ⟨0, t.snd, t.sq, t.gas, pr⟩)) V (by kernel_rfl) ?_
    exact ⟨b0, true, b2, true, b4, true, b6, b7, b8, b9, true, true, b12, b13, x10, rfl, rfl, hF⟩
   ·obtain rfl : b12 = false := ready_self hr
    refine st_val rfl (by kernel_rfl) (some 10) rfl (.pointer (some ⟨V.heap.size, 0, none⟩)) (V.alloc (.cells (resA (zRes 0)) 39)) (by kernel_rfl) ?_
    exact ⟨b0, b1, b2, b3, b4, b5, b6, b7, b8, b9, b10, b11, true, b13, _, rfl, rfl, hF.alloc⟩
   ·obtain rfl : b13 = false := ready_self hr
    obtain rfl : b11 = true := ready_dep hr 11 (by kernel_rfl)
    obtain rfl : b12 = true := ready_dep hr 12 (by kernel_rfl)
    obtain ⟨g9, V2, rfl, hst, hF2⟩ := hF.store
    refine st_storeA rfl (by kernel_rfl) rfl 39 (.tmp 10) (.tmp 35) rfl (.pointer (some ⟨g9, 0, none⟩)) (.agg (resA ⟨0, t.snd, t.sq, t.gas, pr⟩)) (by kernel_rfl) (by kernel_rfl) _ hst ?_
    exact ⟨b0, b1, b2, b3, b4, b5, b6, b7, b8, b9, b10, true, true, true, _, rfl, rfl, hF2⟩
  ·intro act9 V hJ
   obtain ⟨b0, b1, b2, b3, b4, b5, b6, b7, b8, b9, b10, b11, b12, b13, x10, he, rfl, hF⟩ := hJ
   have he : (#[true, true, true, true, true, true, true, true, true, true, true, true, true, true] : Array Bool) = #[b0, b1, b2, b3, b4, b5, b6, b7, b8, b9, b10, b11, b12, b13] := he
   simp only [Array.mk.injEq, List.cons.injEq, and_true] at he
   obtain ⟨rfl, rfl, rfl, rfl, rfl, rfl, rfl, rfl, rfl, rfl, rfl, rfl, rfl, rfl⟩ := he
   simp only [cond_true]
   obtain ⟨g10, rfl, hg10, -, hbx⟩ := hF.box rfl
   have HX10 := Lib.hid (hbx rfl)
   have hbv := hF.bel
   have HB4 := Lib.hid (HBV.out.trans (hbv.mono HBV.out.size))
   have HX34 := Lib.hid (HX33.out.below HX33.out.lt hbv)
   have HX64 := Lib.hid (HX63.out.below HX63.out.lt hbv)
   have HX74 := Lib.hid (HX73.out.below HX73.out.lt hbv)
   have HX84 := Lib.hid (HX8.out.below HX8.out.lt hbv)
   have HA4 := Lib.hid (HA3.out.below hbv)
   have HS4 : Hid (W.heap.size ≤ V.heap.size ∧ W.heap.size ≤ g10) := Lib.hid ⟨Nat.le_trans HSV.out hbv.size, Nat.le_trans HSV.out hg10⟩
   have CA := HCA.out V HA4.out (HCT.out.below hbv)
   clear hF hbx hbv hg10 HX33 HX63 HX73 HX8 HBV h0 CP HCA HCT HA3
   go_upto_region 5 with fail
   refine wl <| gzl rfl ⟨g3, 0, none⟩ (.agg (lgA la A.length lk c)) (load_lg HX34.out) <| gz1 (.int .u64 price) <| gzl rfl ⟨g8, 0, none⟩ (.agg (txA t ta tk)) (load_txb HX84.out) <| gz2 (.slice ra L.length rc) (.int .i64 L.length) <|
    gze (fun v w' => ∃ ad kk, v = .tuple #[.agg (lgA ad R.1.length kk R.2.1), .int .i64 R.2.2] ∧ RowA w' V.heap.size (.slice ad R.1.length kk) R.1 ∧ Below V.heap.size V w') (CA.mono fun e w' q => by obtain ⟨ad, kk, h1, h2, h3⟩ := q; exact ⟨_, h1, ad, kk, rfl, h2, h3⟩) (fun vv V5 hq => ?_)
   obtain ⟨ad, kk, rfl, hr5, hb5⟩ := hq
   obtain ⟨V6, hst6, hb6, hbx6⟩ := new_lg V5 ad R.1.length kk R.2.1
   simp only [pu]
   refine gz3 (.tuple #[.agg (lgA ad R.1.length kk R.2.1), .int .i64 R.2.2]) (.agg (lgA ad R.1.length kk R.2.1)) (.int .i64 R.2.2) ?_
   simp only [pu]
   refine run_to rfl (some 11) rfl (.pointer (some ⟨V5.heap.size, 0, none⟩)) (V5.alloc (.cells (lgA none 0 0 0) 25)) (by kernel_rfl) ?_
   simp only [pu]
   refine gzs rfl (hst6) <| gz1 (.int .i64 R.2.2) <| wn ?_
   simp only [pu]
   obtain ⟨g11, hg11⟩ : ∃ g11, V5.heap.size = g11 := ⟨_, rfl⟩
   rw [hg11] at hbx6 ⊢
   have hb56 := hb5.trans (hb6.mono hb5.size)
   have HG11 : Hid (g11 ≠ g10 ∧ g10 ≠ g11 ∧ V.heap.size ≤ g11 ∧ g10 < V.heap.size) := Lib.hid (by have := HX10.out.lt; have := hb5.size; omega)
   have HX11 := Lib.hid hbx6
   have HR6 := Lib.hid (own_below hr5 hb6)
   have HB6 := Lib.hid (HB4.out.trans (hb56.mono HB4.out.size))
   have HX36 := Lib.hid (HX34.out.below HX34.out.lt hb56)
   have HX66 := Lib.hid (HX64.out.below HX64.out.lt hb56)
   have HX76 := Lib.hid (HX74.out.below HX74.out.lt hb56)
   have HX106 := Lib.hid (HX10.out.below HX10.out.lt hb56)
   have HA6 := Lib.hid (HA4.out.below hb56)
   have HS6 : Hid (V.heap.size ≤ V6.heap.size ∧ g11 < V6.heap.size) := Lib.hid ⟨hb56.size, hbx6.lt⟩
   clear CA hr5 hst6 hb6 hbx6 hb5 hb56 hg11 HX34 HX64 HX74 HX84 HX10 HA4 HB4
   by_cases hr0 : R.2.2 = 0
   ·skip
    obtain ⟨Bs, hBs⟩ : ∃ Bs, V.heap.size = Bs := ⟨_, rfl⟩
    have HS10 : Hid (w.heap.size ≤ g10) := Lib.hid (Nat.le_trans HB0.out.size HS4.out.2)
    have HN : Hid (g6 ≠ g10 ∧ g7 ≠ g10 ∧ g10 < Bs) := Lib.hid (by have := HG.out; have := HS4.out; have := HG11.out; have := HS6.out; omega)
    have HN6 : Hid (g11 ≠ g6 ∧ g10 ≠ g6 ∧ g6 < Bs) := Lib.hid (by have := HG.out; have := HS4.out; have := HG11.out; have := HS6.out; omega)
    have HN7 : Hid (g11 ≠ g7 ∧ g10 ≠ g7 ∧ g7 < Bs) := Lib.hid (by have := HG.out; have := HS4.out; have := HG11.out; have := HS6.out; omega)
    have HBs : Hid (w.heap.size ≤ Bs) := Lib.hid (by have := HB0.out.size; have := HS4.out; have := HS6.out; omega)
    rw [hBs] at HR6
    clear hBs
    have HEQ2 : Hid (X = ((R.1, R.2.1), ⟨R.2.2, t.snd, t.sq, t.gas, pr⟩)) := Lib.hid (by have h := HEQ.out; rw [if_pos hr0] at h; exact h)
    go_upto_region 6 with fail
    refine wl <| gz1 (.int .i64 R.2.2) <| gzb (neq_e rfl R.2.2 0 (decide_eq_true hr0)) <| wn ?_
    simp only [pu]
    obtain ⟨V9, hst9, hX109, hB9, hbt9⟩ := st_cell (i := 0) (ty := 37) (v := .int .i64 R.2.2) (cs' := resA ⟨R.2.2, t.snd, t.sq, t.gas, pr⟩) HX106.out HB6.out HS10.out (by show 0 < 5; decide) rfl (by kernel_rfl) rfl
    have hX119 := HX11.out.but hbt9 HG11.out.1
    have hX69 := HX66.out.but hbt9 HN.out.1
    have hX79 := HX76.out.but hbt9 HN.out.2.1
    have hr9 := own_but HR6.out hbt9 HN.out.2.2
    have HPT : Hid (PT g11 g10 Bs (lgA ad R.1.length kk R.2.1) ⟨R.2.2, t.snd, t.sq, t.gas, pr⟩ (.slice ad R.1.length kk) R.1 V9) := Lib.hid ⟨hX119, hX109, hr9⟩
    clear hX119 hX109 hr9 hbt9
    go_upto_region 8 with fail
    refine wl <| gz2 (.int .i64 R.2.2) (.pointer (some ⟨g10, 0, none⟩)) <| gzs rfl (hst9) <| wn ?_
    simp only [pu]
    clear hst9
    go_upto_region 9 with fail
    have h0 : K8 w g6 g7 (PT g11 g10 Bs (lgA ad R.1.length kk R.2.1) ⟨R.2.2, t.snd, t.sq, t.gas, pr⟩ (.slice ad R.1.length kk) R.1) (lgA ad R.1.length kk R.2.1) ⟨R.2.2, t.snd, t.sq, t.gas, pr⟩ false false V9.drew := K8.start hB9 HPT.out.drew hX69 hX79
    generalize V = V4 at *
    refine wp_region_inv (fun listed act9 V => ∃ b0 b1 b2 b3 : Bool, listed = #[b0, b1, b2, b3] ∧ act9 = { tmps := #[.agg (lgA la A.length lk c), .int .u64 price, .slice ra L.length rc, .pointer (some ⟨g3, 0, none⟩), undef, undef, .pointer (some ⟨g6, 0, none⟩), .pointer (some ⟨g7, 0, none⟩), .pointer (some ⟨g8, 0, none⟩), .int .i64 R.2.2, .pointer (some ⟨g10, 0, none⟩), .pointer (some ⟨g11, 0, none⟩), .tuple #[.agg (txA t ta tk), .int .i64 D.2], .agg (lgA la A.length lk c), .slice ra L.length rc, .tuple #[.agg (txA t ta tk), .int .i64 D.2], .agg (txA t ta tk), .int .i64 D.2, .int .i64 D.2, .bool false, undef, undef, undef, undef, .pointer (some ⟨g8, 0, none⟩), .string t.snd, .pointer (some ⟨g8, 1, none⟩), .int .u64 t.sq, .pointer (some ⟨g8, 2, none⟩), .int .u64 t.gas, .pointer (some ⟨g8, 3, none⟩), .int .u64 t.fee, .pointer (some ⟨g8, 2, none⟩), .int .u64 t.gas, .int .u64 pr, .agg (resA ⟨0, t.snd, t.sq, t.gas, pr⟩), .tuple #[.agg (lgA ad R.1.length kk R.2.1), .int .i64 R.2.2], .agg (lgA la A.length lk c), .int .u64 price, .agg (txA t ta tk), .slice ra L.length rc, .int .i64 L.length, .tuple #[.agg (lgA ad R.1.length kk R.2.1), .int .i64 R.2.2], .agg (lgA ad R.1.length kk R.2.1), .int .i64 R.2.2, .int .i64 R.2.2, .bool false, undef, undef, .int .i64 R.2.2, .pointer (some ⟨g10, 0, none⟩), (cond b0 (.agg (lgA ad R.1.length kk R.2.1)) undef), (cond b1 (.agg (resA ⟨R.2.2, t.snd, t.sq, t.gas, pr⟩)) undef)], defers := [] } ∧ K8 w g6 g7 (PT g11 g10 Bs (lgA ad R.1.length kk R.2.1) ⟨R.2.2, t.snd, t.sq, t.gas, pr⟩ (.slice ad R.1.length kk) R.1) (lgA ad R.1.length kk R.2.1) ⟨R.2.2, t.snd, t.sq, t.gas, pr⟩ b2 b3 V) (by kernel_rfl) (by kernel_rfl) ?_ ?_ ?_
    ·exact ⟨false, false, false, false, rfl, rfl, h0⟩
    ·intro i9 listed act9 V hi9 hr hJ
     obtain ⟨b0, b1, b2, b3, rfl, rfl, hF⟩ := hJ
     have hi2 : i9 < 4 := hi9
     have hi3 : i9 = 0 ∨ i9 = 1 ∨ i9 = 2 ∨ i9 = 3 := by omega
     rcases hi3 with rfl | rfl | rfl | rfl
     ·obtain rfl : b0 = false := ready_self hr
      refine st_load rfl (by kernel_rfl) (some 51) rfl 25 (.tmp 11) rfl ⟨g11, 0, none⟩ (.agg (lgA ad R.1.length kk R.2.1)) (by kernel_rfl) (load_lg hF.p.x11) ?_
      exact ⟨true, b1, b2, b3, rfl, rfl, hF⟩
     ·obtain rfl : b1 = false := ready_self hr
      refine st_load rfl (by kernel_rfl) (some 52) rfl 39 (.tmp 10) rfl ⟨g10, 0, none⟩ (.agg (resA ⟨R.2.2, t.snd, t.sq, t.gas, pr⟩)) (by kernel_rfl) (load_res hF.p.x10) ?_
      exact ⟨b0, true, b2, b3, rfl, rfl, hF⟩
     ·obtain rfl : b2 = false := ready_self hr
      obtain rfl : b0 = true := ready_dep hr 0 (by kernel_rfl)
      obtain ⟨V2, hst, hF2⟩ := hF.st6 (fun V9 hb => hF.p.but hb HN6.out.1 HN6.out.2.1 HN6.out.2.2) HG.out.1 HG.out.2.2.1
      refine st_storeA rfl (by kernel_rfl) rfl 25 (.tmp 6) (.tmp 51) rfl (.pointer (some ⟨g6, 0, none⟩)) (.agg (lgA ad R.1.length kk R.2.1)) (by kernel_rfl) (by kernel_rfl) _ hst ?_
      exact ⟨true, b1, true, b3, rfl, rfl, hF2⟩
     ·obtain rfl : b3 = false := ready_self hr
      obtain rfl : b1 = true := ready_dep hr 1 (by kernel_rfl)
      obtain ⟨V2, hst, hF2⟩ := hF.st7 (fun V9 hb => hF.p.but hb HN7.out.1 HN7.out.2.1 HN7.out.2.2) HG.out.2.1 (fun e => HG.out.2.2.1 e.symm)
      refine st_storeA rfl (by kernel_rfl) rfl 39 (.tmp 7) (.tmp 52) rfl (.pointer (some ⟨g7, 0, none⟩)) (.agg (resA ⟨R.2.2, t.snd, t.sq, t.gas, pr⟩)) (by kernel_rfl) (by kernel_rfl) _ hst ?_
      exact ⟨b0, true, b2, true, rfl, rfl, hF2⟩
    ·intro act9 V hJ
     obtain ⟨b0, b1, b2, b3, he, rfl, hF⟩ := hJ
     have he : (#[true, true, true, true] : Array Bool) = #[b0, b1, b2, b3] := he
     simp only [Array.mk.injEq, List.cons.injEq, and_true] at he
     obtain ⟨rfl, rfl, rfl, rfl⟩ := he
     simp only [cond_true]
     go_wp2_with fail
     exact bodyPost_ret (results_2c rfl (by kernel_rfl) (load_lg hF.x6) (by kernel_rfl) (load_res hF.x7)) rfl (TxO.own HEQ2.out hF.p.row HBs.out hF.bel)
   ·skip
    have HEQ2 : Hid (X = ((A, c), ⟨R.2.2, t.snd, t.sq, t.gas, pr⟩)) := Lib.hid (by have h := HEQ.out; rw [if_neg hr0] at h; exact h)
    go_upto_region 6 with fail
    refine wl <| gz1 (.int .i64 R.2.2) <| gzb (neq_e rfl R.2.2 0 (decide_eq_false hr0)) <| wn ?_
    simp only [pu]
    go_upto_region 7 with fail
    refine wl <| gzl rfl ⟨g3, 0, none⟩ (.agg (lgA la A.length lk c)) (load_lg HX36.out) <|
     gze (fun v w' => ∃ ad kk, v = .agg (lgA ad A.length kk c) ∧ RowA w' V6.heap.size (.slice ad A.length kk) A ∧ Below V6.heap.size V6 w') ((HCL.out V6 HA6.out).mono fun e w' q => by obtain ⟨ad, kk, h1, h2, h3⟩ := q; exact ⟨_, h1, ad, kk, rfl, h2, h3⟩) (fun vv V7 hq => ?_)
    obtain ⟨a7, k7, rfl, hr7, hb7⟩ := hq
    obtain ⟨hst8, hX118⟩ := store_lg (a' := a7) (n' := A.length) (k' := k7) (c' := c) (HX11.out.below HX11.out.lt hb7)
    have hbt8 : But g11 V7 (V7.setRow g11 (lgA a7 A.length k7 c)) := But.setRow _ _
    have hB8 := belowRow (HB6.out.trans (hb7.mono HB6.out.size)) (Nat.le_trans HB0.out.size (Nat.le_trans HS4.out.1 HG11.out.2.2.1)) (lgA a7 A.length k7 c)
    have hr8 := own_but hr7 hbt8 HS6.out.2
    have hX68 := (HX66.out.below HX66.out.lt hb7).but hbt8 (by have := HG.out; have := HS4.out; have := HG11.out; omega)
    have hX78 := (HX76.out.below HX76.out.lt hb7).but hbt8 (by have := HG.out; have := HS4.out; have := HG11.out; omega)
    have hX108 := (HX106.out.below HX106.out.lt hb7).but hbt8 HG11.out.2.1
    generalize V7.setRow g11 (lgA a7 A.length k7 c) = V8 at *
    clear hr7 hb7 hbt8
    simp only [pu]
    refine gzs rfl (hst8) <| wn ?_
    clear hst8
    obtain ⟨Bs, hBs⟩ : ∃ Bs, V6.heap.size = Bs := ⟨_, rfl⟩
    have HS10 : Hid (w.heap.size ≤ g10) := Lib.hid (Nat.le_trans HB0.out.size HS4.out.2)
    have HN : Hid (g6 ≠ g10 ∧ g7 ≠ g10 ∧ g10 < Bs) := Lib.hid (by have := HG.out; have := HS4.out; have := HG11.out; have := HS6.out; omega)
    have HN6 : Hid (g11 ≠ g6 ∧ g10 ≠ g6 ∧ g6 < Bs) := Lib.hid (by have := HG.out; have := HS4.out; have := HG11.out; have := HS6.out; omega)
    have HN7 : Hid (g11 ≠ g7 ∧ g10 ≠ g7 ∧ g7 < Bs) := Lib.hid (by have := HG.out; have := HS4.out; have := HG11.out; have := HS6.out; omega)
    have HBs : Hid (w.heap.size ≤ Bs) := Lib.hid (by have := HB0.out.size; have := HS4.out; have := HS6.out; omega)
    rw [hBs] at hr8
    clear hBs
    obtain ⟨V9, hst9, hX109, hB9, hbt9⟩ := st_cell (i := 0) (ty := 37) (v := .int .i64 R.2.2) (cs' := resA ⟨R.2.2, t.snd, t.sq, t.gas, pr⟩) hX108 hB8 HS10.out (by show 0 < 5; decide) rfl (by kernel_rfl) rfl
    have hX119 := hX118.but hbt9 HG11.out.1
    have hX69 := hX68.but hbt9 HN.out.1
    have hX79 := hX78.but hbt9 HN.out.2.1
    have hr9 := own_but hr8 hbt9 HN.out.2.2
    have HPT : Hid (PT g11 g10 Bs (lgA a7 A.length k7 c) ⟨R.2.2, t.snd, t.sq, t.gas, pr⟩ (.slice a7 A.length k7) A V9) := Lib.hid ⟨hX119, hX109, hr9⟩
    clear hX119 hX109 hr9 hbt9
    go_upto_region 8 with fail
    refine wl <| gz2 (.int .i64 R.2.2) (.pointer (some ⟨g10, 0, none⟩)) <| gzs rfl (hst9) <| wn ?_
    simp only [pu]
    clear hst9
    go_upto_region 9 with fail
    have h0 : K8 w g6 g7 (PT g11 g10 Bs (lgA a7 A.length k7 c) ⟨R.2.2, t.snd, t.sq, t.gas, pr⟩ (.slice a7 A.length k7) A) (lgA a7 A.length k7 c) ⟨R.2.2, t.snd, t.sq, t.gas, pr⟩ false false V9.drew := K8.start hB9 HPT.out.drew hX69 hX79
    generalize V = V4 at *
    refine wp_region_inv (fun listed act9 V => ∃ b0 b1 b2 b3 : Bool, listed = #[b0, b1, b2, b3] ∧ act9 = { tmps := #[.agg (lgA la A.length lk c), .int .u64 price, .slice ra L.length rc, .pointer (some ⟨g3, 0, none⟩), undef, undef, .pointer (some ⟨g6, 0, none⟩), .pointer (some ⟨g7, 0, none⟩), .pointer (some ⟨g8, 0, none⟩), .int .i64 R.2.2, .pointer (some ⟨g10, 0, none⟩), .pointer (some ⟨g11, 0, none⟩), .tuple #[.agg (txA t ta tk), .int .i64 D.2], .agg (lgA la A.length lk c), .slice ra L.length rc, .tuple #[.agg (txA t ta tk), .int .i64 D.2], .agg (txA t ta tk), .int .i64 D.2, .int .i64 D.2, .bool false, undef, undef, undef, undef, .pointer (some ⟨g8, 0, none⟩), .string t.snd, .pointer (some ⟨g8, 1, none⟩), .int .u64 t.sq, .pointer (some ⟨g8, 2, none⟩), .int .u64 t.gas, .pointer (some ⟨g8, 3, none⟩), .int .u64 t.fee, .pointer (some ⟨g8, 2, none⟩), .int .u64 t.gas, .int .u64 pr, .agg (resA ⟨0, t.snd, t.sq, t.gas, pr⟩), .tuple #[.agg (lgA ad R.1.length kk R.2.1), .int .i64 R.2.2], .agg (lgA la A.length lk c), .int .u64 price, .agg (txA t ta tk), .slice ra L.length rc, .int .i64 L.length, .tuple #[.agg (lgA ad R.1.length kk R.2.1), .int .i64 R.2.2], .agg (lgA ad R.1.length kk R.2.1), .int .i64 R.2.2, .int .i64 R.2.2, .bool true, .agg (lgA la A.length lk c), .agg (lgA a7 A.length k7 c), .int .i64 R.2.2, .pointer (some ⟨g10, 0, none⟩), (cond b0 (.agg (lgA a7 A.length k7 c)) undef), (cond b1 (.agg (resA ⟨R.2.2, t.snd, t.sq, t.gas, pr⟩)) undef)], defers := [] } ∧ K8 w g6 g7 (PT g11 g10 Bs (lgA a7 A.length k7 c) ⟨R.2.2, t.snd, t.sq, t.gas, pr⟩ (.slice a7 A.length k7) A) (lgA a7 A.length k7 c) ⟨R.2.2, t.snd, t.sq, t.gas, pr⟩ b2 b3 V) (by kernel_rfl) (by kernel_rfl) ?_ ?_ ?_
    ·exact ⟨false, false, false, false, rfl, rfl, h0⟩
    ·intro i9 listed act9 V hi9 hr hJ
     obtain ⟨b0, b1, b2, b3, rfl, rfl, hF⟩ := hJ
     have hi2 : i9 < 4 := hi9
     have hi3 : i9 = 0 ∨ i9 = 1 ∨ i9 = 2 ∨ i9 = 3 := by omega
     rcases hi3 with rfl | rfl | rfl | rfl
     ·obtain rfl : b0 = false := ready_self hr
      refine st_load rfl (by kernel_rfl) (some 51) rfl 25 (.tmp 11) rfl ⟨g11, 0, none⟩ (.agg (lgA a7 A.length k7 c)) (by kernel_rfl) (load_lg hF.p.x11) ?_
      exact ⟨true, b1, b2, b3, rfl, rfl, hF⟩
     ·obtain rfl : b1 = false := ready_self hr
      refine st_load rfl (by kernel_rfl) (some 52) rfl 39 (.tmp 10) rfl ⟨g10, 0, none⟩ (.agg (resA ⟨R.2.2, t.snd, t.sq, t.gas, pr⟩)) (by kernel_rfl) (load_res hF.p.x10) ?_
      exact ⟨b0, true, b2, b3, rfl, rfl, hF⟩
     ·obtain rfl : b2 = false := ready_self hr
      obtain rfl : b0 = true := ready_dep hr 0 (by kernel_rfl)
      obtain ⟨V2, hst, hF2⟩ := hF.st6 (fun V9 hb => hF.p.but hb HN6.out.1 HN6.out.2.1 HN6.out.2.2) HG.out.1 HG.out.2.2.1
      refine st_storeA rfl (by kernel_rfl) rfl 25 (.tmp 6) (.tmp 51) rfl (.pointer (some ⟨g6, 0, none⟩)) (.agg (lgA a7 A.length k7 c)) (by kernel_rfl) (by kernel_rfl) _ hst ?_
      exact ⟨true, b1, true, b3, rfl, rfl, hF2⟩
     ·obtain rfl : b3 = false := ready_self hr
      obtain rfl : b1 = true := ready_dep hr 1 (by kernel_rfl)
      obtain ⟨V2, hst, hF2⟩ := hF.st7 (fun V9 hb => hF.p.but hb HN7.out.1 HN7.out.2.1 HN7.out.2.2) HG.out.2.1 (fun e => HG.out.2.2.1 e.symm)
      refine st_storeA rfl (by kernel_rfl) rfl 39 (.tmp 7) (.tmp 52) rfl (.pointer (some ⟨g7, 0, none⟩)) (.agg (resA ⟨R.2.2, t.snd, t.sq, t.gas, pr⟩)) (by kernel_rfl) (by kernel_rfl) _ hst ?_
      exact ⟨b0, true, b2, true, rfl, rfl, hF2⟩
    ·intro act9 V hJ
     obtain ⟨b0, b1, b2, b3, he, rfl, hF⟩ := hJ
     have he : (#[true, true, true, true] : Array Bool) = #[b0, b1, b2, b3] := he
     simp only [Array.mk.injEq, List.cons.injEq, and_true] at he
     obtain ⟨rfl, rfl, rfl, rfl⟩ := he
     simp only [cond_true]
     go_wp2_with fail
     exact bodyPost_ret (results_2c rfl (by kernel_rfl) (load_lg hF.x6) (by kernel_rfl) (load_res hF.x7)) rfl (TxO.own HEQ2.out hF.p.row HBs.out hF.bel)
 ·skip
  have heq := Lib.hid (H1.out hd)
  go_upto_region 2 with fail
  refine wl <| gz1 (.int .i64 D.2) <| gzb (neq_e rfl D.2 0 (decide_eq_false hd)) <| wn ?_
  simp only [pu]
  go_upto_region 3 with fail
  refine wl <| gzl rfl ⟨g3, 0, none⟩ (.agg (lgA la A.length lk c)) (load_lg HX33.out) <|
   gze (fun v w' => ∃ ad kk, v = .agg (lgA ad A.length kk c) ∧ RowA w' V3.heap.size (.slice ad A.length kk) A ∧ Below V3.heap.size V3 w') ((HCL.out V3 HA3.out).mono fun e w' q => by obtain ⟨ad, kk, h1, h2, h3⟩ := q; exact ⟨_, h1, ad, kk, rfl, h2, h3⟩) (fun vv V4 hq => ?_)
  obtain ⟨ad, kk, rfl, hr4, hb4⟩ := hq
  obtain ⟨hst5, hX65⟩ := store_lg (a' := ad) (n' := A.length) (k' := kk) (c' := c) (HX63.out.below HX63.out.lt hb4)
  have hbt5 : But g6 V4 (V4.setRow g6 (lgA ad A.length kk c)) := But.setRow _ _
  have hB5 := belowRow (HBV.out.trans (hb4.mono HBV.out.size)) HG.out.1 (lgA ad A.length kk c)
  have hr5 := own_but hr4 hbt5 (Nat.lt_of_lt_of_le HG.out.2.2.2.1 HSV.out)
  have hX75 := (HX73.out.below HX73.out.lt hb4).but hbt5 HG.out.2.2.1
  generalize V4.setRow g6 (lgA ad A.length kk c) = V5 at *
  obtain ⟨hst6, hX76⟩ := store_res (q := zRes D.2) hX75
  have hbt6 : But g7 V5 (V5.setRow g7 (resA (zRes D.2))) := But.setRow _ _
  have hB6 := belowRow hB5 HG.out.2.1 (resA (zRes D.2))
  have hr6 := own_but hr5 hbt6 (Nat.lt_of_lt_of_le HG.out.2.2.2.2 HSV.out)
  have hX66 := hX65.but hbt6 (fun e => HG.out.2.2.1 e.symm)
  have HE : Hid (TxO w la A X (.returned (.tuple #[.agg (lgA ad A.length kk c), .agg (resA (zRes D.2))])) (V5.setRow g7 (resA (zRes D.2)))) := Lib.hid (TxO.own heq.out hr6 HBV.out.size hB6)
  generalize V5.setRow g7 (resA (zRes D.2)) = V6 at *
  clear hr4 hb4 hbt5 hB5 hr5 hX75 hbt6 hB6 hr6 hX65
  simp only [pu]
  refine gz2 (.int .i64 D.2) (.agg (resA (zRes D.2))) <| gzs rfl (hst5) <| gzs rfl (hst6) <| wn ?_
  simp only [pu]
  go_wp2_with fail
  exact bodyPost_ret (results_2c rfl (by kernel_rfl) (load_lg hX66) (by kernel_rfl) (load_res hX76)) rfl HE.out
end Go.Proofs.YtglglhcnofbagaaGreat.Lg
namespace Go.Proofs.YtglglhcnofbagaaGreat.Lg
attribute [local irreducible] wpList wpQuiet
set_option maxRecDepth 100000
open Mo (usedV prioV mulB mulV)
open Go.RowKit
set_option linter.unusedSimpArgs false
set_option linter.unusedVariables false

/-- An application as cells: two ledgers, the one of an open block, the flag, the price. -/
abbrev appA (x0 x1 : Value) (a : Option Addr) (n k : Nat) (c : Int) (y0 y1 y2 : Value) (p : Int) : Array Value := #[x0, x1, .slice a n k, .int .u64 c, y0, y1, y2, .int .u64 p]
theorem Bx.two {w : World} {g t : Nat} {cs : Array Value} (h : Bx w g cs t) (o : Nat) (x y : Value) (h0 : cs[o]? = some x) (h1 : cs[o + 1]? = some y) : w.rangeAt g o [x, y] := fun j v hj => by
 rw [cell_of_row w g _ _ _ (0, 0) h]
 rcases j with _ | _ | j
 ·exact h0.trans hj
 ·exact h1.trans hj
 ·simp at hj
theorem load_chk {w : World} {g : Nat} {x0 x1 y0 y1 y2 : Value} {a : Option Addr} {n k : Nat} {c p : Int} (h : Bx w g (appA x0 x1 a n k c y0 y1 y2 p) 70) : (Instr.loadAt 25 (.pointer (some ⟨g, 2, none⟩))).run Tryz.prog w = .ok (.agg (lgA a n k c)) w :=
 run_loadAt_mid w g 2 25 [.slice a n k, .int .u64 c] _ (Bx.two h 2 _ _ rfl rfl) Tryz.underlying25 rfl (by kernel_rfl)
theorem load_pr {w : World} {g : Nat} {x0 x1 y0 y1 y2 : Value} {a : Option Addr} {n k : Nat} {c p : Int} (h : Bx w g (appA x0 x1 a n k c y0 y1 y2 p) 70) : (Instr.loadAt 23 (.pointer (some ⟨g, 7, none⟩))).run Tryz.prog w = .ok (.int .u64 p) w := h.load (i := 7) rfl (by kernel_rfl)
theorem load_app {w : World} {g : Nat} {x0 x1 y0 y1 y2 : Value} {a : Option Addr} {n k : Nat} {c p : Int} (h : Bx w g (appA x0 x1 a n k c y0 y1 y2 p) 70) : (Instr.loadAt 70 (.pointer (some ⟨g, 0, none⟩))).run Tryz.prog w = .ok (.agg (appA x0 x1 a n k c y0 y1 y2 p)) w :=
 run_loadAt_mid w g 0 70 (appA x0 x1 a n k c y0 y1 y2 p).toList _ (fun j v hv => by
  rw [cell_of_row w g _ _ _ (0, 0) h]
  simpa using hv) Tryz.underlying70 rfl (by kernel_rfl)
theorem store_app {w : World} {g : Nat} {cs : Array Value} {x0 x1 y0 y1 y2 : Value} {a : Option Addr} {n k : Nat} {c p : Int} (h : Bx w g cs 70) (hz : cs.size = 8) (h1 : (appA x0 x1 a n k c y0 y1 y2 p).all (·.oneCell') = true) : (Instr.storeAt 70 (.pointer (some ⟨g, 0, none⟩)) (.agg (appA x0 x1 a n k c y0 y1 y2 p))).run Tryz.prog w = .ok () (w.setRow g (appA x0 x1 a n k c y0 y1 y2 p)) ∧ Bx (w.setRow g (appA x0 x1 a n k c y0 y1 y2 p)) g (appA x0 x1 a n k c y0 y1 y2 p) 70 :=
 ⟨run_store_all h hz h1 (by kernel_rfl), h.set⟩
theorem store_chk {w : World} {g B : Nat} {w0 : World} {x0 x1 y0 y1 y2 : Value} {a a2 : Option Addr} {n k n2 k2 : Nat} {c c2 p : Int} (h : Bx w g (appA x0 x1 a n k c y0 y1 y2 p) 70) (hb : Below B w0 w) (hg : B ≤ g) : ∃ V2, (Instr.storeAt 25 (.pointer (some ⟨g, 2, none⟩)) (.agg (lgA a2 n2 k2 c2))).run Tryz.prog w = .ok () V2 ∧ Bx V2 g (appA x0 x1 a2 n2 k2 c2 y0 y1 y2 p) 70 ∧ Below B w0 V2 ∧ But g w V2 := by
 have hst := run_storeAt_mid (P := Tryz.prog) w g 2 25 (lgA a2 n2 k2 c2) (fun j hj => by
  have hj4 : j < 2 := hj
  refine ⟨?_, frozen_of_row w g _ _ 70 h⟩
  rw [cell_of_row w g _ _ 70 (0, 0) h, Array.getElem?_eq_getElem (by show 2 + j < 8; omega)]
  rfl) (by kernel_rfl) (by simp [Value.oneCell'])
 exact ⟨_, hst, (h.setC (i := 2) (.slice a2 n2 k2)).setC (i := 3) (.int .u64 c2), hb.trans (below_sets hg _ _ _), but_sets _ _ _⟩
/-- A list of cells stays where block g is written, if it has none there. -/
theorem cs_butn {w w' : World} {g : Nat} {a : Option Addr} {cs : List Value} (h : Cs w a cs) (hb : But g w w') (hn : cs ≠ [] → ∀ x, a = some x → x.block ≠ g) : Cs w' a cs := by
 cases cs with
 | nil => exact Cs.nil _ _
 | cons v r => exact h.but hb (hn (by simp))
theorem cs_old {w : World} {a : Option Addr} {cs : List Value} (h : Cs w a cs) (hne : cs ≠ []) : ∀ x, a = some x → x.block < w.heap.size := fun x hx => by
 obtain ⟨b, off, e, hb, -⟩ := h 0 (cs[0]'(List.length_pos_iff.2 hne)) (List.getElem?_eq_getElem _)
 rw [hx] at e
 cases e
 exact hb
theorem blk_ne {la ad : Option Addr} {A B : List Ac} {W0 W1 g : Nat} (hbl : (ad = la ∧ A = B) ∨ ∀ x, ad = some x → W1 ≤ x.block) (ho : acc B ≠ [] → ∀ x, la = some x → x.block < W0) (h0 : W0 ≤ g) (h1 : g < W1) : acc A ≠ [] → ∀ x, ad = some x → x.block ≠ g := fun hne x hx => by
 rcases hbl with ⟨rfl, e2⟩ | h9
 ·rw [e2] at hne
  have := ho hne x hx
  omega
 ·have := h9 x hx
  omega
/-- What Accept hands back: an application with this check ledger. -/
def AcpO (w : World) (la : Option Addr) (A : List Ac) (X : List Ac × Int) (p : Int) (e : Ending) (w' : World) : Prop := ∃ x0 x1 a k y0 y1 y2, e = .returned (.agg (appA x0 x1 a X.1.length k X.2 y0 y1 y2 p)) ∧ (appA x0 x1 a X.1.length k X.2 y0 y1 y2 p).all (·.oneCell') = true ∧ Cs w' a (acc X.1) ∧ X.1.length ≤ k ∧ ((a = la ∧ X.1 = A) ∨ ∀ x, a = some x → w.heap.size ≤ x.block) ∧ Below w.heap.size w w'
set_option maxRecDepth 100000 in
set_option maxHeartbeats 8000000 in
theorem ref_accept (B : List Ac) (c price : Int) (R : List Int) (x0 x1 y0 y1 y2 : Value) (la ra : Option Addr) (lk rc : Nat) (w : World) (h1 : (appA x0 x1 la B.length lk c y0 y1 y2 price).all (·.oneCell') = true) (hL : Cs w la (acc B)) (hlk : B.length ≤ lk) (hq : LdQ B c) (hp : W64 price) (hR : Sl w ra rc R) (hrc : R.length ≤ rc) (h8 : ∀ y, y ∈ R → W8 y) :
  Calls Tryz.prog 49 #[.agg (appA x0 x1 la B.length lk c y0 y1 y2 price), .slice ra R.length rc] w (AcpO w la B (txX B c price R).1 price) := by
 obtain ⟨hb0, hX2, hX4⟩ := two_boxes w (appA x0 x1 la B.length lk c y0 y1 y2 price) #[.slice none 0 0, .int .u64 0, .slice none 0 0, .int .u64 0, .slice none 0 0, .int .u64 0, .bool false, .int .u64 0] 70 70
 have CT := fun V hl hr => ref_tx B c price R la ra lk rc V hl hlk (by have := hq.n; omega) hq.cw hq.w hq.z hp hr hrc h8
 have hL0 := hL.below hb0
 have hR0 := sl_below hR hb0
 have HLB := Lib.hid (cs_old hL)
 have HO := Lib.hid h1
 generalize txX B c price R = X at *
 clear hL hR h8 h1
 go_enter Tryz.func49, Tryz.ntmps49
 go_upto_region 1 with fail
 change Code.wp _ _ _ _ ((w.alloc (.cells (appA x0 x1 la B.length lk c y0 y1 y2 price) 70)).alloc (.cells #[.slice none 0 0, .int .u64 0, .slice none 0 0, .int .u64 0, .slice none 0 0, .int .u64 0, .bool false, .int .u64 0] 70))
 generalize (w.alloc (.cells (appA x0 x1 la B.length lk c y0 y1 y2 price) 70)).alloc (.cells #[.slice none 0 0, .int .u64 0, .slice none 0 0, .int .u64 0, .slice none 0 0, .int .u64 0, .bool false, .int .u64 0] 70) = W at *
 obtain ⟨g2, hg2⟩ : ∃ g2, w.heap.size = g2 := ⟨_, rfl⟩
 obtain ⟨g4, hg4⟩ : ∃ g4, g2 + 1 = g4 := ⟨_, rfl⟩
 have HB0 := Lib.hid hb0
 rw [show w.heap.size + 1 = g4 by omega] at hX4
 have HG : Hid (w.heap.size ≤ g2 ∧ w.heap.size ≤ g4 ∧ g2 ≠ g4 ∧ g4 ≠ g2) := Lib.hid (by omega)
 rw [hg2] at hX2
 simp only [hg2]
 simp only [hg4]
 have HX2 := Lib.hid hX2
 have HX4 := Lib.hid hX4
 have CTW := CT W hL0 hR0
 clear hb0 hg2 hg4 hX2 hX4 CT hL0 hR0
 refine wl <| gz1 (.pointer (some ⟨g2, 2, none⟩)) <| gzl rfl ⟨g2, 2, none⟩ (.agg (lgA la B.length lk c)) (load_chk HX2.out) <| gz1 (.pointer (some ⟨g2, 7, none⟩)) <| gzl rfl ⟨g2, 7, none⟩ (.int .u64 price) (load_pr HX2.out) <| gz1 (.slice ra R.length rc) <|
  gze (fun v w' => ∃ ad k, v = .tuple #[.agg (lgA ad X.1.1.length k X.1.2), .agg (resA X.2)] ∧ Cs w' ad (acc X.1.1) ∧ X.1.1.length ≤ k ∧ ((ad = la ∧ X.1.1 = B) ∨ ∀ x, ad = some x → W.heap.size ≤ x.block) ∧ Below W.heap.size W w') (CTW.mono fun e w' q => by obtain ⟨ad, k, h1, h2⟩ := q; exact ⟨_, h1, ad, k, rfl, h2⟩) (fun vv W1 hq => ?_)
 obtain ⟨ad, k, rfl, hcs, hk, hbl, hb1⟩ := hq
 obtain ⟨V2, hst2, hY2, hb2, hbt2⟩ := store_chk (a2 := ad) (n2 := X.1.1.length) (k2 := k) (c2 := X.1.2) (HX2.out.below HX2.out.lt hb1) (HB0.out.trans (hb1.mono HB0.out.size)) HG.out.1
 have hcs2 := cs_butn hcs hbt2 (blk_ne hbl HLB.out HG.out.1 HX2.out.lt)
 simp only [pu]
 refine gz4 (.tuple #[.agg (lgA ad X.1.1.length k X.1.2), .agg (resA X.2)]) (.agg (lgA ad X.1.1.length k X.1.2)) (.agg (resA X.2)) (.pointer (some ⟨g2, 2, none⟩)) <| gzs rfl (hst2) <| wn ?_
 simp only [pu]
 have hX42 := (HX4.out.below HX4.out.lt hb1).but hbt2 HG.out.2.2.2
 have hone : (appA x0 x1 ad X.1.1.length k X.1.2 y0 y1 y2 price).all (·.oneCell') = true := by have := HO.out; simpa [Value.oneCell'] using this
 obtain ⟨hst3, hY3⟩ := store_app hX42 rfl hone
 have hb3 := belowRow hb2 HG.out.2.1 (appA x0 x1 ad X.1.1.length k X.1.2 y0 y1 y2 price)
 have hcs3 := cs_butn hcs2 (But.setRow (g := g4) V2 (appA x0 x1 ad X.1.1.length k X.1.2 y0 y1 y2 price)) (blk_ne hbl HLB.out HG.out.2.1 HX4.out.lt)
 have HE : Hid (AcpO w la B X.1 price (.returned (.agg (appA x0 x1 ad X.1.1.length k X.1.2 y0 y1 y2 price))) (V2.setRow g4 (appA x0 x1 ad X.1.1.length k X.1.2 y0 y1 y2 price))) := Lib.hid ⟨x0, x1, ad, k, y0, y1, y2, rfl, hone, hcs3, hk, hbl.imp id (fun h9 x hx => Nat.le_trans HB0.out.size (h9 x hx)), hb3⟩
 generalize V2.setRow g4 (appA x0 x1 ad X.1.1.length k X.1.2 y0 y1 y2 price) = V3 at *
 clear hst2 hcs hbl hb1 hbt2 hcs2 hX42 hb2 hb3 hcs3
 go_upto_region 2 with fail
 refine wl <| gzl rfl ⟨g2, 0, none⟩ (.agg (appA x0 x1 ad X.1.1.length k X.1.2 y0 y1 y2 price)) (load_app hY2) <| gzs rfl (hst3) <| wn ?_
 simp only [pu]
 go_wp2_with fail
 exact bodyPost_ret (results_1c rfl (by kernel_rfl) (load_app hY3)) rfl HE.out
/-- What Init hands back: the ledger that the accounts begin, in both places, or nothing. -/
def IniO (w : World) (X : List Ac × Int) (p : Int) (e : Ending) (w' : World) : Prop := (X.2 = 0 ∧ ∃ a k, e = .returned (.tuple #[.agg (appA (.slice a X.1.length k) (.int .u64 0) a X.1.length k 0 (.slice none 0 0) (.int .u64 0) (.bool false) p), .int .i64 0]) ∧ Cs w' a (acc X.1) ∧ X.1.length ≤ k ∧ (∀ x, a = some x → w.heap.size ≤ x.block) ∧ Below w.heap.size w w') ∨
 (X.2 ≠ 0 ∧ e = .returned (.tuple #[.agg #[.slice none 0 0, .int .u64 0, .slice none 0 0, .int .u64 0, .slice none 0 0, .int .u64 0, .bool false, .int .u64 0], .int .i64 X.2]) ∧ Below w.heap.size w w')
set_option maxRecDepth 100000 in
set_option maxHeartbeats 8000000 in
theorem ref_init (A : List Ac) (a : Option Addr) (k : Nat) (p : Int) (w : World) (hR : Cs w a (acc A)) (hn : A.length ≤ 4398046511104) (hw : AcW A) (hz : ∀ x, x ∈ A → x.1.size ≤ 140737488355328) :
  Calls Tryz.prog 47 #[.slice a A.length k, .int .u64 p] w (IniO w (genX A) p) := by
 have hb0 : Below w.heap.size w (w.alloc (.cells #[.slice none 0 0, .int .u64 0, .slice none 0 0, .int .u64 0, .slice none 0 0, .int .u64 0, .bool false, .int .u64 0] 70)) := (Below.refl _ w).alloc (Nat.le_refl _) _
 have hX0 : Bx (w.alloc (.cells #[.slice none 0 0, .int .u64 0, .slice none 0 0, .int .u64 0, .slice none 0 0, .int .u64 0, .bool false, .int .u64 0] 70)) w.heap.size #[.slice none 0 0, .int .u64 0, .slice none 0 0, .int .u64 0, .slice none 0 0, .int .u64 0, .bool false, .int .u64 0] 70 := heap_alloc_last w _
 have CG := ref_genesis a k A (w.alloc (.cells #[.slice none 0 0, .int .u64 0, .slice none 0 0, .int .u64 0, .slice none 0 0, .int .u64 0, .bool false, .int .u64 0] 70)) (hR.below hb0) hn hw hz
 have e1 : genY A = ((genX A).1, 0, (genX A).2) := rfl
 rw [e1] at CG
 generalize genX A = X at *
 clear hR hn hw hz e1
 go_enter Tryz.func47, Tryz.ntmps47
 go_upto_region 1 with fail
 change Code.wp _ _ _ _ (w.alloc (.cells #[.slice none 0 0, .int .u64 0, .slice none 0 0, .int .u64 0, .slice none 0 0, .int .u64 0, .bool false, .int .u64 0] 70))
 generalize w.alloc (.cells #[.slice none 0 0, .int .u64 0, .slice none 0 0, .int .u64 0, .slice none 0 0, .int .u64 0, .bool false, .int .u64 0] 70) = W at *
 obtain ⟨g4, hg4⟩ : ∃ g4, w.heap.size = g4 := ⟨_, rfl⟩
 have HB0 := Lib.hid hb0
 have HG : Hid (w.heap.size ≤ g4) := Lib.hid (by omega)
 rw [hg4] at hX0
 simp only [hg4]
 clear hb0 hg4
 refine wl <| gz1 (.slice a A.length k) <|
  gze (fun v w' => ∃ ad kk, v = .tuple #[.agg (lgA ad X.1.length kk 0), .int .i64 X.2] ∧ RowA w' W.heap.size (.slice ad X.1.length kk) X.1 ∧ Below W.heap.size W w') (CG.mono fun e w' q => by obtain ⟨ad, kk, h1, h2⟩ := q; exact ⟨_, h1, ad, kk, rfl, h2⟩) (fun vv W1 hq => ?_)
 obtain ⟨ad, kk, rfl, hrow, hb1⟩ := hq
 obtain ⟨V2, hst2, hb2, hY2⟩ := new_lg W1 ad X.1.length kk 0
 simp only [pu]
 refine gz3 (.tuple #[.agg (lgA ad X.1.length kk 0), .int .i64 X.2]) (.agg (lgA ad X.1.length kk 0)) (.int .i64 X.2) ?_
 simp only [pu]
 refine run_to rfl (some 6) rfl (.pointer (some ⟨W1.heap.size, 0, none⟩)) (W1.alloc (.cells (lgA none 0 0 0) 25)) (by kernel_rfl) ?_
 simp only [pu]
 refine gzs rfl (hst2) <| gz1 (.int .i64 X.2) <| wn ?_
 simp only [pu]
 obtain ⟨g6, hg6⟩ : ∃ g6, W1.heap.size = g6 := ⟨_, rfl⟩
 have hb3 := hb1.trans (hb2.mono hb1.size)
 have hX2 := hX0.below hX0.lt hb3
 have hrow2 := own_below hrow hb2
 rw [hg6] at hY2 hst2 ⊢
 have hbw := HB0.out.trans (hb3.mono HB0.out.size)
 clear CG hst2 hrow hb1 hb2 hg6
 by_cases he : X.2 = 0
 ·skip
  go_upto_region 2 with fail
  refine wl <| gz1 (.int .i64 X.2) <| gzb (neq_e rfl X.2 0 (decide_eq_true he)) <| wn ?_
  simp only [pu]
  obtain ⟨hst3, hY3⟩ := store_app (x0 := .slice ad X.1.length kk) (x1 := .int .u64 0) (a := ad) (n := X.1.length) (k := kk) (c := 0) (y0 := .slice none 0 0) (y1 := .int .u64 0) (y2 := .bool false) (p := p) hX2 rfl (by simp [Value.oneCell'])
  have hb4 := belowRow hbw HG.out (appA (.slice ad X.1.length kk) (.int .u64 0) ad X.1.length kk 0 (.slice none 0 0) (.int .u64 0) (.bool false) p)
  have hrow3 := own_but hrow2 (But.setRow (g := g4) V2 (appA (.slice ad X.1.length kk) (.int .u64 0) ad X.1.length kk 0 (.slice none 0 0) (.int .u64 0) (.bool false) p)) hX0.lt
  obtain ⟨a9, c9, e9, hcs, hk⟩ := own_cs hrow3
  simp only [Value.slice.injEq, true_and] at e9
  obtain ⟨rfl, rfl⟩ := e9
  have HE : Hid (IniO w X p (.returned (.tuple #[.agg (appA (.slice ad X.1.length kk) (.int .u64 0) ad X.1.length kk 0 (.slice none 0 0) (.int .u64 0) (.bool false) p), .int .i64 0])) (V2.setRow g4 (appA (.slice ad X.1.length kk) (.int .u64 0) ad X.1.length kk 0 (.slice none 0 0) (.int .u64 0) (.bool false) p))) := Lib.hid (.inl ⟨he, ad, kk, rfl, hcs, hk, fun x hx => Nat.le_trans HB0.out.size (row_ge (A := X.1) hrow3 x hx), hb4⟩)
  generalize V2.setRow g4 (appA (.slice ad X.1.length kk) (.int .u64 0) ad X.1.length kk 0 (.slice none 0 0) (.int .u64 0) (.bool false) p) = V3 at *
  clear hX2 hb4 hrow2 hrow3 hcs
  go_upto_region 4 with fail
  refine wl <| gzl rfl ⟨g6, 0, none⟩ (.agg (lgA ad X.1.length kk 0)) (load_lg hY2) <| gzl rfl ⟨g6, 0, none⟩ (.agg (lgA ad X.1.length kk 0)) (load_lg hY2) <|
   gz2 (.int .u64 p) (.agg (appA (.slice ad X.1.length kk) (.int .u64 0) ad X.1.length kk 0 (.slice none 0 0) (.int .u64 0) (.bool false) p)) <| gzs rfl (hst3) <| gz1 (.int .i64 0) <| wn ?_
  simp only [pu]
  go_wp2_with fail
  exact bodyPost_ret (results_c rfl (by kernel_rfl) (load_app hY3) rfl) rfl HE.out
 ·skip
  go_upto_region 2 with fail
  refine wl <| gz1 (.int .i64 X.2) <| gzb (neq_e rfl X.2 0 (decide_eq_false he)) <| wn ?_
  simp only [pu]
  obtain ⟨hst3, hY3⟩ := store_app (x0 := .slice none 0 0) (x1 := .int .u64 0) (a := none) (n := 0) (k := 0) (c := 0) (y0 := .slice none 0 0) (y1 := .int .u64 0) (y2 := .bool false) (p := 0) hX2 rfl (by simp [Value.oneCell'])
  have hb4 := belowRow hbw HG.out (appA (.slice none 0 0) (.int .u64 0) none 0 0 0 (.slice none 0 0) (.int .u64 0) (.bool false) 0)
  have HE : Hid (IniO w X p (.returned (.tuple #[.agg (appA (.slice none 0 0) (.int .u64 0) none 0 0 0 (.slice none 0 0) (.int .u64 0) (.bool false) 0), .int .i64 X.2])) (V2.setRow g4 (appA (.slice none 0 0) (.int .u64 0) none 0 0 0 (.slice none 0 0) (.int .u64 0) (.bool false) 0))) := Lib.hid (.inr ⟨he, rfl, hb4⟩)
  generalize V2.setRow g4 (appA (.slice none 0 0) (.int .u64 0) none 0 0 0 (.slice none 0 0) (.int .u64 0) (.bool false) 0) = V3 at *
  clear hX2 hb4 hrow2
  go_upto_region 3 with fail
  refine wl <| gz2 (.agg (appA (.slice none 0 0) (.int .u64 0) none 0 0 0 (.slice none 0 0) (.int .u64 0) (.bool false) 0)) (.int .i64 X.2) <| gzs rfl (hst3) <| gz1 (.int .i64 X.2) <| wn ?_
  simp only [pu]
  go_wp2_with fail
  exact bodyPost_ret (results_c rfl (by kernel_rfl) (load_app hY3) rfl) rfl HE.out
end Go.Proofs.YtglglhcnofbagaaGreat.Lg
