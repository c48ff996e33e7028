/-
  The program's Tx: contract. What the laws' walks share. Arguments opened: a slice of ints, an account, accounts, a ledger.
 Conditions: none of their own. Sequences: what a transaction does to them; a transaction that was carried out is refused afterwards.
-/
import Derived.Test.YtglglhcnofbagaaJ23
import Derived.Test.YtglglhcnofbagaaRows
import Derived.ProofKit
import Derived.OpenShut
import Derived.ChangeOld
import Derived.Below
import Derived.SizedLaws
import Derived.Deep.Strs
import Derived.Deep.Slices
import Derived.Test.YtglglhcnofbagaaJ21
namespace Go.Proofs.Ytglglhcnofbagaa.Lg
attribute [local irreducible] wpList wpQuiet
set_option maxRecDepth 100000
open Mo (usedV prioV mulB mulV)
open Go.RowKit
set_option linter.unusedSimpArgs false
set_option linter.unusedVariables false

theorem dcd_err {A : List Ac} {c price : Int} {L : List Int} (h : (dcdX A c L).2 ≠ 0) : txX A c price L = ((A, c), zRes (dcdX A c L).2) := by
 unfold dcdX at h ⊢
 by_cases h1 : valE A c ≠ 0
 ·rw [if_pos h1, tx_1 h1]
 ·rw [if_neg h1] at h ⊢
  exact tx_2 (Decidable.not_not.1 h1) h
theorem dcd_ok {A : List Ac} {c : Int} {L : List Int} (h : (dcdX A c L).2 = 0) : valE A c = 0 ∧ decX L = dcdX A c L := by
 unfold dcdX at h ⊢
 by_cases h1 : valE A c ≠ 0
 ·rw [if_pos h1] at h; exact absurd h (by decide)
 ·rw [if_neg h1]; exact ⟨Decidable.not_not.1 h1, rfl⟩
/-- What the last region reads: the ledger's box, the result's box, the row. -/
structure PT (g11 g10 B : Nat) (lc : Array Value) (r : Res) (v : Value) (Q : List Ac) (V : World) : Prop where
 x11 : Bx V g11 lc 27
 x10 : Bx V g10 (resA r) 40
 row : RowA V B v Q
theorem PT.but {g11 g10 B g : Nat} {lc : Array Value} {r : Res} {v : Value} {Q : List Ac} {V V2 : World} (h : PT g11 g10 B lc r v Q V) (hb : But g V V2) (h1 : g11 ≠ g) (h2 : g10 ≠ g) (hB : g < B) : PT g11 g10 B lc r v Q V2 := ⟨h.x11.but hb h1, h.x10.but hb h2, own_but h.row hb hB⟩
theorem PT.drew {g11 g10 B : Nat} {lc : Array Value} {r : Res} {v : Value} {Q : List Ac} {V : World} (h : PT g11 g10 B lc r v Q V) : PT g11 g10 B lc r v Q V.drew := ⟨h.x11, h.x10, h.row⟩
theorem TxO.own {w V : World} {la ad : Option Addr} {k : Nat} {A : List Ac} {X : (List Ac × Int) × Res} {Q : List Ac} {d : Int} {r : Res} {B : Nat} (h : X = ((Q, d), r)) (hr : RowA V B (.slice ad Q.length k) Q) (hB : w.heap.size ≤ B) (hb : Below w.heap.size w V) : TxO w la A X (.returned (.tuple #[.agg (lgA ad Q.length k d), .agg (resA r)])) V := by
 subst h
 obtain ⟨a9, c9, e9, h4, h5⟩ := own_cs hr
 simp only [Value.slice.injEq, true_and] at e9
 obtain ⟨rfl, rfl⟩ := e9
 exact ⟨_, _, rfl, h4, h5, .inr fun x hx => Nat.le_trans hB (row_ge hr x hx), hb⟩
set_option maxRecDepth 100000 in
set_option maxHeartbeats 8000000 in
theorem q_tx : QTx := by
 intro A c price L la ra lk rc w hL hlk hn hc hw hz hp hR hrc h8
 obtain ⟨hb0, hX3, hX6, hX7⟩ := three_boxes w (lgA la A.length lk c) (lgA none 0 0 0) (resA (zRes 0)) 27 27 40
 have hA := hL.below hb0
 have hRW := sl_below hR hb0
 have CD0 := fun V h hr => q_dcd A c L la ra lk rc V h (by omega) hc hw hz hr hrc h8
 have HCL := Lib.hid (fun V h => q_cl la lk A c V h hn)
 obtain ⟨X, hX⟩ : ∃ X, txX A c price L = X := ⟨_, rfl⟩
 obtain ⟨D, hD⟩ : ∃ D, dcdX A c L = D := ⟨_, rfl⟩
 have H1 : Hid (D.2 ≠ 0 → X = ((A, c), zRes D.2)) := Lib.hid fun h => by subst hD; rw [← hX]; exact dcd_err h
 have H2 : Hid (D.2 = 0 → FaQ A c price D.1 ∧ (∀ x, x ∈ D.1.tr → isName (nums x.1) = true) ∧ X = (if (carX A c price D.1 L.length).2.2 = 0 then ((carX A c price D.1 L.length).1, (carX A c price D.1 L.length).2.1) else (A, c), ⟨(carX A c price D.1 L.length).2.2, D.1.snd, D.1.sq, D.1.gas, prioV D.1.fee D.1.gas⟩)) := Lib.hid fun h => by
  subst hD
  obtain ⟨e1, e2⟩ := dcd_ok h
  rw [← e2] at h ⊢
  obtain ⟨d3, -, -, -⟩ := dec_ok (t := (decX L).1) (fun x hx => h8 x hx) (by rw [← h])
  exact ⟨fa_q h8 e1 hw hc hp h, valX_names d3, by rw [← hX]; exact car_tx e1 h⟩
 rw [hX]
 rw [hD] at CD0
 have HLW := Lib.hid hL
 clear hL hR h8 hX hD hz hw hc hp
 go_enter Try.func6, Try.ntmps6
 go_upto_region 1 with fail
 change Code.wp _ _ _ _ (((w.alloc (.cells (lgA la A.length lk c) 27)).alloc (.cells (lgA none 0 0 0) 27)).alloc (.cells (resA (zRes 0)) 40))
 generalize ((w.alloc (.cells (lgA la A.length lk c) 27)).alloc (.cells (lgA none 0 0 0) 27)).alloc (.cells (resA (zRes 0)) 40) = W at *
 obtain ⟨g3, hg3⟩ : ∃ g3, w.heap.size = g3 := ⟨_, rfl⟩
 obtain ⟨g6, hg6⟩ : ∃ g6, g3 + 1 = g6 := ⟨_, rfl⟩
 obtain ⟨g7, hg7⟩ : ∃ g7, g6 + 1 = g7 := ⟨_, rfl⟩
 have HB0 := Lib.hid hb0
 rw [show w.heap.size + 2 = g7 by omega] at hX7
 rw [show w.heap.size + 1 = g6 by omega] at hX6
 have HG : Hid (w.heap.size ≤ g6 ∧ w.heap.size ≤ g7 ∧ g7 ≠ g6 ∧ g6 < W.heap.size ∧ g7 < W.heap.size) := Lib.hid ⟨by omega, by omega, by omega, hX6.lt, hX7.lt⟩
 rw [hg3] at hX3
 simp only [hg3]
 simp only [hg6]
 simp only [hg7]
 have HX3 := Lib.hid hX3
 have HX6 := Lib.hid hX6
 have HX7 := Lib.hid hX7
 have HA := Lib.hid hA
 have CD := CD0 W hA hRW
 clear hb0 hX3 hX6 hX7 hA hRW hg3 hg6 hg7 CD0
 refine wl <| gzl rfl ⟨g3, 0, none⟩ (.agg (lgA la A.length lk c)) (load_lg HX3.out) <| gz1 (.slice ra L.length rc) <|
  gze (fun v w' => ∃ a c, v = .tuple #[.agg (txA D.1 a c), .int .i64 D.2] ∧ RowT w' W.heap.size (.slice a D.1.tr.length c) D.1.tr ∧ Below W.heap.size W w') (CD.mono fun e w' q => by obtain ⟨a, c, h1, h2⟩ := q; exact ⟨_, h1, a, c, rfl, h2⟩) (fun vv W2 hq => ?_)
 obtain ⟨ta, tk, rfl, hrt, hb2⟩ := hq
 obtain ⟨V3, hst3, hb3, hbx3⟩ := new_txv W2 D.1 ta tk
 simp only [pu]
 refine gz3 (.tuple #[.agg (txA D.1 ta tk), .int .i64 D.2]) (.agg (txA D.1 ta tk)) (.int .i64 D.2) ?_
 simp only [pu]
 refine run_to rfl (some 8) rfl (.pointer (some ⟨W2.heap.size, 0, none⟩)) (W2.alloc (.cells (txA zX none 0) 32)) (by kernel_rfl) ?_
 simp only [pu]
 refine gzs rfl (hst3) <| gz1 (.int .i64 D.2) <| wn ?_
 simp only [pu]
 have hb4 := hb2.trans (hb3.mono hb2.size)
 obtain ⟨g8, hg8⟩ : ∃ g8, W2.heap.size = g8 := ⟨_, rfl⟩
 rw [hg8] at hbx3 hst3 ⊢
 obtain ⟨a9, c9, e9, hct, -⟩ := own_cs (own_below hrt hb3)
 simp only [Value.slice.injEq, true_and] at e9
 obtain ⟨rfl, rfl⟩ := e9
 have HCT := Lib.hid hct
 have HX33 := Lib.hid (HX3.out.below HX3.out.lt hb4)
 have HX63 := Lib.hid (HX6.out.below HX6.out.lt hb4)
 have HX73 := Lib.hid (HX7.out.below HX7.out.lt hb4)
 have HX8 := Lib.hid hbx3
 have HBV := Lib.hid (HB0.out.trans (hb4.mono HB0.out.size))
 have HA3 := Lib.hid (HA.out.below hb4)
 have HSV : Hid (W.heap.size ≤ V3.heap.size) := Lib.hid hb4.size
 clear CD hst3 hb2 hb3 hb4 hg8 hbx3 hrt hct HX3 HX6 HX7 HA
 by_cases hd : D.2 = 0
 ·skip
  go_upto_region 2 with fail
  refine wl <| gz1 (.int .i64 D.2) <| gzb (neq_e rfl D.2 0 (decide_eq_true hd)) <| wn ?_
  simp only [pu]
  obtain ⟨hfq, hnm, heq⟩ := H2.out hd
  obtain ⟨t, hdt⟩ : ∃ t, D.1 = t := ⟨_, rfl⟩
  rw [hdt] at hfq hnm heq HX8 HCT
  simp only [hdt]
  have CP := fun V => Mo.gas_prio t.fee t.gas V hfq.f hfq.gas
  have HCA := Lib.hid (fun V (hl : Cs V la (acc A)) (ht : Cs V ta (tfc t.tr)) => q_carry A c price L.length t la ta lk tk V hl hlk ht hfq hnm)
  generalize prioV t.fee t.gas = pr at *
  generalize carX A c price t L.length = R at *
  have HEQ := Lib.hid heq
  clear hfq hnm hdt hd H2 H1 heq
  go_upto_region 4 with fail
  have h0 := KT.start V3 ⟨0, t.snd, t.sq, t.gas, pr⟩
  refine wp_region_inv (fun listed act9 V => ∃ b0 b1 b2 b3 b4 b5 b6 b7 b8 b9 b10 b11 b12 b13 : Bool, ∃ x10 : Value, listed = #[b0, b1, b2, b3, b4, b5, b6, b7, b8, b9, b10, b11, b12, b13] ∧ act9 = { tmps := #[.agg (lgA la A.length lk c), .int .u64 price, .slice ra L.length rc, .pointer (some ⟨g3, 0, none⟩), undef, undef, .pointer (some ⟨g6, 0, none⟩), .pointer (some ⟨g7, 0, none⟩), .pointer (some ⟨g8, 0, none⟩), .int .i64 D.2, x10, undef, .tuple #[.agg (txA t ta tk), .int .i64 D.2], .agg (lgA la A.length lk c), .slice ra L.length rc, .tuple #[.agg (txA t ta tk), .int .i64 D.2], .agg (txA t ta tk), .int .i64 D.2, .int .i64 D.2, .bool false, undef, undef, undef, undef, (cond b0 (.pointer (some ⟨g8, 0, none⟩)) undef), (cond b1 (.string t.snd) undef), (cond b2 (.pointer (some ⟨g8, 1, none⟩)) undef), (cond b3 (.int .u64 t.sq) undef), (cond b4 (.pointer (some ⟨g8, 2, none⟩)) undef), (cond b5 (.int .u64 t.gas) undef), (cond b6 (.pointer (some ⟨g8, 3, none⟩)) undef), (cond b7 (.int .u64 t.fee) undef), (cond b8 (.pointer (some ⟨g8, 2, none⟩)) undef), (cond b9 (.int .u64 t.gas) undef), (cond b10 (.int .u64 pr) undef), (cond b11 (.agg (resA ⟨0, t.snd, t.sq, t.gas, pr⟩)) undef), undef, undef, undef, undef, undef, undef, undef, undef, undef, undef, undef, undef, undef, undef, undef, undef, undef], defers := [] } ∧ KT V3 ⟨0, t.snd, t.sq, t.gas, pr⟩ b12 b13 x10 V) (by kernel_rfl) (by kernel_rfl) ?_ ?_ ?_
  ·exact ⟨false, false, false, false, false, false, false, false, false, false, false, false, false, false, undef, rfl, rfl, h0⟩
  ·intro i9 listed act9 V hi9 hr hJ
   obtain ⟨b0, b1, b2, b3, b4, b5, b6, b7, b8, b9, b10, b11, b12, b13, x10, rfl, rfl, hF⟩ := hJ
   have hi2 : i9 < 14 := hi9
   have hi3 : i9 = 0 ∨ i9 = 1 ∨ i9 = 2 ∨ i9 = 3 ∨ i9 = 4 ∨ i9 = 5 ∨ i9 = 6 ∨ i9 = 7 ∨ i9 = 8 ∨ i9 = 9 ∨ i9 = 10 ∨ i9 = 11 ∨ i9 = 12 ∨ i9 = 13 := by omega
   rcases hi3 with rfl | rfl | rfl | rfl | rfl | rfl | rfl | rfl | rfl | rfl | rfl | rfl | rfl | rfl
   ·obtain rfl : b0 = false := ready_self hr
    refine st_val rfl (by kernel_rfl) (some 24) rfl (.pointer (some ⟨g8, 0, none⟩)) V (by kernel_rfl) ?_
    exact ⟨true, b1, b2, b3, b4, b5, b6, b7, b8, b9, b10, b11, b12, b13, x10, rfl, rfl, hF⟩
   ·obtain rfl : b1 = false := ready_self hr
    obtain rfl : b0 = true := ready_dep hr 0 (by kernel_rfl)
    refine st_load rfl (by kernel_rfl) (some 25) rfl 9 (.tmp 24) rfl ⟨g8, 0, none⟩ (.string t.snd) (by kernel_rfl) ((HX8.out.below HX8.out.lt hF.bel).load (i := 0) rfl (by kernel_rfl)) ?_
    exact ⟨true, true, b2, b3, b4, b5, b6, b7, b8, b9, b10, b11, b12, b13, x10, rfl, rfl, hF⟩
   ·obtain rfl : b2 = false := ready_self hr
    refine st_val rfl (by kernel_rfl) (some 26) rfl (.pointer (some ⟨g8, 1, none⟩)) V (by kernel_rfl) ?_
    exact ⟨b0, b1, true, b3, b4, b5, b6, b7, b8, b9, b10, b11, b12, b13, x10, rfl, rfl, hF⟩
   ·obtain rfl : b3 = false := ready_self hr
    obtain rfl : b2 = true := ready_dep hr 2 (by kernel_rfl)
    refine st_load rfl (by kernel_rfl) (some 27) rfl 22 (.tmp 26) rfl ⟨g8, 1, none⟩ (.int .u64 t.sq) (by kernel_rfl) ((HX8.out.below HX8.out.lt hF.bel).load (i := 1) rfl (by kernel_rfl)) ?_
    exact ⟨b0, b1, true, true, b4, b5, b6, b7, b8, b9, b10, b11, b12, b13, x10, rfl, rfl, hF⟩
   ·obtain rfl : b4 = false := ready_self hr
    refine st_val rfl (by kernel_rfl) (some 28) rfl (.pointer (some ⟨g8, 2, none⟩)) V (by kernel_rfl) ?_
    exact ⟨b0, b1, b2, b3, true, b5, b6, b7, b8, b9, b10, b11, b12, b13, x10, rfl, rfl, hF⟩
   ·obtain rfl : b5 = false := ready_self hr
    obtain rfl : b4 = true := ready_dep hr 4 (by kernel_rfl)
    refine st_load rfl (by kernel_rfl) (some 29) rfl 22 (.tmp 28) rfl ⟨g8, 2, none⟩ (.int .u64 t.gas) (by kernel_rfl) ((HX8.out.below HX8.out.lt hF.bel).load (i := 2) rfl (by kernel_rfl)) ?_
    exact ⟨b0, b1, b2, b3, true, true, b6, b7, b8, b9, b10, b11, b12, b13, x10, rfl, rfl, hF⟩
   ·obtain rfl : b6 = false := ready_self hr
    refine st_val rfl (by kernel_rfl) (some 30) rfl (.pointer (some ⟨g8, 3, none⟩)) V (by kernel_rfl) ?_
    exact ⟨b0, b1, b2, b3, b4, b5, true, b7, b8, b9, b10, b11, b12, b13, x10, rfl, rfl, hF⟩
   ·obtain rfl : b7 = false := ready_self hr
    obtain rfl : b6 = true := ready_dep hr 6 (by kernel_rfl)
    refine st_load rfl (by kernel_rfl) (some 31) rfl 22 (.tmp 30) rfl ⟨g8, 3, none⟩ (.int .u64 t.fee) (by kernel_rfl) ((HX8.out.below HX8.out.lt hF.bel).load (i := 3) rfl (by kernel_rfl)) ?_
    exact ⟨b0, b1, b2, b3, b4, b5, true, true, b8, b9, b10, b11, b12, b13, x10, rfl, rfl, hF⟩
   ·obtain rfl : b8 = false := ready_self hr
    refine st_val rfl (by kernel_rfl) (some 32) rfl (.pointer (some ⟨g8, 2, none⟩)) V (by kernel_rfl) ?_
    exact ⟨b0, b1, b2, b3, b4, b5, b6, b7, true, b9, b10, b11, b12, b13, x10, rfl, rfl, hF⟩
   ·obtain rfl : b9 = false := ready_self hr
    obtain rfl : b8 = true := ready_dep hr 8 (by kernel_rfl)
    refine st_load rfl (by kernel_rfl) (some 33) rfl 22 (.tmp 32) rfl ⟨g8, 2, none⟩ (.int .u64 t.gas) (by kernel_rfl) ((HX8.out.below HX8.out.lt hF.bel).load (i := 2) rfl (by kernel_rfl)) ?_
    exact ⟨b0, b1, b2, b3, b4, b5, b6, b7, true, true, b10, b11, b12, b13, x10, rfl, rfl, hF⟩
   ·obtain rfl : b10 = false := ready_self hr
    obtain rfl : b7 = true := ready_dep hr 7 (by kernel_rfl)
    obtain rfl : b9 = true := ready_dep hr 9 (by kernel_rfl)
    refine st_call rfl (by kernel_rfl) (some 34) rfl 14 #[.int .u64 t.fee, .int .u64 t.gas] (by kernel_rfl) ((CP V).mono fun e w' z => ?_)
    obtain ⟨rfl, n9, rfl⟩ := z
    exact ⟨_, rfl, b0, b1, b2, b3, b4, b5, b6, true, b8, true, true, b11, b12, b13, x10, rfl, rfl, hF.more ⟨rfl, rfl, rfl, Nat.le_refl _, fun _ _ => rfl⟩⟩
   ·obtain rfl : b11 = false := ready_self hr
    obtain rfl : b1 = true := ready_dep hr 1 (by kernel_rfl)
    obtain rfl : b3 = true := ready_dep hr 3 (by kernel_rfl)
    obtain rfl : b5 = true := ready_dep hr 5 (by kernel_rfl)
    obtain rfl : b10 = true := ready_dep hr 10 (by kernel_rfl)
    refine st_val rfl (by kernel_rfl) (some 35) rfl (.agg (resA ⟨0, t.snd, t.sq, t.gas, pr⟩)) V (by kernel_rfl) ?_
    exact ⟨b0, true, b2, true, b4, true, b6, b7, b8, b9, true, true, b12, b13, x10, rfl, rfl, hF⟩
   ·obtain rfl : b12 = false := ready_self hr
    refine st_val rfl (by kernel_rfl) (some 10) rfl (.pointer (some ⟨V.heap.size, 0, none⟩)) (V.alloc (.cells (resA (zRes 0)) 40)) (by kernel_rfl) ?_
    exact ⟨b0, b1, b2, b3, b4, b5, b6, b7, b8, b9, b10, b11, true, b13, _, rfl, rfl, hF.alloc⟩
   ·obtain rfl : b13 = false := ready_self hr
    obtain rfl : b11 = true := ready_dep hr 11 (by kernel_rfl)
    obtain rfl : b12 = true := ready_dep hr 12 (by kernel_rfl)
    obtain ⟨g9, V2, rfl, hst, hF2⟩ := hF.store
    refine st_storeA rfl (by kernel_rfl) rfl 40 (.tmp 10) (.tmp 35) rfl (.pointer (some ⟨g9, 0, none⟩)) (.agg (resA ⟨0, t.snd, t.sq, t.gas, pr⟩)) (by kernel_rfl) (by kernel_rfl) _ hst ?_
    exact ⟨b0, b1, b2, b3, b4, b5, b6, b7, b8, b9, b10, true, true, true, _, rfl, rfl, hF2⟩
  ·intro act9 V hJ
   obtain ⟨b0, b1, b2, b3, b4, b5, b6, b7, b8, b9, b10, b11, b12, b13, x10, he, rfl, hF⟩ := hJ
   have he : (#[true, true, true, true, true, true, true, true, true, true, true, true, true, true] : Array Bool) = #[b0, b1, b2, b3, b4, b5, b6, b7, b8, b9, b10, b11, b12, b13] := he
   simp only [Array.mk.injEq, List.cons.injEq, and_true] at he
   obtain ⟨rfl, rfl, rfl, rfl, rfl, rfl, rfl, rfl, rfl, rfl, rfl, rfl, rfl, rfl⟩ := he
   simp only [cond_true]
   obtain ⟨g10, rfl, hg10, -, hbx⟩ := hF.box rfl
   have HX10 := Lib.hid (hbx rfl)
   have hbv := hF.bel
   have HB4 := Lib.hid (HBV.out.trans (hbv.mono HBV.out.size))
   have HX34 := Lib.hid (HX33.out.below HX33.out.lt hbv)
   have HX64 := Lib.hid (HX63.out.below HX63.out.lt hbv)
   have HX74 := Lib.hid (HX73.out.below HX73.out.lt hbv)
   have HX84 := Lib.hid (HX8.out.below HX8.out.lt hbv)
   have HA4 := Lib.hid (HA3.out.below hbv)
   have HS4 : Hid (W.heap.size ≤ V.heap.size ∧ W.heap.size ≤ g10) := Lib.hid ⟨Nat.le_trans HSV.out hbv.size, Nat.le_trans HSV.out hg10⟩
   have CA := HCA.out V HA4.out (HCT.out.below hbv)
   clear hF hbx hbv hg10 HX33 HX63 HX73 HX8 HBV h0 CP HCA HCT HA3
   go_upto_region 5 with fail
   refine wl <| gzl rfl ⟨g3, 0, none⟩ (.agg (lgA la A.length lk c)) (load_lg HX34.out) <| gz1 (.int .u64 price) <| gzl rfl ⟨g8, 0, none⟩ (.agg (txA t ta tk)) (load_txb HX84.out) <| gz2 (.slice ra L.length rc) (.int .i64 L.length) <|
    gze (fun v w' => ∃ ad kk, v = .tuple #[.agg (lgA ad R.1.length kk R.2.1), .int .i64 R.2.2] ∧ RowA w' V.heap.size (.slice ad R.1.length kk) R.1 ∧ Below V.heap.size V w') (CA.mono fun e w' q => by obtain ⟨ad, kk, h1, h2, h3⟩ := q; exact ⟨_, h1, ad, kk, rfl, h2, h3⟩) (fun vv V5 hq => ?_)
   obtain ⟨ad, kk, rfl, hr5, hb5⟩ := hq
   obtain ⟨V6, hst6, hb6, hbx6⟩ := new_lg V5 ad R.1.length kk R.2.1
   simp only [pu]
   refine gz3 (.tuple #[.agg (lgA ad R.1.length kk R.2.1), .int .i64 R.2.2]) (.agg (lgA ad R.1.length kk R.2.1)) (.int .i64 R.2.2) ?_
   simp only [pu]
   refine run_to rfl (some 11) rfl (.pointer (some ⟨V5.heap.size, 0, none⟩)) (V5.alloc (.cells (lgA none 0 0 0) 27)) (by kernel_rfl) ?_
   simp only [pu]
   refine gzs rfl (hst6) <| gz1 (.int .i64 R.2.2) <| wn ?_
   simp only [pu]
   obtain ⟨g11, hg11⟩ : ∃ g11, V5.heap.size = g11 := ⟨_, rfl⟩
   rw [hg11] at hbx6 ⊢
   have hb56 := hb5.trans (hb6.mono hb5.size)
   have HG11 : Hid (g11 ≠ g10 ∧ g10 ≠ g11 ∧ V.heap.size ≤ g11 ∧ g10 < V.heap.size) := Lib.hid (by have := HX10.out.lt; have := hb5.size; omega)
   have HX11 := Lib.hid hbx6
   have HR6 := Lib.hid (own_below hr5 hb6)
   have HB6 := Lib.hid (HB4.out.trans (hb56.mono HB4.out.size))
   have HX36 := Lib.hid (HX34.out.below HX34.out.lt hb56)
   have HX66 := Lib.hid (HX64.out.below HX64.out.lt hb56)
   have HX76 := Lib.hid (HX74.out.below HX74.out.lt hb56)
   have HX106 := Lib.hid (HX10.out.below HX10.out.lt hb56)
   have HA6 := Lib.hid (HA4.out.below hb56)
   have HS6 : Hid (V.heap.size ≤ V6.heap.size ∧ g11 < V6.heap.size) := Lib.hid ⟨hb56.size, hbx6.lt⟩
   clear CA hr5 hst6 hb6 hbx6 hb5 hb56 hg11 HX34 HX64 HX74 HX84 HX10 HA4 HB4
   by_cases hr0 : R.2.2 = 0
   ·skip
    obtain ⟨Bs, hBs⟩ : ∃ Bs, V.heap.size = Bs := ⟨_, rfl⟩
    have HS10 : Hid (w.heap.size ≤ g10) := Lib.hid (Nat.le_trans HB0.out.size HS4.out.2)
    have HN : Hid (g6 ≠ g10 ∧ g7 ≠ g10 ∧ g10 < Bs) := Lib.hid (by have := HG.out; have := HS4.out; have := HG11.out; have := HS6.out; omega)
    have HN6 : Hid (g11 ≠ g6 ∧ g10 ≠ g6 ∧ g6 < Bs) := Lib.hid (by have := HG.out; have := HS4.out; have := HG11.out; have := HS6.out; omega)
    have HN7 : Hid (g11 ≠ g7 ∧ g10 ≠ g7 ∧ g7 < Bs) := Lib.hid (by have := HG.out; have := HS4.out; have := HG11.out; have := HS6.out; omega)
    have HBs : Hid (w.heap.size ≤ Bs) := Lib.hid (by have := HB0.out.size; have := HS4.out; have := HS6.out; omega)
    rw [hBs] at HR6
    clear hBs
    have HEQ2 : Hid (X = ((R.1, R.2.1), ⟨R.2.2, t.snd, t.sq, t.gas, pr⟩)) := Lib.hid (by have h := HEQ.out; rw [if_pos hr0] at h; exact h)
    go_upto_region 6 with fail
    refine wl <| gz1 (.int .i64 R.2.2) <| gzb (neq_e rfl R.2.2 0 (decide_eq_true hr0)) <| wn ?_
    simp only [pu]
    obtain ⟨V9, hst9, hX109, hB9, hbt9⟩ := st_cell (i := 0) (ty := 36) (v := .int .i64 R.2.2) (cs' := resA ⟨R.2.2, t.snd, t.sq, t.gas, pr⟩) HX106.out HB6.out HS10.out (by show 0 < 5; decide) rfl (by kernel_rfl) rfl
    have hX119 := HX11.out.but hbt9 HG11.out.1
    have hX69 := HX66.out.but hbt9 HN.out.1
    have hX79 := HX76.out.but hbt9 HN.out.2.1
    have hr9 := own_but HR6.out hbt9 HN.out.2.2
    have HPT : Hid (PT g11 g10 Bs (lgA ad R.1.length kk R.2.1) ⟨R.2.2, t.snd, t.sq, t.gas, pr⟩ (.slice ad R.1.length kk) R.1 V9) := Lib.hid ⟨hX119, hX109, hr9⟩
    clear hX119 hX109 hr9 hbt9
    go_upto_region 8 with fail
    refine wl <| gz2 (.int .i64 R.2.2) (.pointer (some ⟨g10, 0, none⟩)) <| gzs rfl (hst9) <| wn ?_
    simp only [pu]
    clear hst9
    go_upto_region 9 with fail
    have h0 : K8 w g6 g7 (PT g11 g10 Bs (lgA ad R.1.length kk R.2.1) ⟨R.2.2, t.snd, t.sq, t.gas, pr⟩ (.slice ad R.1.length kk) R.1) (lgA ad R.1.length kk R.2.1) ⟨R.2.2, t.snd, t.sq, t.gas, pr⟩ false false V9.drew := K8.start hB9 HPT.out.drew hX69 hX79
    generalize V = V4 at *
    refine wp_region_inv (fun listed act9 V => ∃ b0 b1 b2 b3 : Bool, listed = #[b0, b1, b2, b3] ∧ act9 = { tmps := #[.agg (lgA la A.length lk c), .int .u64 price, .slice ra L.length rc, .pointer (some ⟨g3, 0, none⟩), undef, undef, .pointer (some ⟨g6, 0, none⟩), .pointer (some ⟨g7, 0, none⟩), .pointer (some ⟨g8, 0, none⟩), .int .i64 R.2.2, .pointer (some ⟨g10, 0, none⟩), .pointer (some ⟨g11, 0, none⟩), .tuple #[.agg (txA t ta tk), .int .i64 D.2], .agg (lgA la A.length lk c), .slice ra L.length rc, .tuple #[.agg (txA t ta tk), .int .i64 D.2], .agg (txA t ta tk), .int .i64 D.2, .int .i64 D.2, .bool false, undef, undef, undef, undef, .pointer (some ⟨g8, 0, none⟩), .string t.snd, .pointer (some ⟨g8, 1, none⟩), .int .u64 t.sq, .pointer (some ⟨g8, 2, none⟩), .int .u64 t.gas, .pointer (some ⟨g8, 3, none⟩), .int .u64 t.fee, .pointer (some ⟨g8, 2, none⟩), .int .u64 t.gas, .int .u64 pr, .agg (resA ⟨0, t.snd, t.sq, t.gas, pr⟩), .tuple #[.agg (lgA ad R.1.length kk R.2.1), .int .i64 R.2.2], .agg (lgA la A.length lk c), .int .u64 price, .agg (txA t ta tk), .slice ra L.length rc, .int .i64 L.length, .tuple #[.agg (lgA ad R.1.length kk R.2.1), .int .i64 R.2.2], .agg (lgA ad R.1.length kk R.2.1), .int .i64 R.2.2, .int .i64 R.2.2, .bool false, undef, undef, .int .i64 R.2.2, .pointer (some ⟨g10, 0, none⟩), (cond b0 (.agg (lgA ad R.1.length kk R.2.1)) undef), (cond b1 (.agg (resA ⟨R.2.2, t.snd, t.sq, t.gas, pr⟩)) undef)], defers := [] } ∧ K8 w g6 g7 (PT g11 g10 Bs (lgA ad R.1.length kk R.2.1) ⟨R.2.2, t.snd, t.sq, t.gas, pr⟩ (.slice ad R.1.length kk) R.1) (lgA ad R.1.length kk R.2.1) ⟨R.2.2, t.snd, t.sq, t.gas, pr⟩ b2 b3 V) (by kernel_rfl) (by kernel_rfl) ?_ ?_ ?_
    ·exact ⟨false, false, false, false, rfl, rfl, h0⟩
    ·intro i9 listed act9 V hi9 hr hJ
     obtain ⟨b0, b1, b2, b3, rfl, rfl, hF⟩ := hJ
     have hi2 : i9 < 4 := hi9
     have hi3 : i9 = 0 ∨ i9 = 1 ∨ i9 = 2 ∨ i9 = 3 := by omega
     rcases hi3 with rfl | rfl | rfl | rfl
     ·obtain rfl : b0 = false := ready_self hr
      refine st_load rfl (by kernel_rfl) (some 51) rfl 27 (.tmp 11) rfl ⟨g11, 0, none⟩ (.agg (lgA ad R.1.length kk R.2.1)) (by kernel_rfl) (load_lg hF.p.x11) ?_
      exact ⟨true, b1, b2, b3, rfl, rfl, hF⟩
     ·obtain rfl : b1 = false := ready_self hr
      refine st_load rfl (by kernel_rfl) (some 52) rfl 40 (.tmp 10) rfl ⟨g10, 0, none⟩ (.agg (resA ⟨R.2.2, t.snd, t.sq, t.gas, pr⟩)) (by kernel_rfl) (load_res hF.p.x10) ?_
      exact ⟨b0, true, b2, b3, rfl, rfl, hF⟩
     ·obtain rfl : b2 = false := ready_self hr
      obtain rfl : b0 = true := ready_dep hr 0 (by kernel_rfl)
      obtain ⟨V2, hst, hF2⟩ := hF.st6 (fun V9 hb => hF.p.but hb HN6.out.1 HN6.out.2.1 HN6.out.2.2) HG.out.1 HG.out.2.2.1
      refine st_storeA rfl (by kernel_rfl) rfl 27 (.tmp 6) (.tmp 51) rfl (.pointer (some ⟨g6, 0, none⟩)) (.agg (lgA ad R.1.length kk R.2.1)) (by kernel_rfl) (by kernel_rfl) _ hst ?_
      exact ⟨true, b1, true, b3, rfl, rfl, hF2⟩
     ·obtain rfl : b3 = false := ready_self hr
      obtain rfl : b1 = true := ready_dep hr 1 (by kernel_rfl)
      obtain ⟨V2, hst, hF2⟩ := hF.st7 (fun V9 hb => hF.p.but hb HN7.out.1 HN7.out.2.1 HN7.out.2.2) HG.out.2.1 (fun e => HG.out.2.2.1 e.symm)
      refine st_storeA rfl (by kernel_rfl) rfl 40 (.tmp 7) (.tmp 52) rfl (.pointer (some ⟨g7, 0, none⟩)) (.agg (resA ⟨R.2.2, t.snd, t.sq, t.gas, pr⟩)) (by kernel_rfl) (by kernel_rfl) _ hst ?_
      exact ⟨b0, true, b2, true, rfl, rfl, hF2⟩
    ·intro act9 V hJ
     obtain ⟨b0, b1, b2, b3, he, rfl, hF⟩ := hJ
     have he : (#[true, true, true, true] : Array Bool) = #[b0, b1, b2, b3] := he
     simp only [Array.mk.injEq, List.cons.injEq, and_true] at he
     obtain ⟨rfl, rfl, rfl, rfl⟩ := he
     simp only [cond_true]
     go_wp2_with fail
     exact bodyPost_ret (results_2c rfl (by kernel_rfl) (load_lg hF.x6) (by kernel_rfl) (load_res hF.x7)) rfl (TxO.own HEQ2.out hF.p.row HBs.out hF.bel)
   ·skip
    have HEQ2 : Hid (X = ((A, c), ⟨R.2.2, t.snd, t.sq, t.gas, pr⟩)) := Lib.hid (by have h := HEQ.out; rw [if_neg hr0] at h; exact h)
    go_upto_region 6 with fail
    refine wl <| gz1 (.int .i64 R.2.2) <| gzb (neq_e rfl R.2.2 0 (decide_eq_false hr0)) <| wn ?_
    simp only [pu]
    go_upto_region 7 with fail
    refine wl <| gzl rfl ⟨g3, 0, none⟩ (.agg (lgA la A.length lk c)) (load_lg HX36.out) <|
     gze (fun v w' => ∃ ad kk, v = .agg (lgA ad A.length kk c) ∧ RowA w' V6.heap.size (.slice ad A.length kk) A ∧ Below V6.heap.size V6 w') ((HCL.out V6 HA6.out).mono fun e w' q => by obtain ⟨ad, kk, h1, h2, h3⟩ := q; exact ⟨_, h1, ad, kk, rfl, h2, h3⟩) (fun vv V7 hq => ?_)
    obtain ⟨a7, k7, rfl, hr7, hb7⟩ := hq
    obtain ⟨hst8, hX118⟩ := store_lg (a' := a7) (n' := A.length) (k' := k7) (c' := c) (HX11.out.below HX11.out.lt hb7)
    have hbt8 : But g11 V7 (V7.setRow g11 (lgA a7 A.length k7 c)) := But.setRow _ _
    have hB8 := belowRow (HB6.out.trans (hb7.mono HB6.out.size)) (Nat.le_trans HB0.out.size (Nat.le_trans HS4.out.1 HG11.out.2.2.1)) (lgA a7 A.length k7 c)
    have hr8 := own_but hr7 hbt8 HS6.out.2
    have hX68 := (HX66.out.below HX66.out.lt hb7).but hbt8 (by have := HG.out; have := HS4.out; have := HG11.out; omega)
    have hX78 := (HX76.out.below HX76.out.lt hb7).but hbt8 (by have := HG.out; have := HS4.out; have := HG11.out; omega)
    have hX108 := (HX106.out.below HX106.out.lt hb7).but hbt8 HG11.out.2.1
    generalize V7.setRow g11 (lgA a7 A.length k7 c) = V8 at *
    clear hr7 hb7 hbt8
    simp only [pu]
    refine gzs rfl (hst8) <| wn ?_
    clear hst8
    obtain ⟨Bs, hBs⟩ : ∃ Bs, V6.heap.size = Bs := ⟨_, rfl⟩
    have HS10 : Hid (w.heap.size ≤ g10) := Lib.hid (Nat.le_trans HB0.out.size HS4.out.2)
    have HN : Hid (g6 ≠ g10 ∧ g7 ≠ g10 ∧ g10 < Bs) := Lib.hid (by have := HG.out; have := HS4.out; have := HG11.out; have := HS6.out; omega)
    have HN6 : Hid (g11 ≠ g6 ∧ g10 ≠ g6 ∧ g6 < Bs) := Lib.hid (by have := HG.out; have := HS4.out; have := HG11.out; have := HS6.out; omega)
    have HN7 : Hid (g11 ≠ g7 ∧ g10 ≠ g7 ∧ g7 < Bs) := Lib.hid (by have := HG.out; have := HS4.out; have := HG11.out; have := HS6.out; omega)
    have HBs : Hid (w.heap.size ≤ Bs) := Lib.hid (by have := HB0.out.size; have := HS4.out; have := HS6.out; omega)
    rw [hBs] at hr8
    clear hBs
    obtain ⟨V9, hst9, hX109, hB9, hbt9⟩ := st_cell (i := 0) (ty := 36) (v := .int .i64 R.2.2) (cs' := resA ⟨R.2.2, t.snd, t.sq, t.gas, pr⟩) hX108 hB8 HS10.out (by show 0 < 5; decide) rfl (by kernel_rfl) rfl
    have hX119 := hX118.but hbt9 HG11.out.1
    have hX69 := hX68.but hbt9 HN.out.1
    have hX79 := hX78.but hbt9 HN.out.2.1
    have hr9 := own_but hr8 hbt9 HN.out.2.2
    have HPT : Hid (PT g11 g10 Bs (lgA a7 A.length k7 c) ⟨R.2.2, t.snd, t.sq, t.gas, pr⟩ (.slice a7 A.length k7) A V9) := Lib.hid ⟨hX119, hX109, hr9⟩
    clear hX119 hX109 hr9 hbt9
    go_upto_region 8 with fail
    refine wl <| gz2 (.int .i64 R.2.2) (.pointer (some ⟨g10, 0, none⟩)) <| gzs rfl (hst9) <| wn ?_
    simp only [pu]
    clear hst9
    go_upto_region 9 with fail
    have h0 : K8 w g6 g7 (PT g11 g10 Bs (lgA a7 A.length k7 c) ⟨R.2.2, t.snd, t.sq, t.gas, pr⟩ (.slice a7 A.length k7) A) (lgA a7 A.length k7 c) ⟨R.2.2, t.snd, t.sq, t.gas, pr⟩ false false V9.drew := K8.start hB9 HPT.out.drew hX69 hX79
    generalize V = V4 at *
    refine wp_region_inv (fun listed act9 V => ∃ b0 b1 b2 b3 : Bool, listed = #[b0, b1, b2, b3] ∧ act9 = { tmps := #[.agg (lgA la A.length lk c), .int .u64 price, .slice ra L.length rc, .pointer (some ⟨g3, 0, none⟩), undef, undef, .pointer (some ⟨g6, 0, none⟩), .pointer (some ⟨g7, 0, none⟩), .pointer (some ⟨g8, 0, none⟩), .int .i64 R.2.2, .pointer (some ⟨g10, 0, none⟩), .pointer (some ⟨g11, 0, none⟩), .tuple #[.agg (txA t ta tk), .int .i64 D.2], .agg (lgA la A.length lk c), .slice ra L.length rc, .tuple #[.agg (txA t ta tk), .int .i64 D.2], .agg (txA t ta tk), .int .i64 D.2, .int .i64 D.2, .bool false, undef, undef, undef, undef, .pointer (some ⟨g8, 0, none⟩), .string t.snd, .pointer (some ⟨g8, 1, none⟩), .int .u64 t.sq, .pointer (some ⟨g8, 2, none⟩), .int .u64 t.gas, .pointer (some ⟨g8, 3, none⟩), .int .u64 t.fee, .pointer (some ⟨g8, 2, none⟩), .int .u64 t.gas, .int .u64 pr, .agg (resA ⟨0, t.snd, t.sq, t.gas, pr⟩), .tuple #[.agg (lgA ad R.1.length kk R.2.1), .int .i64 R.2.2], .agg (lgA la A.length lk c), .int .u64 price, .agg (txA t ta tk), .slice ra L.length rc, .int .i64 L.length, .tuple #[.agg (lgA ad R.1.length kk R.2.1), .int .i64 R.2.2], .agg (lgA ad R.1.length kk R.2.1), .int .i64 R.2.2, .int .i64 R.2.2, .bool true, .agg (lgA la A.length lk c), .agg (lgA a7 A.length k7 c), .int .i64 R.2.2, .pointer (some ⟨g10, 0, none⟩), (cond b0 (.agg (lgA a7 A.length k7 c)) undef), (cond b1 (.agg (resA ⟨R.2.2, t.snd, t.sq, t.gas, pr⟩)) undef)], defers := [] } ∧ K8 w g6 g7 (PT g11 g10 Bs (lgA a7 A.length k7 c) ⟨R.2.2, t.snd, t.sq, t.gas, pr⟩ (.slice a7 A.length k7) A) (lgA a7 A.length k7 c) ⟨R.2.2, t.snd, t.sq, t.gas, pr⟩ b2 b3 V) (by kernel_rfl) (by kernel_rfl) ?_ ?_ ?_
    ·exact ⟨false, false, false, false, rfl, rfl, h0⟩
    ·intro i9 listed act9 V hi9 hr hJ
     obtain ⟨b0, b1, b2, b3, rfl, rfl, hF⟩ := hJ
     have hi2 : i9 < 4 := hi9
     have hi3 : i9 = 0 ∨ i9 = 1 ∨ i9 = 2 ∨ i9 = 3 := by omega
     rcases hi3 with rfl | rfl | rfl | rfl
     ·obtain rfl : b0 = false := ready_self hr
      refine st_load rfl (by kernel_rfl) (some 51) rfl 27 (.tmp 11) rfl ⟨g11, 0, none⟩ (.agg (lgA a7 A.length k7 c)) (by kernel_rfl) (load_lg hF.p.x11) ?_
      exact ⟨true, b1, b2, b3, rfl, rfl, hF⟩
     ·obtain rfl : b1 = false := ready_self hr
      refine st_load rfl (by kernel_rfl) (some 52) rfl 40 (.tmp 10) rfl ⟨g10, 0, none⟩ (.agg (resA ⟨R.2.2, t.snd, t.sq, t.gas, pr⟩)) (by kernel_rfl) (load_res hF.p.x10) ?_
      exact ⟨b0, true, b2, b3, rfl, rfl, hF⟩
     ·obtain rfl : b2 = false := ready_self hr
      obtain rfl : b0 = true := ready_dep hr 0 (by kernel_rfl)
      obtain ⟨V2, hst, hF2⟩ := hF.st6 (fun V9 hb => hF.p.but hb HN6.out.1 HN6.out.2.1 HN6.out.2.2) HG.out.1 HG.out.2.2.1
      refine st_storeA rfl (by kernel_rfl) rfl 27 (.tmp 6) (.tmp 51) rfl (.pointer (some ⟨g6, 0, none⟩)) (.agg (lgA a7 A.length k7 c)) (by kernel_rfl) (by kernel_rfl) _ hst ?_
      exact ⟨true, b1, true, b3, rfl, rfl, hF2⟩
     ·obtain rfl : b3 = false := ready_self hr
      obtain rfl : b1 = true := ready_dep hr 1 (by kernel_rfl)
      obtain ⟨V2, hst, hF2⟩ := hF.st7 (fun V9 hb => hF.p.but hb HN7.out.1 HN7.out.2.1 HN7.out.2.2) HG.out.2.1 (fun e => HG.out.2.2.1 e.symm)
      refine st_storeA rfl (by kernel_rfl) rfl 40 (.tmp 7) (.tmp 52) rfl (.pointer (some ⟨g7, 0, none⟩)) (.agg (resA ⟨R.2.2, t.snd, t.sq, t.gas, pr⟩)) (by kernel_rfl) (by kernel_rfl) _ hst ?_
      exact ⟨b0, true, b2, true, rfl, rfl, hF2⟩
    ·intro act9 V hJ
     obtain ⟨b0, b1, b2, b3, he, rfl, hF⟩ := hJ
     have he : (#[true, true, true, true] : Array Bool) = #[b0, b1, b2, b3] := he
     simp only [Array.mk.injEq, List.cons.injEq, and_true] at he
     obtain ⟨rfl, rfl, rfl, rfl⟩ := he
     simp only [cond_true]
     go_wp2_with fail
     exact bodyPost_ret (results_2c rfl (by kernel_rfl) (load_lg hF.x6) (by kernel_rfl) (load_res hF.x7)) rfl (TxO.own HEQ2.out hF.p.row HBs.out hF.bel)
 ·skip
  have heq := Lib.hid (H1.out hd)
  go_upto_region 2 with fail
  refine wl <| gz1 (.int .i64 D.2) <| gzb (neq_e rfl D.2 0 (decide_eq_false hd)) <| wn ?_
  simp only [pu]
  go_upto_region 3 with fail
  refine wl <| gzl rfl ⟨g3, 0, none⟩ (.agg (lgA la A.length lk c)) (load_lg HX33.out) <|
   gze (fun v w' => ∃ ad kk, v = .agg (lgA ad A.length kk c) ∧ RowA w' V3.heap.size (.slice ad A.length kk) A ∧ Below V3.heap.size V3 w') ((HCL.out V3 HA3.out).mono fun e w' q => by obtain ⟨ad, kk, h1, h2, h3⟩ := q; exact ⟨_, h1, ad, kk, rfl, h2, h3⟩) (fun vv V4 hq => ?_)
  obtain ⟨ad, kk, rfl, hr4, hb4⟩ := hq
  obtain ⟨hst5, hX65⟩ := store_lg (a' := ad) (n' := A.length) (k' := kk) (c' := c) (HX63.out.below HX63.out.lt hb4)
  have hbt5 : But g6 V4 (V4.setRow g6 (lgA ad A.length kk c)) := But.setRow _ _
  have hB5 := belowRow (HBV.out.trans (hb4.mono HBV.out.size)) HG.out.1 (lgA ad A.length kk c)
  have hr5 := own_but hr4 hbt5 (Nat.lt_of_lt_of_le HG.out.2.2.2.1 HSV.out)
  have hX75 := (HX73.out.below HX73.out.lt hb4).but hbt5 HG.out.2.2.1
  generalize V4.setRow g6 (lgA ad A.length kk c) = V5 at *
  obtain ⟨hst6, hX76⟩ := store_res (q := zRes D.2) hX75
  have hbt6 : But g7 V5 (V5.setRow g7 (resA (zRes D.2))) := But.setRow _ _
  have hB6 := belowRow hB5 HG.out.2.1 (resA (zRes D.2))
  have hr6 := own_but hr5 hbt6 (Nat.lt_of_lt_of_le HG.out.2.2.2.2 HSV.out)
  have hX66 := hX65.but hbt6 (fun e => HG.out.2.2.1 e.symm)
  have HE : Hid (TxO w la A X (.returned (.tuple #[.agg (lgA ad A.length kk c), .agg (resA (zRes D.2))])) (V5.setRow g7 (resA (zRes D.2)))) := Lib.hid (TxO.own heq.out hr6 HBV.out.size hB6)
  generalize V5.setRow g7 (resA (zRes D.2)) = V6 at *
  clear hr4 hb4 hbt5 hB5 hr5 hX75 hbt6 hB6 hr6 hX65
  simp only [pu]
  refine gz2 (.int .i64 D.2) (.agg (resA (zRes D.2))) <| gzs rfl (hst5) <| gzs rfl (hst6) <| wn ?_
  simp only [pu]
  go_wp2_with fail
  exact bodyPost_ret (results_2c rfl (by kernel_rfl) (load_lg hX66) (by kernel_rfl) (load_res hX76)) rfl HE.out
end Go.Proofs.Ytglglhcnofbagaa.Lg
namespace Go.Proofs.Ytglglhcnofbagaa.Lg
set_option maxRecDepth 100000
open Mo (usedV prioV mulB mulV)
open Go.RowKit
set_option linter.unusedSimpArgs false
set_option linter.unusedVariables false

section
variable {ρ : Operand → Value} {o : Oper} {x y : Operand}
theorem sub_i (ho : o.op = .binOp .sub 3 x y 3) (a b : Int) (h : -9223372036854775808 ≤ a - b ∧ a - b ≤ 9223372036854775807) (hx : ρ x = .int .i64 a) (hy : ρ y = .int .i64 b) (w : World) : (execOp ρ o).run Try.prog w = .ok (.value (.int .i64 (a - b))) w := by
 have hw : IntKind.i64.wrap (a - b) = a - b := by rw [IntKind.wrap_i64]; omega
 unfold execOp
 simp only [ho, hx, hy]
 go_simp
end
end Go.Proofs.Ytglglhcnofbagaa.Lg
namespace Go.Proofs.Ytglglhcnofbagaa.Lg
set_option maxRecDepth 100000
open Go.ChangeShapes Go.WideShapes Go.ChangeAt Go.RowKit Go.Deep Go.Joins

theorem size_list (x : ByteArray) : x.data.toList.length = x.size := Array.length_toList
end Go.Proofs.Ytglglhcnofbagaa.Lg
namespace Go.Proofs.Ytglglhcnofbagaa.Lg
set_option maxRecDepth 100000
open Go.RowKit
open Mo (usedV prioV mulB mulV)
set_option linter.unusedVariables false

/-- A name that is there stays. -/
def has (A : List Ac) (s : ByteArray) : Prop := ∃ x, x ∈ A ∧ x.1 = s
/-- What a transaction does to a sequence: nothing, or it was carried out. -/
theorem tx_seq {A : List Ac} {c price : Int} {L : List Int} : (txX A c price L).2.code ≠ 0 ∧ (txX A c price L).1 = (A, c) ∨ (txX A c price L).2.code = 0 ∧ (txX A c price L).1 = (doneL A (decX L).1, c + (decX L).1.fee) ∧ valE A c = 0 ∧ (decX L).2 = 0 ∧ faultX A price (decX L).1 L.length = 0 ∧ (txX A c price L).2.snd = (decX L).1.snd := by
 unfold txX
 by_cases h1 : valE A c ≠ 0
 ·rw [if_pos h1]; exact Or.inl ⟨by show (1 : Int) ≠ 0; decide, rfl⟩
 ·rw [if_neg h1]
  by_cases h2 : (decX L).2 ≠ 0
  ·rw [if_pos h2]; exact Or.inl ⟨h2, rfl⟩
  ·rw [if_neg h2]
   by_cases h3 : faultX A price (decX L).1 L.length ≠ 0
   ·rw [if_pos h3]; exact Or.inl ⟨h3, rfl⟩
   ·rw [if_neg h3]; exact Or.inr ⟨rfl, rfl, Decidable.not_not.1 h1, Decidable.not_not.1 h2, Decidable.not_not.1 h3, rfl⟩
end Go.Proofs.Ytglglhcnofbagaa.Lg
