/-
 The reference's RemoveEntry: contract.
-/
import Derived.Test.YtmpajgaanghpoaaRF
namespace Go.Proofs.Ytmpajgaanghpoaa
attribute [local irreducible] wpList wpQuiet
open Go.RowKit
set_option maxRecDepth 100000
set_option linter.unusedSimpArgs false
set_option linter.unusedVariables false

theorem CI.nk2 {W V : World} {g4 tb : Nat} {z4 : Array Value} {F : List Int} {i : Int} {mk : Value → Array Value} {b0 b1 b2 bb bs : Bool} {x0 x1 xk x2 xb : Value} (h : CI W g4 tb z4 F i mk b0 b1 false b2 bb bs x0 x1 xk x2 xb V) : b2 = false ∧ bb = false ∧ bs = false := by
 have hb : b2 = false := ffw h.ck rfl
 subst hb
 exact ⟨rfl, h.n2.1, h.n2.2⟩
/-- A value that is a slice. -/
def IsSl (v : Value) : Prop := ∃ a n c, v = .slice a n c
theorem own_vs {w : World} {B e s n : Nat} {v : Value} {xs : List Value} (h : w.ownsRow B e s v n xs) : IsSl v := by
 obtain ⟨a, c, e, -⟩ := own_cs h
 exact ⟨a, n, c, e⟩
theorem mk_one {mo : Int} {ap : Option Addr} {n cp : Nat} {v : Value} (h : IsSl v) : (#[.int .i64 mo, .slice ap n cp, v] : Array Value).all (·.oneCell') = true := by
 obtain ⟨a, n2, c, rfl⟩ := h
 simp [Value.oneCell']
theorem mk_rs {ρ : Operand → Value} {o : Oper} {x y z : Operand} (ho : o.op = .build 28 #[(0, x), (1, y), (2, z)]) (mo : Int) (u v : Value) (hx : ρ x = .int .i64 mo) (hy : ρ y = u) (hz : ρ z = v) (hv : IsSl v) (w : World) (hu : IsSl u := by exact ⟨_, _, _, rfl⟩) : (execOp ρ o).run Try.prog w = .ok (.value (.agg #[.int .i64 mo, u, v])) w := by
 obtain ⟨a, n2, c, rfl⟩ := hv
 obtain ⟨a1, n1, c1, rfl⟩ := hu
 unfold execOp
 simp only [ho, List.map_toArray, List.map_cons, List.map_nil, hx, hy, hz]
 kernel_rfl
set_option maxRecDepth 100000 in
set_option maxHeartbeats 8000000 in
theorem rrem_no {w : World} {ap af : Option Addr} {n cp nf cf : Nat} {mo : Int} {E : En} (x y : Int) (GC : ∀ V, Below w.heap.size w V → Calls Try.prog 18 #[.agg (rsA mo ap n cp af nf cf), .agg #[.int .i64 x, .int .i64 y]] V fun r w' => ∃ d', r = .returned (.tuple #[.agg (enA E d'), .bool false]) ∧ Below V.heap.size V w')  : Calls Try.prog 28 #[.agg (rsA mo ap n cp af nf cf), .agg #[.int .i64 x, .int .i64 y]] w fun r w' => r = .returned (.tuple #[.agg (rsA mo ap n cp af nf cf), .bool false]) ∧ Below w.heap.size w w' := by
 go_enter Try.func28, Try.ntmps28
 go_upto_region 1 with fail
 change Code.wp _ _ _ _ (((w.alloc (.cells (rsA mo ap n cp af nf cf) 28)).alloc (.cells #[.int .i64 x, .int .i64 y] 33)).alloc (.cells (rsA 0 none 0 0 none 0 0) 28))
 have hb_0 : Below w.heap.size w (w.alloc (.cells (rsA mo ap n cp af nf cf) 28)) := (Below.refl _ w).alloc (Nat.le_refl _) _
 have hX2 : Bx (w.alloc (.cells (rsA mo ap n cp af nf cf) 28)) w.heap.size (rsA mo ap n cp af nf cf) 28 := heap_alloc_last w _
 have hs_0 : (w.alloc (.cells (rsA mo ap n cp af nf cf) 28)).heap.size = w.heap.size + 1 := by simp
 generalize w.alloc (.cells (rsA mo ap n cp af nf cf) 28) = W0_ at *
 have hb_1 : Below w.heap.size w (W0_.alloc (.cells #[.int .i64 x, .int .i64 y] 33)) := hb_0.alloc hb_0.size _
 have hX2 := hX2.below hX2.lt ((Below.refl _ W0_).alloc (Nat.le_refl _) (.cells #[.int .i64 x, .int .i64 y] 33))
 have hX3 : Bx (W0_.alloc (.cells #[.int .i64 x, .int .i64 y] 33)) W0_.heap.size #[.int .i64 x, .int .i64 y] 33 := heap_alloc_last W0_ _
 have hs_1 : (W0_.alloc (.cells #[.int .i64 x, .int .i64 y] 33)).heap.size = W0_.heap.size + 1 := by simp
 generalize W0_.alloc (.cells #[.int .i64 x, .int .i64 y] 33) = W1_ at *
 have hb_2 : Below w.heap.size w (W1_.alloc (.cells (rsA 0 none 0 0 none 0 0) 28)) := hb_1.alloc hb_1.size _
 have hX2 := hX2.below hX2.lt ((Below.refl _ W1_).alloc (Nat.le_refl _) (.cells (rsA 0 none 0 0 none 0 0) 28))
 have hX3 := hX3.below hX3.lt ((Below.refl _ W1_).alloc (Nat.le_refl _) (.cells (rsA 0 none 0 0 none 0 0) 28))
 have hX4 : Bx (W1_.alloc (.cells (rsA 0 none 0 0 none 0 0) 28)) W1_.heap.size (rsA 0 none 0 0 none 0 0) 28 := heap_alloc_last W1_ _
 have hs_2 : (W1_.alloc (.cells (rsA 0 none 0 0 none 0 0) 28)).heap.size = W1_.heap.size + 1 := by simp
 generalize W1_.alloc (.cells (rsA 0 none 0 0 none 0 0) 28) = W at *
 obtain ⟨g2, hg2⟩ : ∃ g, w.heap.size = g := ⟨_, rfl⟩
 rw [hg2] at hX2
 obtain ⟨g3, hg3⟩ : ∃ g, W0_.heap.size = g := ⟨_, rfl⟩
 rw [hg3] at hX3
 obtain ⟨g4, hg4⟩ : ∃ g, W1_.heap.size = g := ⟨_, rfl⟩
 rw [hg4] at hX4
 have hq1 : w.heap.size + 1 = g3 := by omega
 have hq2 : w.heap.size + 2 = g4 := by omega
 have HGE : Hid (g2 = w.heap.size + 0 ∧ g3 = w.heap.size + 1 ∧ g4 = w.heap.size + 2 ∧ W.heap.size = w.heap.size + 3) := Lib.hid ⟨by omega, by omega, by omega, by omega⟩
 have HB := Lib.hid hb_2
 simp only [hg2]
 try simp only [show g2 + 1 = g3 by omega]
 try simp only [show g3 + 1 = g4 by omega]
 clear hb_0 hs_0 hg2 hb_1 hs_1 hg3 hb_2 hs_2 hg4 hq1 hq2
 have CW := GC W HB.out
 clear GC
 refine wl <| gzl rfl ⟨g2, 0, none⟩ (.agg (rsA mo ap n cp af nf cf)) (load_rs hX2) <| gzl rfl ⟨g3, 0, none⟩ (.agg #[.int .i64 x, .int .i64 y]) (load_hn (x := (x, y)) (bx_range (cs := hnl (x, y)) hX3)) <|
  gze (fun v w' => ∃ d', v = .tuple #[.agg (enA E d'), .bool false] ∧ Below W.heap.size W w') (CW.mono fun r w' z => by obtain ⟨d', z1, z2⟩ := z; exact ⟨_, z1, d', rfl, z2⟩) (fun vv Y1 hq => ?_)
 obtain ⟨dz, rfl, hbq⟩ := hq
 obtain ⟨Y2, hst2, hb2, hX6⟩ := new_bx (c := enA zEn zAd) (c' := enA E dz) (ty := 44) Y1 rfl (enA_one _ _) (by kernel_rfl)
 simp only [pu]
 refine gz3 (.tuple #[.agg (enA E dz), .bool false]) (.agg (enA E dz)) (.bool false) ?_
 simp only [pu]
 refine run_to rfl (some 6) rfl (.pointer (some ⟨Y1.heap.size, 0, none⟩)) (Y1.alloc (.cells (enA zEn zAd) 44)) (by kernel_rfl) ?_
 simp only [pu]
 refine gzs rfl (hst2) <| gz1 (.bool false) <| wn ?_
 simp only [pu]
 have hbY : Below W.heap.size W Y2 := hbq.trans (hb2.mono hbq.size)
 have hX2V := hX2.below hX2.lt hbY
 have hX3V := hX3.below hX3.lt hbY
 have hX4V := hX4.below hX4.lt hbY
 have HB2 := Lib.hid (HB.out.trans (hbY.mono HB.out.size))
 have HYS : Hid (W.heap.size ≤ Y2.heap.size) := Lib.hid hbY.size
 obtain ⟨g6, hg6⟩ : ∃ g, Y1.heap.size = g := ⟨_, rfl⟩
 rw [hg6]
 clear hst2 hb2 hX6 hbq CW hX2 hX3 hX4 hbY hg6
 go_upto_region 2 with fail
 refine wl <| gz2 (.bool false) (.bool true) <| wn ?_
 simp only [pu]
 obtain ⟨V3, hst3, hY3, hbt3⟩ := st_all (cs' := rsA mo ap n cp af nf cf) (ty := 28) hX4V rfl (rs_one _ _ _ _ _ _ _) (by kernel_rfl)
 have HE := Lib.hid (HB2.out.trans (hbt3.1.mono (by have := HGE.out; omega)))
 clear hbt3 hX4V hX3V
 go_upto_region 3 with fail
 refine wl <| gzl rfl ⟨g2, 0, none⟩ (.agg (rsA mo ap n cp af nf cf)) (load_rs hX2V) <| gzs rfl (hst3) <| gz1 (.bool false) <| wn ?_
 simp only [pu]
 clear hst3 hX2V
 go_wp2_with fail
 exact bodyPost_ret (results_c rfl (by kernel_rfl) (load_rs hY3) (by kernel_rfl)) rfl ⟨rfl, HE.out⟩
set_option maxRecDepth 100000 in
set_option maxHeartbeats 8000000 in
theorem rrem_yes {w : World} {ap af : Option Addr} {n cp nf cf : Nat} {mo : Int} {E : En} (x y : Int) (GC : ∀ V, Below w.heap.size w V → Calls Try.prog 18 #[.agg (rsA mo ap n cp af nf cf), .agg #[.int .i64 x, .int .i64 y]] V fun r w' => ∃ d', r = .returned (.tuple #[.agg (enA E d'), .bool true]) ∧ Below V.heap.size V w') {L : List (Pn × Ad)} {F : List Int} (hpl : Cs w ap (L.flatMap pll)) (hn : L.length = n) (hn2 : n ≤ 512) {i us : Nat} (hxi : x = i) (hi : i < n) (hfl : Cs w af (icells F)) (hF : F.length = nf) (hnf : nf ≤ 512) (hu7 : (L.getD i zPA).1.us = us) : Calls Try.prog 28 #[.agg (rsA mo ap n cp af nf cf), .agg #[.int .i64 x, .int .i64 y]] w fun r w' => ∃ (a7 : Option Addr) (c7 : Nat) (af7 : Option Addr) (cf7 : Nat), r = .returned (.tuple #[.agg (rsA mo a7 n c7 af7 (nf + 1) cf7), .bool true]) ∧ RowP w' w.heap.size (.slice a7 n c7) (L.set i (⟨false, us, zEn⟩, zAd)) ∧ w'.ownsRow w.heap.size 3 1 (.slice af7 (nf + 1) cf7) (nf + 1) (icells (F ++ [(i : Int)])) ∧ Below w.heap.size w w' := by
 subst hxi
 have HPL := Lib.hid hpl
 have HLN := Lib.hid hn
 have HU7 := Lib.hid hu7
 have HNB : Hid (n ≤ 512 ∧ nf ≤ 512) := Lib.hid ⟨hn2, hnf⟩
 have HFL := Lib.hid hfl
 have HF := Lib.hid hF
 clear hpl hn hu7 hn2 hfl hF hnf
 go_enter Try.func28, Try.ntmps28
 go_upto_region 1 with fail
 change Code.wp _ _ _ _ (((w.alloc (.cells (rsA mo ap n cp af nf cf) 28)).alloc (.cells #[.int .i64 i, .int .i64 y] 33)).alloc (.cells (rsA 0 none 0 0 none 0 0) 28))
 have hb_0 : Below w.heap.size w (w.alloc (.cells (rsA mo ap n cp af nf cf) 28)) := (Below.refl _ w).alloc (Nat.le_refl _) _
 have hX2 : Bx (w.alloc (.cells (rsA mo ap n cp af nf cf) 28)) w.heap.size (rsA mo ap n cp af nf cf) 28 := heap_alloc_last w _
 have hs_0 : (w.alloc (.cells (rsA mo ap n cp af nf cf) 28)).heap.size = w.heap.size + 1 := by simp
 generalize w.alloc (.cells (rsA mo ap n cp af nf cf) 28) = W0_ at *
 have hb_1 : Below w.heap.size w (W0_.alloc (.cells #[.int .i64 i, .int .i64 y] 33)) := hb_0.alloc hb_0.size _
 have hX2 := hX2.below hX2.lt ((Below.refl _ W0_).alloc (Nat.le_refl _) (.cells #[.int .i64 i, .int .i64 y] 33))
 have hX3 : Bx (W0_.alloc (.cells #[.int .i64 i, .int .i64 y] 33)) W0_.heap.size #[.int .i64 i, .int .i64 y] 33 := heap_alloc_last W0_ _
 have hs_1 : (W0_.alloc (.cells #[.int .i64 i, .int .i64 y] 33)).heap.size = W0_.heap.size + 1 := by simp
 generalize W0_.alloc (.cells #[.int .i64 i, .int .i64 y] 33) = W1_ at *
 have hb_2 : Below w.heap.size w (W1_.alloc (.cells (rsA 0 none 0 0 none 0 0) 28)) := hb_1.alloc hb_1.size _
 have hX2 := hX2.below hX2.lt ((Below.refl _ W1_).alloc (Nat.le_refl _) (.cells (rsA 0 none 0 0 none 0 0) 28))
 have hX3 := hX3.below hX3.lt ((Below.refl _ W1_).alloc (Nat.le_refl _) (.cells (rsA 0 none 0 0 none 0 0) 28))
 have hX4 : Bx (W1_.alloc (.cells (rsA 0 none 0 0 none 0 0) 28)) W1_.heap.size (rsA 0 none 0 0 none 0 0) 28 := heap_alloc_last W1_ _
 have hs_2 : (W1_.alloc (.cells (rsA 0 none 0 0 none 0 0) 28)).heap.size = W1_.heap.size + 1 := by simp
 generalize W1_.alloc (.cells (rsA 0 none 0 0 none 0 0) 28) = W at *
 obtain ⟨g2, hg2⟩ : ∃ g, w.heap.size = g := ⟨_, rfl⟩
 rw [hg2] at hX2
 obtain ⟨g3, hg3⟩ : ∃ g, W0_.heap.size = g := ⟨_, rfl⟩
 rw [hg3] at hX3
 obtain ⟨g4, hg4⟩ : ∃ g, W1_.heap.size = g := ⟨_, rfl⟩
 rw [hg4] at hX4
 have hq1 : w.heap.size + 1 = g3 := by omega
 have hq2 : w.heap.size + 2 = g4 := by omega
 have HGE : Hid (g2 = w.heap.size + 0 ∧ g3 = w.heap.size + 1 ∧ g4 = w.heap.size + 2 ∧ W.heap.size = w.heap.size + 3) := Lib.hid ⟨by omega, by omega, by omega, by omega⟩
 have HB := Lib.hid hb_2
 simp only [hg2]
 try simp only [show g2 + 1 = g3 by omega]
 try simp only [show g3 + 1 = g4 by omega]
 clear hb_0 hs_0 hg2 hb_1 hs_1 hg3 hb_2 hs_2 hg4 hq1 hq2
 have CW := GC W HB.out
 clear GC
 refine wl <| gzl rfl ⟨g2, 0, none⟩ (.agg (rsA mo ap n cp af nf cf)) (load_rs hX2) <| gzl rfl ⟨g3, 0, none⟩ (.agg #[.int .i64 i, .int .i64 y]) (load_hn (x := ((i : Int), y)) (bx_range (cs := hnl ((i : Int), y)) hX3)) <|
  gze (fun v w' => ∃ d', v = .tuple #[.agg (enA E d'), .bool true] ∧ Below W.heap.size W w') (CW.mono fun r w' z => by obtain ⟨d', z1, z2⟩ := z; exact ⟨_, z1, d', rfl, z2⟩) (fun vv Y1 hq => ?_)
 obtain ⟨dz, rfl, hbq⟩ := hq
 obtain ⟨Y2, hst2, hb2, hX6⟩ := new_bx (c := enA zEn zAd) (c' := enA E dz) (ty := 44) Y1 rfl (enA_one _ _) (by kernel_rfl)
 simp only [pu]
 refine gz3 (.tuple #[.agg (enA E dz), .bool true]) (.agg (enA E dz)) (.bool true) ?_
 simp only [pu]
 refine run_to rfl (some 6) rfl (.pointer (some ⟨Y1.heap.size, 0, none⟩)) (Y1.alloc (.cells (enA zEn zAd) 44)) (by kernel_rfl) ?_
 simp only [pu]
 refine gzs rfl (hst2) <| gz1 (.bool true) <| wn ?_
 simp only [pu]
 have hbY : Below W.heap.size W Y2 := hbq.trans (hb2.mono hbq.size)
 have hX2V := hX2.below hX2.lt hbY
 have hX3V := hX3.below hX3.lt hbY
 have hX4V := hX4.below hX4.lt hbY
 have HB2 := Lib.hid (HB.out.trans (hbY.mono HB.out.size))
 have HYS : Hid (W.heap.size ≤ Y2.heap.size) := Lib.hid hbY.size
 obtain ⟨g6, hg6⟩ : ∃ g, Y1.heap.size = g := ⟨_, rfl⟩
 rw [hg6]
 clear hst2 hb2 hX6 hbq CW hX2 hX3 hX4 hbY hg6
 go_upto_region 2 with fail
 refine wl <| gz2 (.bool true) (.bool false) <| wn ?_
 simp only [pu]
 obtain ⟨a6, c6, Y3, hap, hr6, hb6⟩ := copy_pl (c := cp) (HPL.out.below HB2.out) (by rw [HLN.out]; have := HNB.out; omega)
 rw [HLN.out] at hap hr6
 have hbd := nil_pl Y2
 have hX2N := hX2V.below hX2V.lt ((Below.refl _ Y2).alloc (Nat.le_refl _) (.cells #[] 73))
 have HB3 := Lib.hid (HB2.out.trans (hb6.mono HB2.out.size))
 have hX2W := hX2V.below hX2V.lt hb6
 have hX3W := hX3V.below hX3V.lt hb6
 have hX4W := hX4V.below hX4V.lt hb6
 have HY3 : Hid (Y2.heap.size ≤ Y3.heap.size) := Lib.hid hb6.size
 clear hX3V hX4V hb6
 go_upto_region 4 with fail
 apply wp_region_lit
 refine gw_build (by kernel_rfl) (some 18) rfl 26 0 #[] rfl #[] (by kernel_rfl) (.slice (some ⟨Y2.heap.size, 0, none⟩) 0 0) _ hbd ?_
 simp only [pu]
 refine gz1 (.pointer (some ⟨g2, 1, none⟩)) <| gzl rfl ⟨g2, 1, none⟩ (.slice ap n cp) (hX2N.load (i := 1) rfl (by kernel_rfl)) ?_
 simp only [pu]
 refine append_step rfl (some 21) rfl 26 rfl (.tmp 18) (.tmp 20) 26 rfl (.slice (some ⟨Y2.heap.size, 0, none⟩) 0 0) (.slice ap n cp) (.slice a6 n c6) Y3 (by kernel_rfl) (by kernel_rfl) hap ?_
 simp only [pu]
 refine gz1 (.slice a6 n c6) <| wn ?_
 simp only [pu]
 clear hap hbd hX2V hX2N
 have hil : i < L.length := by rw [HLN.out]; exact hi
 obtain ⟨b, hab, hBb, hrg⟩ := hr6.rg hil
 obtain rfl := hab
 obtain ⟨z9, hz9⟩ : ∃ z, (L.getD i zPA) = z := ⟨_, rfl⟩
 have hu9 := HU7.out
 rw [hz9] at hrg hu9
 go_upto_region 5 with fail
 refine wp_region_class_tail (C := fun U => Below Y3.heap.size Y3 U) 11 (by kernel_rfl) (by kernel_rfl) ((Below.refl _ Y3).drew) ?_
 simp only [List.take_succ_cons, List.take_zero, List.drop_succ_cons, List.drop_zero]
 refine gy (.slice (some ⟨b, 0, none⟩) n c6) <| gy (.pointer (some ⟨g3, 0, none⟩)) <| gyl rfl ⟨g3, 0, none⟩ (.int .i64 i) (fun U hU => (hX3W.below hX3W.lt hU).load (i := 0) rfl (by kernel_rfl)) <| gy (.slice (some ⟨b, 0, none⟩) n c6) <| gy (.pointer (some ⟨g3, 0, none⟩)) <|
   gyl rfl ⟨g3, 0, none⟩ (.int .i64 i) (fun U hU => (hX3W.below hX3W.lt hU).load (i := 0) rfl (by kernel_rfl)) <| gyv (.pointer (some ⟨b, 0 + i * 43, none⟩)) (fun U hU => idx_pl b 0 n c6 i hi U _ _ rfl (by kernel_rfl) (by kernel_rfl)) <| gy (.pointer (some ⟨b, 0 + i * 43 + 1, none⟩)) <|
   gyl rfl ⟨b, 0 + i * 43 + 1, none⟩ (.int .i64 us) (fun U hU => rg_cell (rg_below hrg hU) (j := 1) (by rw [← hu9]; rfl) (by kernel_rfl)) <| gy (.agg (plA (⟨false, us, zEn⟩, zAd))) <|
   gyv (.pointer (some ⟨b, 0 + i * 43, none⟩)) (fun U hU => idx_pl b 0 n c6 i hi U _ _ rfl (by kernel_rfl) (by kernel_rfl)) ?_
 simp only [pu]
 apply wpQuiet_nil
 intro Y4 hV4
 have hr7 := hr6.below hV4
 obtain ⟨Y5, hst5, hr8, hb8, hbt8⟩ := set_pl hr7 HLN.out.symm (i := i) hil hBb (⟨false, us, zEn⟩, zAd)
 refine gzs rfl hst5 <| wn ?_
 have hbW : W.heap.size ≤ b := by have := HYS.out; omega
 have hX2Z := (hX2W.below hX2W.lt hV4).but hbt8 (by have := HGE.out; omega)
 have hX3Z := (hX3W.below hX3W.lt hV4).but hbt8 (by have := HGE.out; omega)
 have hX4Z := (hX4W.below hX4W.lt hV4).but hbt8 (by have := HGE.out; omega)
 have hBY : Below Y2.heap.size Y3 Y5 := (hV4.mono HY3.out).trans hb8
 have HB5 := Lib.hid (HB3.out.trans (hBY.mono HB2.out.size))
 have HFL5 := HFL.out.below HB5.out
 have h4lt := hX4Z.lt
 have h0 := CI.start (F := F) (i := (i : Int)) (mk := fun v => #[.int .i64 mo, .slice (some ⟨b, 0, none⟩) n c6, v]) (x0 := undef) (x1 := undef) (xk := undef) (x2 := undef) (xb := undef) h4lt hX4Z
 have HX2 := Lib.hid hX2Z
 have HX3 := Lib.hid hX3Z
 have HR8 := Lib.hid hr8
 have HFC := Lib.hid HFL5
 have HYZ : Hid (w.heap.size ≤ Y5.heap.size ∧ b < Y5.heap.size ∧ g2 ≠ g4 ∧ g3 ≠ g4 ∧ g4 ≠ b ∧ w.heap.size ≤ g4) := Lib.hid ⟨HB5.out.size, (hr8.lt b rfl).2, by have := HGE.out; omega, by have := HGE.out; omega, by have := HGE.out; omega, by have := HGE.out; omega⟩
 clear hr6 hX2W hX3W hX4W hrg hV4 hr7 hst5 hr8 hb8 hbt8 hX2Z hX3Z hX4Z hBY HFL5 h4lt
 go_upto_region 6 with fail
 refine wp_region_inv (fun listed act9 V => ∃ b0 b1 b2 b3 b4 b5 b6 b7 b8 b9 b10 b11 b12 b13 : Bool, ∃ x36 x39 x42 x43 x44 : Value, listed = #[b0, b1, b2, b3, b4, b5, b6, b7, b8, b9, b10, b11, b12, b13] ∧ act9 = { tmps := #[.agg (rsA mo ap n cp af nf cf), .agg #[.int .i64 i, .int .i64 y], .pointer (some ⟨g2, 0, none⟩), .pointer (some ⟨g3, 0, none⟩), .pointer (some ⟨g4, 0, none⟩), (cond b13 (.bool true) (.bool false)), .pointer (some ⟨g6, 0, none⟩), .bool true, .slice (some ⟨b, 0, none⟩) n c6, .tuple #[.agg (enA E dz), .bool true], .agg (rsA mo ap n cp af nf cf), .agg #[.int .i64 i, .int .i64 y], .tuple #[.agg (enA E dz), .bool true], .agg (enA E dz), .bool true, .bool true, .bool false, undef, .slice (some ⟨Y2.heap.size, 0, none⟩) 0 0, .pointer (some ⟨g2, 1, none⟩), .slice ap n cp, .slice (some ⟨b, 0, none⟩) n c6, .slice (some ⟨b, 0, none⟩) n c6, .pointer (some ⟨g3, 0, none⟩), .int .i64 i, .slice (some ⟨b, 0, none⟩) n c6, .pointer (some ⟨g3, 0, none⟩), .int .i64 i, .pointer (some ⟨b, 0 + i * 43, none⟩), .pointer (some ⟨b, 0 + i * 43 + 1, none⟩), .int .i64 us, .agg (plA (⟨false, us, zEn⟩, zAd)), .pointer (some ⟨b, 0 + i * 43, none⟩), (cond b0 (.pointer (some ⟨g2, 0, none⟩)) undef), (cond b1 (.int .i64 mo) undef), (cond b2 (.slice (some ⟨b, 0, none⟩) n c6) undef), x36, (cond b4 (.pointer (some ⟨g2, 2, none⟩)) undef), (cond b5 (.slice af nf cf) undef), x39, (cond b7 (.pointer (some ⟨g3, 0, none⟩)) undef), (cond b8 (.int .i64 i) undef), x42, x43, x44], defers := [] } ∧ CI Y5 g4 28 (rsA 0 none 0 0 none 0 0) F (i : Int) (fun v => #[.int .i64 mo, .slice (some ⟨b, 0, none⟩) n c6, v]) b3 b6 b9 b10 b11 b12 x36 x39 x42 x43 x44 V) (by kernel_rfl) (by kernel_rfl) ?_ ?_ ?_
 ·exact ⟨false, false, false, false, false, false, false, false, false, false, false, false, false, false, undef, undef, undef, undef, undef, rfl, rfl, h0⟩
 ·intro i9 listed act9 V hi9 hr hJ
  obtain ⟨b0, b1, b2, b3, b4, b5, b6, b7, b8, b9, b10, b11, b12, b13, x36, x39, x42, x43, x44, rfl, rfl, hF⟩ := hJ
  have hi2 : i9 < 14 := hi9
  have hi3 : i9 = 0 ∨ i9 = 1 ∨ i9 = 2 ∨ i9 = 3 ∨ i9 = 4 ∨ i9 = 5 ∨ i9 = 6 ∨ i9 = 7 ∨ i9 = 8 ∨ i9 = 9 ∨ i9 = 10 ∨ i9 = 11 ∨ i9 = 12 ∨ i9 = 13 := by omega
  rcases hi3 with rfl | rfl | rfl | rfl | rfl | rfl | rfl | rfl | rfl | rfl | rfl | rfl | rfl | rfl
  ·obtain rfl : b0 = false := ready_self hr
   refine st_val rfl (by kernel_rfl) (some 33) rfl (.pointer (some ⟨g2, 0, none⟩)) V (by kernel_rfl) ?_
   exact ⟨true, b1, b2, b3, b4, b5, b6, b7, b8, b9, b10, b11, b12, b13, x36, x39, x42, x43, x44, rfl, rfl, hF⟩
  ·obtain rfl : b1 = false := ready_self hr
   obtain rfl : b0 = true := ready_dep hr 0 (by kernel_rfl)
   refine st_load rfl (by kernel_rfl) (some 34) rfl 3 (.tmp 33) rfl ⟨g2, 0, none⟩ (.int .i64 mo) (by kernel_rfl) ((HX2.out.but hF.but HYZ.out.2.2.1).load (i := 0) rfl (by kernel_rfl)) ?_
   exact ⟨true, true, b2, b3, b4, b5, b6, b7, b8, b9, b10, b11, b12, b13, _, _, _, _, _, rfl, rfl, hF⟩
  ·obtain rfl : b2 = false := ready_self hr
   refine st_val rfl (by kernel_rfl) (some 35) rfl (.slice (some ⟨b, 0, none⟩) n c6) V (by kernel_rfl) ?_
   exact ⟨b0, b1, true, b3, b4, b5, b6, b7, b8, b9, b10, b11, b12, b13, x36, x39, x42, x43, x44, rfl, rfl, hF⟩
  ·obtain rfl : b3 = false := ready_self hr
   obtain ⟨rfl, rfl, rfl, rfl⟩ := hF.n0
   refine st_build rfl (by kernel_rfl) (some 36) rfl 22 0 #[] rfl #[] (by kernel_rfl) (.slice (some ⟨V.heap.size, 0, none⟩) 0 0) _ (nil_int V) ?_
   exact ⟨b0, b1, b2, true, b4, b5, false, b7, b8, b9, false, false, false, b13, _, _, _, _, _, rfl, rfl, hF.nil⟩
  ·obtain rfl : b4 = false := ready_self hr
   refine st_val rfl (by kernel_rfl) (some 37) rfl (.pointer (some ⟨g2, 2, none⟩)) V (by kernel_rfl) ?_
   exact ⟨b0, b1, b2, b3, true, b5, b6, b7, b8, b9, b10, b11, b12, b13, x36, x39, x42, x43, x44, rfl, rfl, hF⟩
  ·obtain rfl : b5 = false := ready_self hr
   obtain rfl : b4 = true := ready_dep hr 4 (by kernel_rfl)
   refine st_load rfl (by kernel_rfl) (some 38) rfl 22 (.tmp 37) rfl ⟨g2, 2, none⟩ (.slice af nf cf) (by kernel_rfl) ((HX2.out.but hF.but HYZ.out.2.2.1).load (i := 2) rfl (by kernel_rfl)) ?_
   exact ⟨b0, b1, b2, b3, true, true, b6, b7, b8, b9, b10, b11, b12, b13, _, _, _, _, _, rfl, rfl, hF⟩
  ·obtain rfl : b6 = false := ready_self hr
   obtain rfl : b3 = true := ready_dep hr 3 (by kernel_rfl)
   obtain rfl : b5 = true := ready_dep hr 5 (by kernel_rfl)
   obtain ⟨rfl, rfl, rfl⟩ := hF.n1
   obtain ⟨v9, V9, hap9, hO9, hb9, hg9, hat9⟩ := (hF.r0 rfl rfl).app hF.but.1.size af nf cf F (cs_same HFC.out fun k hk => hF.but.2 k (cs_rlt HFC.out k hk) (by have := cs_rlt HFL.out k hk; have := HYZ.out; omega)) HF.out (by simp) (by have := HNB.out; omega)
   refine st_append rfl (by kernel_rfl) (some 39) rfl 22 rfl (.tmp 36) (.tmp 38) 22 rfl x36 (.slice af nf cf) v9 V9 (by kernel_rfl) (by kernel_rfl) hap9 ?_
   exact ⟨b0, b1, b2, true, b4, true, true, b7, b8, b9, false, false, false, b13, _, _, _, _, _, rfl, rfl, hF.one hO9 hg9 hat9 hb9⟩
  ·obtain rfl : b7 = false := ready_self hr
   refine st_val rfl (by kernel_rfl) (some 40) rfl (.pointer (some ⟨g3, 0, none⟩)) V (by kernel_rfl) ?_
   exact ⟨b0, b1, b2, b3, b4, b5, b6, true, b8, b9, b10, b11, b12, b13, x36, x39, x42, x43, x44, rfl, rfl, hF⟩
  ·obtain rfl : b8 = false := ready_self hr
   obtain rfl : b7 = true := ready_dep hr 7 (by kernel_rfl)
   refine st_load rfl (by kernel_rfl) (some 41) rfl 3 (.tmp 40) rfl ⟨g3, 0, none⟩ (.int .i64 i) (by kernel_rfl) ((HX3.out.but hF.but HYZ.out.2.2.2.1).load (i := 0) rfl (by kernel_rfl)) ?_
   exact ⟨b0, b1, b2, b3, b4, b5, b6, true, true, b9, b10, b11, b12, b13, _, _, _, _, _, rfl, rfl, hF⟩
  ·obtain rfl : b9 = false := ready_self hr
   obtain rfl : b8 = true := ready_dep hr 8 (by kernel_rfl)
   obtain ⟨rfl, rfl, rfl⟩ := hF.nk2
   refine st_build rfl (by kernel_rfl) (some 42) rfl 22 1 #[(0, .tmp 41)] rfl #[(0, .int .i64 i)] (by kernel_rfl) (.slice (some ⟨V.heap.size, 0, none⟩) 1 1) _ (one_int i V) ?_
   exact ⟨b0, b1, b2, b3, b4, b5, b6, b7, true, true, false, false, false, b13, _, _, _, _, _, rfl, rfl, hF.key⟩
  ·obtain rfl : b10 = false := ready_self hr
   obtain rfl : b6 = true := ready_dep hr 6 (by kernel_rfl)
   obtain rfl : b9 = true := ready_dep hr 9 (by kernel_rfl)
   obtain ⟨rfl, rfl⟩ := hF.n2
   obtain ⟨gk9, rfl, hxk, -, -, -⟩ := hF.kx rfl
   obtain ⟨v9, V9, hap9, hO9, hb9, hg9, hat9⟩ := (hF.r1 rfl rfl).app hF.but.1.size (some ⟨gk9, 0, none⟩) 1 1 [(i : Int)] (Cs.block (cs := [.int .i64 i]) hxk) rfl (by rw [HF.out]; have := HNB.out; omega) (by omega)
   refine st_append rfl (by kernel_rfl) (some 43) rfl 22 rfl (.tmp 39) (.tmp 42) 22 rfl x39 (.slice (some ⟨gk9, 0, none⟩) 1 1) v9 V9 (by kernel_rfl) (by kernel_rfl) hap9 ?_
   exact ⟨b0, b1, b2, b3, b4, b5, true, b7, b8, true, true, false, false, b13, _, _, _, _, _, rfl, rfl, hF.two hO9 hg9 hat9 hb9⟩
  ·obtain rfl : b11 = false := ready_self hr
   obtain rfl : b1 = true := ready_dep hr 1 (by kernel_rfl)
   obtain rfl : b2 = true := ready_dep hr 2 (by kernel_rfl)
   obtain rfl : b10 = true := ready_dep hr 10 (by kernel_rfl)
   obtain rfl := hF.nb
   refine st_val rfl (by kernel_rfl) (some 44) rfl (.agg ((fun v => #[.int .i64 mo, .slice (some ⟨b, 0, none⟩) n c6, v]) x43)) V (mk_rs rfl mo _ x43 (by kernel_rfl) (by kernel_rfl) (by kernel_rfl) (own_vs (hF.r2 rfl)) V) ?_
   exact ⟨b0, true, true, b3, b4, b5, b6, b7, b8, b9, true, true, false, b13, _, _, _, _, _, rfl, rfl, hF.build⟩
  ·obtain rfl : b12 = false := ready_self hr
   obtain rfl : b11 = true := ready_dep hr 11 (by kernel_rfl)
   obtain rfl := hF.bx rfl
   obtain rfl := hF.cb rfl
   obtain rfl := hF.c2 rfl
   obtain ⟨V9, hst9, hF9⟩ := hF.store rfl (mk_one (own_vs (hF.r2 rfl))) (by kernel_rfl) rfl
   refine st_storeA rfl (by kernel_rfl) rfl 28 (.tmp 4) (.tmp 44) rfl (.pointer (some ⟨g4, 0, none⟩)) (.agg ((fun v => #[.int .i64 mo, .slice (some ⟨b, 0, none⟩) n c6, v]) x43)) (by kernel_rfl) (by kernel_rfl) V9 hst9 ?_
   exact ⟨b0, b1, b2, b3, b4, b5, true, b7, b8, b9, true, true, true, b13, _, _, _, _, _, rfl, rfl, hF9⟩
  ·obtain rfl : b13 = false := ready_self hr
   refine st_val rfl (by kernel_rfl) (some 5) rfl (.bool true) V (by kernel_rfl) ?_
   exact ⟨b0, b1, b2, b3, b4, b5, b6, b7, b8, b9, b10, b11, b12, true, x36, x39, x42, x43, x44, rfl, rfl, hF⟩
 ·intro act9 V hJ
  obtain ⟨b0, b1, b2, b3, b4, b5, b6, b7, b8, b9, b10, b11, b12, b13, x36, x39, x42, x43, x44, he, rfl, hF⟩ := hJ
  have he : (#[true, true, true, true, true, true, true, true, true, true, true, true, true, true] : Array Bool) = #[b0, b1, b2, b3, b4, b5, b6, b7, b8, b9, b10, b11, b12, b13] := he
  simp only [Array.mk.injEq, List.cons.injEq, and_true] at he
  obtain ⟨rfl, rfl, rfl, rfl, rfl, rfl, rfl, rfl, rfl, rfl, rfl, rfl, rfl, rfl⟩ := he
  simp only [cond_true]
  have hO := hF.r2 rfl
  have hY := hF.fin rfl
  obtain ⟨a9, c9, rfl, -, -⟩ := own_cs hO
  have hlF : (F ++ [(i : Int)]).length = nf + 1 := by rw [List.length_append, HF.out]; rfl
  unfold RowI at hO
  rw [hlF] at hO hY
  have hrZ : RowP V w.heap.size (.slice (some ⟨b, 0, none⟩) n c6) (L.set i (⟨false, us, zEn⟩, zAd)) := own_base (own_same2 HR8.out fun x hx => by cases hx; exact hF.but.2 b HYZ.out.2.1 (Ne.symm HYZ.out.2.2.2.2.1)) HB2.out.size
  have hE : Below w.heap.size w V := HB5.out.trans (hF.but.1.mono HYZ.out.2.2.2.2.2)
  have HE := Lib.hid (And.intro hrZ (And.intro (own_base (B := w.heap.size) hO HYZ.out.1) hE))
  clear hrZ hE hO hF
  go_wp2_with fail
  exact bodyPost_ret (results_c rfl (by kernel_rfl) (load_rs hY) (by kernel_rfl)) rfl ⟨_, _, _, _, rfl, HE.out⟩
end Go.Proofs.Ytmpajgaanghpoaa
