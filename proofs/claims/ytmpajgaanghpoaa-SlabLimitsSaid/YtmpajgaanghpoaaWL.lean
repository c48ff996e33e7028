/-
 The walk of SlabLimits.
-/
import Derived.Test.YtmpajgaanghpoaaKN
namespace Go.Proofs.Ytmpajgaanghpoaa
attribute [local irreducible] wpList wpQuiet
open Go.RowKit
set_option maxRecDepth 100000
set_option linter.unusedSimpArgs false
set_option linter.unusedVariables false

/-- The store with i additions of the entry of nothing. -/
structure Lim (mo : Nat) (i : Nat) (m : Sm) : Prop where
 wm : Wm m i
 em : m.mo = mo
 cnt : cntL m.P = min i mo
theorem Lim.start (n : Int) : Lim (capS n) 0 (newS n) := ⟨Wm.new n 0, rfl, by show 0 = min 0 _; omega⟩
theorem Lim.next {mo i : Nat} {m : Sm} (h : Lim mo i m) : Lim mo (i + 1) (addS m zEn) := by
 obtain ⟨h1, h2⟩ := cnt_add h.wm zEn
 refine ⟨h.wm.add EnB.z, by rw [h2, h.em], ?_⟩
 rw [h1, h.cnt]
 unfold addO
 rw [h.cnt, h.em]
 by_cases hq : min i mo < mo
 ·rw [decide_eq_true hq, if_pos rfl]; omega
 ·rw [decide_eq_false hq, if_neg (by decide)]; omega
set_option maxRecDepth 100000 in
set_option maxHeartbeats 8000000 in
theorem limits_core (x : Int) (q : Int × Int) (w : World) (hw : (Lit.int .i64 x).wf = true) : Calls Try.prog 7 #[.int .i64 x, .agg #[.int .i64 q.1, .int .i64 q.2]] w fun e w' => e = .returned (.bool true) ∧ Below w.heap.size w w' := by
 clear hw
 have hp := pl_range x 4 (by decide)
 have CP := fun V => mk_place x 4 V (by decide) (by decide)
 obtain ⟨y, hy⟩ : ∃ y : Int, pl x 4 = y := ⟨_, rfl⟩
 rw [hy] at hp
 simp only [hy] at CP
 have HY : Hid (0 ≤ y ∧ y < 4) := Lib.hid hp
 clear hy hp
 go_enter Try.func7, Try.ntmps7
 go_upto_region 1 with fail
 change Code.wp _ _ _ _ (w.alloc (.cells #[.int .i64 q.1, .int .i64 q.2] 33))
 have hb_0 : Below w.heap.size w (w.alloc (.cells #[.int .i64 q.1, .int .i64 q.2] 33)) := (Below.refl _ w).alloc (Nat.le_refl _) _
 have hX3 : Bx (w.alloc (.cells #[.int .i64 q.1, .int .i64 q.2] 33)) w.heap.size #[.int .i64 q.1, .int .i64 q.2] 33 := heap_alloc_last w _
 have hs_0 : (w.alloc (.cells #[.int .i64 q.1, .int .i64 q.2] 33)).heap.size = w.heap.size + 1 := by simp
 generalize w.alloc (.cells #[.int .i64 q.1, .int .i64 q.2] 33) = W at *
 obtain ⟨g3, hg3⟩ : ∃ g, w.heap.size = g := ⟨_, rfl⟩
 rw [hg3] at hX3
 have HGE : Hid (g3 = w.heap.size + 0 ∧ W.heap.size = w.heap.size + 1) := Lib.hid ⟨by omega, by omega⟩
 have HB := Lib.hid hb_0
 simp only [hg3]
 clear hb_0 hs_0 hg3
 have CN := q_new (511 + y) W
 refine wl <| gz1 (.int .i64 x) <| gzc (.int .i64 y) (fun w' => W = w') (CP W) (fun V9 hV9 => ?_)
 subst hV9
 simp only [pu]
 refine gzw (.int .i64 (511 + y)) (add_i rfl 511 y (by have := HY.out; omega)) <|
  gze (fun v w' => ∃ g S, v = .pointer (some ⟨g, 0, none⟩) ∧ RepS w' g S (newS (511 + y)) ∧ (∀ j, S j → W.heap.size ≤ j) ∧ Below W.heap.size W w') (CN.mono fun e w' z => by obtain ⟨g, S, z1, z2⟩ := z; exact ⟨_, z1, g, S, rfl, z2⟩) (fun vv V1 hq => ?_)
 obtain ⟨g0, S0, rfl, hr0, hso, hb0⟩ := hq
 simp only [pu]
 refine gz1 (.pointer (some ⟨g0, 0, none⟩)) <| wn ?_
 simp only [pu]
 have HS0 : Hid (Stt W.heap.size w g0 S0 (newS (511 + y)) V1) := Lib.hid ⟨hr0, hso, hb0.size, HB.out.trans (hb0.mono HB.out.size), HB.out.size⟩
 have HX0 : Hid (BxO V1 S0 g3 #[.int .i64 q.1, .int .i64 q.2] 33) := Lib.hid ⟨hX3.below hX3.lt hb0, fun hs => by have := hso _ hs; have := hX3.lt; omega⟩
 have HL0 : Hid (Lim (capS (511 + y)) 0 (newS (511 + y))) := Lib.hid (Lim.start _)
 obtain ⟨mo, hmo⟩ : ∃ m, capS (511 + y) = m := ⟨_, rfl⟩
 have HMO : Hid ((mo : Int) = min (511 + y) 512 ∧ mo ≤ 512) := Lib.hid (by rw [← hmo]; have := HY.out; unfold capS; omega)
 rw [hmo] at HL0
 obtain ⟨m0, hm0⟩ : ∃ m, newS (511 + y) = m := ⟨_, rfl⟩
 rw [hm0] at HS0 HL0
 clear hr0 hso hb0 CN hX3 hmo hm0
 go_upto_region 2 with fail
 refine wl <| gz2 (.pointer (some ⟨g0, 0, none⟩)) (.bool false) <| wn ?_
 simp only [pu]
 go_upto_region 4 with fail
 refine wl <| gz1 (.int .i64 0) <| wn ?_
 simp only [pu]
 go_wp2_with fail
 go_loopg [6] 513 (fun gg s6 wx => ∃ (i : Nat) (S : Nat → Prop) (m : Sm), s6 = .int .i64 i ∧ i ≤ 513 ∧ gg + i = 513 ∧ Hid (Stt W.heap.size w g0 S m wx) ∧ Hid (BxO wx S g3 #[.int .i64 q.1, .int .i64 q.2] 33) ∧ Hid (Lim mo i m))
 case atStart => exact ⟨0, S0, m0, rfl, by omega, by omega, HS0, HX0, HL0⟩
 case round =>
  obtain ⟨i, S, m, rfl, hin, hg, HS, HX, HL⟩ := hrel
  clear HS0 HX0 HL0
  have HGK : Hid (gk + i = 513) := Lib.hid hg
  clear hg
  by_cases hlt : i < 513
  ·skip
   go_upto_region 5 with fail
   refine wl <| gz1 (.int .i64 i) <| gzb (lss_n rfl (i) (513) dT) <| wn ?_
   simp only [pu]
   have CA := q_add (e := zEn) (d := zAd) HS.out.rep HL.out.wm (EnI.z _) EnB.z (fun k hk => (EB.z hk).elim) HS.out.so HS.out.bz
   go_upto_region 7 with fail
   refine wl <| gz2 (.pointer (some ⟨g0, 0, none⟩)) (.agg (enA zEn zAd)) <| gzc (.tuple #[.agg #[.int .i64 (addH m).1, .int .i64 (addH m).2], .bool (addO m)]) (fun w' => UpdS g0 W.heap.size S (addS m zEn) wr w') (CA) (fun V2 hu => ?_)
   obtain ⟨S2, hs2, hk2, hb2⟩ := HS.out.upd hu
   have HS2 := Lib.hid hs2
   have HX2 := Lib.hid (HX.out.upd hk2 hb2)
   have HL2 := Lib.hid HL.out.next
   simp only [pu]
   apply wpList_nil
   clear CA hs2 hk2 hb2 HS HX
   go_upto_region 6 with fail
   refine wl <| gz1 (.int .i64 i) <| gzv (.int .i64 (i + 1 : Nat)) (add_one rfl i (by omega) (by kernel_rfl) _) <| gz1 (.int .i64 (i + 1 : Nat)) <| wn ?_
   simp only [pu]
   go_wp2_with fail
   go_roundg (513 - (i + 1))
   case measure => have := HGK.out; omega
   case rel => exact ⟨i + 1, S2, addS m zEn, rfl, by omega, by omega, HS2, HX2, HL2⟩
  ·skip
   obtain rfl : i = 513 := by omega
   go_upto_region 5 with fail
   refine wl <| gz1 (.int .i64 (513 : Nat)) <| gzb (lss_n rfl ((513 : Nat)) (513) (decide_eq_false (by decide))) <| wn ?_
   simp only [pu]
   go_upto_region 8 with fail
   refine wl <| gz1 (.pointer none) <| wn ?_
   simp only [pu]
   have CA := n_add zEn zAd wr
   go_upto_region 9 with fail
   refine wl <| gz2 (.pointer none) (.agg (enA zEn zAd)) <| gzc (.tuple #[.agg #[.int .i64 0, .int .i64 0], .bool false]) (fun w' => Below wr.heap.size wr w') (CA) (fun V2 hb2 => ?_)
   obtain ⟨V3, hst3, hb3, hX8⟩ := new_bx (c := #[.int .i64 0, .int .i64 0]) (c' := #[.int .i64 0, .int .i64 0]) (ty := 33) V2 rfl (by simp [Value.oneCell']) (by kernel_rfl)
   simp only [pu]
   refine gz3 (.tuple #[.agg #[.int .i64 0, .int .i64 0], .bool false]) (.agg #[.int .i64 0, .int .i64 0]) (.bool false) ?_
   simp only [pu]
   refine run_to rfl (some 8) rfl (.pointer (some ⟨V2.heap.size, 0, none⟩)) (V2.alloc (.cells (#[.int .i64 0, .int .i64 0]) 33)) (by kernel_rfl) ?_
   simp only [pu]
   refine gzs rfl (hst3) <| gz1 (.bool false) <| wn ?_
   simp only [pu]
   have hb23 := hb2.trans (hb3.mono hb2.size)
   have HS3 := Lib.hid (HS.out.below hb23)
   have HX3 := Lib.hid (HX.out.below hb23)
   obtain ⟨g8, hg8⟩ : ∃ g, V2.heap.size = g := ⟨_, rfl⟩
   rw [hg8]
   clear hst3 hb3 hX8 hb23 hb2 HS HX CA hg8
   have CG := n_get q V3
   go_upto_region 10 with fail
   refine wl <| gz1 (.pointer none) <| gzl rfl ⟨g3, 0, none⟩ (.agg #[.int .i64 q.1, .int .i64 q.2]) (load_hn (x := q) (bx_range (cs := hnl q) HX3.out.bx)) <| gzc (.tuple #[.agg (enA zEn zAd), .bool false]) (fun w' => Below V3.heap.size V3 w') (CG) (fun V4 hb4 => ?_)
   obtain ⟨V5, hst5, hb5, hX10⟩ := new_bx (c := enA zEn zAd) (c' := enA zEn zAd) (ty := 44) V4 rfl (enA_one _ _) (by kernel_rfl)
   simp only [pu]
   refine gz3 (.tuple #[.agg (enA zEn zAd), .bool false]) (.agg (enA zEn zAd)) (.bool false) ?_
   simp only [pu]
   refine run_to rfl (some 10) rfl (.pointer (some ⟨V4.heap.size, 0, none⟩)) (V4.alloc (.cells (enA zEn zAd) 44)) (by kernel_rfl) ?_
   simp only [pu]
   refine gzs rfl (hst5) <| gz1 (.bool false) <| wn ?_
   simp only [pu]
   have hb45 := hb4.trans (hb5.mono hb4.size)
   have HS5 := Lib.hid (HS3.out.below hb45)
   have HX5 := Lib.hid (HX3.out.below hb45)
   obtain ⟨g10, hg10⟩ : ∃ g, V4.heap.size = g := ⟨_, rfl⟩
   rw [hg10]
   clear hst5 hb5 hX10 hb45 hb4 HS3 HX3 CG hg10
   have CL := r_len HS5.out.rep
   have hcnt : ((cntL m.P : Nat) : Int) = min (511 + y) 512 := by rw [HL.out.cnt]; have := HMO.out; omega
   rw [hcnt] at CL
   have CPl := CP V5
   have CR := n_rem q V5
   go_upto_region 11 with fail
   refine wl <| gz1 (.pointer (some ⟨g0, 0, none⟩)) <| gzc (.int .i64 (min (511 + y) 512)) (fun w' => V5 = w') (CL) (fun V9 hV9 => ?_)
   subst hV9
   simp only [pu]
   refine gz1 (.int .i64 x) <| gzc (.int .i64 y) (fun w' => V5 = w') (CPl) (fun V9 hV9 => ?_)
   subst hV9
   simp only [pu]
   refine gzw (.int .i64 (511 + y)) (add_i rfl 511 y (by have := HY.out; omega)) <| gzw (.int .i64 (min (511 + y) 512)) (min_i rfl (511 + y) 512) <|
    gzb (eql_n rfl ((min (511 + y) 512)) ((min (511 + y) 512)) (decide_eq_true (rfl))) <| gz6 (.bool true) (.bool false) (.bool true) (.bool true) (.bool true) (.bool false) <| gz4 (.bool true) (.bool true) (.bool true) (.pointer none) <|
    gzl rfl ⟨g3, 0, none⟩ (.agg #[.int .i64 q.1, .int .i64 q.2]) (load_hn (x := q) (bx_range (cs := hnl q) HX5.out.bx)) <| gzc (.bool false) (fun w' => Below V5.heap.size V5 w') (CR) (fun V6 hb6 => ?_)
   have CH := n_han V6
   simp only [pu]
   refine gz4 (.bool true) (.bool true) (.bool true) (.pointer none) <| gzc (.slice none 0 0) (fun w' => Below V6.heap.size V6 w') (CH) (fun V7 hb7 => ?_)
   have CN := n_len V7
   simp only [pu]
   refine gz1 (.int .i64 0) <| gzb (eql_n rfl (0) (0) (decide_eq_true (rfl))) <| gz3 (.bool true) (.bool true) (.pointer none) <| gzc (.int .i64 0) (fun w' => Below V7.heap.size V7 w') (CN) (fun V8 hb8 => ?_)
   have CB := n_byt V8
   simp only [pu]
   refine gzb (eql_n rfl (0) (0) (decide_eq_true (rfl))) <| gz3 (.bool true) (.bool true) (.pointer none) <| gzc (.int .i64 0) (fun w' => Below V8.heap.size V8 w') (CB) (fun V9 hb9 => ?_)
   have CK := known_true V9
   simp only [pu]
   refine gzb (eql_n rfl (0) (0) (decide_eq_true (rfl))) <| gz2 (.bool true) (.bool true) <| gzc (.bool true) (fun w' => Below V9.heap.size V9 w') (CK) (fun V10 hb10 => ?_)
   simp only [pu]
   refine gz2 (.bool true) (.bool true) <| wn ?_
   simp only [pu]
   have h1 := hb6.trans (hb7.mono hb6.size)
   have h2 := h1.trans (hb8.mono h1.size)
   have h3 := h2.trans (hb9.mono h2.size)
   have h4 := h3.trans (hb10.mono h3.size)
   have HE := Lib.hid (HS5.out.bel.trans (h4.mono HS5.out.bel.size))
   clear h1 h2 h3 h4 hb6 hb7 hb8 hb9 hb10
   go_wp2_with fail
   go_ret
   exact ⟨rfl, HE.out⟩
end Go.Proofs.Ytmpajgaanghpoaa
