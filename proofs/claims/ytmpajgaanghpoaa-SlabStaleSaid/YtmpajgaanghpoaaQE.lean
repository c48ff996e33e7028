/-
 The program's Remove and Get: contracts.
-/
import Derived.Test.YtmpajgaanghpoaaQD
namespace Go.Proofs.Ytmpajgaanghpoaa
attribute [local irreducible] wpList wpQuiet
open Go.RowKit
set_option maxRecDepth 100000
set_option linter.unusedSimpArgs false
set_option linter.unusedVariables false

structure RmS (B g g3 : Nat) (a0 : Option Addr) (T0 : List Sn) (w : World) (q : Int × Int) (a : Option Addr) (c : Nat) (T : List Sn) (mo fr ln bt : Int) (V : World) : Prop where
 gm : Gm B g a0 T0 w a c T mo fr ln bt V
 b3 : Bx V g3 #[.int .i64 q.1, .int .i64 q.2] 33
 n3 : ¬ Sp g a T g3
section
variable {B g g3 : Nat} {a0 : Option Addr} {T0 : List Sn} {w : World} {q : Int × Int} {a a1 : Option Addr} {c c1 : Nat} {T T1 : List Sn} {mo fr ln bt mo1 fr1 ln1 bt1 : Int} {V V1 : World}
theorem RmS.step (h : RmS B g g3 a0 T0 w q a c T mo fr ln bt V) (k : Gm B g a T V a1 c1 T1 mo1 fr1 ln1 bt1 V1) : RmS B g g3 a0 T0 w q a1 c1 T1 mo1 fr1 ln1 bt1 V1 :=
 ⟨h.gm.trans k, h.b3.buts k.but h.n3, fun h2 => (k.sub _ h2).elim h.n3 (by have := h.b3.lt; omega)⟩
theorem RmS.below (h : RmS B g g3 a0 T0 w q a c T mo fr ln bt V) (hw : B ≤ w.heap.size) (hb : Below V.heap.size V V1) : RmS B g g3 a0 T0 w q a c T mo fr ln bt V1 := h.step (Gm.below h.gm.mem hb (h.gm.but.1.size |> Nat.le_trans hw))
end
theorem sl_full_store (x y : Sn) : (sll x).take 0 ++ sll y ++ (sll x).drop (0 + (sll y).length) = sll y := by kernel_rfl
theorem slA_one (x : Sn) : (slA x).all (·.oneCell') = true := by kernel_rfl
theorem siz_rem {m : Sm} {q : Int × Int} (hv : valS m q = true) {i : Nat} (hi : q.1 = i) : sizL (remS m q).P + (m.P.getD i zPn).e.raw.length = sizL m.P := by
 obtain ⟨i2, hi2, hil, hf, hu⟩ := val_iff hv
 obtain rfl : i2 = i := by omega
 rw [rem_yes hv hi]
 have hc := siz_set m.P i2 ⟨false, (m.P.getD i2 zPn).us, zEn⟩ hil
 rw [hf] at hc
 simpa only [pb, Bool.false_eq_true, if_false, if_true, Nat.add_zero] using hc
set_option maxRecDepth 100000 in
set_option maxHeartbeats 8000000 in
theorem rem_no' {w : World} {g : Nat} {mo fr ln bt : Int} {a : Option Addr} {c : Nat} {T : List Sn} {m : Sm} (q : Int × Int) (h : Mp w g a c T mo fr ln bt) (hl : Lk m T fr) (hv : valS m q = false) : Calls Try.prog 25 #[.pointer (some ⟨g, 0, none⟩), .agg #[.int .i64 q.1, .int .i64 q.2]] w fun r w' => r = .returned (.bool false) ∧ Below w.heap.size w w' := by
 go_enter Try.func25, Try.ntmps25
 go_upto_region 1 with fail
 change Code.wp _ _ _ _ (w.alloc (.cells #[.int .i64 q.1, .int .i64 q.2] 33))
 have hb0 : Below w.heap.size w (w.alloc (.cells #[.int .i64 q.1, .int .i64 q.2] 33)) := (Below.refl _ w).alloc (Nat.le_refl _) _
 have hX3 : Bx (w.alloc (.cells #[.int .i64 q.1, .int .i64 q.2] 33)) w.heap.size #[.int .i64 q.1, .int .i64 q.2] 33 := heap_alloc_last w _
 generalize w.alloc (.cells #[.int .i64 q.1, .int .i64 q.2] 33) = W at *
 obtain ⟨g3, hg3⟩ : ∃ g, w.heap.size = g := ⟨_, rfl⟩
 have HG : Hid (w.heap.size ≤ g3) := Lib.hid (by omega)
 rw [hg3] at hX3
 simp only [hg3]
 have CH := q_has (h.below hb0) hl q
 rw [hv] at CH
 have HB := Lib.hid hb0
 clear hb0 h hl hv hg3
 refine wl <| gz1 (.pointer (some ⟨g, 0, none⟩)) <| gzl rfl ⟨g3, 0, none⟩ (.agg #[.int .i64 q.1, .int .i64 q.2]) (load_hn (x := q) (bx_range (cs := hnl q) hX3)) <| gzc (.bool false) (fun w' => Below W.heap.size W w') (CH) (fun V hV => ?_)
 simp only [pu]
 refine gz1 (.bool true) <| wn ?_
 simp only [pu]
 have HE := HB.out.trans (hV.mono HB.out.size)
 go_wp2_with fail
 go_ret
 exact ⟨rfl, HE⟩
set_option maxRecDepth 100000 in
set_option maxHeartbeats 8000000 in
theorem rem_yes' {w : World} {B g : Nat} {mo fr ln bt : Int} {a : Option Addr} {c : Nat} {T : List Sn} {m : Sm} (q : Int × Int) (h : Mp w g a c T mo fr ln bt) (hl : Lk m T fr) (hv : valS m q = true) {i : Nat} (hi : q.1 = i) (hil : i < T.length) (hln : 0 ≤ ln ∧ ln ≤ 512) (hbt : 0 ≤ bt ∧ bt ≤ 40000000) (hraw : (T.getD i zSn).e.raw.length ≤ 60000) (hus : 0 ≤ (T.getD i zSn).us ∧ (T.getD i zSn).us ≤ 1000000000) (hB : ∀ k, Sp g a T k → B ≤ k) (hw : B ≤ w.heap.size) : Calls Try.prog 25 #[.pointer (some ⟨g, 0, none⟩), .agg #[.int .i64 q.1, .int .i64 q.2]] w fun r w' => r = .returned (.bool true) ∧ Gm B g a T w a c (T.set i ⟨zEn, zAd, false, (T.getD i zSn).us + 1, fr⟩) mo i (ln - 1) (bt - (T.getD i zSn).e.raw.length) w' := by
 have HI := Lib.hid hi
 obtain ⟨s9, hs9⟩ : ∃ s, T.getD i zSn = s := ⟨_, rfl⟩
 have HS9 := Lib.hid hs9
 rw [hs9] at hraw hus ⊢
 clear hi hs9
 go_enter Try.func25, Try.ntmps25
 go_upto_region 1 with fail
 change Code.wp _ _ _ _ (w.alloc (.cells #[.int .i64 q.1, .int .i64 q.2] 33))
 have hb0 : Below w.heap.size w (w.alloc (.cells #[.int .i64 q.1, .int .i64 q.2] 33)) := (Below.refl _ w).alloc (Nat.le_refl _) _
 have hX3 : Bx (w.alloc (.cells #[.int .i64 q.1, .int .i64 q.2] 33)) w.heap.size #[.int .i64 q.1, .int .i64 q.2] 33 := heap_alloc_last w _
 generalize w.alloc (.cells #[.int .i64 q.1, .int .i64 q.2] 33) = W at *
 obtain ⟨g3, hg3⟩ : ∃ g, w.heap.size = g := ⟨_, rfl⟩
 have HG : Hid (w.heap.size ≤ g3) := Lib.hid (by omega)
 rw [hg3] at hX3
 simp only [hg3]
 have CH := q_has (h.below hb0) hl q
 rw [hv] at CH
 have hn3 : ¬ Sp g a T g3 := fun q => by have := h.inn _ q; have := HG.out; omega
 have hR0 : RmS B g g3 a T w q a c T mo fr ln bt W := ⟨Gm.below h hb0 hw, hX3, hn3⟩
 have HW := Lib.hid hw
 have HBB := Lib.hid hB
 have HNB : Hid (0 ≤ ln ∧ ln ≤ 512 ∧ 0 ≤ bt ∧ bt ≤ 40000000 ∧ s9.e.raw.length ≤ 60000 ∧ 0 ≤ s9.us ∧ s9.us ≤ 1000000000) := Lib.hid ⟨hln.1, hln.2, hbt.1, hbt.2, hraw, hus.1, hus.2⟩
 obtain ⟨b, hab, hrg⟩ := h.rg hil
 rw [HS9.out] at hrg
 have hrg := rg_below hrg hb0
 obtain ⟨n, hn⟩ : ∃ n, T.length = n := ⟨_, rfl⟩
 have HN := Lib.hid hn
 have hX1 := hR0.gm.mem.bx
 rw [hn, hab] at hX1
 have HAB := Lib.hid hab
 have hin : i < n := by omega
 have HIL := Lib.hid hil
 have HR0 := Lib.hid hR0
 clear hb0 h hl hv hg3 hn3 hR0 hraw hus hw hB hln hbt hab hn hil
 refine wl <| gz1 (.pointer (some ⟨g, 0, none⟩)) <| gzl rfl ⟨g3, 0, none⟩ (.agg #[.int .i64 q.1, .int .i64 q.2]) (load_hn (x := q) (bx_range (cs := hnl q) hX3)) <| gzc (.bool true) (fun w' => Below W.heap.size W w') (CH) (fun V hV => ?_)
 simp only [pu]
 refine gz1 (.bool false) <| wn ?_
 simp only [pu]
 have hR1 := HR0.out.below HW.out hV
 have hX3 := hR1.b3
 have hX1 := hX1.below hX1.lt hV
 have hrg := rg_below hrg hV
 have HR1 := Lib.hid hR1
 clear hR1 HR0 hV CH
 have hX30 : Bx V g3 #[.int .i64 i, .int .i64 q.2] 33 := by rw [← HI.out]; exact hX3
 clear hX3
 go_upto_region 3 with fail
 refine wp_region_class (C := fun U => Below V.heap.size V U) (by kernel_rfl) (by kernel_rfl) ((Below.refl _ V).drew) ?_
 refine gy (.pointer (some ⟨g, 0, none⟩)) <| gy (.pointer (some ⟨g, 0, none⟩)) <| gy (.pointer (some ⟨g, 1, none⟩)) <| gyl rfl ⟨g, 1, none⟩ (.slice (some ⟨b, 0, none⟩) n c) (fun U hU => (hX1.below hX1.lt hU).load (i := 1) rfl (by kernel_rfl)) <| gy (.pointer (some ⟨g3, 0, none⟩)) <|
   gyl rfl ⟨g3, 0, none⟩ (.int .i64 i) (fun U hU => (hX30.below hX30.lt hU).load (i := 0) rfl (by kernel_rfl)) <| gyv (.pointer (some ⟨b, 0 + i * 44, none⟩)) (fun U hU => idx_sl b 0 n c i hin U _ _ rfl (by kernel_rfl) (by kernel_rfl)) <| gy (.pointer (some ⟨b, 0 + i * 44, none⟩)) ?_
 simp only [pu]
 apply wpQuiet_nil
 intro V2 hV2
 have hR2 := HR1.out.below HW.out hV2
 have hX2 := hX1.below hX1.lt hV2
 obtain ⟨V3, hst3, hG3⟩ := Gm.num hR2.gm.mem (Gm.base hR2.gm HBB.out HW.out) 3 (ln - 1) fr (ln - 1) bt (by decide) rfl
 have hR3 := hR2.step hG3
 have hX3 := hR3.gm.mem.bx
 rw [HN.out, HAB.out] at hX3
 obtain ⟨b3, hab3, hrg3⟩ := hR3.gm.mem.rg HIL.out
 rw [HAB.out] at hab3
 simp only [Option.some.injEq, Addr.mk.injEq, and_true] at hab3
 subst hab3
 rw [HS9.out] at hrg3
 have HR3 := Lib.hid hR3
 clear hR2 hG3 hR3 hV2 HR1 hX1 hrg hX30
 go_upto_region 4 with fail
 refine wl <| gz3 (.pointer (some ⟨g, 0, none⟩)) (.pointer (some ⟨g, 0, none⟩)) (.pointer (some ⟨g, 3, none⟩)) <| gzl rfl ⟨g, 3, none⟩ (.int .i64 ln) (hX2.load (i := 3) rfl (by kernel_rfl)) <|
  gzw (.int .i64 (ln - 1)) (sub_i rfl ln 1 (by have := HNB.out; omega)) <| gz2 (.pointer (some ⟨g, 0, none⟩)) (.pointer (some ⟨g, 3, none⟩)) <| gzs rfl (hst3) <| wn ?_
 simp only [pu]
 clear hst3 hX2
 go_upto_region 5 with fail
 refine wp_region_class_tail (C := fun U => Below V3.heap.size V3 U) 13 (by kernel_rfl) (by kernel_rfl) ((Below.refl _ V3).drew) ?_
 simp only [List.take_succ_cons, List.take_zero, List.drop_succ_cons, List.drop_zero]
 refine gy (.pointer (some ⟨g, 0, none⟩)) <| gy (.pointer (some ⟨g, 0, none⟩)) <| gy (.pointer (some ⟨g, 4, none⟩)) <| gyl rfl ⟨g, 4, none⟩ (.int .i64 bt) (fun U hU => (hX3.below hX3.lt hU).load (i := 4) rfl (by kernel_rfl)) <| gy (.pointer (some ⟨b, 0 + i * 44, none⟩)) <|
   gy (.pointer (some ⟨b, 0 + i * 44, none⟩)) <| gy (.pointer (some ⟨b, 0 + i * 44, none⟩)) <| gy (.pointer (some ⟨b, 0 + i * 44 + 32, none⟩)) <| gyl rfl ⟨b, 0 + i * 44 + 32, none⟩ (.slice s9.d.ra s9.e.raw.length s9.d.rc) (fun U hU => rg_cell (rg_below hrg3 hU) (j := 32) rfl (by kernel_rfl)) <|
   gy (.int .i64 s9.e.raw.length) <| gyv (.int .i64 (bt - s9.e.raw.length)) (fun U hU => sub_i rfl bt s9.e.raw.length (by have := HNB.out; omega) (by kernel_rfl) (by kernel_rfl) U) <| gy (.pointer (some ⟨g, 0, none⟩)) <| gy (.pointer (some ⟨g, 4, none⟩)) ?_
 simp only [pu]
 apply wpQuiet_nil
 intro V4 hV4
 have hR4 := HR3.out.below HW.out hV4
 obtain ⟨V5, hst5, hG5⟩ := Gm.num hR4.gm.mem (Gm.base hR4.gm HBB.out HW.out) 4 (bt - s9.e.raw.length) fr (ln - 1) (bt - s9.e.raw.length) (by decide) rfl
 have hR5 := hR4.step hG5
 refine gzs rfl hst5 <| wn ?_
 have hX5 := hR5.gm.mem.bx
 rw [HN.out, HAB.out] at hX5
 obtain ⟨b5, hab5, hrg5⟩ := hR5.gm.mem.rg HIL.out
 rw [HAB.out] at hab5
 simp only [Option.some.injEq, Addr.mk.injEq, and_true] at hab5
 subst hab5
 rw [HS9.out] at hrg5
 have HR5 := Lib.hid hR5
 clear hR4 hG5 hR5 hV4 HR3 hX3 hrg3 hst5
 go_upto_region 6 with fail
 refine wp_region_class_tail (C := fun U => Below V5.heap.size V5 U) 12 (by kernel_rfl) (by kernel_rfl) ((Below.refl _ V5).drew) ?_
 simp only [List.take_succ_cons, List.take_zero, List.drop_succ_cons, List.drop_zero]
 refine gy (.pointer (some ⟨b, 0 + i * 44, none⟩)) <| gy (.pointer (some ⟨b, 0 + i * 44, none⟩)) <| gy (.pointer (some ⟨b, 0 + i * 44, none⟩)) <| gy (.pointer (some ⟨b, 0 + i * 44 + 42, none⟩)) <|
   gyl rfl ⟨b, 0 + i * 44 + 42, none⟩ (.int .i64 s9.us) (fun U hU => rg_cell (rg_below hrg5 hU) (j := 42) rfl (by kernel_rfl)) <| gyv (.int .i64 (s9.us + 1)) (fun U hU => add_i rfl s9.us 1 (by have := HNB.out; omega) (by kernel_rfl) (by kernel_rfl) U) <| gy (.pointer (some ⟨g, 0, none⟩)) <|
   gy (.pointer (some ⟨g, 0, none⟩)) <| gy (.pointer (some ⟨g, 2, none⟩)) <| gyl rfl ⟨g, 2, none⟩ (.int .i64 fr) (fun U hU => (hX5.below hX5.lt hU).load (i := 2) rfl (by kernel_rfl)) <| gy (.agg (slA ⟨zEn, zAd, false, s9.us + 1, fr⟩)) <| gy (.pointer (some ⟨b, 0 + i * 44, none⟩)) ?_
 simp only [pu]
 apply wpQuiet_nil
 intro V6 hV6
 have hR6 := HR5.out.below HW.out hV6
 have hst7 := st_slA hR6.gm.mem HAB.out HIL.out (o := 0) (ty := 75) (slA ⟨zEn, zAd, false, s9.us + 1, fr⟩) (by show 0 + 44 ≤ 44; decide) (by kernel_rfl) (slA_one _) (q := 0 + i * 44) (by omega)
 have hG7 := Gm.el hR6.gm.mem (Gm.base hR6.gm HBB.out HW.out) (Nat.le_trans HW.out hR6.gm.but.1.size) (Below.refl _ _) HAB.out HIL.out (o := 0) (y := ⟨zEn, zAd, false, s9.us + 1, fr⟩) (vs := sll ⟨zEn, zAd, false, s9.us + 1, fr⟩) (by show 0 + 44 ≤ 44; decide) (sl_full_store _ _) (EnI.z _) (fun k hk => (EB.z hk).elim)
 change (Instr.storeAt 75 _ _).run _ _ = .ok () (V6.setCells b (i * 44 + 0) (sll ⟨zEn, zAd, false, s9.us + 1, fr⟩)) at hst7
 have hR7 := hR6.step hG7
 generalize V6.setCells b (i * 44 + 0) (sll ⟨zEn, zAd, false, s9.us + 1, fr⟩) = V7 at *
 refine gzs rfl hst7 <| wn ?_
 obtain ⟨V8, hst8, hG8⟩ := Gm.num hR7.gm.mem (Gm.base hR7.gm HBB.out HW.out) 2 i i (ln - 1) (bt - s9.e.raw.length) (by decide) rfl
 have hR8 := hR7.step hG8
 have hX31 : Bx V7 g3 #[.int .i64 i, .int .i64 q.2] 33 := by rw [← HI.out]; exact hR7.b3
 have HE := Lib.hid hR8.gm
 clear hR6 hG7 hR7 hG8 hR8 hV6 HR5 hX5 hrg5 hst7
 go_upto_region 7 with fail
 refine wl <| gz2 (.pointer (some ⟨g, 0, none⟩)) (.pointer (some ⟨g3, 0, none⟩)) <| gzl rfl ⟨g3, 0, none⟩ (.int .i64 i) (hX31.load (i := 0) rfl (by kernel_rfl)) <| gz2 (.pointer (some ⟨g, 0, none⟩)) (.pointer (some ⟨g, 2, none⟩)) <| gzs rfl (hst8) <| wn ?_
 simp only [pu]
 go_wp2_with fail
 go_ret
 exact ⟨rfl, HE.out⟩
theorem q_rem {w : World} {B g : Nat} {S : Nat → Prop} {m : Sm} {u : Nat} (q : Int × Int) (h : RepS w g S m) (hm : Wm m u) (hu : u ≤ 1000000) (hB : ∀ k, S k → B ≤ k) (hw : B ≤ w.heap.size) : Calls Try.prog 25 #[.pointer (some ⟨g, 0, none⟩), .agg #[.int .i64 q.1, .int .i64 q.2]] w fun r w' => r = .returned (.bool (valS m q)) ∧ UpdS g B S (remS m q) w w' := by
 obtain ⟨a, c, T, fr, hM, hl, rfl⟩ := h
 cases hv : valS m q with
 | false =>
  rw [rem_no hv]
  exact (rem_no' q hM hl hv).mono fun r w' z => ⟨z.1, _, ⟨a, c, T, fr, hM.below z.2, hl, rfl⟩, fun k hk => .inl hk, ButS.of_below z.2 hw⟩
 | true =>
  obtain ⟨i, hi, hil, hf, hus⟩ := val_iff hv
  have hil2 : i < T.length := by rw [hl.len]; exact hil
  have h1 := cnt_512 hm
  have h2 := siz_max hm
  have h3 := cnt_rem m q
  rw [hv, if_pos rfl] at h3
  have h4 := siz_rem hv hi
  have h5 := hl.us i hil2
  rw [hf, if_pos rfl] at h5
  have h6 := hm.us i hil
  have h7 := hm.up i hil hf
  have h8 := hl.e i hil2
  have h9 := hm.raw i hil
  refine (rem_yes' q hM hl hv hi hil2 (by omega) (by omega) (by rw [h8]; exact h9) (by omega) hB hw).mono fun r w' z => ⟨z.1, _, ⟨a, c, _, _, ?_, hl.rem hm hv hi, rfl⟩, z.2.sub, z.2.but⟩
  have h10 := z.2.mem
  rw [h8] at h10
  rw [h3.2, show ((cntL (remS m q).P : Nat) : Int) = (cntL m.P : Int) - 1 by omega, show ((sizL (remS m q).P : Nat) : Int) = (sizL m.P : Int) - ((m.P.getD i zPn).e.raw.length : Nat) by omega]
  exact h10
end Go.Proofs.Ytmpajgaanghpoaa
